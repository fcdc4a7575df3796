/- What win's New, Same and Right come to. -/
import Derived.Test.YtkkkfaelpmmffaaWin2
import Derived.Test.YtkkkfaelpmmffaaKG2
set_option maxRecDepth 100000
namespace Go.Proofs.Ytkkkfaelpmmffaa
open Go.RowKit
set_option linter.unusedVariables false

theorem wsize2 : (Try.prog.info? 24).map (·.size) = some 2 := by kernel_rfl
theorem wnew_any (w : World) : Calls Try.prog 15 #[] w (fun e w' => e = .returned (.agg #[.int .i64 1, .slice none 0 0]) ∧ Below w.heap.size w w') := by
  have y0 := alloc_at w (.cells #[.int .i64 1, .slice none 0 0] 24) _ rfl
  obtain ⟨e0, e1⟩ := cells2 y0
  have hb := nkeep w (.cells #[.int .i64 1, .slice none 0 0] 24)
  clear y0
  go_enter Try.func15, Try.ntmps15
  go_wp2
  exact bodyPost_ret (v := .agg #[.int .i64 1, .slice none 0 0]) (by simp [results, Try.results15, go_sem, e0, e1]) rfl ⟨rfl, hb⟩
theorem rwnew_any (w : World) : Calls Try.prog 16 #[] w (fun e w' => e = .returned (.agg #[.int .i64 1, .slice none 0 0]) ∧ Below w.heap.size w w') := by
  have y0 := alloc_at w (.cells #[.int .i64 1, .slice none 0 0] 24) _ rfl
  obtain ⟨e0, e1⟩ := cells2 y0
  have hb := nkeep w (.cells #[.int .i64 1, .slice none 0 0] 24)
  clear y0
  go_enter Try.func16, Try.ntmps16
  go_wp2
  exact bodyPost_ret (v := .agg #[.int .i64 1, .slice none 0 0]) (by simp [results, Try.results16, go_sem, e0, e1]) rfl ⟨rfl, hb⟩
set_option maxHeartbeats 1000000 in
theorem wsame_is (u v : Value) (a b : Keep.Kp) (w : World) (hu : IsKeep w u a) (hv : IsKeep w v b) (t : Bool) (ht : decide (a = b) = t) : Calls Try.prog 13 #[u, v] w (BoolIs w t) := by
  obtain ⟨A, n, c, rfl, hX⟩ := hu
  obtain ⟨B, m, d, rfl, hY⟩ := hv
  obtain ⟨t1, t2, t3⟩ := two_alloc w (.cells #[.int .i64 a.next, .slice A n c] 24) (.cells #[.int .i64 b.next, .slice B m d] 24)
  obtain ⟨i0, i1⟩ := cells2 t1
  obtain ⟨j0, j1⟩ := cells2 t2
  have hc := eqf_any A n c a.l B m d b.l _ (hX.below t3) (hY.below t3)
  have T3 := hidT t3
  clear t1 t2 t3 hX hY
  by_cases hn : a.next = b.next
  · have e : decide (a.l = b.l) = t := by rw [← ht]; congr 1; rw [kp_eq]; simp [hn]
    rw [e] at hc
    have q1 : (a.next == b.next) = true := by simpa using hn
    clear e ht hn
    go_enter Try.func13, Try.ntmps13
    go_wp2_with fail
    with_reducible refine hc.mono ?_
    rintro e w5 ⟨rfl, hb5⟩
    go_wp2
    go_ret
    exact ⟨rfl, bthen T3.out hb5⟩
  · have e : false = t := by rw [← ht]; symm; simp only [decide_eq_false_iff_not]; intro e; exact hn (congrArg Keep.Kp.next e)
    have q1 : (a.next == b.next) = false := by simpa using hn
    clear ht hn hc
    subst e
    go_enter Try.func13, Try.ntmps13
    go_wp2
    go_ret
    exact ⟨rfl, T3.out⟩

set_option maxHeartbeats 2000000 in
theorem wright_any (v : Value) (k : Keep.Kp) (w : World) (h : IsKeep w v k) : Calls Try.prog 12 #[v] w (BoolIs w (Win.right k)) := by
  obtain ⟨A, n, c, rfl, hX⟩ := h
  have hn := hX.le
  have hlen := hX.size
  have y0 := alloc_at w (.cells #[.int .i64 k.next, .slice A n c] 24) _ rfl
  obtain ⟨e0, e1⟩ := cells2 y0
  have hb := nkeep w (.cells #[.int .i64 k.next, .slice A n c] 24)
  obtain ⟨t, HT⟩ : ∃ t, Hid (Win.right k = t) := ⟨_, rfl⟩
  rw [HT.out]
  obtain ⟨g, hg⟩ : ∃ g, w.heap.size = g := ⟨_, rfl⟩
  have HG := hidT hg
  rw [hg] at y0 e0 e1
  have Y0 := hidT y0
  have HX := hidT hX
  have HLEN := hidT hlen
  clear y0 hX hlen
  by_cases h1 : 1 ≤ k.next ∧ k.next ≤ 4611686018427387905
  · have c1 := fun w => wwithin_is k.next 1 4611686018427387905 w true (by simp; omega)
    obtain ⟨h1a, h1b⟩ := h1
    by_cases h2 : n ≤ 64
    · have q2 : decide (64 < n) = false := by simpa using h2
      have q3 : decide ((64 : Int) < (n : Int)) = false := by simp; omega
      have hb0 := hidT hb
      obtain ⟨W, hW⟩ : ∃ W, w.alloc (.cells #[.int .i64 k.next, .slice A n c] 24) = W := ⟨_, rfl⟩
      rw [hW] at Y0 hb0
      have HW := hidT hW
      clear hW hb
      go_enter Try.func12, Try.ntmps12
      go_wp2_with fail
      with_reducible refine (c1 _).mono ?_
      rintro e w5 ⟨rfl, rfl⟩
      go_wp2_with fail
      rw [HW.out]
      clear e0 e1 hg
      go_loopw [3, 21] (fun ls i wr => ∃ (j : Nat) (le : Int), j ≤ n ∧ i = .int .i64 j ∧ ls = .int .i64 le ∧ Hid (Win.rises k.next k.l = Win.rises le (k.l.drop j)) ∧ Hid (∀ i x, i < j → k.l[i]? = some x → Item.may x = true) ∧ Hid (Below W.heap.size W wr)) (fun _ i _ => n - (intOf i).toNat)
      case atStart => exact ⟨0, k.next, Nat.zero_le _, rfl, rfl, hidT rfl, hidT (fun i x hi => absurd hi (by omega)), hidT (Below.refl _ _)⟩
      case round =>
        obtain ⟨j, le, hj, rfl, rfl, HR, HN, HB⟩ := hrel
        by_cases hjn : j < n
        · have hbw := bthen hb0.out HB.out
          obtain ⟨b, o, x, LA, ln, lc, BA, bn, bc, rfl, hx, hi, hcs⟩ := HX.out.told hjn
          obtain ⟨c0, c1, c2, c3, c4, c5, c6, c7⟩ := hcs wr hbw
          have y4 := alloc_at wr (.cells #[.int .i64 x.k, .int .i64 x.q, .int .i64 x.e, .int .i64 x.i, .int .i64 x.t, .int .i64 x.c, .slice LA ln lc, .slice BA bn bc] 28) _ rfl
          have n4 := nkeep wr (.cells #[.int .i64 x.k, .int .i64 x.q, .int .i64 x.e, .int .i64 x.i, .int .i64 x.t, .int .i64 x.c, .slice LA ln lc, .slice BA bn bc] 28)
          obtain ⟨f0, f1, f2, f3, f4, f5, f6, f7⟩ := cells8 y4
          have hmay := may_any _ x _ ((hi.below hbw).below n4)
          have x1 : (0 : Int) ≤ (j : Int) := by omega
          have x2 : (j : Int) < (n : Int) := by omega
          have HST := hidT (Win.rises_step HR.out hx)
          have HXX := hidT hx
          have N4 := hidT n4
          clear hcs hi hx y4 n4 hbw
          by_cases hq : le ≤ x.q
          · have q5 : decide (x.q < le) = false := by simp; omega
            have HQ := hidT (show decide (le ≤ x.q) = true by simpa using hq)
            clear hq
            cases hm : Item.may x with
            | true =>
              rw [hm] at hmay
              obtain ⟨m1, m2⟩ := Win.may_q hm
              have HMM := hidT hm
              have HW1 : Hid (wrap64 (x.q + 1) = x.q + 1) := hidT (IntWalk.wrap64_in _ (by omega))
              clear hm
              go_wp2_with fail
              with_reducible refine hmay.mono ?_
              rintro e w5 ⟨rfl, hb5⟩
              have f1' := (cells8 (keepH (alloc_at wr (.cells #[.int .i64 x.k, .int .i64 x.q, .int .i64 x.e, .int .i64 x.i, .int .i64 x.t, .int .i64 x.c, .slice LA ln lc, .slice BA bn bc] 28) _ rfl) hb5)).2.1
              have HB5 := hidT (bthen HB.out (bthen N4.out hb5))
              clear hb5 c0 c1 c2 c3 c4 c5 c6 c7 f0 f1 f2 f3 f4 f5 f6 f7 hmay
              go_wp2
              refine ⟨⟨j + 1, x.q + 1, by omega, by go_num, by first | rfl | go_num | exact congrArg (Value.int IntKind.i64) HW1.out, hidT ?_, hidT (fun i y hi hy => ?_), HB5⟩, by simp [intOf]; omega⟩
              · rw [HST.out, HQ.out, Bool.true_and]
              · by_cases hij : i = j
                · subst hij
                  rw [HXX.out] at hy
                  injection hy with hy
                  subst hy
                  exact HMM.out
                · exact HN.out i y (by omega) hy
            | false =>
              rw [hm] at hmay
              have ht : false = t := by rw [← HT.out]; exact (Win.right_mayn HXX.out hm).symm
              subst ht
              clear hm
              go_wp2_with fail
              with_reducible refine hmay.mono ?_
              rintro e w5 ⟨rfl, hb5⟩
              go_wp2
              go_ret
              exact ⟨rfl, bthen hb0.out (bthen HB.out (bthen N4.out hb5))⟩
          · have q5 : decide (x.q < le) = true := by simp; omega
            have ht : false = t := by
              rw [← HT.out]
              refine (Win.right_risen ?_).symm
              rw [HST.out, show decide (le ≤ x.q) = false from by simpa using hq, Bool.false_and]
            subst ht
            clear hq
            go_wp2
            go_ret
            exact ⟨rfl, bthen hb0.out (bthen HB.out N4.out)⟩
        · obtain rfl : n = j := by omega
          have ht : true = t := by
            rw [← HT.out]
            exact (Win.right_done (by rw [HLEN.out]; exact h2) h1a h1b HN.out HR.out HLEN.out).symm
          subst ht
          go_wp2
          go_ret
          exact ⟨rfl, bthen hb0.out HB.out⟩
    · have q2 : decide (64 < n) = true := by simp; omega
      have q3 : decide ((64 : Int) < (n : Int)) = true := by simp; omega
      have ht : false = t := by
        rw [← HT.out]; symm; rw [Bool.eq_false_iff]; intro hr
        have := (Win.right_iff.1 hr).1.1
        rw [HLEN.out] at this
        omega
      subst ht
      go_enter Try.func12, Try.ntmps12
      go_wp2_with fail
      with_reducible refine (c1 _).mono ?_
      rintro e w5 ⟨rfl, rfl⟩
      go_wp2
      go_ret
      exact ⟨rfl, hb⟩
  · have c1 := fun w => wwithin_is k.next 1 4611686018427387905 w false (by simp; omega)
    have ht : false = t := by
      rw [← HT.out]; symm; rw [Bool.eq_false_iff]; intro hr
      exact h1 (Win.right_iff.1 hr).1.2
    subst ht
    clear h1
    go_enter Try.func12, Try.ntmps12
    go_wp2_with fail
    with_reducible refine (c1 _).mono ?_
    rintro e w5 ⟨rfl, rfl⟩
    go_wp2
    go_ret
    exact ⟨rfl, hb⟩
end Go.Proofs.Ytkkkfaelpmmffaa
