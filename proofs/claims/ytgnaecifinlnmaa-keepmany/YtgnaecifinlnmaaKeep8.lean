/- What keep's Right comes to, and Push in one. -/
import Derived.Test.YtgnaecifinlnmaaKeep5
set_option maxRecDepth 100000
namespace Go.Proofs.Ytgnaecifinlnmaa
open Go.RowKit
set_option linter.unusedVariables false

set_option maxHeartbeats 2000000 in
theorem kright_any (v : Value) (k : Keep.Kp) (w : World) (h : IsKeep w v k) : Calls Try.prog 13 #[v] w (BoolIs w (Keep.right k)) := by
  obtain ⟨A, n, c, rfl, hX⟩ := h
  have hn := hX.le
  have hlen := hX.size
  have y0 := alloc_at w (.cells #[.int .i64 k.next, .slice A n c] 24) _ rfl
  obtain ⟨e0, e1⟩ := cells2 y0
  have hb := nkeep w (.cells #[.int .i64 k.next, .slice A n c] 24)
  obtain ⟨t, HT⟩ : ∃ t, Hid (Keep.right k = t) := ⟨_, rfl⟩
  rw [HT.out]
  obtain ⟨g, hg⟩ : ∃ g, w.heap.size = g := ⟨_, rfl⟩
  have HG := hidT hg
  rw [hg] at y0 e0 e1
  have Y0 := hidT y0
  have HX := hidT hX
  have HLEN := hidT hlen
  clear y0 hX hlen
  by_cases h1 : 1 ≤ k.next ∧ k.next ≤ 4611686018427387905
  · have c1 := fun w => kwithin_is k.next 1 4611686018427387905 w true (by simp; omega)
    obtain ⟨h1a, h1b⟩ := h1
    by_cases h2 : n ≤ 64
    · have q2 : decide (64 < n) = false := by simpa using h2
      have q3 : decide ((64 : Int) < (n : Int)) = false := by simp; omega
      have hb0 := hidT hb
      obtain ⟨W, hW⟩ : ∃ W, w.alloc (.cells #[.int .i64 k.next, .slice A n c] 24) = W := ⟨_, rfl⟩
      rw [hW] at Y0 hb0
      have HW := hidT hW
      clear hW hb
      go_enter Try.func13, Try.ntmps13
      go_wp2_with fail
      with_reducible refine (c1 _).mono ?_
      rintro e w5 ⟨rfl, rfl⟩
      go_wp2_with fail
      rw [HW.out]
      clear e0 e1 hg
      go_loopw [25] (fun i wr => ∃ j : Nat, j ≤ n ∧ i = .int .i64 j ∧ Hid (∀ i x, i < j → k.l[i]? = some x → Keep.okAt k i x = true) ∧ Hid (Below W.heap.size W wr)) (fun i _ => n - (intOf i).toNat)
      case atStart => exact ⟨0, Nat.zero_le _, rfl, hidT (fun i x hi => absurd hi (by omega)), hidT (Below.refl _ _)⟩
      case round =>
        obtain ⟨j, hj, rfl, HN, HB⟩ := hrel
        by_cases hjn : j < n
        · have hbw := bthen hb0.out HB.out
          obtain ⟨b, o, x, LA, ln, lc, BA, bn, bc, rfl, hx, hi, hcs⟩ := HX.out.told hjn
          obtain ⟨c0, c1, c2, c3, c4, c5, c6, c7⟩ := hcs wr hbw
          have y4 := alloc_at wr (.cells #[.int .i64 x.k, .int .i64 x.q, .int .i64 x.e, .int .i64 x.i, .int .i64 x.t, .int .i64 x.c, .slice LA ln lc, .slice BA bn bc] 28) _ rfl
          have n4 := nkeep wr (.cells #[.int .i64 x.k, .int .i64 x.q, .int .i64 x.e, .int .i64 x.i, .int .i64 x.t, .int .i64 x.c, .slice LA ln lc, .slice BA bn bc] 28)
          obtain ⟨f0, f1, f2, f3, f4, f5, f6, f7⟩ := cells8 y4
          have hmay := may_any _ x _ ((hi.below hbw).below n4)
          have x1 : (0 : Int) ≤ (j : Int) := by omega
          have x2 : (j : Int) < (n : Int) := by omega
          have hok : Keep.okAt k j x = (Item.may x && decide (x.q = k.next - (n : Int) + (j : Int))) := by
            unfold Keep.okAt
            rw [HLEN.out]
            congr 2
            exact propext ⟨fun h => by omega, fun h => by omega⟩
          have HOK := hidT hok
          have HXX := hidT hx
          have N4 := hidT n4
          clear hcs hi hx y4 n4 hok hbw
          by_cases hq : x.q = k.next - (n : Int) + (j : Int)
          · have q5 : (x.q != k.next - (n : Int) + (j : Int)) = false := by simpa using hq
            have q6 : (x.q == k.next - (n : Int) + (j : Int)) = true := by simpa using hq
            have HQ := hidT hq
            clear hq
            cases hm : Item.may x with
            | true =>
              rw [hm] at hmay
              have HMM := hidT hm
              clear hm
              go_wp2_with fail
              with_reducible refine hmay.mono ?_
              rintro e w5 ⟨rfl, hb5⟩
              have HB5 := hidT (bthen HB.out (bthen N4.out hb5))
              clear hb5 c0 c1 c2 c3 c4 c5 c6 c7 f0 f1 f2 f3 f4 f5 f6 f7 hmay
              go_wp2
              refine ⟨⟨j + 1, by omega, by go_num, hidT (fun i y hi hy => ?_), HB5⟩, by simp [intOf]; omega⟩
              by_cases hij : i = j
              · subst hij
                rw [HXX.out] at hy
                injection hy with hy
                subst hy
                rw [HOK.out, HMM.out]
                simpa using HQ.out
              · exact HN.out i y (by omega) hy
            | false =>
              rw [hm] at hmay
              have ht : false = t := by rw [← HT.out]; exact (Keep.right_not HXX.out (by rw [HOK.out, hm]; rfl)).symm
              subst ht
              clear hm
              go_wp2_with fail
              with_reducible refine hmay.mono ?_
              rintro e w5 ⟨rfl, hb5⟩
              go_wp2
              go_ret
              exact ⟨rfl, bthen hb0.out (bthen HB.out (bthen N4.out hb5))⟩
          · have q5 : (x.q != k.next - (n : Int) + (j : Int)) = true := by simpa using hq
            have q6 : (x.q == k.next - (n : Int) + (j : Int)) = false := by simpa using hq
            have ht : false = t := by rw [← HT.out]; exact (Keep.right_not HXX.out (by rw [HOK.out]; simp [hq])).symm
            subst ht
            clear hq
            go_wp2
            go_ret
            exact ⟨rfl, bthen hb0.out (bthen HB.out N4.out)⟩
        · obtain rfl : n = j := by omega
          have ht : true = t := by
            rw [← HT.out]
            refine (Keep.right_all (by rw [HLEN.out]; exact h2) h1a h1b (fun i x hx => HN.out i x ?_ hx)).symm
            have := (List.getElem?_eq_some_iff.1 hx).1
            rw [HLEN.out] at this
            exact this
          subst ht
          go_wp2
          go_ret
          exact ⟨rfl, bthen hb0.out HB.out⟩
    · have q2 : decide (64 < n) = true := by simp; omega
      have q3 : decide ((64 : Int) < (n : Int)) = true := by simp; omega
      have ht : false = t := by
        rw [← HT.out]; symm; rw [Bool.eq_false_iff]; intro hr
        have := (Keep.right_iff.1 hr).1.1
        rw [HLEN.out] at this
        omega
      subst ht
      go_enter Try.func13, Try.ntmps13
      go_wp2_with fail
      with_reducible refine (c1 _).mono ?_
      rintro e w5 ⟨rfl, rfl⟩
      go_wp2
      go_ret
      exact ⟨rfl, hb⟩
  · have c1 := fun w => kwithin_is k.next 1 4611686018427387905 w false (by simp; omega)
    have ht : false = t := by
      rw [← HT.out]; symm; rw [Bool.eq_false_iff]; intro hr
      exact h1 (Keep.right_iff.1 hr).1.2
    subst ht
    clear h1
    go_enter Try.func13, Try.ntmps13
    go_wp2_with fail
    with_reducible refine (c1 _).mono ?_
    rintro e w5 ⟨rfl, rfl⟩
    go_wp2
    go_ret
    exact ⟨rfl, hb⟩
end Go.Proofs.Ytgnaecifinlnmaa
