/- What the document's own Same, waits, Right and Peek come to. -/
import Derived.Test.YtkkkfaelpmmffaaWin5
import Derived.Test.YtkkkfaelpmmffaaKG3
import Derived.BigQuiet
set_option maxRecDepth 100000
namespace Go.Proofs.Ytkkkfaelpmmffaa
open Go.RowKit
set_option linter.unusedVariables false

theorem kp_eq' {a b : Keep.Kp} : a = b ↔ a.next = b.next ∧ a.l = b.l := by
  cases a; cases b; simp
set_option maxHeartbeats 1000000 in
theorem rwsame_is (u v : Value) (a b : Keep.Kp) (w : World) (hu : IsKeep w u a) (hv : IsKeep w v b) (t : Bool) (ht : decide (a = b) = t) : Calls Try.prog 14 #[u, v] w (BoolIs w t) := by
  obtain ⟨A, n, c, rfl, hX⟩ := hu
  obtain ⟨B, m, d, rfl, hY⟩ := hv
  obtain ⟨t1, t2, t3⟩ := two_alloc w (.cells #[.int .i64 a.next, .slice A n c] 24) (.cells #[.int .i64 b.next, .slice B m d] 24)
  obtain ⟨i0, i1⟩ := cells2 t1
  obtain ⟨j0, j1⟩ := cells2 t2
  have hc := items_any A n c a.l B m d b.l _ (hX.below t3) (hY.below t3)
  have T1 := hidT t1
  have T2 := hidT t2
  have T3 := hidT t3
  have e : (decide (a.l = b.l) && decide (a.next = b.next)) = t := by
    rw [← ht, ← Bool.decide_and]
    congr 1
    rw [kp_eq']
    exact propext And.comm
  clear t1 t2 t3 hX hY ht
  generalize decide (a.l = b.l) = s at hc e
  cases s with
  | true =>
    by_cases hn : a.next = b.next
    · have q1 : (a.next == b.next) = true := by simpa using hn
      have ht : true = t := by rw [← e]; simpa using hn
      clear e hn
      subst ht
      go_enter Try.func14, Try.ntmps14
      go_wp2_with fail
      with_reducible refine hc.mono ?_
      rintro e w5 ⟨rfl, hb5⟩
      obtain ⟨k0, k1⟩ := cells2 (keepH T1.out hb5)
      obtain ⟨l0, l1⟩ := cells2 (keepH T2.out hb5)
      go_wp2
      go_ret
      exact ⟨rfl, bthen T3.out hb5⟩
    · have q1 : (a.next == b.next) = false := by simpa using hn
      have ht : false = t := by rw [← e]; simpa using hn
      clear e hn
      subst ht
      go_enter Try.func14, Try.ntmps14
      go_wp2_with fail
      with_reducible refine hc.mono ?_
      rintro e w5 ⟨rfl, hb5⟩
      obtain ⟨k0, k1⟩ := cells2 (keepH T1.out hb5)
      obtain ⟨l0, l1⟩ := cells2 (keepH T2.out hb5)
      go_wp2
      go_ret
      exact ⟨rfl, bthen T3.out hb5⟩
  | false =>
    have ht : false = t := by rw [← e]; rfl
    clear e
    subst ht
    go_enter Try.func14, Try.ntmps14
    go_wp2_with fail
    with_reducible refine hc.mono ?_
    rintro e w5 ⟨rfl, hb5⟩
    go_wp2
    go_ret
    exact ⟨rfl, bthen T3.out hb5⟩

set_option maxHeartbeats 2000000 in
theorem rwaits_any (v : Value) (k : Keep.Kp) (s : Int) (w : World) (h : IsKeep w v k) : Calls Try.prog 34 #[v, .int .i64 s] w (BoolIs w (Win.waits k.l s)) := by
  obtain ⟨A, n, c, rfl, hX⟩ := h
  have hn := hX.le
  have hlen := hX.size
  have t0 := alloc_at w (.cells #[.int .i64 k.next, .slice A n c] 24) _ rfl
  have hb := nkeep w (.cells #[.int .i64 k.next, .slice A n c] 24)
  obtain ⟨W, hW⟩ : ∃ W, w.alloc (.cells #[.int .i64 k.next, .slice A n c] 24) = W := ⟨_, rfl⟩
  rw [hW] at t0 hb
  obtain ⟨g, hg⟩ : ∃ g, w.heap.size = g := ⟨_, rfl⟩
  rw [hg] at t0
  have HW := hidT hW
  have T0 := hidT t0
  have HB0 := hidT hb
  have HX := hidT hX
  have HLEN := hidT hlen
  clear t0 hb hX hlen hW
  obtain ⟨R, HR⟩ : ∃ R, Hid (Win.waits k.l s = R) := ⟨_, rfl⟩
  rw [HR.out]
  go_enter Try.func34, Try.ntmps34
  go_wp2_with fail
  rw [HW.out]
  clear hg
  go_loopw [5] (fun i wr => ∃ j : Nat, j ≤ n ∧ i = .int .i64 j ∧ Hid (∀ i y, i < j → k.l[i]? = some y → y.q ≠ s) ∧ W = wr) (fun i _ => n - (intOf i).toNat)
  case atStart => exact ⟨0, Nat.zero_le _, rfl, hidT (fun i y hi => absurd hi (by omega)), rfl⟩
  case round =>
    obtain ⟨j, hj, rfl, HN, rfl⟩ := hrel
    obtain ⟨i0, i1⟩ := cells2 T0.out
    by_cases hjn : j < n
    · obtain ⟨b, o, x, LA, ln, lc, BA, bn, bc, rfl, hx, hi, hcs⟩ := HX.out.told hjn
      have c1 := (hcs _ HB0.out).2.1
      have x1 : (0 : Int) ≤ (j : Int) := by omega
      have x2 : (j : Int) < (n : Int) := by omega
      have HXX := hidT hx
      clear hcs hi hx
      by_cases hq : x.q = s
      · have q1 : (x.q == s) = true := by simpa using hq
        have hr : true = R := by rw [← HR.out]; symm; exact Win.waits_iff.2 ⟨x, List.mem_of_getElem? HXX.out, hq⟩
        clear hq
        subst hr
        go_wp2
        go_ret
        exact ⟨rfl, HB0.out⟩
      · have q1 : (x.q == s) = false := by simpa using hq
        have HQ := hidT hq
        clear hq
        go_wp2
        refine ⟨⟨j + 1, by omega, by go_num, hidT (fun i y hi hy => ?_), trivial⟩, by simp [intOf]; omega⟩
        by_cases hij : i = j
        · subst hij
          rw [HXX.out] at hy
          injection hy with hy
          subst hy
          exact HQ.out
        · exact HN.out i y (by omega) hy
    · obtain rfl : n = j := by omega
      have hr : false = R := by
        rw [← HR.out]; symm
        rw [Win.waits_not]
        intro y hy
        obtain ⟨i, hi⟩ := List.getElem?_of_mem hy
        exact HN.out i y (by rw [← HLEN.out]; exact (List.getElem?_eq_some_iff.1 hi).1) hi
      subst hr
      go_wp2
      go_ret
      exact ⟨rfl, HB0.out⟩

set_option maxHeartbeats 4000000 in
theorem rwright_any (v : Value) (k : Keep.Kp) (w : World) (h : IsKeep w v k) : Calls Try.prog 11 #[v] w (BoolIs w (Win.right k)) := by
  obtain ⟨A, n, c, rfl, hX⟩ := h
  have hn := hX.le
  have hlen := hX.size
  have y0 := alloc_at w (.cells #[.int .i64 k.next, .slice A n c] 24) _ rfl
  obtain ⟨e0, e1⟩ := cells2 y0
  have hb := nkeep w (.cells #[.int .i64 k.next, .slice A n c] 24)
  obtain ⟨t, HT⟩ : ∃ t, Hid (Win.right k = t) := ⟨_, rfl⟩
  rw [HT.out]
  obtain ⟨g, hg⟩ : ∃ g, w.heap.size = g := ⟨_, rfl⟩
  have HG := hidT hg
  rw [hg] at y0 e0 e1
  have Y0 := hidT y0
  have HX := hidT hX
  have HLEN := hidT hlen
  clear y0 hX hlen
  by_cases h1a : k.next < 1
  · have q4 : decide (k.next < 1) = true := by simpa using h1a
    have ht : false = t := by
      rw [← HT.out]; symm; rw [Bool.eq_false_iff]; intro hr
      have := (Win.right_iff.1 hr).1.2
      omega
    subst ht
    clear h1a
    go_enter Try.func11, Try.ntmps11
    go_wp2
    go_ret
    exact ⟨rfl, hb⟩
  · have q4 : decide (k.next < 1) = false := by simpa using h1a
    by_cases h1b : 4611686018427387905 < k.next
    · have q5 : decide (4611686018427387905 < k.next) = true := by simpa using h1b
      have ht : false = t := by
        rw [← HT.out]; symm; rw [Bool.eq_false_iff]; intro hr
        have := (Win.right_iff.1 hr).1.2
        omega
      subst ht
      go_enter Try.func11, Try.ntmps11
      go_wp2
      go_ret
      exact ⟨rfl, hb⟩
    · have q5 : decide (4611686018427387905 < k.next) = false := by simpa using h1b
      by_cases h2 : n ≤ 64
      · have q2 : decide (64 < n) = false := by simpa using h2
        have q3 : decide ((64 : Int) < (n : Int)) = false := by simp; omega
        have hb0 := hidT hb
        obtain ⟨W, hW⟩ : ∃ W, w.alloc (.cells #[.int .i64 k.next, .slice A n c] 24) = W := ⟨_, rfl⟩
        rw [hW] at Y0 hb0
        have HW := hidT hW
        clear hW hb
        go_enter Try.func11, Try.ntmps11
        go_wp2_with fail
        rw [HW.out]
        clear e0 e1 hg
        go_loopw [3] (fun i wr => ∃ (j : Nat) (le : Int), j ≤ n ∧ i = .int .i64 j ∧ Hid (Win.rises k.next k.l = Win.rises le (k.l.drop j)) ∧ Hid (∀ i x, i < j → k.l[i]? = some x → Item.may x = true) ∧ Hid ((j = 0 → le = k.next) ∧ (∀ p y, j = p + 1 → k.l[p]? = some y → le = y.q + 1) ∧ k.next ≤ le) ∧ Hid (Below W.heap.size W wr)) (fun i _ => n - (intOf i).toNat)
        case atStart => exact ⟨0, k.next, Nat.zero_le _, rfl, hidT rfl, hidT (fun i x hi => absurd hi (by omega)), hidT ⟨fun _ => rfl, fun p y h => absurd h (by omega), Int.le_refl _⟩, hidT (Below.refl _ _)⟩
        case round =>
          obtain ⟨j, le, hj, rfl, HR, HN, HLE, HB⟩ := hrel
          obtain ⟨i0, i1⟩ := cells2 (keepH Y0.out HB.out)
          by_cases hjn : j < n
          · have hbw := bthen hb0.out HB.out
            obtain ⟨b, o, x, LA, ln, lc, BA, bn, bc, rfl, hx, hi, hcs⟩ := HX.out.told hjn
            obtain ⟨c0, c1, c2, c3, c4, c5, c6, c7⟩ := hcs wr hbw
            have hmay := rmay_any _ x _ (hi.below hbw)
            have x1 : (0 : Int) ≤ (j : Int) := by omega
            have x2 : (j : Int) < (n : Int) := by omega
            have HST := hidT (Win.rises_step HR.out hx)
            have HXX := hidT hx
            have HCS := hidT hcs
            have HBW := hidT hbw
            clear hcs hi hx hbw
            cases hm : Item.may x with
            | true =>
              rw [hm] at hmay
              have HMM := hidT hm
              clear hm
              go_wp2_with fail
              with_reducible refine hmay.mono ?_
              rintro e w5 ⟨rfl, hb5⟩
              have HB5 := hidT (bthen HB.out hb5)
              clear i0 i1
              obtain ⟨i0, i1⟩ := cells2 (keepH Y0.out HB5.out)
              have d1 := (HCS.out w5 (bthen HBW.out hb5)).2.1
              clear c0 c1 c2 c3 c4 c5 c6 c7 hmay
              by_cases hj0 : j = 0
              · subst hj0
                simp only [Nat.zero_mul, Nat.add_zero] at d1
                have hle := HLE.out.1 rfl
                subst hle
                clear hb5
                by_cases hq : k.next ≤ x.q
                · have p5 : decide (x.q < k.next) = false := by simp; omega
                  have HQ := hidT (show decide (k.next ≤ x.q) = true by simpa using hq)
                  clear hq
                  go_wp2_with fail
                  go_quiet (fail)
                  go_wp2
                  refine ⟨⟨0 + 1, x.q + 1, by omega, by go_num, hidT (by rw [HST.out, HQ.out, Bool.true_and]), hidT (fun i y hi hy => ?_), hidT ⟨fun h => absurd h (by omega), fun p y hp hy => ?_, ?_⟩, hidT (bthen HB5.out (drawn_below _ _))⟩, by simp [intOf]; omega⟩
                  · by_cases hij : i = 0
                    · subst hij
                      rw [HXX.out] at hy
                      injection hy with hy
                      subst hy
                      exact HMM.out
                    · exact HN.out i y (by omega) hy
                  · obtain rfl : 0 = p := by omega
                    rw [HXX.out] at hy
                    injection hy with hy
                    subst hy
                    rfl
                  · have h1 := HLE.out.2.2
                    have h2 := of_decide_eq_true HQ.out
                    omega
                · have p5 : decide (x.q < k.next) = true := by simp; omega
                  have ht : false = t := by
                    rw [← HT.out]
                    refine (Win.right_risen ?_).symm
                    rw [HST.out, show decide (k.next ≤ x.q) = false from by simpa using hq, Bool.false_and]
                  subst ht
                  clear hq
                  go_wp2_with fail
                  go_quiet (fail)
                  go_wp2
                  go_ret
                  exact ⟨rfl, bthen hb0.out (bthen HB5.out (drawn_below _ _))⟩
              · obtain ⟨p, rfl⟩ : ∃ p, j = p + 1 := ⟨j - 1, by omega⟩
                obtain ⟨b', o', y, LA', ln', lc', BA', bn', bc', e', hy, hi', hcs'⟩ := HX.out.told (show p < n by omega)
                injection e' with e'
                injection e' with e1' e2'
                subst e1'
                subst e2'
                have k1 := (hcs' w5 (bthen HBW.out hb5)).2.1
                have hle := HLE.out.2.1 p y rfl hy
                have hle2 := HLE.out.2.2
                subst hle
                have z0 : decide ((0 : Int) < (p : Int) + 1) = true := by rw [decide_eq_true_eq]; omega
                have z1 : (0 : Int) ≤ (p : Int) := by omega
                have z2 : (p : Int) < (n : Int) := by omega
                have s1 : IntKind.i64.wrap ((p : Int) + 1 - 1) = (p : Int) := by rw [show (p : Int) + 1 - 1 = (p : Int) from by omega]; exact IntWalk.i64_in _ (by omega)
                have s2 : IntKind.i64.wrap (p : Int) = (p : Int) := IntWalk.i64_in _ (by omega)
                clear hb5 hcs' hi' hy hj0
                by_cases hq : y.q + 1 ≤ x.q
                · have p5 : decide (x.q < k.next) = false := by simp; omega
                  have p6 : decide (x.q ≤ y.q) = false := by simp; omega
                  have HQ := hidT (show decide (y.q + 1 ≤ x.q) = true by simpa using hq)
                  clear hq hle2
                  go_wp2_with fail
                  go_quiet (fail)
                  go_wp2
                  refine ⟨⟨p + 1 + 1, x.q + 1, by omega, by go_num, hidT (by rw [HST.out, HQ.out, Bool.true_and]), hidT (fun i y hi hy => ?_), hidT ⟨fun h => absurd h (by omega), fun p' y' hp hy => ?_, ?_⟩, hidT (bthen HB5.out (drawn_below _ _))⟩, by simp [intOf]; omega⟩
                  · by_cases hij : i = p + 1
                    · subst hij
                      rw [HXX.out] at hy
                      injection hy with hy
                      subst hy
                      exact HMM.out
                    · exact HN.out i y (by omega) hy
                  · obtain rfl : p + 1 = p' := by omega
                    rw [HXX.out] at hy
                    injection hy with hy
                    subst hy
                    rfl
                  · have h1 := HLE.out.2.2
                    have h2 := of_decide_eq_true HQ.out
                    omega
                · have ht : false = t := by
                    rw [← HT.out]
                    refine (Win.right_risen ?_).symm
                    rw [HST.out, show decide (y.q + 1 ≤ x.q) = false from by simpa using hq, Bool.false_and]
                  subst ht
                  have p6 : decide (x.q ≤ y.q) = true := by simp; omega
                  by_cases hq2 : x.q < k.next
                  · have p5 : decide (x.q < k.next) = true := by simpa using hq2
                    clear hq hq2 hle2
                    go_wp2_with fail
                    go_quiet (fail)
                    go_wp2
                    go_ret
                    exact ⟨rfl, bthen hb0.out (bthen HB5.out (drawn_below _ _))⟩
                  · have p5 : decide (x.q < k.next) = false := by simpa using hq2
                    clear hq hq2 hle2
                    go_wp2_with fail
                    go_quiet (fail)
                    go_wp2
                    go_ret
                    exact ⟨rfl, bthen hb0.out (bthen HB5.out (drawn_below _ _))⟩
            | false =>
              rw [hm] at hmay
              have ht : false = t := by rw [← HT.out]; exact (Win.right_mayn HXX.out hm).symm
              subst ht
              clear hm
              go_wp2_with fail
              with_reducible refine hmay.mono ?_
              rintro e w5 ⟨rfl, hb5⟩
              have HB5 := hidT (bthen HB.out hb5)
              clear i0 i1
              obtain ⟨i0, i1⟩ := cells2 (keepH Y0.out HB5.out)
              have d1 := (HCS.out w5 (bthen HBW.out hb5)).2.1
              clear hb5 c0 c1 c2 c3 c4 c5 c6 c7 hmay
              go_wp2_with fail
              go_quiet (fail)
              go_wp2
              go_ret
              exact ⟨rfl, bthen hb0.out (bthen HB5.out (drawn_below _ _))⟩
          · obtain rfl : n = j := by omega
            have ht : true = t := by
              rw [← HT.out]
              exact (Win.right_done (by rw [HLEN.out]; exact h2) (by omega) (by omega) HN.out HR.out HLEN.out).symm
            subst ht
            go_wp2
            go_ret
            exact ⟨rfl, bthen hb0.out HB.out⟩
      · have q2 : decide (64 < n) = true := by simp; omega
        have q3 : decide ((64 : Int) < (n : Int)) = true := by simp; omega
        have ht : false = t := by
          rw [← HT.out]; symm; rw [Bool.eq_false_iff]; intro hr
          have := (Win.right_iff.1 hr).1.1
          rw [HLEN.out] at this
          omega
        subst ht
        go_enter Try.func11, Try.ntmps11
        go_wp2
        go_ret
        exact ⟨rfl, hb⟩

/-- An item of what came, or none, as it lay, and whether there is one. -/
def RGetIs (w0 w : World) (o : Option Item.It) (e : Ending) (w' : World) : Prop := ∃ v, e = .returned (.tuple #[v, .bool o.isSome]) ∧ IsItem w0 v (o.getD Item.It.zero) ∧ Below w.heap.size w w'
set_option maxHeartbeats 2000000 in
theorem rwgot_any (v : Value) (k : Keep.Kp) (w0 w : World) (h : IsKeep w0 v k) (hw : Below w0.heap.size w0 w) : Calls Try.prog 20 #[v] w (RGetIs w0 w (Keep.got k.l k.next)) := by
  obtain ⟨A, n, c, rfl, hX⟩ := h
  have hn := hX.le
  have hlen := hX.size
  obtain ⟨t0, t1, hb⟩ := two_alloc w (.cells #[.int .i64 k.next, .slice A n c] 24) (.cells zcells 28)
  obtain ⟨W, hW⟩ : ∃ W, (w.alloc (.cells #[.int .i64 k.next, .slice A n c] 24)).alloc (.cells zcells 28) = W := ⟨_, rfl⟩
  rw [hW] at t0 t1 hb
  obtain ⟨g, hg⟩ : ∃ g, w.heap.size = g := ⟨_, rfl⟩
  have HG := hidT hg
  rw [hg] at t0 t1
  have HW := hidT hW
  have T0 := hidT t0
  have T1 := hidT t1
  have HB0 := hidT hb
  have HX := hidT hX
  have HWW := hidT hw
  have HLEN := hidT hlen
  clear t0 t1 hb hX hlen hW hw
  obtain ⟨R, HR⟩ : ∃ R, Hid (Keep.got k.l k.next = R) := ⟨_, rfl⟩
  rw [HR.out]
  go_enter Try.func20, Try.ntmps20
  go_wp2_with fail
  rw [HW.out]
  clear hg
  go_loopw [4] (fun i wr => ∃ j : Nat, j ≤ n ∧ i = .int .i64 j ∧ Hid (∀ i y, i < j → k.l[i]? = some y → (fun y : Item.It => decide (y.q = k.next)) y = false) ∧ Hid (Below W.heap.size W wr)) (fun i _ => n - (intOf i).toNat)
  case atStart => exact ⟨0, Nat.zero_le _, rfl, hidT (fun i y hi => absurd hi (by omega)), hidT (Below.refl _ _)⟩
  case round =>
    obtain ⟨j, hj, rfl, HN, HB⟩ := hrel
    obtain ⟨i0, i1⟩ := cells2 (keepH T0.out HB.out)
    have HBW := hidT (bthen HB0.out HB.out)
    by_cases hjn : j < n
    · obtain ⟨b, o, x, LA, ln, lc, BA, bn, bc, rfl, hx, hi, hcs⟩ := HX.out.told hjn
      obtain ⟨c0, c1, c2, c3, c4, c5, c6, c7⟩ := hcs _ (bthen HWW.out HBW.out)
      have x1 : (0 : Int) ≤ (j : Int) := by omega
      have x2 : (j : Int) < (n : Int) := by omega
      have HXX := hidT hx
      have HI := hidT hi
      clear hcs hi hx
      by_cases hq : x.q = k.next
      · have q1 : (x.q == k.next) = true := by simpa using hq
        have hr : some x = R := by rw [← HR.out, got_idx, idx_at HN.out HXX.out (by simpa using hq)]; exact HXX.out.symm
        clear hq
        subst hr
        go_wp2_with fail
        go_quiet (fail)
        have y1 : (wr.drewN 1).heap[g + 1]? = some (.cells zcells 28 (0, 0)) := keepH T1.out (bthen HB.out (drawn_below wr 1))
        go_wp2_with (
          refine wpList_stI rfl 28 _ _ rfl (g + 1) #[.int .i64 x.k, .int .i64 x.q, .int .i64 x.e, .int .i64 x.i, .int .i64 x.t, .int .i64 x.c, .slice LA ln lc, .slice BA bn bc] rfl rfl _ _ y1 size8 rfl (by simp [Value.oneCell']) ?_
          intro w7 hg7 hbut hbel)
        obtain ⟨e0, e1, e2, e3, e4, e5, e6, e7⟩ := cells8 hg7
        have hgg := HG.out
        have bw := hbel w.heap.size w (bthen HBW.out (drawn_below _ _)) (by omega)
        exact bodyPost_ret (v := .tuple #[.agg #[.int .i64 x.k, .int .i64 x.q, .int .i64 x.e, .int .i64 x.i, .int .i64 x.t, .int .i64 x.c, .slice LA ln lc, .slice BA bn bc], .bool true]) (by simp [results, Try.results20, go_sem, e0, e1, e2, e3, e4, e5, e6, e7]) rfl
          ⟨_, rfl, HI.out, bw⟩
      · have q1 : (x.q == k.next) = false := by simpa using hq
        have HQ := hidT hq
        clear hq
        go_wp2_with fail
        go_quiet (fail)
        go_wp2
        refine ⟨⟨j + 1, by omega, by go_num, hidT (fun i y hi hy => ?_), hidT (bthen HB.out (drawn_below _ _))⟩, by simp [intOf]; omega⟩
        by_cases hij : i = j
        · subst hij
          rw [HXX.out] at hy
          injection hy with hy
          subst hy
          simpa using HQ.out
        · exact HN.out i y (by omega) hy
    · obtain rfl : n = j := by omega
      have hr : none = R := by rw [← HR.out, got_idx, idx_none (fun i y hi hy => HN.out i y (by rw [HLEN.out] at hi; exact hi) hy)]; exact (List.getElem?_eq_none (Nat.le_refl _)).symm
      subst hr
      have y1 := keepH T1.out HB.out
      go_wp2_with (
        refine wpList_stI rfl 28 _ _ rfl (g + 1) zcells rfl rfl _ _ y1 size8 rfl (by kernel_rfl) ?_
        intro w7 hg7 hbut hbel)
      obtain ⟨e0, e1, e2, e3, e4, e5, e6, e7⟩ := cells8 hg7
      have hgg := HG.out
      have bw := hbel _ _ HBW.out (by omega)
      exact bodyPost_ret (v := .tuple #[.agg zcells, .bool false]) (by simp [results, Try.results20, go_sem, e0, e1, e2, e3, e4, e5, e6, e7]) rfl
        ⟨_, rfl, IsItem.zero _, bw⟩
theorem rwpeek_any (v : Value) (k : Keep.Kp) (w0 w : World) (h : IsKeep w0 v k) (hw : Below w0.heap.size w0 w) (hr : Win.rises k.next k.l = true) : Calls Try.prog 20 #[v] w (RGetIs w0 w (Win.peek k)) := by
  rw [← Win.got_next hr]
  exact rwgot_any v k w0 w h hw
end Go.Proofs.Ytkkkfaelpmmffaa
