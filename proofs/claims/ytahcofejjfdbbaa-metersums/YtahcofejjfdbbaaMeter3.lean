/- What the document's Right, May, Add and Tick come to (layer 13). -/
import Derived.Test.YtahcofejjfdbbaaMeter2
import Derived.Deep.RegionHeld3
import Derived.Deep.RegionHeldLaw
set_option maxRecDepth 100000
namespace Go.Proofs.Ytahcofejjfdbbaa
open Go.RowKit
set_option linter.unusedVariables false

set_option maxHeartbeats 2000000 in
theorem mrmay_any (m b k : Int) (w : World) (t : Bool) (ht : Meter.may m b k = t) : Calls Try.prog 9 #[.int .i64 m, .int .i64 b, .int .i64 k] w (fun e w' => e = .returned (.bool t) ∧ w' = w) := by
  cases q0 : decide (0 ≤ m) with
  | false =>
    have e : t = false := by rw [← ht, Meter.may, q0]; rfl
    subst e
    clear ht
    go_enter Try.func9, Try.ntmps9
    go_wp2
    go_ret
    exact ⟨rfl, rfl⟩
  | true =>
    cases q1 : decide (m ≤ 1099511627776) with
    | false =>
      have e : t = false := by rw [← ht, Meter.may, q0, q1]; rfl
      subst e
      clear ht
      go_enter Try.func9, Try.ntmps9
      go_wp2
      go_ret
      exact ⟨rfl, rfl⟩
    | true =>
      cases q2 : decide (0 ≤ b) with
      | false =>
        have e : t = false := by rw [← ht, Meter.may, q0, q1, q2]; rfl
        subst e
        clear ht
        go_enter Try.func9, Try.ntmps9
        go_wp2
        go_ret
        exact ⟨rfl, rfl⟩
      | true =>
        cases q3 : decide (b ≤ 1099511627776) with
        | false =>
          have e : t = false := by rw [← ht, Meter.may, q0, q1, q2, q3]; rfl
          subst e
          clear ht
          go_enter Try.func9, Try.ntmps9
          go_wp2
          go_ret
          exact ⟨rfl, rfl⟩
        | true =>
          cases q4 : decide (1 ≤ k) with
          | false =>
            have e : t = false := by rw [← ht, Meter.may, q0, q1, q2, q3, q4]; rfl
            subst e
            clear ht
            go_enter Try.func9, Try.ntmps9
            go_wp2
            go_ret
            exact ⟨rfl, rfl⟩
          | true =>
            cases q5 : decide (k ≤ 1000) with
            | false =>
              have e : t = false := by rw [← ht, Meter.may, q0, q1, q2, q3, q4, q5]; rfl
              subst e
              clear ht
              go_enter Try.func9, Try.ntmps9
              go_wp2
              go_ret
              exact ⟨rfl, rfl⟩
            | true =>
              have e : t = true := by rw [← ht, Meter.may, q0, q1, q2, q3, q4, q5]; rfl
              subst e
              clear ht
              go_enter Try.func9, Try.ntmps9
              go_wp2
              go_ret
              exact ⟨rfl, rfl⟩
set_option maxHeartbeats 2000000 in
theorem mrright_any (a m b : Int) (w : World) (t : Bool) (ht : Meter.right a m b = t) : Calls Try.prog 8 #[.agg #[.int .i64 a, .int .i64 m, .int .i64 b]] w (fun e w' => e = .returned (.bool t) ∧ Below w.heap.size w w') := by
  have y0 := alloc_at w (.cells #[.int .i64 a, .int .i64 m, .int .i64 b] 23) _ rfl
  obtain ⟨e0, e1, e2⟩ := cells3 y0
  have hb := nkeep w (.cells #[.int .i64 a, .int .i64 m, .int .i64 b] 23)
  clear y0
  cases q0 : decide (0 ≤ a) with
  | false =>
    have e : t = false := by rw [← ht, Meter.right, q0]; rfl
    subst e
    clear ht
    go_enter Try.func8, Try.ntmps8
    go_wp2
    go_ret
    exact ⟨rfl, hb⟩
  | true =>
    cases q1 : decide (a ≤ 1000) with
    | false =>
      have e : t = false := by rw [← ht, Meter.right, q0, q1]; rfl
      subst e
      clear ht
      go_enter Try.func8, Try.ntmps8
      go_wp2
      go_ret
      exact ⟨rfl, hb⟩
    | true =>
      cases q2 : decide (0 ≤ m) with
      | false =>
        have e : t = false := by rw [← ht, Meter.right, q0, q1, q2]; rfl
        subst e
        clear ht
        go_enter Try.func8, Try.ntmps8
        go_wp2
        go_ret
        exact ⟨rfl, hb⟩
      | true =>
        cases q3 : decide (m ≤ 1099511627776) with
        | false =>
          have e : t = false := by rw [← ht, Meter.right, q0, q1, q2, q3]; rfl
          subst e
          clear ht
          go_enter Try.func8, Try.ntmps8
          go_wp2
          go_ret
          exact ⟨rfl, hb⟩
        | true =>
          cases q4 : decide (0 ≤ b) with
          | false =>
            have e : t = false := by rw [← ht, Meter.right, q0, q1, q2, q3, q4]; rfl
            subst e
            clear ht
            go_enter Try.func8, Try.ntmps8
            go_wp2
            go_ret
            exact ⟨rfl, hb⟩
          | true =>
            cases q5 : decide (b ≤ 1099511627776) with
            | false =>
              have e : t = false := by rw [← ht, Meter.right, q0, q1, q2, q3, q4, q5]; rfl
              subst e
              clear ht
              go_enter Try.func8, Try.ntmps8
              go_wp2
              go_ret
              exact ⟨rfl, hb⟩
            | true =>
              have e : t = true := by rw [← ht, Meter.right, q0, q1, q2, q3, q4, q5]; rfl
              subst e
              clear ht
              go_enter Try.func8, Try.ntmps8
              go_wp2
              go_ret
              exact ⟨rfl, hb⟩
theorem most_any (n k : Int) (w : World) (hk : Meter.cap n = k) : Calls Try.prog 19 #[.int .i64 n] w (fun e w' => e = .returned (.int .i64 k) ∧ w' = w) := by
  unfold Meter.cap at hk
  by_cases h : 1099511627776 < n
  · rw [if_pos h] at hk
    subst hk
    have q : decide (1099511627776 < n) = true := by simpa using h
    clear h
    go_enter Try.func19, Try.ntmps19
    go_wp2
    go_ret
    exact ⟨rfl, rfl⟩
  · rw [if_neg h] at hk
    subst hk
    have q : decide (1099511627776 < n) = false := by simpa using h
    clear h
    go_enter Try.func19, Try.ntmps19
    go_wp2
    go_ret
    exact ⟨rfl, rfl⟩

set_option maxHeartbeats 4000000 in
theorem mradd_go (a m b c d P Q p q : Int) (w : World) (s1 : wrap64 (m + c) = P) (s2 : IntKind.i64.wrap (m + c) = P) (s3 : wrap64 (b + d) = Q) (s4 : IntKind.i64.wrap (b + d) = Q)
    (h1 : ∀ w, Calls Try.prog 19 #[.int .i64 P] w (fun e w' => e = .returned (.int .i64 p) ∧ w' = w))
    (h2 : ∀ w, Calls Try.prog 19 #[.int .i64 Q] w (fun e w' => e = .returned (.int .i64 q) ∧ w' = w)) :
    Calls Try.prog 13 #[.agg #[.int .i64 a, .int .i64 m, .int .i64 b], .int .i64 c, .int .i64 d] w (LoadIs w a p q) := by
  obtain ⟨t0, t1, hb⟩ := two_alloc3 w (.int .i64 a) (.int .i64 m) (.int .i64 b) (.int .i64 0) (.int .i64 0) (.int .i64 0) 23
  obtain ⟨W, hW⟩ : ∃ W, (w.alloc (.cells #[.int .i64 a, .int .i64 m, .int .i64 b] 23)).alloc (.cells #[.int .i64 0, .int .i64 0, .int .i64 0] 23) = W := ⟨_, rfl⟩
  have HW := hidT hW
  rw [hW] at t0 t1 hb
  obtain ⟨g, hg⟩ : ∃ g, w.heap.size + 1 = g := ⟨_, rfl⟩
  rw [hg] at t1
  have HGW := hidT (show w.heap.size ≤ g by omega)
  have HLT := hidT (show w.heap.size < g by omega)
  have T0 := hidT t0
  have T1 := hidT t1
  have HB := hidT hb
  have H1 := hidT h1
  have H2 := hidT h2
  clear t0 t1 hb hW h1 h2
  go_enter Try.func13, Try.ntmps13
  go_wp2_with fail
  rw [HW.out]
  clear hg HW
  have hlt : w.heap.size < g := HLT.out
  have hgs : g ≤ W.heap.size := Nat.le_of_lt (blk_lt T1.out)
  have k0 := fun w' (hb : Below g W w') => (cells3 ((hb.block _ hlt).trans T0.out)).1
  have k1 := fun w' (hb : Below g W w') => (cells3 ((hb.block _ hlt).trans T0.out)).2.1
  have k2 := fun w' (hb : Below g W w') => (cells3 ((hb.block _ hlt).trans T0.out)).2.2
  have D0 : Below g W W := Below.refl _ _
  obtain ⟨j0, j1, j2⟩ := cells3 T1.out
  have f0 := no_frozen T1.out 0
  have f1 := no_frozen T1.out 1
  have f2 := no_frozen T1.out 2
  obtain ⟨z, hz⟩ := set3 T1.out (.int .i64 a) (.int .i64 p) (.int .i64 q)
  have Z := hidT z
  have hbz := hidT (hz _ _ HB.out HGW.out)
  have D1 := hz _ _ D0 (Nat.le_refl _)
  clear z hz
  go_region_held (fun w' => Below g W w')
    (first | exact D0.drew | exact D0 | exact D1 | assumption)
    (first
      | (go_at_call 19; ((with_reducible refine (H1.out _).mono ?_); rintro e6 w6 ⟨rfl, rfl⟩))
      | (go_at_call 19; ((with_reducible refine (H2.out _).mono ?_); rintro e7 w7 ⟨rfl, rfl⟩))
      | fail)
  all_goals
    obtain ⟨e0, e1, e2⟩ := cells3 Z.out
    clear Z f0 f1 f2 j0 j1 j2 k0 k1 k2 D0 D1
    go_wp2
    exact bodyPost_ret (v := .agg #[.int .i64 a, .int .i64 p, .int .i64 q]) (by simp [results, Try.results13, go_sem, e0, e1, e2]) rfl ⟨rfl, hbz.out⟩
theorem mradd_any (a : Int) {m b c d : Int} (h1 : 0 ≤ m ∧ m ≤ 1099511627776) (h2 : 0 ≤ b ∧ b ≤ 1099511627776) (h3 : 0 ≤ c ∧ c ≤ 1099511627776) (h4 : 0 ≤ d ∧ d ≤ 1099511627776) (w : World) :
    Calls Try.prog 13 #[.agg #[.int .i64 a, .int .i64 m, .int .i64 b], .int .i64 c, .int .i64 d] w (LoadIs w a (Meter.cap (m + c)) (Meter.cap (b + d))) :=
  mradd_go a m b c d (m + c) (b + d) _ _ w (IntWalk.wrap64_in _ (by omega)) (IntWalk.i64_in _ (by omega)) (IntWalk.wrap64_in _ (by omega)) (IntWalk.i64_in _ (by omega)) (fun w => most_any _ _ w rfl) (fun w => most_any _ _ w rfl)

theorem mrtick_ahead (a m b k : Int) (w : World) (ha : 0 ≤ a ∧ a ≤ 1000) (h : decide (a + 1 < k) = true) :
    Calls Try.prog 11 #[.agg #[.int .i64 a, .int .i64 m, .int .i64 b], .int .i64 k] w (TickIs w (a + 1) m b 0 0 false) := by
  have s1 : wrap64 (a + 1) = a + 1 := IntWalk.wrap64_in _ (by omega)
  have s2 : IntKind.i64.wrap (a + 1) = a + 1 := IntWalk.i64_in _ (by omega)
  obtain ⟨t0, t1, hb⟩ := two_alloc3 w (.int .i64 a) (.int .i64 m) (.int .i64 b) (.int .i64 (a + 1)) (.int .i64 m) (.int .i64 b) 23
  obtain ⟨i0, i1, i2⟩ := cells3 t1
  clear t0 t1 ha
  go_enter Try.func11, Try.ntmps11
  go_wp2
  exact bodyPost_ret (v := .tuple #[.agg #[.int .i64 (a + 1), .int .i64 m, .int .i64 b], .int .i64 0, .int .i64 0, .bool false]) (by simp [results, Try.results11, go_sem, i0, i1, i2]) rfl ⟨rfl, hb⟩
set_option maxHeartbeats 2000000 in
theorem mrtick_over (a m b k : Int) (w : World) (ha : 0 ≤ a ∧ a ≤ 1000) (hk : decide (a + 1 < k) = false) :
    Calls Try.prog 11 #[.agg #[.int .i64 a, .int .i64 m, .int .i64 b], .int .i64 k] w (TickIs w 0 0 0 m b true) := by
  have s1 : wrap64 (a + 1) = a + 1 := IntWalk.wrap64_in _ (by omega)
  have s2 : IntKind.i64.wrap (a + 1) = a + 1 := IntWalk.i64_in _ (by omega)
  obtain ⟨t0, t1, hb⟩ := two_alloc3 w (.int .i64 a) (.int .i64 m) (.int .i64 b) (.int .i64 0) (.int .i64 0) (.int .i64 0) 23
  obtain ⟨W, hW⟩ : ∃ W, (w.alloc (.cells #[.int .i64 a, .int .i64 m, .int .i64 b] 23)).alloc (.cells #[.int .i64 0, .int .i64 0, .int .i64 0] 23) = W := ⟨_, rfl⟩
  have HW := hidT hW
  obtain ⟨i0, i1, i2⟩ := cells3 t0
  rw [hW] at t0 t1 hb
  have T0 := hidT t0
  have T1 := hidT t1
  have HB := hidT hb
  clear t0 t1 hb hW ha
  go_enter Try.func11, Try.ntmps11
  go_wp2_with fail
  rw [HW.out]
  clear i0 i1 i2 HW
  obtain ⟨i0, i1, i2⟩ := cells3 T0.out
  obtain ⟨j0, j1, j2⟩ := cells3 T1.out
  have f0 := no_frozen T1.out 0
  have f1 := no_frozen T1.out 1
  have f2 := no_frozen T1.out 2
  obtain ⟨z, hz⟩ := set3 T1.out (.int .i64 0) (.int .i64 0) (.int .i64 0)
  have Z := hidT z
  have hbz := hidT (hz _ _ HB.out (by omega))
  clear z hz
  go_region
  obtain ⟨e0, e1, e2⟩ := cells3 Z.out
  clear Z f0 f1 f2 j0 j1 j2 i0 i1 i2
  go_wp2
  exact bodyPost_ret (v := .tuple #[.agg #[.int .i64 0, .int .i64 0, .int .i64 0], .int .i64 m, .int .i64 b, .bool true]) (by simp [results, Try.results11, go_sem, e0, e1, e2]) rfl ⟨rfl, hbz.out⟩
theorem mrtick_any (a m b k : Int) (w : World) (ha : 0 ≤ a ∧ a ≤ 1000) :
    Calls Try.prog 11 #[.agg #[.int .i64 a, .int .i64 m, .int .i64 b], .int .i64 k] w (if a + 1 < k then TickIs w (a + 1) m b 0 0 false else TickIs w 0 0 0 m b true) := by
  by_cases h : a + 1 < k
  · rw [if_pos h]
    exact mrtick_ahead a m b k w ha (by simpa using h)
  · rw [if_neg h]
    exact mrtick_over a m b k w ha (by simpa using h)

end Go.Proofs.Ytahcofejjfdbbaa
