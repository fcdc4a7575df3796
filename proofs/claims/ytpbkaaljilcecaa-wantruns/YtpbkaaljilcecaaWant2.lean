/- What want's Step comes to, and the document's Other, Asks, Step and May. -/
import Derived.Test.YtpbkaaljilcecaaWant1
set_option maxRecDepth 100000
namespace Go.Proofs.Ytpbkaaljilcecaa
open Go.RowKit
set_option linter.unusedVariables false

/-- What Step tells. -/
def StepIs (w : World) (k : Int) (t : Bool) (e : Ending) (w' : World) : Prop := e = .returned (.tuple #[.agg #[.int .i64 k], .bool t]) ∧ Below w.heap.size w w'
theorem set_two {w : World} {g0 g2 : Nat} {a2 : Value} {t : TypeId} (h2 : w.heap[g2]? = some (.cells #[a2] t (0, 0))) (hne : g2 ≠ g0) (u v : Value) : ((w.setCell ⟨g0, 0, none⟩ u).setCell ⟨g2, 0, none⟩ v).cell? ⟨g2, 0, none⟩ = some v :=
  cells1 (set1 (set_off h2 hne 0 u) v)
theorem set_three {w : World} {g0 g2 : Nat} {a2 : Value} {t : TypeId} (h2 : w.heap[g2]? = some (.cells #[a2] t (0, 0))) (hne : g2 ≠ g0) (u u' v : Value) : (((w.setCell ⟨g0, 0, none⟩ u).setCell ⟨g0, 0, none⟩ u').setCell ⟨g2, 0, none⟩ v).cell? ⟨g2, 0, none⟩ = some v :=
  cells1 (set1 (set_off (set_off h2 hne 0 u) hne 0 u') v)

set_option maxHeartbeats 1000000 in
theorem step_no (k n l h o y : Int) (w : World) 
    (ha : ∀ w, Calls Try.prog 11 #[.int .i64 n, .int .i64 l, .int .i64 h, .int .i64 o] w (fun e w' => e = .returned (.bool false) ∧ w' = w)) :
    Calls Try.prog 9 #[.agg #[.int .i64 k], .int .i64 n, .int .i64 l, .int .i64 h, .int .i64 o, .int .i64 y] w (StepIs w 0 false) := by
  obtain ⟨t0, t1, hb⟩ := two_alloc w (.cells #[.int .i64 k] 23) (.cells #[.int .i64 0] 23)
  obtain ⟨W, hW⟩ : ∃ W, (w.alloc (.cells #[.int .i64 k] 23)).alloc (.cells #[.int .i64 0] 23) = W := ⟨_, rfl⟩
  rw [hW] at t0 t1 hb
  have f0 := no_frozen t0 0
  have f1 := no_frozen t1 0
  have c0 := cells1 t0
  have c1 := cells1 t1
  have HW := hidT hW
  have T1 := hidT t1
  have HB := hidT hb
  clear t0 t1 hb hW
  go_enter Try.func9, Try.ntmps9
  go_wp2_with fail
  rw [HW.out]
  with_reducible refine (ha _).mono ?_
  rintro e w1 ⟨rfl, rfl⟩
  clear HW
  go_wp2_with fail
  have z := set_two T1.out (g0 := w.heap.size) (by omega) (.int .i64 0) (.int .i64 0)
  exact bodyPost_ret (v := .tuple #[.agg #[.int .i64 0], .bool false]) (by simp [results, Try.results9, go_sem, z]) rfl ⟨rfl, (HB.out.setCell (p := ⟨w.heap.size, 0, none⟩) (Nat.le_refl _) _).setCell (p := ⟨w.heap.size + 1, 0, none⟩) (by show w.heap.size ≤ w.heap.size + 1; omega) _⟩
set_option maxHeartbeats 1000000 in
theorem step_more (k n l h o y : Int) (w : World) (h1 : 0 ≤ k) (h2 : k ≤ 1152921504606846976) (h3 : k + 1 < y)
    (ha : ∀ w, Calls Try.prog 11 #[.int .i64 n, .int .i64 l, .int .i64 h, .int .i64 o] w (fun e w' => e = .returned (.bool true) ∧ w' = w)) :
    Calls Try.prog 9 #[.agg #[.int .i64 k], .int .i64 n, .int .i64 l, .int .i64 h, .int .i64 o, .int .i64 y] w (StepIs w (k + 1) false) := by
  have s1 : wrap64 (k + 1) = k + 1 := IntWalk.wrap64_in _ (by omega)
  have s2 : IntKind.i64.wrap (k + 1) = k + 1 := IntWalk.i64_in _ (by omega)
  have q1 : decide (k + 1 < y) = true := by simpa using h3
  clear h1 h2 h3
  obtain ⟨t0, t1, hb⟩ := two_alloc w (.cells #[.int .i64 k] 23) (.cells #[.int .i64 0] 23)
  obtain ⟨W, hW⟩ : ∃ W, (w.alloc (.cells #[.int .i64 k] 23)).alloc (.cells #[.int .i64 0] 23) = W := ⟨_, rfl⟩
  rw [hW] at t0 t1 hb
  have f0 := no_frozen t0 0
  have f1 := no_frozen t1 0
  have c0 := cells1 t0
  have c1 := cells1 t1
  have HW := hidT hW
  have T1 := hidT t1
  have HB := hidT hb
  clear t0 t1 hb hW
  go_enter Try.func9, Try.ntmps9
  go_wp2_with fail
  rw [HW.out]
  with_reducible refine (ha _).mono ?_
  rintro e w1 ⟨rfl, rfl⟩
  clear HW
  go_wp2_with fail
  have z := set_two T1.out (g0 := w.heap.size) (by omega) (.int .i64 (k + 1)) (.int .i64 (k + 1))
  exact bodyPost_ret (v := .tuple #[.agg #[.int .i64 (k + 1)], .bool false]) (by simp [results, Try.results9, go_sem, z]) rfl ⟨rfl, (HB.out.setCell (p := ⟨w.heap.size, 0, none⟩) (Nat.le_refl _) _).setCell (p := ⟨w.heap.size + 1, 0, none⟩) (by show w.heap.size ≤ w.heap.size + 1; omega) _⟩
set_option maxHeartbeats 1000000 in
theorem step_full (k n l h o y : Int) (w : World) (h1 : 0 ≤ k) (h2 : k ≤ 1152921504606846976) (h3 : y ≤ k + 1)
    (ha : ∀ w, Calls Try.prog 11 #[.int .i64 n, .int .i64 l, .int .i64 h, .int .i64 o] w (fun e w' => e = .returned (.bool true) ∧ w' = w)) :
    Calls Try.prog 9 #[.agg #[.int .i64 k], .int .i64 n, .int .i64 l, .int .i64 h, .int .i64 o, .int .i64 y] w (StepIs w 0 true) := by
  have s1 : wrap64 (k + 1) = k + 1 := IntWalk.wrap64_in _ (by omega)
  have s2 : IntKind.i64.wrap (k + 1) = k + 1 := IntWalk.i64_in _ (by omega)
  have q1 : decide (k + 1 < y) = false := by simp; omega
  clear h1 h2 h3
  obtain ⟨t0, t1, hb⟩ := two_alloc w (.cells #[.int .i64 k] 23) (.cells #[.int .i64 0] 23)
  obtain ⟨W, hW⟩ : ∃ W, (w.alloc (.cells #[.int .i64 k] 23)).alloc (.cells #[.int .i64 0] 23) = W := ⟨_, rfl⟩
  rw [hW] at t0 t1 hb
  have f0 := no_frozen t0 0
  have f1 := no_frozen t1 0
  have c0 := cells1 t0
  have c1 := cells1 t1
  have HW := hidT hW
  have T1 := hidT t1
  have HB := hidT hb
  clear t0 t1 hb hW
  go_enter Try.func9, Try.ntmps9
  go_wp2_with fail
  rw [HW.out]
  with_reducible refine (ha _).mono ?_
  rintro e w1 ⟨rfl, rfl⟩
  clear HW
  go_wp2_with fail
  have z := set_three T1.out (g0 := w.heap.size) (by omega) (.int .i64 (k + 1)) (.int .i64 0) (.int .i64 0)
  exact bodyPost_ret (v := .tuple #[.agg #[.int .i64 0], .bool true]) (by simp [results, Try.results9, go_sem, z]) rfl ⟨rfl, ((HB.out.setCell (p := ⟨w.heap.size, 0, none⟩) (Nat.le_refl _) _).setCell (p := ⟨w.heap.size, 0, none⟩) (Nat.le_refl _) _).setCell (p := ⟨w.heap.size + 1, 0, none⟩) (by show w.heap.size ≤ w.heap.size + 1; omega) _⟩
theorem step_any (k n l h o y : Int) (w : World) (hn : n = 0 ∨ n = 1) (h1 : 0 ≤ k) (h2 : k ≤ 1152921504606846976) :
    Calls Try.prog 9 #[.agg #[.int .i64 k], .int .i64 n, .int .i64 l, .int .i64 h, .int .i64 o, .int .i64 y] w (StepIs w (Want.hits (Want.asks n l h o) k y) (Want.yes (Want.asks n l h o) k y)) := by
  have ha := fun w => asks_any n l h o w hn
  generalize Want.asks n l h o = t at *
  cases t with
  | false => rw [Want.hits_no, Want.yes_no]; exact step_no k n l h o y w ha
  | true =>
    by_cases h3 : k + 1 < y
    · rw [Want.hits_more h3, Want.yes_more h3]
      exact step_more k n l h o y w h1 h2 h3 ha
    · rw [Want.hits_full (by omega), Want.yes_full (by omega)]
      exact step_full k n l h o y w h1 h2 (by omega) ha

theorem rasks_seq (l h o : Int) (w : World) (t : Bool) (ht : decide (h ≤ l) = t) : Calls Try.prog 12 #[.int .i64 0, .int .i64 l, .int .i64 h, .int .i64 o] w (fun e w' => e = .returned (.bool t) ∧ w' = w) := by
  subst ht
  go_enter Try.func12, Try.ntmps12
  go_wp2
  go_ret
  exact ⟨rfl, rfl⟩
theorem rasks_pri (l h o : Int) (w : World) (t : Bool) (ht : decide (l ≤ o) = t) : Calls Try.prog 12 #[.int .i64 1, .int .i64 l, .int .i64 h, .int .i64 o] w (fun e w' => e = .returned (.bool t) ∧ w' = w) := by
  subst ht
  go_enter Try.func12, Try.ntmps12
  go_wp2
  go_ret
  exact ⟨rfl, rfl⟩
theorem rasks_any (n l h o : Int) (w : World) (hn : n = 0 ∨ n = 1) : Calls Try.prog 12 #[.int .i64 n, .int .i64 l, .int .i64 h, .int .i64 o] w (fun e w' => e = .returned (.bool (Want.asks n l h o)) ∧ w' = w) := by
  rcases hn with rfl | rfl
  · exact rasks_seq l h o w _ (Want.asks_seq l h o).symm
  · exact rasks_pri l h o w _ (Want.asks_pri l h o).symm
theorem rother_any (n : Int) (w : World) (hn : n = 0 ∨ n = 1) : Calls Try.prog 14 #[.int .i64 n] w (fun e w' => e = .returned (.int .i64 (1 - n)) ∧ w' = w) := by
  rcases hn with rfl | rfl
  · go_enter Try.func14, Try.ntmps14
    go_wp2
    go_ret
    exact ⟨rfl, rfl⟩
  · go_enter Try.func14, Try.ntmps14
    go_wp2
    go_ret
    exact ⟨rfl, rfl⟩
set_option maxHeartbeats 1000000 in
theorem rstep_no (k n l h o y : Int) (w : World) 
    (ha : ∀ w, Calls Try.prog 12 #[.int .i64 n, .int .i64 l, .int .i64 h, .int .i64 o] w (fun e w' => e = .returned (.bool false) ∧ w' = w)) :
    Calls Try.prog 10 #[.agg #[.int .i64 k], .int .i64 n, .int .i64 l, .int .i64 h, .int .i64 o, .int .i64 y] w (StepIs w 0 false) := by
  obtain ⟨t0, t1, hb⟩ := two_alloc w (.cells #[.int .i64 k] 23) (.cells #[.int .i64 0] 23)
  obtain ⟨W, hW⟩ : ∃ W, (w.alloc (.cells #[.int .i64 k] 23)).alloc (.cells #[.int .i64 0] 23) = W := ⟨_, rfl⟩
  rw [hW] at t0 t1 hb
  have f1 := no_frozen t1 0
  have c0 := cells1 t0
  have c1 := cells1 t1
  have HW := hidT hW
  have T1 := hidT t1
  have HB := hidT hb
  clear t0 t1 hb hW
  go_enter Try.func10, Try.ntmps10
  go_wp2_with fail
  rw [HW.out]
  with_reducible refine (ha _).mono ?_
  rintro e w1 ⟨rfl, rfl⟩
  clear HW
  go_wp2_with fail
  have z := cells1 (set1 T1.out (.int .i64 0))
  exact bodyPost_ret (v := .tuple #[.agg #[.int .i64 0], .bool false]) (by simp [results, Try.results10, go_sem, z]) rfl ⟨rfl, HB.out.setCell (p := ⟨w.heap.size + 1, 0, none⟩) (by show w.heap.size ≤ w.heap.size + 1; omega) _⟩
set_option maxHeartbeats 1000000 in
theorem rstep_more (k n l h o y : Int) (w : World) (h1 : 0 ≤ k) (h2 : k ≤ 1152921504606846976) (h3 : k + 1 < y)
    (ha : ∀ w, Calls Try.prog 12 #[.int .i64 n, .int .i64 l, .int .i64 h, .int .i64 o] w (fun e w' => e = .returned (.bool true) ∧ w' = w)) :
    Calls Try.prog 10 #[.agg #[.int .i64 k], .int .i64 n, .int .i64 l, .int .i64 h, .int .i64 o, .int .i64 y] w (StepIs w (k + 1) false) := by
  have s1 : wrap64 (k + 1) = k + 1 := IntWalk.wrap64_in _ (by omega)
  have s2 : IntKind.i64.wrap (k + 1) = k + 1 := IntWalk.i64_in _ (by omega)
  have q1 : decide (y ≤ k + 1) = false := by simp; omega
  clear h1 h2 h3
  obtain ⟨t0, t1, hb⟩ := two_alloc w (.cells #[.int .i64 k] 23) (.cells #[.int .i64 0] 23)
  obtain ⟨W, hW⟩ : ∃ W, (w.alloc (.cells #[.int .i64 k] 23)).alloc (.cells #[.int .i64 0] 23) = W := ⟨_, rfl⟩
  rw [hW] at t0 t1 hb
  have f1 := no_frozen t1 0
  have c0 := cells1 t0
  have c1 := cells1 t1
  have HW := hidT hW
  have T1 := hidT t1
  have HB := hidT hb
  clear t0 t1 hb hW
  go_enter Try.func10, Try.ntmps10
  go_wp2_with fail
  rw [HW.out]
  with_reducible refine (ha _).mono ?_
  rintro e w1 ⟨rfl, rfl⟩
  clear HW
  go_wp2_with fail
  have z := cells1 (set1 T1.out (.int .i64 (k + 1)))
  exact bodyPost_ret (v := .tuple #[.agg #[.int .i64 (k + 1)], .bool false]) (by simp [results, Try.results10, go_sem, z]) rfl ⟨rfl, HB.out.setCell (p := ⟨w.heap.size + 1, 0, none⟩) (by show w.heap.size ≤ w.heap.size + 1; omega) _⟩
set_option maxHeartbeats 1000000 in
theorem rstep_full (k n l h o y : Int) (w : World) (h1 : 0 ≤ k) (h2 : k ≤ 1152921504606846976) (h3 : y ≤ k + 1)
    (ha : ∀ w, Calls Try.prog 12 #[.int .i64 n, .int .i64 l, .int .i64 h, .int .i64 o] w (fun e w' => e = .returned (.bool true) ∧ w' = w)) :
    Calls Try.prog 10 #[.agg #[.int .i64 k], .int .i64 n, .int .i64 l, .int .i64 h, .int .i64 o, .int .i64 y] w (StepIs w 0 true) := by
  have s1 : wrap64 (k + 1) = k + 1 := IntWalk.wrap64_in _ (by omega)
  have s2 : IntKind.i64.wrap (k + 1) = k + 1 := IntWalk.i64_in _ (by omega)
  have q1 : decide (y ≤ k + 1) = true := by simpa using h3
  clear h1 h2 h3
  obtain ⟨t0, t1, hb⟩ := two_alloc w (.cells #[.int .i64 k] 23) (.cells #[.int .i64 0] 23)
  obtain ⟨W, hW⟩ : ∃ W, (w.alloc (.cells #[.int .i64 k] 23)).alloc (.cells #[.int .i64 0] 23) = W := ⟨_, rfl⟩
  rw [hW] at t0 t1 hb
  have f1 := no_frozen t1 0
  have c0 := cells1 t0
  have c1 := cells1 t1
  have HW := hidT hW
  have T1 := hidT t1
  have HB := hidT hb
  clear t0 t1 hb hW
  go_enter Try.func10, Try.ntmps10
  go_wp2_with fail
  rw [HW.out]
  with_reducible refine (ha _).mono ?_
  rintro e w1 ⟨rfl, rfl⟩
  clear HW
  go_wp2_with fail
  have z := cells1 (set1 T1.out (.int .i64 0))
  exact bodyPost_ret (v := .tuple #[.agg #[.int .i64 0], .bool true]) (by simp [results, Try.results10, go_sem, z]) rfl ⟨rfl, HB.out.setCell (p := ⟨w.heap.size + 1, 0, none⟩) (by show w.heap.size ≤ w.heap.size + 1; omega) _⟩
theorem rstep_any (k n l h o y : Int) (w : World) (hn : n = 0 ∨ n = 1) (h1 : 0 ≤ k) (h2 : k ≤ 1152921504606846976) :
    Calls Try.prog 10 #[.agg #[.int .i64 k], .int .i64 n, .int .i64 l, .int .i64 h, .int .i64 o, .int .i64 y] w (StepIs w (Want.hits (Want.asks n l h o) k y) (Want.yes (Want.asks n l h o) k y)) := by
  have ha := fun w => rasks_any n l h o w hn
  generalize Want.asks n l h o = t at *
  cases t with
  | false => rw [Want.hits_no, Want.yes_no]; exact rstep_no k n l h o y w ha
  | true =>
    by_cases h3 : k + 1 < y
    · rw [Want.hits_more h3, Want.yes_more h3]
      exact rstep_more k n l h o y w h1 h2 h3 ha
    · rw [Want.hits_full (by omega), Want.yes_full (by omega)]
      exact rstep_full k n l h o y w h1 h2 (by omega) ha

theorem rmay_any (n h o y : Int) (w : World) (t : Bool) (ht : Want.may n h o y = t) : Calls Try.prog 8 #[.int .i64 n, .int .i64 h, .int .i64 o, .int .i64 y] w (fun e w' => e = .returned (.bool t) ∧ w' = w) := by
  by_cases h0 : 0 ≤ n
  case neg =>
    have q0 : decide (0 ≤ n) = false := by simpa using h0
    have e : false = t := by rw [← ht]; unfold Want.may; rw [q0]; rfl
    clear ht h0
    subst e
    go_enter Try.func8, Try.ntmps8
    go_wp2
    go_ret
    exact ⟨rfl, rfl⟩
  by_cases h1 : n ≤ 1
  case neg =>
    have q0 : decide (0 ≤ n) = true := by simpa using h0
    have q1 : decide (n ≤ 1) = false := by simpa using h1
    have e : false = t := by rw [← ht]; unfold Want.may; rw [q0, q1]; rfl
    clear ht h0 h1
    subst e
    go_enter Try.func8, Try.ntmps8
    go_wp2
    go_ret
    exact ⟨rfl, rfl⟩
  by_cases h2 : o < h
  case neg =>
    have q0 : decide (0 ≤ n) = true := by simpa using h0
    have q1 : decide (n ≤ 1) = true := by simpa using h1
    have q2 : decide (o < h) = false := by simpa using h2
    have e : false = t := by rw [← ht]; unfold Want.may; rw [q0, q1, q2]; rfl
    clear ht h0 h1 h2
    subst e
    go_enter Try.func8, Try.ntmps8
    go_wp2
    go_ret
    exact ⟨rfl, rfl⟩
  by_cases h3 : 1 ≤ y
  case neg =>
    have q0 : decide (0 ≤ n) = true := by simpa using h0
    have q1 : decide (n ≤ 1) = true := by simpa using h1
    have q2 : decide (o < h) = true := by simpa using h2
    have q3 : decide (1 ≤ y) = false := by simpa using h3
    have e : false = t := by rw [← ht]; unfold Want.may; rw [q0, q1, q2, q3]; rfl
    clear ht h0 h1 h2 h3
    subst e
    go_enter Try.func8, Try.ntmps8
    go_wp2
    go_ret
    exact ⟨rfl, rfl⟩
  have q0 : decide (0 ≤ n) = true := by simpa using h0
  have q1 : decide (n ≤ 1) = true := by simpa using h1
  have q2 : decide (o < h) = true := by simpa using h2
  have q3 : decide (1 ≤ y) = true := by simpa using h3
  have e : true = t := by rw [← ht]; unfold Want.may; rw [q0, q1, q2, q3]; rfl
  clear ht h0 h1 h2 h3
  subst e
  go_enter Try.func8, Try.ntmps8
  go_wp2
  go_ret
  exact ⟨rfl, rfl⟩
end Go.Proofs.Ytpbkaaljilcecaa
