/- What ask's watched, Step and Hush come to. -/
import Derived.Test.YtkmogmdekpdbpaaRows
import Derived.Test.YtkmogmdekpdbpaaAskMath
import Derived.WalkLawsBesides
import Derived.WalkMore
set_option maxRecDepth 100000
namespace Go.Proofs.Ytkmogmdekpdbpaa
open Go.RowKit
set_option linter.unusedVariables false

theorem watched_any (d : Int) (w : World) : Calls Try.prog 14 #[.agg #[.int .i64 d]] w (fun e w' => e = .returned (.bool (!decide (d = 0))) ∧ Below w.heap.size w w') := by
  have y0 := alloc_at w (.cells #[.int .i64 d] 23) _ rfl
  have e0 := cells1 y0
  have hb := nkeep w (.cells #[.int .i64 d] 23)
  clear y0
  by_cases h : d = 0
  · subst h
    go_enter Try.func14, Try.ntmps14
    go_wp2
    go_ret
    exact ⟨rfl, hb⟩
  · have q1 : decide (d = 0) = false := by simpa using h
    have q2 : (d == 0) = false := by simpa using h
    have q3 : (d != 0) = true := by simpa using h
    rw [q1]
    clear h
    go_enter Try.func14, Try.ntmps14
    go_wp2
    go_ret
    exact ⟨rfl, hb⟩

theorem isTime_any (g h : Nat) (d now : Int) (w : World) (e0 : w.cell? ⟨g, 0, none⟩ = some (.int .i64 d)) (e1 : w.cell? ⟨h, 0, none⟩ = some (.int .i64 now)) (t : Bool) (ht : decide (d ≤ now) = t) :
    Calls Try.prog 15 #[.pointer (some ⟨g, 0, none⟩), .pointer (some ⟨h, 0, none⟩)] w (fun e w' => e = .returned (.bool t) ∧ w' = w) := by
  go_enter Try.func15, Try.ntmps15
  go_wp2
  go_ret
  exact ⟨rfl, rfl⟩

/-- What a call tells that watches a gap. -/
def StepIs (w : World) (d : Int) (t : Bool) (e : Ending) (w' : World) : Prop := e = .returned (.tuple #[.agg #[.int .i64 d], .bool t]) ∧ Below w.heap.size w w'
def HushIs (w : World) (d : Int) (e : Ending) (w' : World) : Prop := e = .returned (.agg #[.int .i64 d]) ∧ Below w.heap.size w w'
theorem set_two {w : World} {g0 g2 : Nat} {a0 a2 : Value} {t : TypeId} (h2 : w.heap[g2]? = some (.cells #[a2] t (0, 0))) (hne : g2 ≠ g0) (u v : Value) : ((w.setCell ⟨g0, 0, none⟩ u).setCell ⟨g2, 0, none⟩ v).cell? ⟨g2, 0, none⟩ = some v :=
  cells1 (set1 (set_off h2 hne u) v)
theorem set_one {w : World} {g2 : Nat} {a2 : Value} {t : TypeId} (h2 : w.heap[g2]? = some (.cells #[a2] t (0, 0))) (v : Value) : (w.setCell ⟨g2, 0, none⟩ v).cell? ⟨g2, 0, none⟩ = some v :=
  cells1 (set1 h2 v)

set_option maxHeartbeats 2000000 in
theorem step_none (d now wait : Int) (w : World) : Calls Try.prog 10 #[.agg #[.int .i64 d], .int .i64 now, .int .i64 wait, .bool false] w (StepIs w 0 false) := by
  obtain ⟨t0, t1, t2, hb⟩ := three_alloc w (.cells #[.int .i64 d] 23) (.cells #[.int .i64 now] 3) (.cells #[.int .i64 0] 23)
  have e0 := cells1 t0
  obtain ⟨W, hW⟩ : ∃ W, ((w.alloc (.cells #[.int .i64 d] 23)).alloc (.cells #[.int .i64 now] 3)).alloc (.cells #[.int .i64 0] 23) = W := ⟨_, rfl⟩
  rw [hW] at t0 t1 t2 hb e0
  have HW := hidT hW
  have T0 := hidT t0
  have T1 := hidT t1
  have T2 := hidT t2
  have HB := hidT hb
  clear t0 t1 t2 hb hW
  go_enter Try.func10, Try.ntmps10
  go_wp2_with fail
  rw [HW.out]
  with_reducible refine (watched_any d W).mono ?_
  rintro e w1 ⟨rfl, hb1⟩
  have y0 := keepH T0.out hb1
  have y1 := keepH T1.out hb1
  have y2 : w1.heap[w.heap.size + 1 + 1]? = _ := keepH T2.out hb1
  have HB1 := hidT (bthen HB.out hb1)
  have f0 := no_frozen y0 0
  have f2 := no_frozen y2 0
  have c0 := cells1 y0
  have c1 := cells1 y1
  have c2 := cells1 y2
  have Y2 := hidT y2
  clear y0 y1 y2 e0 hb1
  go_wp2_with fail
  have z := set_two (a0 := .int .i64 0) Y2.out (g0 := w.heap.size) (by omega) (.int .i64 0) (.int .i64 0)
  exact bodyPost_ret (v := .tuple #[.agg #[.int .i64 0], .bool false]) (by simp [results, Try.results10, go_sem, z]) rfl ⟨rfl, (HB1.out.setCell (p := ⟨w.heap.size, 0, none⟩) (Nat.le_refl _) _).setCell (p := ⟨w.heap.size + 1 + 1, 0, none⟩) (by show w.heap.size ≤ w.heap.size + 1 + 1; omega) _⟩
set_option maxHeartbeats 2000000 in
theorem step_new (now wait : Int) (w : World) (h1 : 0 ≤ now) (h2 : now ≤ 4611686018427387904) : Calls Try.prog 10 #[.agg #[.int .i64 0], .int .i64 now, .int .i64 wait, .bool true] w (StepIs w (now + 1) false) := by
  have s1 : wrap64 (now + 1) = now + 1 := IntWalk.wrap64_in _ (by omega)
  have s2 : IntKind.i64.wrap (now + 1) = now + 1 := IntWalk.i64_in _ (by omega)
  clear h1 h2
  obtain ⟨t0, t1, t2, hb⟩ := three_alloc w (.cells #[.int .i64 0] 23) (.cells #[.int .i64 now] 3) (.cells #[.int .i64 0] 23)
  have e0 := cells1 t0
  obtain ⟨W, hW⟩ : ∃ W, ((w.alloc (.cells #[.int .i64 0] 23)).alloc (.cells #[.int .i64 now] 3)).alloc (.cells #[.int .i64 0] 23) = W := ⟨_, rfl⟩
  rw [hW] at t0 t1 t2 hb e0
  have HW := hidT hW
  have T0 := hidT t0
  have T1 := hidT t1
  have T2 := hidT t2
  have HB := hidT hb
  clear t0 t1 t2 hb hW
  go_enter Try.func10, Try.ntmps10
  go_wp2_with fail
  rw [HW.out]
  with_reducible refine (watched_any 0 W).mono ?_
  rintro e w1 ⟨rfl, hb1⟩
  have y0 := keepH T0.out hb1
  have y1 := keepH T1.out hb1
  have y2 : w1.heap[w.heap.size + 1 + 1]? = _ := keepH T2.out hb1
  have HB1 := hidT (bthen HB.out hb1)
  have f0 := no_frozen y0 0
  have f2 := no_frozen y2 0
  have c0 := cells1 y0
  have c1 := cells1 y1
  have c2 := cells1 y2
  have Y2 := hidT y2
  clear y0 y1 y2 e0 hb1
  go_wp2_with fail
  have z := set_two (a0 := .int .i64 0) Y2.out (g0 := w.heap.size) (by omega) (.int .i64 (now + 1)) (.int .i64 (now + 1))
  exact bodyPost_ret (v := .tuple #[.agg #[.int .i64 (now + 1)], .bool false]) (by simp [results, Try.results10, go_sem, z]) rfl ⟨rfl, (HB1.out.setCell (p := ⟨w.heap.size, 0, none⟩) (Nat.le_refl _) _).setCell (p := ⟨w.heap.size + 1 + 1, 0, none⟩) (by show w.heap.size ≤ w.heap.size + 1 + 1; omega) _⟩
set_option maxHeartbeats 2000000 in
theorem step_time (d now wait : Int) (w : World) (h1 : 0 ≤ now) (h2 : now ≤ 4611686018427387904) (h3 : d ≠ 0) (h4 : d ≤ now) (h5 : 1 ≤ wait) (h6 : wait ≤ 1000) : Calls Try.prog 10 #[.agg #[.int .i64 d], .int .i64 now, .int .i64 wait, .bool true] w (StepIs w (now + wait) true) := by
  have s1 : wrap64 (now + wait) = now + wait := IntWalk.wrap64_in _ (by omega)
  have s2 : IntKind.i64.wrap (now + wait) = now + wait := IntWalk.i64_in _ (by omega)
  have q1 : decide (d = 0) = false := by simpa using h3
  have q2 : (d == 0) = false := by simpa using h3
  have q4 : decide (d ≤ now) = true := by simpa using h4
  clear h1 h2 h3 h4 h5 h6
  obtain ⟨t0, t1, t2, hb⟩ := three_alloc w (.cells #[.int .i64 d] 23) (.cells #[.int .i64 now] 3) (.cells #[.int .i64 0] 23)
  have e0 := cells1 t0
  obtain ⟨W, hW⟩ : ∃ W, ((w.alloc (.cells #[.int .i64 d] 23)).alloc (.cells #[.int .i64 now] 3)).alloc (.cells #[.int .i64 0] 23) = W := ⟨_, rfl⟩
  rw [hW] at t0 t1 t2 hb e0
  have HW := hidT hW
  have T0 := hidT t0
  have T1 := hidT t1
  have T2 := hidT t2
  have HB := hidT hb
  clear t0 t1 t2 hb hW
  go_enter Try.func10, Try.ntmps10
  go_wp2_with fail
  rw [HW.out]
  with_reducible refine (watched_any d W).mono ?_
  rintro e w1 ⟨rfl, hb1⟩
  have y0 := keepH T0.out hb1
  have y1 := keepH T1.out hb1
  have y2 : w1.heap[w.heap.size + 1 + 1]? = _ := keepH T2.out hb1
  have HB1 := hidT (bthen HB.out hb1)
  have f0 := no_frozen y0 0
  have f2 := no_frozen y2 0
  have c0 := cells1 y0
  have c1 := cells1 y1
  have c2 := cells1 y2
  have Y2 := hidT y2
  clear y0 y1 y2 e0 hb1
  have hc := isTime_any w.heap.size (w.heap.size + 1) d now w1 c0 c1 true q4
  go_wp2_with fail
  with_reducible refine hc.mono ?_
  rintro e w2 ⟨rfl, rfl⟩
  go_wp2_with fail
  have z := set_two (a0 := .int .i64 0) Y2.out (g0 := w.heap.size) (by omega) (.int .i64 (now + wait)) (.int .i64 (now + wait))
  exact bodyPost_ret (v := .tuple #[.agg #[.int .i64 (now + wait)], .bool true]) (by simp [results, Try.results10, go_sem, z]) rfl ⟨rfl, (HB1.out.setCell (p := ⟨w.heap.size, 0, none⟩) (Nat.le_refl _) _).setCell (p := ⟨w.heap.size + 1 + 1, 0, none⟩) (by show w.heap.size ≤ w.heap.size + 1 + 1; omega) _⟩
set_option maxHeartbeats 2000000 in
theorem step_later (d now wait : Int) (w : World) (h3 : d ≠ 0) (h4 : now < d) : Calls Try.prog 10 #[.agg #[.int .i64 d], .int .i64 now, .int .i64 wait, .bool true] w (StepIs w d false) := by
  have q1 : decide (d = 0) = false := by simpa using h3
  have q2 : (d == 0) = false := by simpa using h3
  have q4 : decide (d ≤ now) = false := by simpa using h4
  clear h3 h4
  obtain ⟨t0, t1, t2, hb⟩ := three_alloc w (.cells #[.int .i64 d] 23) (.cells #[.int .i64 now] 3) (.cells #[.int .i64 0] 23)
  have e0 := cells1 t0
  obtain ⟨W, hW⟩ : ∃ W, ((w.alloc (.cells #[.int .i64 d] 23)).alloc (.cells #[.int .i64 now] 3)).alloc (.cells #[.int .i64 0] 23) = W := ⟨_, rfl⟩
  rw [hW] at t0 t1 t2 hb e0
  have HW := hidT hW
  have T0 := hidT t0
  have T1 := hidT t1
  have T2 := hidT t2
  have HB := hidT hb
  clear t0 t1 t2 hb hW
  go_enter Try.func10, Try.ntmps10
  go_wp2_with fail
  rw [HW.out]
  with_reducible refine (watched_any d W).mono ?_
  rintro e w1 ⟨rfl, hb1⟩
  have y0 := keepH T0.out hb1
  have y1 := keepH T1.out hb1
  have y2 : w1.heap[w.heap.size + 1 + 1]? = _ := keepH T2.out hb1
  have HB1 := hidT (bthen HB.out hb1)
  have f0 := no_frozen y0 0
  have f2 := no_frozen y2 0
  have c0 := cells1 y0
  have c1 := cells1 y1
  have c2 := cells1 y2
  have Y2 := hidT y2
  clear y0 y1 y2 e0 hb1
  have hc := isTime_any w.heap.size (w.heap.size + 1) d now w1 c0 c1 false q4
  go_wp2_with fail
  with_reducible refine hc.mono ?_
  rintro e w2 ⟨rfl, rfl⟩
  go_wp2_with fail
  have z := set_one Y2.out (.int .i64 d)
  exact bodyPost_ret (v := .tuple #[.agg #[.int .i64 d], .bool false]) (by simp [results, Try.results10, go_sem, z]) rfl ⟨rfl, HB1.out.setCell (p := ⟨w.heap.size + 1 + 1, 0, none⟩) (by show w.heap.size ≤ w.heap.size + 1 + 1; omega) _⟩
theorem step_any (d now wait : Int) (gap : Bool) (w : World) (h1 : 0 ≤ now) (h2 : now ≤ 4611686018427387904) (h3 : 1 ≤ wait) (h4 : wait ≤ 1000) :
    Calls Try.prog 10 #[.agg #[.int .i64 d], .int .i64 now, .int .i64 wait, .bool gap] w (StepIs w (Ask.due d now wait gap) (Ask.yes d now gap)) := by
  cases gap with
  | false => rw [Ask.due_none, Ask.yes_none]; exact step_none d now wait w
  | true =>
    by_cases h : d = 0
    · subst h
      rw [Ask.due_new, Ask.yes_new]
      exact step_new now wait w h1 h2
    · by_cases h5 : d ≤ now
      · rw [Ask.due_time wait h h5, Ask.yes_time h h5]
        exact step_time d now wait w h1 h2 h h5 h3 h4
      · rw [Ask.due_later wait h (by omega), Ask.yes_later (by omega)]
        exact step_later d now wait w h (by omega)

set_option maxHeartbeats 2000000 in
theorem hush_none (now wait : Int) (w : World) : Calls Try.prog 12 #[.agg #[.int .i64 0], .int .i64 now, .int .i64 wait] w (HushIs w 0) := by
  obtain ⟨t0, t1, hb⟩ := two_alloc w (.cells #[.int .i64 0] 23) (.cells #[.int .i64 0] 23)
  have e0 := cells1 t0
  obtain ⟨W, hW⟩ : ∃ W, (w.alloc (.cells #[.int .i64 0] 23)).alloc (.cells #[.int .i64 0] 23) = W := ⟨_, rfl⟩
  rw [hW] at t0 t1 hb e0
  have HW := hidT hW
  have T0 := hidT t0
  have T1 := hidT t1
  have HB := hidT hb
  clear t0 t1 hb hW
  go_enter Try.func12, Try.ntmps12
  go_wp2_with fail
  rw [HW.out]
  with_reducible refine (watched_any 0 W).mono ?_
  rintro e w1 ⟨rfl, hb1⟩
  have y0 := keepH T0.out hb1
  have y1 := keepH T1.out hb1
  have HB1 := hidT (bthen HB.out hb1)
  have f0 := no_frozen y0 0
  have f1 := no_frozen y1 0
  have c0 := cells1 y0
  have c1 := cells1 y1
  have Y1 := hidT y1
  clear y0 y1 e0 hb1
  go_wp2_with fail
  have z := set_one Y1.out (.int .i64 0)
  exact bodyPost_ret (v := .agg #[.int .i64 0]) (by simp [results, Try.results12, go_sem, z]) rfl ⟨rfl, HB1.out.setCell (p := ⟨w.heap.size + 1, 0, none⟩) (by show w.heap.size ≤ w.heap.size + 1; omega) _⟩
set_option maxHeartbeats 2000000 in
theorem hush_on (d now wait S : Int) (w : World) (h1 : 0 ≤ now) (h2 : now ≤ 4611686018427387904) (h3 : d ≠ 0) (h5 : 1 ≤ wait) (h6 : wait ≤ 1000) (hS : (if d < now + wait then now + wait else d) = S) : Calls Try.prog 12 #[.agg #[.int .i64 d], .int .i64 now, .int .i64 wait] w (HushIs w S) := by
  have s1 : wrap64 (now + wait) = now + wait := IntWalk.wrap64_in _ (by omega)
  have s2 : IntKind.i64.wrap (now + wait) = now + wait := IntWalk.i64_in _ (by omega)
  have q1 : decide (d = 0) = false := by simpa using h3
  have q2 : (d == 0) = false := by simpa using h3
  have q5 : (if now + wait > d then now + wait else d) = S := hS
  clear h1 h2 h3 h5 h6
  obtain ⟨t0, t1, hb⟩ := two_alloc w (.cells #[.int .i64 d] 23) (.cells #[.int .i64 0] 23)
  have e0 := cells1 t0
  obtain ⟨W, hW⟩ : ∃ W, (w.alloc (.cells #[.int .i64 d] 23)).alloc (.cells #[.int .i64 0] 23) = W := ⟨_, rfl⟩
  rw [hW] at t0 t1 hb e0
  have HW := hidT hW
  have T0 := hidT t0
  have T1 := hidT t1
  have HB := hidT hb
  clear t0 t1 hb hW
  go_enter Try.func12, Try.ntmps12
  go_wp2_with fail
  rw [HW.out]
  with_reducible refine (watched_any d W).mono ?_
  rintro e w1 ⟨rfl, hb1⟩
  have y0 := keepH T0.out hb1
  have y1 := keepH T1.out hb1
  have HB1 := hidT (bthen HB.out hb1)
  have f0 := no_frozen y0 0
  have f1 := no_frozen y1 0
  have c0 := cells1 y0
  have c1 := cells1 y1
  have Y1 := hidT y1
  clear y0 y1 e0 hb1
  go_wp2_with fail
  have z := set_two (a0 := .int .i64 0) Y1.out (g0 := w.heap.size) (by omega) (.int .i64 S) (.int .i64 S)
  exact bodyPost_ret (v := .agg #[.int .i64 S]) (by simp [results, Try.results12, go_sem, z]) rfl ⟨rfl, (HB1.out.setCell (p := ⟨w.heap.size, 0, none⟩) (Nat.le_refl _) _).setCell (p := ⟨w.heap.size + 1, 0, none⟩) (by show w.heap.size ≤ w.heap.size + 1; omega) _⟩
theorem hush_any (d now wait : Int) (w : World) (h1 : 0 ≤ now) (h2 : now ≤ 4611686018427387904) (h3 : 1 ≤ wait) (h4 : wait ≤ 1000) :
    Calls Try.prog 12 #[.agg #[.int .i64 d], .int .i64 now, .int .i64 wait] w (HushIs w (Ask.hush d now wait)) := by
  by_cases h : d = 0
  · subst h
    exact hush_none now wait w
  · exact hush_on d now wait _ w h1 h2 h h3 h4 (by rw [Ask.hush, if_neg h])
end Go.Proofs.Ytkmogmdekpdbpaa
