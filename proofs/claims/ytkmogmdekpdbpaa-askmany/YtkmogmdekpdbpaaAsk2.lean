/- What the document's Step, Hush and May of chapter 10 come to. -/
import Derived.Test.YtkmogmdekpdbpaaAsk1
set_option maxRecDepth 100000
namespace Go.Proofs.Ytkmogmdekpdbpaa
open Go.RowKit
set_option linter.unusedVariables false

theorem rmay_any (now wait : Int) (w : World) (t : Bool) (ht : Ask.may now wait = t) : Calls Try.prog 9 #[.int .i64 now, .int .i64 wait] w (fun e w' => e = .returned (.bool t) ∧ w' = w) := by
  by_cases h0 : 0 ≤ now
  case neg =>
    have q0 : decide (0 ≤ now) = false := by simpa using h0
    have e : false = t := by rw [← ht]; unfold Ask.may; rw [q0]; rfl
    clear ht h0
    subst e
    go_enter Try.func9, Try.ntmps9
    go_wp2
    go_ret
    exact ⟨rfl, rfl⟩
  by_cases h1 : now ≤ 4611686018427387904
  case neg =>
    have q0 : decide (0 ≤ now) = true := by simpa using h0
    have q1 : decide (now ≤ 4611686018427387904) = false := by simpa using h1
    have e : false = t := by rw [← ht]; unfold Ask.may; rw [q0, q1]; rfl
    clear ht h0 h1
    subst e
    go_enter Try.func9, Try.ntmps9
    go_wp2
    go_ret
    exact ⟨rfl, rfl⟩
  by_cases h2 : 1 ≤ wait
  case neg =>
    have q0 : decide (0 ≤ now) = true := by simpa using h0
    have q1 : decide (now ≤ 4611686018427387904) = true := by simpa using h1
    have q2 : decide (1 ≤ wait) = false := by simpa using h2
    have e : false = t := by rw [← ht]; unfold Ask.may; rw [q0, q1, q2]; rfl
    clear ht h0 h1 h2
    subst e
    go_enter Try.func9, Try.ntmps9
    go_wp2
    go_ret
    exact ⟨rfl, rfl⟩
  by_cases h3 : wait ≤ 1000
  case neg =>
    have q0 : decide (0 ≤ now) = true := by simpa using h0
    have q1 : decide (now ≤ 4611686018427387904) = true := by simpa using h1
    have q2 : decide (1 ≤ wait) = true := by simpa using h2
    have q3 : decide (wait ≤ 1000) = false := by simpa using h3
    have e : false = t := by rw [← ht]; unfold Ask.may; rw [q0, q1, q2, q3]; rfl
    clear ht h0 h1 h2 h3
    subst e
    go_enter Try.func9, Try.ntmps9
    go_wp2
    go_ret
    exact ⟨rfl, rfl⟩
  have q0 : decide (0 ≤ now) = true := by simpa using h0
  have q1 : decide (now ≤ 4611686018427387904) = true := by simpa using h1
  have q2 : decide (1 ≤ wait) = true := by simpa using h2
  have q3 : decide (wait ≤ 1000) = true := by simpa using h3
  have e : true = t := by rw [← ht]; unfold Ask.may; rw [q0, q1, q2, q3]; rfl
  clear ht h0 h1 h2 h3
  subst e
  go_enter Try.func9, Try.ntmps9
  go_wp2
  go_ret
  exact ⟨rfl, rfl⟩
set_option maxHeartbeats 2000000 in
theorem rstep_none (d now wait : Int) (w : World) : Calls Try.prog 11 #[.agg #[.int .i64 d], .int .i64 now, .int .i64 wait, .bool false] w (StepIs w 0 false) := by
  obtain ⟨t0, t1, hb⟩ := two_alloc w (.cells #[.int .i64 d] 23) (.cells #[.int .i64 0] 23)
  have e0 := cells1 t0
  have f1 := no_frozen t1 0
  have hx := (two_alloc w (.cells #[.int .i64 d] 23) (.cells #[.int .i64 0] 23)).2.2
  have e1 := cells1 t1
  have HX := hidT hx
  clear t0 t1 hb hx
  go_enter Try.func11, Try.ntmps11
  go_wp2_with fail
  exact bodyPost_ret (v := .tuple #[.agg #[.int .i64 0], .bool false]) (by simp [results, Try.results11, go_sem]) rfl ⟨rfl, HX.out⟩
set_option maxHeartbeats 2000000 in
theorem rstep_new (now wait : Int) (w : World) (h1 : 0 ≤ now) (h2 : now ≤ 4611686018427387904) : Calls Try.prog 11 #[.agg #[.int .i64 0], .int .i64 now, .int .i64 wait, .bool true] w (StepIs w (now + 1) false) := by
  have s1 : wrap64 (now + 1) = now + 1 := IntWalk.wrap64_in _ (by omega)
  have s2 : IntKind.i64.wrap (now + 1) = now + 1 := IntWalk.i64_in _ (by omega)
  clear h1 h2
  obtain ⟨t0, t1, hb⟩ := two_alloc w (.cells #[.int .i64 0] 23) (.cells #[.int .i64 0] 23)
  have e0 := cells1 t0
  have f1 := no_frozen t1 0
  have hx := (two_alloc w (.cells #[.int .i64 0] 23) (.cells #[.int .i64 (now + 1)] 23)).2.2
  have e1 := cells1 t1
  have HX := hidT hx
  clear t0 t1 hb hx
  go_enter Try.func11, Try.ntmps11
  go_wp2_with fail
  exact bodyPost_ret (v := .tuple #[.agg #[.int .i64 (now + 1)], .bool false]) (by simp [results, Try.results11, go_sem]) rfl ⟨rfl, HX.out⟩
set_option maxHeartbeats 2000000 in
theorem rstep_time (d now wait : Int) (w : World) (h1 : 0 ≤ now) (h2 : now ≤ 4611686018427387904) (h3 : d ≠ 0) (h4 : d ≤ now) (h5 : 1 ≤ wait) (h6 : wait ≤ 1000) : Calls Try.prog 11 #[.agg #[.int .i64 d], .int .i64 now, .int .i64 wait, .bool true] w (StepIs w (now + wait) true) := by
  have s1 : wrap64 (now + wait) = now + wait := IntWalk.wrap64_in _ (by omega)
  have s2 : IntKind.i64.wrap (now + wait) = now + wait := IntWalk.i64_in _ (by omega)
  have q1 : decide (d = 0) = false := by simpa using h3
  have q2 : (d == 0) = false := by simpa using h3
  have q3 : (d != 0) = true := by simpa using h3
  have q4 : decide (d ≤ now) = true := by simpa using h4
  clear h1 h2 h3 h4 h5 h6
  obtain ⟨t0, t1, hb⟩ := two_alloc w (.cells #[.int .i64 d] 23) (.cells #[.int .i64 0] 23)
  have e0 := cells1 t0
  have f1 := no_frozen t1 0
  have hx := (two_alloc w (.cells #[.int .i64 d] 23) (.cells #[.int .i64 (now + wait)] 23)).2.2
  have e1 := cells1 t1
  have HX := hidT hx
  clear t0 t1 hb hx
  go_enter Try.func11, Try.ntmps11
  go_wp2_with fail
  exact bodyPost_ret (v := .tuple #[.agg #[.int .i64 (now + wait)], .bool true]) (by simp [results, Try.results11, go_sem]) rfl ⟨rfl, HX.out⟩
set_option maxHeartbeats 2000000 in
theorem rstep_later (d now wait : Int) (w : World) (h3 : d ≠ 0) (h4 : now < d) : Calls Try.prog 11 #[.agg #[.int .i64 d], .int .i64 now, .int .i64 wait, .bool true] w (StepIs w d false) := by
  have q1 : decide (d = 0) = false := by simpa using h3
  have q2 : (d == 0) = false := by simpa using h3
  have q3 : (d != 0) = true := by simpa using h3
  have q4 : decide (d ≤ now) = false := by simpa using h4
  clear h3 h4
  obtain ⟨t0, t1, hb⟩ := two_alloc w (.cells #[.int .i64 d] 23) (.cells #[.int .i64 0] 23)
  have e0 := cells1 t0
  have f1 := no_frozen t1 0
  have hx := (two_alloc w (.cells #[.int .i64 d] 23) (.cells #[.int .i64 d] 23)).2.2
  have e1 := cells1 t1
  have HX := hidT hx
  clear t0 t1 hb hx
  go_enter Try.func11, Try.ntmps11
  go_wp2_with fail
  exact bodyPost_ret (v := .tuple #[.agg #[.int .i64 d], .bool false]) (by simp [results, Try.results11, go_sem]) rfl ⟨rfl, HX.out⟩
theorem rstep_any (d now wait : Int) (gap : Bool) (w : World) (h1 : 0 ≤ now) (h2 : now ≤ 4611686018427387904) (h3 : 1 ≤ wait) (h4 : wait ≤ 1000) :
    Calls Try.prog 11 #[.agg #[.int .i64 d], .int .i64 now, .int .i64 wait, .bool gap] w (StepIs w (Ask.due d now wait gap) (Ask.yes d now gap)) := by
  cases gap with
  | false => rw [Ask.due_none, Ask.yes_none]; exact rstep_none d now wait w
  | true =>
    by_cases h : d = 0
    · subst h
      rw [Ask.due_new, Ask.yes_new]
      exact rstep_new now wait w h1 h2
    · by_cases h5 : d ≤ now
      · rw [Ask.due_time wait h h5, Ask.yes_time h h5]
        exact rstep_time d now wait w h1 h2 h h5 h3 h4
      · rw [Ask.due_later wait h (by omega), Ask.yes_later (by omega)]
        exact rstep_later d now wait w h (by omega)

set_option maxHeartbeats 2000000 in
theorem rhush_none (now wait : Int) (w : World) : Calls Try.prog 13 #[.agg #[.int .i64 0], .int .i64 now, .int .i64 wait] w (HushIs w 0) := by
  obtain ⟨t0, t1, hb⟩ := two_alloc w (.cells #[.int .i64 0] 23) (.cells #[.int .i64 0] 23)
  have e0 := cells1 t0
  have f1 := no_frozen t1 0
  have hx := (two_alloc w (.cells #[.int .i64 0] 23) (.cells #[.int .i64 0] 23)).2.2
  have e1 := cells1 t1
  have HX := hidT hx
  clear t0 t1 hb hx
  go_enter Try.func13, Try.ntmps13
  go_wp2_with fail
  exact bodyPost_ret (v := .agg #[.int .i64 0]) (by simp [results, Try.results13, go_sem]) rfl ⟨rfl, HX.out⟩
set_option maxHeartbeats 2000000 in
theorem rhush_on (d now wait : Int) (w : World) (h1 : 0 ≤ now) (h2 : now ≤ 4611686018427387904) (h3 : d ≠ 0) (h4 : d < now + wait) (h5 : 1 ≤ wait) (h6 : wait ≤ 1000) : Calls Try.prog 13 #[.agg #[.int .i64 d], .int .i64 now, .int .i64 wait] w (HushIs w (now + wait)) := by
  have s1 : wrap64 (now + wait) = now + wait := IntWalk.wrap64_in _ (by omega)
  have s2 : IntKind.i64.wrap (now + wait) = now + wait := IntWalk.i64_in _ (by omega)
  have q1 : decide (d = 0) = false := by simpa using h3
  have q2 : (d == 0) = false := by simpa using h3
  have q3 : (d != 0) = true := by simpa using h3
  have q4 : decide (d < now + wait) = true := by simpa using h4
  clear h1 h2 h3 h4 h5 h6
  obtain ⟨t0, t1, hb⟩ := two_alloc w (.cells #[.int .i64 d] 23) (.cells #[.int .i64 0] 23)
  have e0 := cells1 t0
  have f1 := no_frozen t1 0
  have hx := (two_alloc w (.cells #[.int .i64 d] 23) (.cells #[.int .i64 (now + wait)] 23)).2.2
  have e1 := cells1 t1
  have HX := hidT hx
  clear t0 t1 hb hx
  go_enter Try.func13, Try.ntmps13
  go_wp2_with fail
  exact bodyPost_ret (v := .agg #[.int .i64 (now + wait)]) (by simp [results, Try.results13, go_sem]) rfl ⟨rfl, HX.out⟩
set_option maxHeartbeats 2000000 in
theorem rhush_off (d now wait : Int) (w : World) (h1 : 0 ≤ now) (h2 : now ≤ 4611686018427387904) (h3 : d ≠ 0) (h4 : now + wait ≤ d) (h5 : 1 ≤ wait) (h6 : wait ≤ 1000) : Calls Try.prog 13 #[.agg #[.int .i64 d], .int .i64 now, .int .i64 wait] w (HushIs w d) := by
  have s1 : wrap64 (now + wait) = now + wait := IntWalk.wrap64_in _ (by omega)
  have s2 : IntKind.i64.wrap (now + wait) = now + wait := IntWalk.i64_in _ (by omega)
  have q1 : decide (d = 0) = false := by simpa using h3
  have q2 : (d == 0) = false := by simpa using h3
  have q3 : (d != 0) = true := by simpa using h3
  have q4 : decide (d < now + wait) = false := by simpa using h4
  clear h1 h2 h3 h4 h5 h6
  obtain ⟨t0, t1, hb⟩ := two_alloc w (.cells #[.int .i64 d] 23) (.cells #[.int .i64 0] 23)
  have e0 := cells1 t0
  have f1 := no_frozen t1 0
  have hx := (two_alloc w (.cells #[.int .i64 d] 23) (.cells #[.int .i64 d] 23)).2.2
  have e1 := cells1 t1
  have HX := hidT hx
  clear t0 t1 hb hx
  go_enter Try.func13, Try.ntmps13
  go_wp2_with fail
  exact bodyPost_ret (v := .agg #[.int .i64 d]) (by simp [results, Try.results13, go_sem]) rfl ⟨rfl, HX.out⟩
theorem rhush_any (d now wait : Int) (w : World) (h1 : 0 ≤ now) (h2 : now ≤ 4611686018427387904) (h3 : 1 ≤ wait) (h4 : wait ≤ 1000) :
    Calls Try.prog 13 #[.agg #[.int .i64 d], .int .i64 now, .int .i64 wait] w (HushIs w (Ask.hush d now wait)) := by
  unfold Ask.hush
  by_cases h : d = 0
  · subst h
    rw [if_pos rfl]
    exact rhush_none now wait w
  · rw [if_neg h]
    by_cases h5 : d < now + wait
    · rw [if_pos h5]
      exact rhush_on d now wait w h1 h2 h h5 h3 h4
    · rw [if_neg h5]
      exact rhush_off d now wait w h1 h2 h (by omega) h3 h4
end Go.Proofs.Ytkmogmdekpdbpaa
