/- The law AskTells, walked. -/
import Derived.Test.YtkmogmdekpdbpaaAskShown
import Derived.Deep.RegionHeld3
set_option maxRecDepth 100000
namespace Go.Proofs.Ytkmogmdekpdbpaa
open Go.RowKit
set_option linter.unusedVariables false

theorem cells4 {w : World} {g : Nat} {a0 a1 a2 a3 : Value} {t : TypeId} (h : w.heap[g]? = some (.cells #[a0, a1, a2, a3] t (0, 0))) : w.cell? ⟨g, 0, none⟩ = some a0 ∧ w.cell? ⟨g, 1, none⟩ = some a1 ∧ w.cell? ⟨g, 2, none⟩ = some a2 ∧ w.cell? ⟨g, 3, none⟩ = some a3 :=
  ⟨cell_at h 0 rfl, cell_at h 1 rfl, cell_at h 2 rfl, cell_at h 3 rfl⟩
set_option maxHeartbeats 4000000 in
theorem atells_no (d now wait : Int) (gap : Bool) (w : World) (ht : Ask.may now wait = false) : Calls Try.prog 3 #[.agg #[.int .i64 d, .int .i64 now, .int .i64 wait, .bool gap]] w (Yes w) := by
  obtain ⟨t1, t2, t3⟩ := two_alloc w (.cells #[.int .i64 d, .int .i64 now, .int .i64 wait, .bool gap] 25) (.cells #[.int .i64 d] 23)
  obtain ⟨i0, i1, i2, i3⟩ := cells4 (alloc_at w (.cells #[.int .i64 d, .int .i64 now, .int .i64 wait, .bool gap] 25) _ rfl)
  obtain ⟨j0, j1, j2, j3⟩ := cells4 t1
  obtain ⟨W, hW⟩ : ∃ W, (w.alloc (.cells #[.int .i64 d, .int .i64 now, .int .i64 wait, .bool gap] 25)).alloc (.cells #[.int .i64 d] 23) = W := ⟨_, rfl⟩
  rw [hW] at t2 t3
  have HW := hidT hW
  clear t1 hW
  obtain ⟨g, hg⟩ : ∃ g, w.heap.size + 1 = g := ⟨_, rfl⟩
  rw [hg] at t2
  have B_0 := hidT (t3)
  have A_0 := hidT (t2)
  clear t2 t3
  go_enter Try.func3, Try.ntmps3
  go_wp2_with fail
  rw [HW.out]
  clear hg i0 i1 i2 i3 j0 j1 j2 j3
  have hp := ashown_any W
  with_reducible refine hp.mono ?_
  rintro e w1 ⟨rfl, hw1⟩
  have B_1 := hidT (bthen B_0.out hw1)
  have A_1 := hidT (keepH A_0.out hw1)
  clear B_0 A_0
  clear hw1 hp
  have hp := rmay_any now wait w1 false ht
  go_wp2_with fail
  with_reducible refine hp.mono ?_
  rintro e w2 ⟨rfl, rfl⟩
  clear hp
  go_wp2
  go_ret
  exact ⟨rfl, B_1.out⟩
set_option maxHeartbeats 4000000 in
theorem atells_yes (d now wait : Int) (gap : Bool) (w : World) (ht : Ask.may now wait = true) : Calls Try.prog 3 #[.agg #[.int .i64 d, .int .i64 now, .int .i64 wait, .bool gap]] w (Yes w) := by
  obtain ⟨t1, t2, t3⟩ := two_alloc w (.cells #[.int .i64 d, .int .i64 now, .int .i64 wait, .bool gap] 25) (.cells #[.int .i64 d] 23)
  obtain ⟨i0, i1, i2, i3⟩ := cells4 (alloc_at w (.cells #[.int .i64 d, .int .i64 now, .int .i64 wait, .bool gap] 25) _ rfl)
  obtain ⟨j0, j1, j2, j3⟩ := cells4 t1
  obtain ⟨W, hW⟩ : ∃ W, (w.alloc (.cells #[.int .i64 d, .int .i64 now, .int .i64 wait, .bool gap] 25)).alloc (.cells #[.int .i64 d] 23) = W := ⟨_, rfl⟩
  rw [hW] at t2 t3
  have HW := hidT hW
  clear t1 hW
  obtain ⟨g, hg⟩ : ∃ g, w.heap.size + 1 = g := ⟨_, rfl⟩
  rw [hg] at t2
  have B_0 := hidT (t3)
  have A_0 := hidT (t2)
  clear t2 t3
  go_enter Try.func3, Try.ntmps3
  go_wp2_with fail
  rw [HW.out]
  clear hg i0 i1 i2 i3 j0 j1 j2 j3
  have hp := ashown_any W
  with_reducible refine hp.mono ?_
  rintro e w1 ⟨rfl, hw1⟩
  have B_1 := hidT (bthen B_0.out hw1)
  have A_1 := hidT (keepH A_0.out hw1)
  clear B_0 A_0
  clear hw1 hp
  have hp := rmay_any now wait w1 true ht
  go_wp2_with fail
  with_reducible refine hp.mono ?_
  rintro e w2 ⟨rfl, rfl⟩
  clear hp
  obtain ⟨n0, n1, w0, w1'⟩ := Ask.may_iff.1 ht
  obtain ⟨D, HD⟩ : ∃ D, Hid (Ask.due d now wait gap = D) := ⟨_, hidT rfl⟩
  obtain ⟨T, HT⟩ : ∃ T, Hid (Ask.yes d now gap = T) := ⟨_, hidT rfl⟩
  obtain ⟨S, HS⟩ : ∃ S, Hid (Ask.hush d now wait = S) := ⟨_, hidT rfl⟩
  have a0 := cells1 A_1.out
  have hp := step_any d now wait gap w2 n0 n1 w0 w1'
  rw [HD.out, HT.out] at hp
  go_wp2_with fail
  with_reducible refine hp.mono ?_
  rintro e w3 ⟨rfl, hw3⟩
  have B_2 := hidT (bthen B_1.out hw3)
  have A_2 := hidT (keepH A_1.out hw3)
  clear B_1 A_1
  clear hw3 hp a0
  have t1 := alloc_at w3 (.cells #[.int .i64 D] 23) _ rfl
  have t3 := nkeep w3 (.cells #[.int .i64 D] 23)
  obtain ⟨Vw3, hVw3⟩ : ∃ W, w3.alloc (.cells #[.int .i64 D] 23) = W := ⟨_, rfl⟩
  rw [hVw3] at t1 t3
  have HVw3 := hidT hVw3
  have B_3 := hidT (bthen B_2.out t3)
  have A_3 := hidT (keepH A_2.out t3)
  clear B_2 A_2
  obtain ⟨gw3, hgw3⟩ : ∃ p, w3.heap.size = p := ⟨_, rfl⟩
  rw [hgw3] at t1
  have X_0 := hidT (t1)
  clear t1 t3 hVw3
  have a0 := cells1 A_3.out
  have hp := rstep_any d now wait gap Vw3 n0 n1 w0 w1'
  rw [HD.out, HT.out] at hp
  rw [← HVw3.out] at a0
  go_wp2_with fail
  rw [HVw3.out]
  clear hgw3
  with_reducible refine hp.mono ?_
  rintro e w4 ⟨rfl, hw4⟩
  have B_4 := hidT (bthen B_3.out hw4)
  have A_4 := hidT (keepH A_3.out hw4)
  have X_1 := hidT (keepH X_0.out hw4)
  clear B_3 A_3 X_0
  clear hw4 hp a0
  have t1 := alloc_at w4 (.cells #[.int .i64 D] 23) _ rfl
  have t3 := nkeep w4 (.cells #[.int .i64 D] 23)
  obtain ⟨Vw4, hVw4⟩ : ∃ W, w4.alloc (.cells #[.int .i64 D] 23) = W := ⟨_, rfl⟩
  rw [hVw4] at t1 t3
  have HVw4 := hidT hVw4
  have B_5 := hidT (bthen B_4.out t3)
  have A_5 := hidT (keepH A_4.out t3)
  have X_2 := hidT (keepH X_1.out t3)
  clear B_4 A_4 X_1
  obtain ⟨gw4, hgw4⟩ : ∃ p, w4.heap.size = p := ⟨_, rfl⟩
  rw [hgw4] at t1
  have Y_0 := hidT (t1)
  clear t1 t3 hVw4
  have a0 := cells1 A_5.out
  have x0 := cells1 X_2.out
  have y0 := cells1 Y_0.out
  rw [← HVw4.out] at a0 x0 y0
  go_wp2_with fail
  rw [HVw4.out]
  rw [HVw4.out] at a0 x0 y0
  clear hgw4
  have HU : Hid (∀ w, Calls Try.prog 12 #[.agg #[.int .i64 d], .int .i64 now, .int .i64 wait] w (HushIs w S)) := hidT fun w => by
    have h := hush_any d now wait w n0 n1 w0 w1'
    rw [HS.out] at h
    exact h
  have HR : Hid (∀ w, Calls Try.prog 13 #[.agg #[.int .i64 d], .int .i64 now, .int .i64 wait] w (HushIs w S)) := hidT fun w => by
    have h := rhush_any d now wait w n0 n1 w0 w1'
    rw [HS.out] at h
    exact h
  clear ht n0 n1 w0 w1' HW
  have k0 := fun w' (hb : Below Vw4.heap.size Vw4 w') => cells1 (keepH A_5.out hb)
  have k1 := fun w' (hb : Below Vw4.heap.size Vw4 w') => cells1 (keepH X_2.out hb)
  have k2 := fun w' (hb : Below Vw4.heap.size Vw4 w') => cells1 (keepH Y_0.out hb)
  clear a0 x0 y0
  have D0 : Below Vw4.heap.size Vw4 Vw4 := Below.refl _ _
  go_region_held (fun w' => Below Vw4.heap.size Vw4 w')
    (first | exact (Below.refl _ _).drew | exact D0 | exact hb5 | exact hb6 | assumption)
    (first
      | (go_at_call 12; ((with_reducible refine (HU.out _).mono ?_); rintro e5 w5 ⟨rfl, hb5'⟩; have hb5 : Below Vw4.heap.size Vw4 w5 := undrew hb5'))
      | (go_at_call 13; ((with_reducible refine (HR.out _).mono ?_); rintro e6 w6 ⟨rfl, hb6'⟩; have hb6 : Below Vw4.heap.size Vw4 w6 := bthen hb5 hb6'))
      | fail)
  all_goals
    go_wp2
    go_ret
    exact ⟨rfl, bthen B_5.out hb6⟩
theorem atells_any (d now wait : Int) (gap : Bool) (w : World) : Calls Try.prog 3 #[.agg #[.int .i64 d, .int .i64 now, .int .i64 wait, .bool gap]] w (Yes w) := by
  cases h : Ask.may now wait with
  | false => exact atells_no d now wait gap w h
  | true => exact atells_yes d now wait gap w h
end Go.Proofs.Ytkmogmdekpdbpaa
