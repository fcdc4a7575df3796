/- The law RateTells, walked. -/
import Derived.Test.YtpobaecfmdpphaaRateShown
import Derived.Deep.RegionHeld3
set_option maxRecDepth 100000
namespace Go.Proofs.Ytpobaecfmdpphaa
open Go.RowKit
set_option linter.unusedVariables false

theorem cells6 {w : World} {g : Nat} {a0 a1 a2 a3 a4 a5 : Value} {t : TypeId} (h : w.heap[g]? = some (.cells #[a0, a1, a2, a3, a4, a5] t (0, 0))) : w.cell? ⟨g, 0, none⟩ = some a0 ∧ w.cell? ⟨g, 1, none⟩ = some a1 ∧ w.cell? ⟨g, 2, none⟩ = some a2 ∧ w.cell? ⟨g, 3, none⟩ = some a3 ∧ w.cell? ⟨g, 4, none⟩ = some a4 ∧ w.cell? ⟨g, 5, none⟩ = some a5 :=
  ⟨cell_at h 0 rfl, cell_at h 1 rfl, cell_at h 2 rfl, cell_at h 3 rfl, cell_at h 4 rfl, cell_at h 5 rfl⟩
set_option maxHeartbeats 4000000 in
theorem rtells_no (n l least most burst k : Int) (w : World) (ht : Rate.right n l least most burst = false) : Calls Try.prog 3 #[.agg #[.int .i64 n, .int .i64 l, .int .i64 least, .int .i64 most, .int .i64 burst, .int .i64 k]] w (Yes w) := by
  obtain ⟨t1, t2, t3⟩ := two_alloc w (.cells #[.int .i64 n, .int .i64 l, .int .i64 least, .int .i64 most, .int .i64 burst, .int .i64 k] 25) (.cells #[.int .i64 n, .int .i64 l] 23)
  obtain ⟨i0, i1, i2, i3, i4, i5⟩ := cells6 (alloc_at w (.cells #[.int .i64 n, .int .i64 l, .int .i64 least, .int .i64 most, .int .i64 burst, .int .i64 k] 25) _ rfl)
  obtain ⟨j0, j1, j2, j3, j4, j5⟩ := cells6 t1
  obtain ⟨W, hW⟩ : ∃ W, (w.alloc (.cells #[.int .i64 n, .int .i64 l, .int .i64 least, .int .i64 most, .int .i64 burst, .int .i64 k] 25)).alloc (.cells #[.int .i64 n, .int .i64 l] 23) = W := ⟨_, rfl⟩
  rw [hW] at t2 t3
  have HW := hidT hW
  clear t1 hW
  obtain ⟨g, hg⟩ : ∃ g, w.heap.size + 1 = g := ⟨_, rfl⟩
  rw [hg] at t2
  have B_0 := hidT (t3)
  have A_0 := hidT (t2)
  clear t2 t3
  go_enter Try.func3, Try.ntmps3
  go_wp2_with fail
  rw [HW.out]
  clear hg i0 i1 i2 i3 i4 i5 j0 j1 j2 j3 j4 j5
  have hp := rtshown_any W
  with_reducible refine hp.mono ?_
  rintro e w1 ⟨rfl, hw1⟩
  have B_1 := hidT (bthen B_0.out hw1)
  have A_1 := hidT (keepH A_0.out hw1)
  clear B_0 A_0
  clear hw1 hp
  obtain ⟨a0, a1⟩ := cells2 A_1.out
  have hp := rrright_any n l least most burst w1 false ht
  go_wp2_with fail
  with_reducible refine hp.mono ?_
  rintro e w2 ⟨rfl, hw2⟩
  have B_2 := hidT (bthen B_1.out hw2)
  have A_2 := hidT (keepH A_1.out hw2)
  clear B_1 A_1
  clear hw2 hp a0 a1
  obtain ⟨a0, a1⟩ := cells2 A_2.out
  have hp := rtright_any n l least most burst w2 false ht
  go_wp2_with fail
  with_reducible refine hp.mono ?_
  rintro e w3 ⟨rfl, hw3⟩
  have B_3 := hidT (bthen B_2.out hw3)
  have A_3 := hidT (keepH A_2.out hw3)
  clear B_2 A_2
  clear hw3 hp a0 a1
  go_wp2
  go_ret
  exact ⟨rfl, B_3.out⟩
set_option maxHeartbeats 8000000 in
theorem rtells_yes (n l least most burst k : Int) (w : World) (ht : Rate.right n l least most burst = true) : Calls Try.prog 3 #[.agg #[.int .i64 n, .int .i64 l, .int .i64 least, .int .i64 most, .int .i64 burst, .int .i64 k]] w (Yes w) := by
  obtain ⟨t1, t2, t3⟩ := two_alloc w (.cells #[.int .i64 n, .int .i64 l, .int .i64 least, .int .i64 most, .int .i64 burst, .int .i64 k] 25) (.cells #[.int .i64 n, .int .i64 l] 23)
  obtain ⟨i0, i1, i2, i3, i4, i5⟩ := cells6 (alloc_at w (.cells #[.int .i64 n, .int .i64 l, .int .i64 least, .int .i64 most, .int .i64 burst, .int .i64 k] 25) _ rfl)
  obtain ⟨j0, j1, j2, j3, j4, j5⟩ := cells6 t1
  obtain ⟨W, hW⟩ : ∃ W, (w.alloc (.cells #[.int .i64 n, .int .i64 l, .int .i64 least, .int .i64 most, .int .i64 burst, .int .i64 k] 25)).alloc (.cells #[.int .i64 n, .int .i64 l] 23) = W := ⟨_, rfl⟩
  rw [hW] at t2 t3
  have HW := hidT hW
  clear t1 hW
  obtain ⟨g, hg⟩ : ∃ g, w.heap.size + 1 = g := ⟨_, rfl⟩
  rw [hg] at t2
  have B_0 := hidT (t3)
  have A_0 := hidT (t2)
  clear t2 t3
  go_enter Try.func3, Try.ntmps3
  go_wp2_with fail
  rw [HW.out]
  clear hg i0 i1 i2 i3 i4 i5 j0 j1 j2 j3 j4 j5
  have hp := rtshown_any W
  with_reducible refine hp.mono ?_
  rintro e w1 ⟨rfl, hw1⟩
  have B_1 := hidT (bthen B_0.out hw1)
  have A_1 := hidT (keepH A_0.out hw1)
  clear B_0 A_0
  clear hw1 hp
  obtain ⟨a0, a1⟩ := cells2 A_1.out
  have hp := rrright_any n l least most burst w1 true ht
  go_wp2_with fail
  with_reducible refine hp.mono ?_
  rintro e w2 ⟨rfl, hw2⟩
  have B_2 := hidT (bthen B_1.out hw2)
  have A_2 := hidT (keepH A_1.out hw2)
  clear B_1 A_1
  clear hw2 hp a0 a1
  obtain ⟨a0, a1⟩ := cells2 A_2.out
  have hp := rtright_any n l least most burst w2 true ht
  go_wp2_with fail
  with_reducible refine hp.mono ?_
  rintro e w3 ⟨rfl, hw3⟩
  have B_3 := hidT (bthen B_2.out hw3)
  have A_3 := hidT (keepH A_2.out hw3)
  clear B_2 A_2
  clear hw3 hp a0 a1
  have hin : (0 ≤ n ∧ n ≤ 1048576) ∧ 0 ≤ l ∧ l ≤ 1048576 := by
    obtain ⟨⟨h1, h2, h3, h4, h5⟩, h6, h7, h8, h9⟩ := Rate.right_iff.1 ht
    exact ⟨⟨by omega, by omega⟩, by omega, by omega⟩
  obtain ⟨N, HN⟩ : ∃ N, Hid (Rate.more n least most k = N) := ⟨_, hidT rfl⟩
  obtain ⟨L, HL⟩ : ∃ L, Hid (Rate.left l N burst = L) := ⟨_, hidT rfl⟩
  obtain ⟨S, HS⟩ : ∃ S, Hid (Rate.spend l k = S) := ⟨_, hidT rfl⟩
  obtain ⟨Y, HY⟩ : ∃ Y, Hid (Rate.yes l k = Y) := ⟨_, hidT rfl⟩
  have HU : Hid (∀ w, Calls Try.prog 14 #[.agg #[.int .i64 n, .int .i64 l], .int .i64 least, .int .i64 most, .int .i64 burst, .int .i64 k] w (RateIs w N L)) := hidT fun w => by
    have h := rttick_any n l least most burst k w ht
    rw [HN.out, HL.out] at h
    exact h
  have HR : Hid (∀ w, Calls Try.prog 15 #[.agg #[.int .i64 n, .int .i64 l], .int .i64 least, .int .i64 most, .int .i64 burst, .int .i64 k] w (RateIs w N L)) := hidT fun w => by
    have h := rrtick_any n l least most burst k w ht
    rw [HN.out, HL.out] at h
    exact h
  obtain ⟨a0, a1⟩ := cells2 A_3.out
  have hp := rtspend_any n l k w3 hin.1 hin.2
  rw [HS.out, HY.out] at hp
  go_wp2_with fail
  with_reducible refine hp.mono ?_
  rintro e w4 ⟨rfl, hw4⟩
  have B_4 := hidT (bthen B_3.out hw4)
  have A_4 := hidT (keepH A_3.out hw4)
  clear B_3 A_3
  clear hw4 hp a0 a1
  have t1 := alloc_at w4 (.cells #[.int .i64 n, .int .i64 S] 23) _ rfl
  have t3 := nkeep w4 (.cells #[.int .i64 n, .int .i64 S] 23)
  obtain ⟨Vw4, hVw4⟩ : ∃ W, w4.alloc (.cells #[.int .i64 n, .int .i64 S] 23) = W := ⟨_, rfl⟩
  rw [hVw4] at t1 t3
  have HVw4 := hidT hVw4
  have B_5 := hidT (bthen B_4.out t3)
  have A_5 := hidT (keepH A_4.out t3)
  clear B_4 A_4
  obtain ⟨gw4, hgw4⟩ : ∃ p, w4.heap.size = p := ⟨_, rfl⟩
  rw [hgw4] at t1
  have X_0 := hidT (t1)
  clear t1 t3 hVw4
  obtain ⟨a0, a1⟩ := cells2 A_5.out
  have hp := rrspend_any n l k Vw4 hin.2
  rw [HS.out, HY.out] at hp
  rw [← HVw4.out] at a0 a1
  go_wp2_with fail
  rw [HVw4.out]
  clear hgw4
  with_reducible refine hp.mono ?_
  rintro e w5 ⟨rfl, hw5⟩
  have B_6 := hidT (bthen B_5.out hw5)
  have A_6 := hidT (keepH A_5.out hw5)
  have X_1 := hidT (keepH X_0.out hw5)
  clear B_5 A_5 X_0
  clear hw5 hp a0 a1
  have t1 := alloc_at w5 (.cells #[.int .i64 n, .int .i64 S] 23) _ rfl
  have t3 := nkeep w5 (.cells #[.int .i64 n, .int .i64 S] 23)
  obtain ⟨Vw5, hVw5⟩ : ∃ W, w5.alloc (.cells #[.int .i64 n, .int .i64 S] 23) = W := ⟨_, rfl⟩
  rw [hVw5] at t1 t3
  have HVw5 := hidT hVw5
  have B_7 := hidT (bthen B_6.out t3)
  have A_7 := hidT (keepH A_6.out t3)
  have X_2 := hidT (keepH X_1.out t3)
  clear B_6 A_6 X_1
  obtain ⟨gw5, hgw5⟩ : ∃ p, w5.heap.size = p := ⟨_, rfl⟩
  rw [hgw5] at t1
  have Y_0 := hidT (t1)
  clear t1 t3 hVw5
  obtain ⟨a0, a1⟩ := cells2 A_7.out
  obtain ⟨x0, x1⟩ := cells2 X_2.out
  obtain ⟨y0, y1⟩ := cells2 Y_0.out
  clear ht hin
  rw [← HVw5.out] at a0 a1 x0 x1 y0 y1
  go_wp2_with fail
  rw [HVw5.out]
  rw [HVw5.out] at a0 a1 x0 x1 y0 y1
  clear hgw5 a0 a1 x0 x1 y0 y1
  have ka0 := fun w' (hb : Below Vw5.heap.size Vw5 w') => (cells2 (keepH A_7.out hb)).1
  have ka1 := fun w' (hb : Below Vw5.heap.size Vw5 w') => (cells2 (keepH A_7.out hb)).2
  have kx0 := fun w' (hb : Below Vw5.heap.size Vw5 w') => (cells2 (keepH X_2.out hb)).1
  have kx1 := fun w' (hb : Below Vw5.heap.size Vw5 w') => (cells2 (keepH X_2.out hb)).2
  have ky0 := fun w' (hb : Below Vw5.heap.size Vw5 w') => (cells2 (keepH Y_0.out hb)).1
  have ky1 := fun w' (hb : Below Vw5.heap.size Vw5 w') => (cells2 (keepH Y_0.out hb)).2
  have f0 := fldR0
  have f1 := fldR1
  have D0 : Below Vw5.heap.size Vw5 Vw5 := Below.refl _ _
  go_region_held (fun w' => Below Vw5.heap.size Vw5 w')
    (first | exact (Below.refl _ _).drew | exact D0 | exact hb6 | exact hb7 | exact hb8 | exact hb9 | assumption)
    (first
      | (go_at_call 12; ((with_reducible refine (rtstart_any most burst _).mono ?_); rintro e6 v6 ⟨rfl, hb6'⟩; have hb6 : Below Vw5.heap.size Vw5 v6 := undrew hb6'))
      | (go_at_call 13; ((with_reducible refine (rrstart_any most burst _).mono ?_); rintro e7 v7 ⟨rfl, hb7'⟩; have hb7 : Below Vw5.heap.size Vw5 v7 := bthen hb6 hb7'))
      | (go_at_call 14; ((with_reducible refine (HU.out _).mono ?_); rintro e8 v8 ⟨rfl, hb8'⟩; have hb8 : Below Vw5.heap.size Vw5 v8 := bthen hb7 hb8'))
      | (go_at_call 15; ((with_reducible refine (HR.out _).mono ?_); rintro e9 v9 ⟨rfl, hb9'⟩; have hb9 : Below Vw5.heap.size Vw5 v9 := bthen hb8 hb9'))
      | fail)
  all_goals
    go_wp2
    go_ret
    exact ⟨rfl, bthen B_7.out hb9⟩
theorem rtells_any (n l least most burst k : Int) (w : World) : Calls Try.prog 3 #[.agg #[.int .i64 n, .int .i64 l, .int .i64 least, .int .i64 most, .int .i64 burst, .int .i64 k]] w (Yes w) := by
  cases h : Rate.right n l least most burst with
  | false => exact rtells_no n l least most burst k w h
  | true => exact rtells_yes n l least most burst k w h
end Go.Proofs.Ytpobaecfmdpphaa
