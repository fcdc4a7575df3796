/- The law RateStays, walked. -/
import Derived.Test.YtpobaecfmdpphaaRateShown
set_option maxRecDepth 100000
namespace Go.Proofs.Ytpobaecfmdpphaa
open Go.RowKit
set_option linter.unusedVariables false

theorem cells7 {w : World} {g : Nat} {a0 a1 a2 a3 a4 a5 a6 : Value} {t : TypeId} (h : w.heap[g]? = some (.cells #[a0, a1, a2, a3, a4, a5, a6] t (0, 0))) : w.cell? ⟨g, 0, none⟩ = some a0 ∧ w.cell? ⟨g, 1, none⟩ = some a1 ∧ w.cell? ⟨g, 2, none⟩ = some a2 ∧ w.cell? ⟨g, 3, none⟩ = some a3 ∧ w.cell? ⟨g, 4, none⟩ = some a4 ∧ w.cell? ⟨g, 5, none⟩ = some a5 ∧ w.cell? ⟨g, 6, none⟩ = some a6 :=
  ⟨cell_at h 0 rfl, cell_at h 1 rfl, cell_at h 2 rfl, cell_at h 3 rfl, cell_at h 4 rfl, cell_at h 5 rfl, cell_at h 6 rfl⟩
theorem Rate.gap_less {n l least most burst : Int} (h : Rate.right n l least most burst = true) : Rate.more n least most 1 ≤ Rate.more n least most 0 ∧ Rate.left l (Rate.more n least most 1) burst ≤ Rate.left l (Rate.more n least most 0) burst := by
  obtain ⟨⟨h1, h2, h3, h4, h5⟩, h6, h7, h8, h9⟩ := Rate.right_iff.1 h
  have e : Rate.more n least most 1 ≤ Rate.more n least most 0 := by
    rw [Rate.more_gap n least most (show (0 : Int) < 1 by omega), Rate.more_none n least most (show ¬ (0 : Int) < 0 by omega)]
    split <;> split <;> omega
  refine ⟨e, ?_⟩
  generalize Rate.more n least most 1 = x at *
  generalize Rate.more n least most 0 = y at *
  unfold Rate.left
  split <;> split <;> omega
set_option maxHeartbeats 4000000 in
theorem rstays_no (n l least most burst k m : Int) (w : World) (ht : Rate.right n l least most burst = false) : Calls Try.prog 4 #[.agg #[.int .i64 n, .int .i64 l, .int .i64 least, .int .i64 most, .int .i64 burst, .int .i64 k, .int .i64 m]] w (Yes w) := by
  obtain ⟨t1, t2, t3⟩ := two_alloc w (.cells #[.int .i64 n, .int .i64 l, .int .i64 least, .int .i64 most, .int .i64 burst, .int .i64 k, .int .i64 m] 34) (.cells #[.int .i64 n, .int .i64 l] 23)
  obtain ⟨i0, i1, i2, i3, i4, i5, i6⟩ := cells7 (alloc_at w (.cells #[.int .i64 n, .int .i64 l, .int .i64 least, .int .i64 most, .int .i64 burst, .int .i64 k, .int .i64 m] 34) _ rfl)
  obtain ⟨j0, j1, j2, j3, j4, j5, j6⟩ := cells7 t1
  obtain ⟨W, hW⟩ : ∃ W, (w.alloc (.cells #[.int .i64 n, .int .i64 l, .int .i64 least, .int .i64 most, .int .i64 burst, .int .i64 k, .int .i64 m] 34)).alloc (.cells #[.int .i64 n, .int .i64 l] 23) = W := ⟨_, rfl⟩
  rw [hW] at t2 t3
  have HW := hidT hW
  clear t1 hW
  obtain ⟨g, hg⟩ : ∃ g, w.heap.size + 1 = g := ⟨_, rfl⟩
  rw [hg] at t2
  have B_0 := hidT (t3)
  have A_0 := hidT (t2)
  clear t2 t3
  go_enter Try.func4, Try.ntmps4
  go_wp2_with fail
  rw [HW.out]
  clear hg i0 i1 i2 i3 i4 i5 i6 j0 j1 j2 j3 j4 j5 j6
  have hp := rtshown_any W
  with_reducible refine hp.mono ?_
  rintro e w1 ⟨rfl, hw1⟩
  have B_1 := hidT (bthen B_0.out hw1)
  have A_1 := hidT (keepH A_0.out hw1)
  clear B_0 A_0
  clear hw1 hp
  obtain ⟨a0, a1⟩ := cells2 A_1.out
  have hp := rtright_any n l least most burst w1 false ht
  go_wp2_with fail
  with_reducible refine hp.mono ?_
  rintro e w3 ⟨rfl, hw3⟩
  have B_2 := hidT (bthen B_1.out hw3)
  have A_2 := hidT (keepH A_1.out hw3)
  clear B_1 A_1
  clear hw3 hp a0 a1
  go_wp2
  go_ret
  exact ⟨rfl, B_2.out⟩
set_option maxHeartbeats 8000000 in
theorem rstays_under (n l least most burst k m : Int) (w : World) (ht : Rate.right n l least most burst = true) (z : k < 0) : Calls Try.prog 4 #[.agg #[.int .i64 n, .int .i64 l, .int .i64 least, .int .i64 most, .int .i64 burst, .int .i64 k, .int .i64 m]] w (Yes w) := by
  obtain ⟨t1, t2, t3⟩ := two_alloc w (.cells #[.int .i64 n, .int .i64 l, .int .i64 least, .int .i64 most, .int .i64 burst, .int .i64 k, .int .i64 m] 34) (.cells #[.int .i64 n, .int .i64 l] 23)
  obtain ⟨i0, i1, i2, i3, i4, i5, i6⟩ := cells7 (alloc_at w (.cells #[.int .i64 n, .int .i64 l, .int .i64 least, .int .i64 most, .int .i64 burst, .int .i64 k, .int .i64 m] 34) _ rfl)
  obtain ⟨j0, j1, j2, j3, j4, j5, j6⟩ := cells7 t1
  obtain ⟨W, hW⟩ : ∃ W, (w.alloc (.cells #[.int .i64 n, .int .i64 l, .int .i64 least, .int .i64 most, .int .i64 burst, .int .i64 k, .int .i64 m] 34)).alloc (.cells #[.int .i64 n, .int .i64 l] 23) = W := ⟨_, rfl⟩
  rw [hW] at t2 t3
  have HW := hidT hW
  clear t1 hW
  obtain ⟨g, hg⟩ : ∃ g, w.heap.size + 1 = g := ⟨_, rfl⟩
  rw [hg] at t2
  have B_0 := hidT (t3)
  have A_0 := hidT (t2)
  clear t2 t3
  go_enter Try.func4, Try.ntmps4
  go_wp2_with fail
  rw [HW.out]
  clear hg i0 i1 i2 i3 i4 i5 i6 j0 j1 j2 j3 j4 j5 j6
  have hp := rtshown_any W
  with_reducible refine hp.mono ?_
  rintro e w1 ⟨rfl, hw1⟩
  have B_1 := hidT (bthen B_0.out hw1)
  have A_1 := hidT (keepH A_0.out hw1)
  clear B_0 A_0
  clear hw1 hp
  obtain ⟨a0, a1⟩ := cells2 A_1.out
  have hp := rtright_any n l least most burst w1 true ht
  go_wp2_with fail
  with_reducible refine hp.mono ?_
  rintro e w3 ⟨rfl, hw3⟩
  have B_2 := hidT (bthen B_1.out hw3)
  have A_2 := hidT (keepH A_1.out hw3)
  clear B_1 A_1
  clear hw3 hp a0 a1
  obtain ⟨⟨h1, h2, h3, h4, h5⟩, h6, h7, h8, h9⟩ := Rate.right_iff.1 ht
  obtain ⟨gl1, gl2⟩ := Rate.gap_less ht
  have ha := Rate.more_in m h1 h6 h7
  have hl := (Rate.left_in (m := Rate.more n least most m) h8 h9 (by omega)).1
  have hin : (0 ≤ n ∧ n ≤ 1048576) ∧ 0 ≤ l ∧ l ≤ 1048576 := ⟨⟨by omega, by omega⟩, by omega, by omega⟩
  have hrx := Rate.right_tick m ht
  have hry := Rate.right_spend k ht
  have hrs := Rate.right_start (Rate.may_iff.2 ⟨h1, h2, h3, h4, h5⟩)
  have eS : Rate.spend l k = l := by unfold Rate.spend; rw [if_neg (fun e => by have := Rate.yes_iff.1 e; omega)]
  have eY : Rate.yes l k = false := by rw [Bool.eq_false_iff]; intro e; have := Rate.yes_iff.1 e; omega
  rw [eS] at hry
  have c0 : decide (least < 1) = false := by simp; omega
  have c1 : decide (most < least) = false := by simp; omega
  have c2 : decide (1048576 < most) = false := by simp; omega
  have c3 : decide (burst < 1) = false := by simp; omega
  have c4 : decide (1048576 < burst) = false := by simp; omega
  have c5 : decide (n < least) = false := by simp; omega
  have c6 : decide (most < n) = false := by simp; omega
  have c7 : decide (l < 0) = false := by simp; omega
  have c8 : decide (burst < l) = false := by simp; omega
  have z0 : decide (0 ≤ k) = false := by simp; omega
  have hp0 : ∀ w, Calls Try.prog 14 #[.agg #[.int .i64 n, .int .i64 l], .int .i64 least, .int .i64 most, .int .i64 burst, .int .i64 m] w (RateIs w (Rate.more n least most m) (Rate.left l (Rate.more n least most m) burst)) := fun w => rttick_any n l least most burst m w ht
  have hp1 : ∀ w, Calls Try.prog 14 #[.agg #[.int .i64 n, .int .i64 l], .int .i64 least, .int .i64 most, .int .i64 burst, .int .i64 0] w (RateIs w (Rate.more n least most 0) (Rate.left l (Rate.more n least most 0) burst)) := fun w => rttick_any n l least most burst 0 w ht
  have hp2 : ∀ w, Calls Try.prog 14 #[.agg #[.int .i64 n, .int .i64 l], .int .i64 least, .int .i64 most, .int .i64 burst, .int .i64 1] w (RateIs w (Rate.more n least most 1) (Rate.left l (Rate.more n least most 1) burst)) := fun w => rttick_any n l least most burst 1 w ht
  obtain ⟨N, eN⟩ : ∃ q, Rate.more n least most m = q := ⟨_, rfl⟩
  rw [eN] at hp0 hl hrx
  obtain ⟨L, eL⟩ : ∃ q, Rate.left l N burst = q := ⟨_, rfl⟩
  rw [eL] at hp0 hl hrx
  have HP0 := hidT hp0
  clear hp0 eN eL
  obtain ⟨P, eP⟩ : ∃ q, Rate.more n least most 0 = q := ⟨_, rfl⟩
  rw [eP] at hp1 gl1 gl2
  obtain ⟨Q, eQ⟩ : ∃ q, Rate.left l P burst = q := ⟨_, rfl⟩
  rw [eQ] at hp1 gl2
  have HP1 := hidT hp1
  clear hp1 eP eQ
  obtain ⟨U, eU⟩ : ∃ q, Rate.more n least most 1 = q := ⟨_, rfl⟩
  rw [eU] at hp2 gl1 gl2
  obtain ⟨V, eV⟩ : ∃ q, Rate.left l U burst = q := ⟨_, rfl⟩
  rw [eV] at hp2 gl2
  have HP2 := hidT hp2
  clear hp2 eU eV
  have d0 : decide (l ≤ L) = true := by simpa using hl
  have d1 : decide (U ≤ P) = true := by simpa using gl1
  have d2 : decide (V ≤ Q) = true := by simpa using gl2
  have HSP : Hid (∀ w, Calls Try.prog 10 #[.agg #[.int .i64 n, .int .i64 l], .int .i64 k] w (SpentIs w n l false)) := hidT fun w => by
    have h := rtspend_any n l k w hin.1 hin.2
    rw [eS, eY] at h
    exact h
  have HRX := hidT hrx
  have HRY := hidT hry
  have HRS := hidT hrs
  clear gl1 gl2 ha hl hin hrx hry hrs eS eY ht h1 h2 h3 h4 h5 h6 h7 h8 h9 z
  obtain ⟨a0, a1⟩ := cells2 A_2.out
  have hp := HP0.out w3
  go_wp2_with fail
  with_reducible refine hp.mono ?_
  rintro e w4 ⟨rfl, hw4⟩
  have B_3 := hidT (bthen B_2.out hw4)
  have A_3 := hidT (keepH A_2.out hw4)
  clear B_2 A_2
  clear hw4 hp a0 a1
  have t1 := alloc_at w4 (.cells #[.int .i64 N, .int .i64 L] 23) _ rfl
  have t3 := nkeep w4 (.cells #[.int .i64 N, .int .i64 L] 23)
  obtain ⟨Vw4, hVw4⟩ : ∃ W, w4.alloc (.cells #[.int .i64 N, .int .i64 L] 23) = W := ⟨_, rfl⟩
  rw [hVw4] at t1 t3
  have HVw4 := hidT hVw4
  have B_4 := hidT (bthen B_3.out t3)
  have A_4 := hidT (keepH A_3.out t3)
  clear B_3 A_3
  obtain ⟨gw4, hgw4⟩ : ∃ p, w4.heap.size = p := ⟨_, rfl⟩
  rw [hgw4] at t1
  have X_0 := hidT (t1)
  clear t1 t3 hVw4
  have hp := HSP.out Vw4
  obtain ⟨a0, a1⟩ := cells2 A_4.out
  rw [← HVw4.out] at a0 a1
  go_wp2_with fail
  rw [HVw4.out]
  clear hgw4
  with_reducible refine hp.mono ?_
  rintro e w5 ⟨rfl, hw5⟩
  have B_5 := hidT (bthen B_4.out hw5)
  have A_5 := hidT (keepH A_4.out hw5)
  have X_1 := hidT (keepH X_0.out hw5)
  clear B_4 A_4 X_0
  clear hw5 hp a0 a1
  have t1 := alloc_at w5 (.cells #[.int .i64 n, .int .i64 l] 23) _ rfl
  have t3 := nkeep w5 (.cells #[.int .i64 n, .int .i64 l] 23)
  obtain ⟨Vw5, hVw5⟩ : ∃ W, w5.alloc (.cells #[.int .i64 n, .int .i64 l] 23) = W := ⟨_, rfl⟩
  rw [hVw5] at t1 t3
  have HVw5 := hidT hVw5
  have B_6 := hidT (bthen B_5.out t3)
  have A_6 := hidT (keepH A_5.out t3)
  have X_2 := hidT (keepH X_1.out t3)
  clear B_5 A_5 X_1
  obtain ⟨gw5, hgw5⟩ : ∃ p, w5.heap.size = p := ⟨_, rfl⟩
  rw [hgw5] at t1
  have Y_0 := hidT (t1)
  clear t1 t3 hVw5
  obtain ⟨a0, a1⟩ := cells2 A_6.out
  have hp := HP1.out Vw5
  rw [← HVw5.out] at a0 a1
  go_wp2_with fail
  rw [HVw5.out]
  clear hgw5
  with_reducible refine hp.mono ?_
  rintro e w6 ⟨rfl, hw6⟩
  have B_7 := hidT (bthen B_6.out hw6)
  have A_7 := hidT (keepH A_6.out hw6)
  have X_3 := hidT (keepH X_2.out hw6)
  have Y_1 := hidT (keepH Y_0.out hw6)
  clear B_6 A_6 X_2 Y_0
  clear hw6 hp a0 a1
  have t1 := alloc_at w6 (.cells #[.int .i64 P, .int .i64 Q] 23) _ rfl
  have t3 := nkeep w6 (.cells #[.int .i64 P, .int .i64 Q] 23)
  obtain ⟨Vw6, hVw6⟩ : ∃ W, w6.alloc (.cells #[.int .i64 P, .int .i64 Q] 23) = W := ⟨_, rfl⟩
  rw [hVw6] at t1 t3
  have HVw6 := hidT hVw6
  have B_8 := hidT (bthen B_7.out t3)
  have A_8 := hidT (keepH A_7.out t3)
  have X_4 := hidT (keepH X_3.out t3)
  have Y_2 := hidT (keepH Y_1.out t3)
  clear B_7 A_7 X_3 Y_1
  obtain ⟨gw6, hgw6⟩ : ∃ p, w6.heap.size = p := ⟨_, rfl⟩
  rw [hgw6] at t1
  have C_0 := hidT (t1)
  clear t1 t3 hVw6
  obtain ⟨a0, a1⟩ := cells2 A_8.out
  have hp := HP2.out Vw6
  rw [← HVw6.out] at a0 a1
  go_wp2_with fail
  rw [HVw6.out]
  clear hgw6
  with_reducible refine hp.mono ?_
  rintro e w7 ⟨rfl, hw7⟩
  have B_9 := hidT (bthen B_8.out hw7)
  have A_9 := hidT (keepH A_8.out hw7)
  have X_5 := hidT (keepH X_4.out hw7)
  have Y_3 := hidT (keepH Y_2.out hw7)
  have C_1 := hidT (keepH C_0.out hw7)
  clear B_8 A_8 X_4 Y_2 C_0
  clear hw7 hp a0 a1
  have t1 := alloc_at w7 (.cells #[.int .i64 U, .int .i64 V] 23) _ rfl
  have t3 := nkeep w7 (.cells #[.int .i64 U, .int .i64 V] 23)
  obtain ⟨Vw7, hVw7⟩ : ∃ W, w7.alloc (.cells #[.int .i64 U, .int .i64 V] 23) = W := ⟨_, rfl⟩
  rw [hVw7] at t1 t3
  have HVw7 := hidT hVw7
  have B_10 := hidT (bthen B_9.out t3)
  have A_10 := hidT (keepH A_9.out t3)
  have X_6 := hidT (keepH X_5.out t3)
  have Y_4 := hidT (keepH Y_3.out t3)
  have C_2 := hidT (keepH C_1.out t3)
  clear B_9 A_9 X_5 Y_3 C_1
  obtain ⟨gw7, hgw7⟩ : ∃ p, w7.heap.size = p := ⟨_, rfl⟩
  rw [hgw7] at t1
  have D_0 := hidT (t1)
  clear t1 t3 hVw7
  obtain ⟨x0, x1⟩ := cells2 X_6.out
  have hp := rtright_any N L least most burst Vw7 true HRX.out
  rw [← HVw7.out] at x0 x1
  go_wp2_with fail
  rw [HVw7.out]
  clear hgw7
  with_reducible refine hp.mono ?_
  rintro e w8 ⟨rfl, hw8⟩
  have B_11 := hidT (bthen B_10.out hw8)
  have A_11 := hidT (keepH A_10.out hw8)
  have X_7 := hidT (keepH X_6.out hw8)
  have Y_5 := hidT (keepH Y_4.out hw8)
  have C_3 := hidT (keepH C_2.out hw8)
  have D_1 := hidT (keepH D_0.out hw8)
  clear B_10 A_10 X_6 Y_4 C_2 D_0
  clear hw8 hp x0 x1
  obtain ⟨y0, y1⟩ := cells2 Y_5.out
  have hp := rtright_any n l least most burst w8 true HRY.out
  go_wp2_with fail
  with_reducible refine hp.mono ?_
  rintro e w9 ⟨rfl, hw9⟩
  have B_12 := hidT (bthen B_11.out hw9)
  have A_12 := hidT (keepH A_11.out hw9)
  have X_8 := hidT (keepH X_7.out hw9)
  have Y_6 := hidT (keepH Y_5.out hw9)
  have C_4 := hidT (keepH C_3.out hw9)
  have D_2 := hidT (keepH D_1.out hw9)
  clear B_11 A_11 X_7 Y_5 C_3 D_1
  clear hw9 hp y0 y1
  have hp := rtstart_any most burst w9
  go_wp2_with fail
  with_reducible refine hp.mono ?_
  rintro e w10 ⟨rfl, hw10⟩
  have B_13 := hidT (bthen B_12.out hw10)
  have A_13 := hidT (keepH A_12.out hw10)
  have X_9 := hidT (keepH X_8.out hw10)
  have Y_7 := hidT (keepH Y_6.out hw10)
  have C_5 := hidT (keepH C_4.out hw10)
  have D_3 := hidT (keepH D_2.out hw10)
  clear B_12 A_12 X_8 Y_6 C_4 D_2
  clear hw10 hp
  have hp := rtright_any most burst least most burst w10 true HRS.out
  go_wp2_with fail
  with_reducible refine hp.mono ?_
  rintro e w11 ⟨rfl, hw11⟩
  have B_14 := hidT (bthen B_13.out hw11)
  have A_14 := hidT (keepH A_13.out hw11)
  have X_10 := hidT (keepH X_9.out hw11)
  have Y_8 := hidT (keepH Y_7.out hw11)
  have C_6 := hidT (keepH C_5.out hw11)
  have D_4 := hidT (keepH D_3.out hw11)
  clear B_13 A_13 X_9 Y_7 C_5 D_3
  clear hw11 hp
  obtain ⟨a0, a1⟩ := cells2 A_14.out
  obtain ⟨x0, x1⟩ := cells2 X_10.out
  obtain ⟨y0, y1⟩ := cells2 Y_8.out
  obtain ⟨u0, u1⟩ := cells2 C_6.out
  obtain ⟨v0, v1⟩ := cells2 D_4.out
  have f0 := fldR0
  have f1 := fldR1
  go_wp2
  go_ret
  exact ⟨rfl, B_14.out⟩
set_option maxHeartbeats 8000000 in
theorem rstays_over (n l least most burst k m : Int) (w : World) (ht : Rate.right n l least most burst = true) (z : 0 ≤ k) (y : l < k) : Calls Try.prog 4 #[.agg #[.int .i64 n, .int .i64 l, .int .i64 least, .int .i64 most, .int .i64 burst, .int .i64 k, .int .i64 m]] w (Yes w) := by
  obtain ⟨t1, t2, t3⟩ := two_alloc w (.cells #[.int .i64 n, .int .i64 l, .int .i64 least, .int .i64 most, .int .i64 burst, .int .i64 k, .int .i64 m] 34) (.cells #[.int .i64 n, .int .i64 l] 23)
  obtain ⟨i0, i1, i2, i3, i4, i5, i6⟩ := cells7 (alloc_at w (.cells #[.int .i64 n, .int .i64 l, .int .i64 least, .int .i64 most, .int .i64 burst, .int .i64 k, .int .i64 m] 34) _ rfl)
  obtain ⟨j0, j1, j2, j3, j4, j5, j6⟩ := cells7 t1
  obtain ⟨W, hW⟩ : ∃ W, (w.alloc (.cells #[.int .i64 n, .int .i64 l, .int .i64 least, .int .i64 most, .int .i64 burst, .int .i64 k, .int .i64 m] 34)).alloc (.cells #[.int .i64 n, .int .i64 l] 23) = W := ⟨_, rfl⟩
  rw [hW] at t2 t3
  have HW := hidT hW
  clear t1 hW
  obtain ⟨g, hg⟩ : ∃ g, w.heap.size + 1 = g := ⟨_, rfl⟩
  rw [hg] at t2
  have B_0 := hidT (t3)
  have A_0 := hidT (t2)
  clear t2 t3
  go_enter Try.func4, Try.ntmps4
  go_wp2_with fail
  rw [HW.out]
  clear hg i0 i1 i2 i3 i4 i5 i6 j0 j1 j2 j3 j4 j5 j6
  have hp := rtshown_any W
  with_reducible refine hp.mono ?_
  rintro e w1 ⟨rfl, hw1⟩
  have B_1 := hidT (bthen B_0.out hw1)
  have A_1 := hidT (keepH A_0.out hw1)
  clear B_0 A_0
  clear hw1 hp
  obtain ⟨a0, a1⟩ := cells2 A_1.out
  have hp := rtright_any n l least most burst w1 true ht
  go_wp2_with fail
  with_reducible refine hp.mono ?_
  rintro e w3 ⟨rfl, hw3⟩
  have B_2 := hidT (bthen B_1.out hw3)
  have A_2 := hidT (keepH A_1.out hw3)
  clear B_1 A_1
  clear hw3 hp a0 a1
  obtain ⟨⟨h1, h2, h3, h4, h5⟩, h6, h7, h8, h9⟩ := Rate.right_iff.1 ht
  obtain ⟨gl1, gl2⟩ := Rate.gap_less ht
  have ha := Rate.more_in m h1 h6 h7
  have hl := (Rate.left_in (m := Rate.more n least most m) h8 h9 (by omega)).1
  have hin : (0 ≤ n ∧ n ≤ 1048576) ∧ 0 ≤ l ∧ l ≤ 1048576 := ⟨⟨by omega, by omega⟩, by omega, by omega⟩
  have hrx := Rate.right_tick m ht
  have hry := Rate.right_spend k ht
  have hrs := Rate.right_start (Rate.may_iff.2 ⟨h1, h2, h3, h4, h5⟩)
  have eS : Rate.spend l k = l := by unfold Rate.spend; rw [if_neg (fun e => by have := Rate.yes_iff.1 e; omega)]
  have eY : Rate.yes l k = false := by rw [Bool.eq_false_iff]; intro e; have := Rate.yes_iff.1 e; omega
  rw [eS] at hry
  have c9 : decide (least < 1) = false := by simp; omega
  have c10 : decide (most < least) = false := by simp; omega
  have c11 : decide (1048576 < most) = false := by simp; omega
  have c12 : decide (burst < 1) = false := by simp; omega
  have c13 : decide (1048576 < burst) = false := by simp; omega
  have c14 : decide (n < least) = false := by simp; omega
  have c15 : decide (most < n) = false := by simp; omega
  have c16 : decide (l < 0) = false := by simp; omega
  have c17 : decide (burst < l) = false := by simp; omega
  have z0 : decide (0 ≤ k) = true := by simp; omega
  have z1 : decide (k ≤ l) = false := by simp; omega
  have hp0 : ∀ w, Calls Try.prog 14 #[.agg #[.int .i64 n, .int .i64 l], .int .i64 least, .int .i64 most, .int .i64 burst, .int .i64 m] w (RateIs w (Rate.more n least most m) (Rate.left l (Rate.more n least most m) burst)) := fun w => rttick_any n l least most burst m w ht
  have hp1 : ∀ w, Calls Try.prog 14 #[.agg #[.int .i64 n, .int .i64 l], .int .i64 least, .int .i64 most, .int .i64 burst, .int .i64 0] w (RateIs w (Rate.more n least most 0) (Rate.left l (Rate.more n least most 0) burst)) := fun w => rttick_any n l least most burst 0 w ht
  have hp2 : ∀ w, Calls Try.prog 14 #[.agg #[.int .i64 n, .int .i64 l], .int .i64 least, .int .i64 most, .int .i64 burst, .int .i64 1] w (RateIs w (Rate.more n least most 1) (Rate.left l (Rate.more n least most 1) burst)) := fun w => rttick_any n l least most burst 1 w ht
  obtain ⟨N, eN⟩ : ∃ q, Rate.more n least most m = q := ⟨_, rfl⟩
  rw [eN] at hp0 hl hrx
  obtain ⟨L, eL⟩ : ∃ q, Rate.left l N burst = q := ⟨_, rfl⟩
  rw [eL] at hp0 hl hrx
  have HP0 := hidT hp0
  clear hp0 eN eL
  obtain ⟨P, eP⟩ : ∃ q, Rate.more n least most 0 = q := ⟨_, rfl⟩
  rw [eP] at hp1 gl1 gl2
  obtain ⟨Q, eQ⟩ : ∃ q, Rate.left l P burst = q := ⟨_, rfl⟩
  rw [eQ] at hp1 gl2
  have HP1 := hidT hp1
  clear hp1 eP eQ
  obtain ⟨U, eU⟩ : ∃ q, Rate.more n least most 1 = q := ⟨_, rfl⟩
  rw [eU] at hp2 gl1 gl2
  obtain ⟨V, eV⟩ : ∃ q, Rate.left l U burst = q := ⟨_, rfl⟩
  rw [eV] at hp2 gl2
  have HP2 := hidT hp2
  clear hp2 eU eV
  have d0 : decide (l ≤ L) = true := by simpa using hl
  have d1 : decide (U ≤ P) = true := by simpa using gl1
  have d2 : decide (V ≤ Q) = true := by simpa using gl2
  have HSP : Hid (∀ w, Calls Try.prog 10 #[.agg #[.int .i64 n, .int .i64 l], .int .i64 k] w (SpentIs w n l false)) := hidT fun w => by
    have h := rtspend_any n l k w hin.1 hin.2
    rw [eS, eY] at h
    exact h
  have HRX := hidT hrx
  have HRY := hidT hry
  have HRS := hidT hrs
  clear gl1 gl2 ha hl hin hrx hry hrs eS eY ht h1 h2 h3 h4 h5 h6 h7 h8 h9 z y
  obtain ⟨a0, a1⟩ := cells2 A_2.out
  have hp := HP0.out w3
  go_wp2_with fail
  with_reducible refine hp.mono ?_
  rintro e w4 ⟨rfl, hw4⟩
  have B_3 := hidT (bthen B_2.out hw4)
  have A_3 := hidT (keepH A_2.out hw4)
  clear B_2 A_2
  clear hw4 hp a0 a1
  have t1 := alloc_at w4 (.cells #[.int .i64 N, .int .i64 L] 23) _ rfl
  have t3 := nkeep w4 (.cells #[.int .i64 N, .int .i64 L] 23)
  obtain ⟨Vw4, hVw4⟩ : ∃ W, w4.alloc (.cells #[.int .i64 N, .int .i64 L] 23) = W := ⟨_, rfl⟩
  rw [hVw4] at t1 t3
  have HVw4 := hidT hVw4
  have B_4 := hidT (bthen B_3.out t3)
  have A_4 := hidT (keepH A_3.out t3)
  clear B_3 A_3
  obtain ⟨gw4, hgw4⟩ : ∃ p, w4.heap.size = p := ⟨_, rfl⟩
  rw [hgw4] at t1
  have X_0 := hidT (t1)
  clear t1 t3 hVw4
  have hp := HSP.out Vw4
  obtain ⟨a0, a1⟩ := cells2 A_4.out
  rw [← HVw4.out] at a0 a1
  go_wp2_with fail
  rw [HVw4.out]
  clear hgw4
  with_reducible refine hp.mono ?_
  rintro e w5 ⟨rfl, hw5⟩
  have B_5 := hidT (bthen B_4.out hw5)
  have A_5 := hidT (keepH A_4.out hw5)
  have X_1 := hidT (keepH X_0.out hw5)
  clear B_4 A_4 X_0
  clear hw5 hp a0 a1
  have t1 := alloc_at w5 (.cells #[.int .i64 n, .int .i64 l] 23) _ rfl
  have t3 := nkeep w5 (.cells #[.int .i64 n, .int .i64 l] 23)
  obtain ⟨Vw5, hVw5⟩ : ∃ W, w5.alloc (.cells #[.int .i64 n, .int .i64 l] 23) = W := ⟨_, rfl⟩
  rw [hVw5] at t1 t3
  have HVw5 := hidT hVw5
  have B_6 := hidT (bthen B_5.out t3)
  have A_6 := hidT (keepH A_5.out t3)
  have X_2 := hidT (keepH X_1.out t3)
  clear B_5 A_5 X_1
  obtain ⟨gw5, hgw5⟩ : ∃ p, w5.heap.size = p := ⟨_, rfl⟩
  rw [hgw5] at t1
  have Y_0 := hidT (t1)
  clear t1 t3 hVw5
  obtain ⟨a0, a1⟩ := cells2 A_6.out
  have hp := HP1.out Vw5
  rw [← HVw5.out] at a0 a1
  go_wp2_with fail
  rw [HVw5.out]
  clear hgw5
  with_reducible refine hp.mono ?_
  rintro e w6 ⟨rfl, hw6⟩
  have B_7 := hidT (bthen B_6.out hw6)
  have A_7 := hidT (keepH A_6.out hw6)
  have X_3 := hidT (keepH X_2.out hw6)
  have Y_1 := hidT (keepH Y_0.out hw6)
  clear B_6 A_6 X_2 Y_0
  clear hw6 hp a0 a1
  have t1 := alloc_at w6 (.cells #[.int .i64 P, .int .i64 Q] 23) _ rfl
  have t3 := nkeep w6 (.cells #[.int .i64 P, .int .i64 Q] 23)
  obtain ⟨Vw6, hVw6⟩ : ∃ W, w6.alloc (.cells #[.int .i64 P, .int .i64 Q] 23) = W := ⟨_, rfl⟩
  rw [hVw6] at t1 t3
  have HVw6 := hidT hVw6
  have B_8 := hidT (bthen B_7.out t3)
  have A_8 := hidT (keepH A_7.out t3)
  have X_4 := hidT (keepH X_3.out t3)
  have Y_2 := hidT (keepH Y_1.out t3)
  clear B_7 A_7 X_3 Y_1
  obtain ⟨gw6, hgw6⟩ : ∃ p, w6.heap.size = p := ⟨_, rfl⟩
  rw [hgw6] at t1
  have C_0 := hidT (t1)
  clear t1 t3 hVw6
  obtain ⟨a0, a1⟩ := cells2 A_8.out
  have hp := HP2.out Vw6
  rw [← HVw6.out] at a0 a1
  go_wp2_with fail
  rw [HVw6.out]
  clear hgw6
  with_reducible refine hp.mono ?_
  rintro e w7 ⟨rfl, hw7⟩
  have B_9 := hidT (bthen B_8.out hw7)
  have A_9 := hidT (keepH A_8.out hw7)
  have X_5 := hidT (keepH X_4.out hw7)
  have Y_3 := hidT (keepH Y_2.out hw7)
  have C_1 := hidT (keepH C_0.out hw7)
  clear B_8 A_8 X_4 Y_2 C_0
  clear hw7 hp a0 a1
  have t1 := alloc_at w7 (.cells #[.int .i64 U, .int .i64 V] 23) _ rfl
  have t3 := nkeep w7 (.cells #[.int .i64 U, .int .i64 V] 23)
  obtain ⟨Vw7, hVw7⟩ : ∃ W, w7.alloc (.cells #[.int .i64 U, .int .i64 V] 23) = W := ⟨_, rfl⟩
  rw [hVw7] at t1 t3
  have HVw7 := hidT hVw7
  have B_10 := hidT (bthen B_9.out t3)
  have A_10 := hidT (keepH A_9.out t3)
  have X_6 := hidT (keepH X_5.out t3)
  have Y_4 := hidT (keepH Y_3.out t3)
  have C_2 := hidT (keepH C_1.out t3)
  clear B_9 A_9 X_5 Y_3 C_1
  obtain ⟨gw7, hgw7⟩ : ∃ p, w7.heap.size = p := ⟨_, rfl⟩
  rw [hgw7] at t1
  have D_0 := hidT (t1)
  clear t1 t3 hVw7
  obtain ⟨x0, x1⟩ := cells2 X_6.out
  have hp := rtright_any N L least most burst Vw7 true HRX.out
  rw [← HVw7.out] at x0 x1
  go_wp2_with fail
  rw [HVw7.out]
  clear hgw7
  with_reducible refine hp.mono ?_
  rintro e w8 ⟨rfl, hw8⟩
  have B_11 := hidT (bthen B_10.out hw8)
  have A_11 := hidT (keepH A_10.out hw8)
  have X_7 := hidT (keepH X_6.out hw8)
  have Y_5 := hidT (keepH Y_4.out hw8)
  have C_3 := hidT (keepH C_2.out hw8)
  have D_1 := hidT (keepH D_0.out hw8)
  clear B_10 A_10 X_6 Y_4 C_2 D_0
  clear hw8 hp x0 x1
  obtain ⟨y0, y1⟩ := cells2 Y_5.out
  have hp := rtright_any n l least most burst w8 true HRY.out
  go_wp2_with fail
  with_reducible refine hp.mono ?_
  rintro e w9 ⟨rfl, hw9⟩
  have B_12 := hidT (bthen B_11.out hw9)
  have A_12 := hidT (keepH A_11.out hw9)
  have X_8 := hidT (keepH X_7.out hw9)
  have Y_6 := hidT (keepH Y_5.out hw9)
  have C_4 := hidT (keepH C_3.out hw9)
  have D_2 := hidT (keepH D_1.out hw9)
  clear B_11 A_11 X_7 Y_5 C_3 D_1
  clear hw9 hp y0 y1
  have hp := rtstart_any most burst w9
  go_wp2_with fail
  with_reducible refine hp.mono ?_
  rintro e w10 ⟨rfl, hw10⟩
  have B_13 := hidT (bthen B_12.out hw10)
  have A_13 := hidT (keepH A_12.out hw10)
  have X_9 := hidT (keepH X_8.out hw10)
  have Y_7 := hidT (keepH Y_6.out hw10)
  have C_5 := hidT (keepH C_4.out hw10)
  have D_3 := hidT (keepH D_2.out hw10)
  clear B_12 A_12 X_8 Y_6 C_4 D_2
  clear hw10 hp
  have hp := rtright_any most burst least most burst w10 true HRS.out
  go_wp2_with fail
  with_reducible refine hp.mono ?_
  rintro e w11 ⟨rfl, hw11⟩
  have B_14 := hidT (bthen B_13.out hw11)
  have A_14 := hidT (keepH A_13.out hw11)
  have X_10 := hidT (keepH X_9.out hw11)
  have Y_8 := hidT (keepH Y_7.out hw11)
  have C_6 := hidT (keepH C_5.out hw11)
  have D_4 := hidT (keepH D_3.out hw11)
  clear B_13 A_13 X_9 Y_7 C_5 D_3
  clear hw11 hp
  obtain ⟨a0, a1⟩ := cells2 A_14.out
  obtain ⟨x0, x1⟩ := cells2 X_10.out
  obtain ⟨y0, y1⟩ := cells2 Y_8.out
  obtain ⟨u0, u1⟩ := cells2 C_6.out
  obtain ⟨v0, v1⟩ := cells2 D_4.out
  have f0 := fldR0
  have f1 := fldR1
  go_wp2
  go_ret
  exact ⟨rfl, B_14.out⟩
set_option maxHeartbeats 8000000 in
theorem rstays_paid (n l least most burst k m : Int) (w : World) (ht : Rate.right n l least most burst = true) (z : 0 ≤ k) (y : k ≤ l) : Calls Try.prog 4 #[.agg #[.int .i64 n, .int .i64 l, .int .i64 least, .int .i64 most, .int .i64 burst, .int .i64 k, .int .i64 m]] w (Yes w) := by
  obtain ⟨t1, t2, t3⟩ := two_alloc w (.cells #[.int .i64 n, .int .i64 l, .int .i64 least, .int .i64 most, .int .i64 burst, .int .i64 k, .int .i64 m] 34) (.cells #[.int .i64 n, .int .i64 l] 23)
  obtain ⟨i0, i1, i2, i3, i4, i5, i6⟩ := cells7 (alloc_at w (.cells #[.int .i64 n, .int .i64 l, .int .i64 least, .int .i64 most, .int .i64 burst, .int .i64 k, .int .i64 m] 34) _ rfl)
  obtain ⟨j0, j1, j2, j3, j4, j5, j6⟩ := cells7 t1
  obtain ⟨W, hW⟩ : ∃ W, (w.alloc (.cells #[.int .i64 n, .int .i64 l, .int .i64 least, .int .i64 most, .int .i64 burst, .int .i64 k, .int .i64 m] 34)).alloc (.cells #[.int .i64 n, .int .i64 l] 23) = W := ⟨_, rfl⟩
  rw [hW] at t2 t3
  have HW := hidT hW
  clear t1 hW
  obtain ⟨g, hg⟩ : ∃ g, w.heap.size + 1 = g := ⟨_, rfl⟩
  rw [hg] at t2
  have B_0 := hidT (t3)
  have A_0 := hidT (t2)
  clear t2 t3
  go_enter Try.func4, Try.ntmps4
  go_wp2_with fail
  rw [HW.out]
  clear hg i0 i1 i2 i3 i4 i5 i6 j0 j1 j2 j3 j4 j5 j6
  have hp := rtshown_any W
  with_reducible refine hp.mono ?_
  rintro e w1 ⟨rfl, hw1⟩
  have B_1 := hidT (bthen B_0.out hw1)
  have A_1 := hidT (keepH A_0.out hw1)
  clear B_0 A_0
  clear hw1 hp
  obtain ⟨a0, a1⟩ := cells2 A_1.out
  have hp := rtright_any n l least most burst w1 true ht
  go_wp2_with fail
  with_reducible refine hp.mono ?_
  rintro e w3 ⟨rfl, hw3⟩
  have B_2 := hidT (bthen B_1.out hw3)
  have A_2 := hidT (keepH A_1.out hw3)
  clear B_1 A_1
  clear hw3 hp a0 a1
  obtain ⟨⟨h1, h2, h3, h4, h5⟩, h6, h7, h8, h9⟩ := Rate.right_iff.1 ht
  obtain ⟨gl1, gl2⟩ := Rate.gap_less ht
  have ha := Rate.more_in m h1 h6 h7
  have hl := (Rate.left_in (m := Rate.more n least most m) h8 h9 (by omega)).1
  have hin : (0 ≤ n ∧ n ≤ 1048576) ∧ 0 ≤ l ∧ l ≤ 1048576 := ⟨⟨by omega, by omega⟩, by omega, by omega⟩
  have hrx := Rate.right_tick m ht
  have hry := Rate.right_spend k ht
  have hrs := Rate.right_start (Rate.may_iff.2 ⟨h1, h2, h3, h4, h5⟩)
  have eS : Rate.spend l k = (l - k) := by unfold Rate.spend; rw [if_pos (Rate.yes_iff.2 ⟨z, y⟩)]
  have eY : Rate.yes l k = true := Rate.yes_iff.2 ⟨z, y⟩
  rw [eS] at hry
  have c18 : decide (least < 1) = false := by simp; omega
  have c19 : decide (most < least) = false := by simp; omega
  have c20 : decide (1048576 < most) = false := by simp; omega
  have c21 : decide (burst < 1) = false := by simp; omega
  have c22 : decide (1048576 < burst) = false := by simp; omega
  have c23 : decide (n < least) = false := by simp; omega
  have c24 : decide (most < n) = false := by simp; omega
  have c25 : decide (l < 0) = false := by simp; omega
  have c26 : decide (burst < l) = false := by simp; omega
  have z0 : decide (0 ≤ k) = true := by simp; omega
  have z1 : decide (k ≤ l) = true := by simp; omega
  have hp0 : ∀ w, Calls Try.prog 14 #[.agg #[.int .i64 n, .int .i64 l], .int .i64 least, .int .i64 most, .int .i64 burst, .int .i64 m] w (RateIs w (Rate.more n least most m) (Rate.left l (Rate.more n least most m) burst)) := fun w => rttick_any n l least most burst m w ht
  have hp1 : ∀ w, Calls Try.prog 14 #[.agg #[.int .i64 n, .int .i64 l], .int .i64 least, .int .i64 most, .int .i64 burst, .int .i64 0] w (RateIs w (Rate.more n least most 0) (Rate.left l (Rate.more n least most 0) burst)) := fun w => rttick_any n l least most burst 0 w ht
  have hp2 : ∀ w, Calls Try.prog 14 #[.agg #[.int .i64 n, .int .i64 l], .int .i64 least, .int .i64 most, .int .i64 burst, .int .i64 1] w (RateIs w (Rate.more n least most 1) (Rate.left l (Rate.more n least most 1) burst)) := fun w => rttick_any n l least most burst 1 w ht
  obtain ⟨N, eN⟩ : ∃ q, Rate.more n least most m = q := ⟨_, rfl⟩
  rw [eN] at hp0 hl hrx
  obtain ⟨L, eL⟩ : ∃ q, Rate.left l N burst = q := ⟨_, rfl⟩
  rw [eL] at hp0 hl hrx
  have HP0 := hidT hp0
  clear hp0 eN eL
  obtain ⟨P, eP⟩ : ∃ q, Rate.more n least most 0 = q := ⟨_, rfl⟩
  rw [eP] at hp1 gl1 gl2
  obtain ⟨Q, eQ⟩ : ∃ q, Rate.left l P burst = q := ⟨_, rfl⟩
  rw [eQ] at hp1 gl2
  have HP1 := hidT hp1
  clear hp1 eP eQ
  obtain ⟨U, eU⟩ : ∃ q, Rate.more n least most 1 = q := ⟨_, rfl⟩
  rw [eU] at hp2 gl1 gl2
  obtain ⟨V, eV⟩ : ∃ q, Rate.left l U burst = q := ⟨_, rfl⟩
  rw [eV] at hp2 gl2
  have HP2 := hidT hp2
  clear hp2 eU eV
  have d0 : decide (l ≤ L) = true := by simpa using hl
  have d1 : decide (U ≤ P) = true := by simpa using gl1
  have d2 : decide (V ≤ Q) = true := by simpa using gl2
  have HSP : Hid (∀ w, Calls Try.prog 10 #[.agg #[.int .i64 n, .int .i64 l], .int .i64 k] w (SpentIs w n (l - k) true)) := hidT fun w => by
    have h := rtspend_any n l k w hin.1 hin.2
    rw [eS, eY] at h
    exact h
  have HRX := hidT hrx
  have HRY := hidT hry
  have HRS := hidT hrs
  clear gl1 gl2 ha hl hin hrx hry hrs eS eY ht h1 h2 h3 h4 h5 h6 h7 h8 h9 z y
  obtain ⟨a0, a1⟩ := cells2 A_2.out
  have hp := HP0.out w3
  go_wp2_with fail
  with_reducible refine hp.mono ?_
  rintro e w4 ⟨rfl, hw4⟩
  have B_3 := hidT (bthen B_2.out hw4)
  have A_3 := hidT (keepH A_2.out hw4)
  clear B_2 A_2
  clear hw4 hp a0 a1
  have t1 := alloc_at w4 (.cells #[.int .i64 N, .int .i64 L] 23) _ rfl
  have t3 := nkeep w4 (.cells #[.int .i64 N, .int .i64 L] 23)
  obtain ⟨Vw4, hVw4⟩ : ∃ W, w4.alloc (.cells #[.int .i64 N, .int .i64 L] 23) = W := ⟨_, rfl⟩
  rw [hVw4] at t1 t3
  have HVw4 := hidT hVw4
  have B_4 := hidT (bthen B_3.out t3)
  have A_4 := hidT (keepH A_3.out t3)
  clear B_3 A_3
  obtain ⟨gw4, hgw4⟩ : ∃ p, w4.heap.size = p := ⟨_, rfl⟩
  rw [hgw4] at t1
  have X_0 := hidT (t1)
  clear t1 t3 hVw4
  have hp := HSP.out Vw4
  obtain ⟨a0, a1⟩ := cells2 A_4.out
  rw [← HVw4.out] at a0 a1
  go_wp2_with fail
  rw [HVw4.out]
  clear hgw4
  with_reducible refine hp.mono ?_
  rintro e w5 ⟨rfl, hw5⟩
  have B_5 := hidT (bthen B_4.out hw5)
  have A_5 := hidT (keepH A_4.out hw5)
  have X_1 := hidT (keepH X_0.out hw5)
  clear B_4 A_4 X_0
  clear hw5 hp a0 a1
  have t1 := alloc_at w5 (.cells #[.int .i64 n, .int .i64 (l - k)] 23) _ rfl
  have t3 := nkeep w5 (.cells #[.int .i64 n, .int .i64 (l - k)] 23)
  obtain ⟨Vw5, hVw5⟩ : ∃ W, w5.alloc (.cells #[.int .i64 n, .int .i64 (l - k)] 23) = W := ⟨_, rfl⟩
  rw [hVw5] at t1 t3
  have HVw5 := hidT hVw5
  have B_6 := hidT (bthen B_5.out t3)
  have A_6 := hidT (keepH A_5.out t3)
  have X_2 := hidT (keepH X_1.out t3)
  clear B_5 A_5 X_1
  obtain ⟨gw5, hgw5⟩ : ∃ p, w5.heap.size = p := ⟨_, rfl⟩
  rw [hgw5] at t1
  have Y_0 := hidT (t1)
  clear t1 t3 hVw5
  obtain ⟨a0, a1⟩ := cells2 A_6.out
  have hp := HP1.out Vw5
  rw [← HVw5.out] at a0 a1
  go_wp2_with fail
  rw [HVw5.out]
  clear hgw5
  with_reducible refine hp.mono ?_
  rintro e w6 ⟨rfl, hw6⟩
  have B_7 := hidT (bthen B_6.out hw6)
  have A_7 := hidT (keepH A_6.out hw6)
  have X_3 := hidT (keepH X_2.out hw6)
  have Y_1 := hidT (keepH Y_0.out hw6)
  clear B_6 A_6 X_2 Y_0
  clear hw6 hp a0 a1
  have t1 := alloc_at w6 (.cells #[.int .i64 P, .int .i64 Q] 23) _ rfl
  have t3 := nkeep w6 (.cells #[.int .i64 P, .int .i64 Q] 23)
  obtain ⟨Vw6, hVw6⟩ : ∃ W, w6.alloc (.cells #[.int .i64 P, .int .i64 Q] 23) = W := ⟨_, rfl⟩
  rw [hVw6] at t1 t3
  have HVw6 := hidT hVw6
  have B_8 := hidT (bthen B_7.out t3)
  have A_8 := hidT (keepH A_7.out t3)
  have X_4 := hidT (keepH X_3.out t3)
  have Y_2 := hidT (keepH Y_1.out t3)
  clear B_7 A_7 X_3 Y_1
  obtain ⟨gw6, hgw6⟩ : ∃ p, w6.heap.size = p := ⟨_, rfl⟩
  rw [hgw6] at t1
  have C_0 := hidT (t1)
  clear t1 t3 hVw6
  obtain ⟨a0, a1⟩ := cells2 A_8.out
  have hp := HP2.out Vw6
  rw [← HVw6.out] at a0 a1
  go_wp2_with fail
  rw [HVw6.out]
  clear hgw6
  with_reducible refine hp.mono ?_
  rintro e w7 ⟨rfl, hw7⟩
  have B_9 := hidT (bthen B_8.out hw7)
  have A_9 := hidT (keepH A_8.out hw7)
  have X_5 := hidT (keepH X_4.out hw7)
  have Y_3 := hidT (keepH Y_2.out hw7)
  have C_1 := hidT (keepH C_0.out hw7)
  clear B_8 A_8 X_4 Y_2 C_0
  clear hw7 hp a0 a1
  have t1 := alloc_at w7 (.cells #[.int .i64 U, .int .i64 V] 23) _ rfl
  have t3 := nkeep w7 (.cells #[.int .i64 U, .int .i64 V] 23)
  obtain ⟨Vw7, hVw7⟩ : ∃ W, w7.alloc (.cells #[.int .i64 U, .int .i64 V] 23) = W := ⟨_, rfl⟩
  rw [hVw7] at t1 t3
  have HVw7 := hidT hVw7
  have B_10 := hidT (bthen B_9.out t3)
  have A_10 := hidT (keepH A_9.out t3)
  have X_6 := hidT (keepH X_5.out t3)
  have Y_4 := hidT (keepH Y_3.out t3)
  have C_2 := hidT (keepH C_1.out t3)
  clear B_9 A_9 X_5 Y_3 C_1
  obtain ⟨gw7, hgw7⟩ : ∃ p, w7.heap.size = p := ⟨_, rfl⟩
  rw [hgw7] at t1
  have D_0 := hidT (t1)
  clear t1 t3 hVw7
  obtain ⟨x0, x1⟩ := cells2 X_6.out
  have hp := rtright_any N L least most burst Vw7 true HRX.out
  rw [← HVw7.out] at x0 x1
  go_wp2_with fail
  rw [HVw7.out]
  clear hgw7
  with_reducible refine hp.mono ?_
  rintro e w8 ⟨rfl, hw8⟩
  have B_11 := hidT (bthen B_10.out hw8)
  have A_11 := hidT (keepH A_10.out hw8)
  have X_7 := hidT (keepH X_6.out hw8)
  have Y_5 := hidT (keepH Y_4.out hw8)
  have C_3 := hidT (keepH C_2.out hw8)
  have D_1 := hidT (keepH D_0.out hw8)
  clear B_10 A_10 X_6 Y_4 C_2 D_0
  clear hw8 hp x0 x1
  obtain ⟨y0, y1⟩ := cells2 Y_5.out
  have hp := rtright_any n (l - k) least most burst w8 true HRY.out
  go_wp2_with fail
  with_reducible refine hp.mono ?_
  rintro e w9 ⟨rfl, hw9⟩
  have B_12 := hidT (bthen B_11.out hw9)
  have A_12 := hidT (keepH A_11.out hw9)
  have X_8 := hidT (keepH X_7.out hw9)
  have Y_6 := hidT (keepH Y_5.out hw9)
  have C_4 := hidT (keepH C_3.out hw9)
  have D_2 := hidT (keepH D_1.out hw9)
  clear B_11 A_11 X_7 Y_5 C_3 D_1
  clear hw9 hp y0 y1
  have hp := rtstart_any most burst w9
  go_wp2_with fail
  with_reducible refine hp.mono ?_
  rintro e w10 ⟨rfl, hw10⟩
  have B_13 := hidT (bthen B_12.out hw10)
  have A_13 := hidT (keepH A_12.out hw10)
  have X_9 := hidT (keepH X_8.out hw10)
  have Y_7 := hidT (keepH Y_6.out hw10)
  have C_5 := hidT (keepH C_4.out hw10)
  have D_3 := hidT (keepH D_2.out hw10)
  clear B_12 A_12 X_8 Y_6 C_4 D_2
  clear hw10 hp
  have hp := rtright_any most burst least most burst w10 true HRS.out
  go_wp2_with fail
  with_reducible refine hp.mono ?_
  rintro e w11 ⟨rfl, hw11⟩
  have B_14 := hidT (bthen B_13.out hw11)
  have A_14 := hidT (keepH A_13.out hw11)
  have X_10 := hidT (keepH X_9.out hw11)
  have Y_8 := hidT (keepH Y_7.out hw11)
  have C_6 := hidT (keepH C_5.out hw11)
  have D_4 := hidT (keepH D_3.out hw11)
  clear B_13 A_13 X_9 Y_7 C_5 D_3
  clear hw11 hp
  obtain ⟨a0, a1⟩ := cells2 A_14.out
  obtain ⟨x0, x1⟩ := cells2 X_10.out
  obtain ⟨y0, y1⟩ := cells2 Y_8.out
  obtain ⟨u0, u1⟩ := cells2 C_6.out
  obtain ⟨v0, v1⟩ := cells2 D_4.out
  have f0 := fldR0
  have f1 := fldR1
  go_wp2
  go_ret
  exact ⟨rfl, B_14.out⟩
theorem rstays_any (n l least most burst k m : Int) (w : World) : Calls Try.prog 4 #[.agg #[.int .i64 n, .int .i64 l, .int .i64 least, .int .i64 most, .int .i64 burst, .int .i64 k, .int .i64 m]] w (Yes w) := by
  cases h : Rate.right n l least most burst with
  | false => exact rstays_no n l least most burst k m w h
  | true =>
    by_cases z : k < 0
    · exact rstays_under n l least most burst k m w h z
    · by_cases y : l < k
      · exact rstays_over n l least most burst k m w h (by omega) y
      · exact rstays_paid n l least most burst k m w h (by omega) (by omega)
end Go.Proofs.Ytpobaecfmdpphaa
