/- The law MeterStays, walked. -/
import Derived.Test.YtahcofejjfdbbaaMeterShown
import Derived.Deep.RegionHeld3
set_option maxRecDepth 100000
namespace Go.Proofs.Ytahcofejjfdbbaa
open Go.RowKit
set_option linter.unusedVariables false

theorem cells7 {w : World} {g : Nat} {a0 a1 a2 a3 a4 a5 a6 : Value} {t : TypeId} (h : w.heap[g]? = some (.cells #[a0, a1, a2, a3, a4, a5, a6] t (0, 0))) : w.cell? ⟨g, 0, none⟩ = some a0 ∧ w.cell? ⟨g, 1, none⟩ = some a1 ∧ w.cell? ⟨g, 2, none⟩ = some a2 ∧ w.cell? ⟨g, 3, none⟩ = some a3 ∧ w.cell? ⟨g, 4, none⟩ = some a4 ∧ w.cell? ⟨g, 5, none⟩ = some a5 ∧ w.cell? ⟨g, 6, none⟩ = some a6 :=
  ⟨cell_at h 0 rfl, cell_at h 1 rfl, cell_at h 2 rfl, cell_at h 3 rfl, cell_at h 4 rfl, cell_at h 5 rfl, cell_at h 6 rfl⟩
set_option maxHeartbeats 8000000 in
theorem mstays_no (a m b c d e f : Int) (w : World) (ht : Meter.right a m b = false) : Calls Try.prog 5 #[.agg #[.int .i64 a, .int .i64 m, .int .i64 b, .int .i64 c, .int .i64 d, .int .i64 e, .int .i64 f]] w (Yes w) := by
  obtain ⟨t1, t2, t3⟩ := two_alloc w (.cells #[.int .i64 a, .int .i64 m, .int .i64 b, .int .i64 c, .int .i64 d, .int .i64 e, .int .i64 f] 38) (.cells #[.int .i64 a, .int .i64 m, .int .i64 b] 23)
  obtain ⟨i0, i1, i2, i3, i4, i5, i6⟩ := cells7 (alloc_at w (.cells #[.int .i64 a, .int .i64 m, .int .i64 b, .int .i64 c, .int .i64 d, .int .i64 e, .int .i64 f] 38) _ rfl)
  obtain ⟨j0, j1, j2, j3, j4, j5, j6⟩ := cells7 t1
  obtain ⟨W, hW⟩ : ∃ W, (w.alloc (.cells #[.int .i64 a, .int .i64 m, .int .i64 b, .int .i64 c, .int .i64 d, .int .i64 e, .int .i64 f] 38)).alloc (.cells #[.int .i64 a, .int .i64 m, .int .i64 b] 23) = W := ⟨_, rfl⟩
  rw [hW] at t2 t3
  have HW := hidT hW
  clear t1 hW
  obtain ⟨g, hg⟩ : ∃ g, w.heap.size + 1 = g := ⟨_, rfl⟩
  rw [hg] at t2
  have B_0 := hidT (t3)
  have A_0 := hidT (t2)
  clear t2 t3
  go_enter Try.func5, Try.ntmps5
  go_wp2_with fail
  rw [HW.out]
  clear hg i0 i1 i2 i3 i4 i5 i6 j0 j1 j2 j3 j4 j5 j6
  have hp := mtshown_any W
  with_reducible refine hp.mono ?_
  rintro e w1 ⟨rfl, hw1⟩
  have B_1 := hidT (bthen B_0.out hw1)
  have A_1 := hidT (keepH A_0.out hw1)
  clear B_0 A_0
  clear hw1 hp
  obtain ⟨a0, a1, a2⟩ := cells3 A_1.out
  have hp := mrright_any a m b w1 false ht
  go_wp2_with fail
  with_reducible refine hp.mono ?_
  rintro e w2 ⟨rfl, hw2⟩
  have B_2 := hidT (bthen B_1.out hw2)
  have A_2 := hidT (keepH A_1.out hw2)
  clear B_1 A_1
  clear hw2 hp a0 a1 a2
  go_wp2
  go_ret
  exact ⟨rfl, B_2.out⟩
set_option maxHeartbeats 8000000 in
theorem mstays_not (a m b c d e f : Int) (w : World) (ht : Meter.right a m b = true) (ht2 : Meter.may c d 1 = false) : Calls Try.prog 5 #[.agg #[.int .i64 a, .int .i64 m, .int .i64 b, .int .i64 c, .int .i64 d, .int .i64 e, .int .i64 f]] w (Yes w) := by
  obtain ⟨t1, t2, t3⟩ := two_alloc w (.cells #[.int .i64 a, .int .i64 m, .int .i64 b, .int .i64 c, .int .i64 d, .int .i64 e, .int .i64 f] 38) (.cells #[.int .i64 a, .int .i64 m, .int .i64 b] 23)
  obtain ⟨i0, i1, i2, i3, i4, i5, i6⟩ := cells7 (alloc_at w (.cells #[.int .i64 a, .int .i64 m, .int .i64 b, .int .i64 c, .int .i64 d, .int .i64 e, .int .i64 f] 38) _ rfl)
  obtain ⟨j0, j1, j2, j3, j4, j5, j6⟩ := cells7 t1
  obtain ⟨W, hW⟩ : ∃ W, (w.alloc (.cells #[.int .i64 a, .int .i64 m, .int .i64 b, .int .i64 c, .int .i64 d, .int .i64 e, .int .i64 f] 38)).alloc (.cells #[.int .i64 a, .int .i64 m, .int .i64 b] 23) = W := ⟨_, rfl⟩
  rw [hW] at t2 t3
  have HW := hidT hW
  clear t1 hW
  obtain ⟨g, hg⟩ : ∃ g, w.heap.size + 1 = g := ⟨_, rfl⟩
  rw [hg] at t2
  have B_0 := hidT (t3)
  have A_0 := hidT (t2)
  clear t2 t3
  go_enter Try.func5, Try.ntmps5
  go_wp2_with fail
  rw [HW.out]
  clear hg i0 i1 i2 i3 i4 i5 i6 j0 j1 j2 j3 j4 j5 j6
  have hp := mtshown_any W
  with_reducible refine hp.mono ?_
  rintro e w1 ⟨rfl, hw1⟩
  have B_1 := hidT (bthen B_0.out hw1)
  have A_1 := hidT (keepH A_0.out hw1)
  clear B_0 A_0
  clear hw1 hp
  obtain ⟨a0, a1, a2⟩ := cells3 A_1.out
  have hp := mrright_any a m b w1 true ht
  go_wp2_with fail
  with_reducible refine hp.mono ?_
  rintro e w2 ⟨rfl, hw2⟩
  have B_2 := hidT (bthen B_1.out hw2)
  have A_2 := hidT (keepH A_1.out hw2)
  clear B_1 A_1
  clear hw2 hp a0 a1 a2
  have hp := mrmay_any c d 1 w2 false ht2
  go_wp2_with fail
  with_reducible refine hp.mono ?_
  rintro e wz ⟨rfl, rfl⟩
  clear hp
  go_wp2
  go_ret
  exact ⟨rfl, B_2.out⟩
set_option maxHeartbeats 8000000 in
theorem mstays_nor (a m b c d e f : Int) (w : World) (ht : Meter.right a m b = true) (ht2 : Meter.may c d 1 = true) (ht3 : Meter.may e f 1 = false) : Calls Try.prog 5 #[.agg #[.int .i64 a, .int .i64 m, .int .i64 b, .int .i64 c, .int .i64 d, .int .i64 e, .int .i64 f]] w (Yes w) := by
  obtain ⟨t1, t2, t3⟩ := two_alloc w (.cells #[.int .i64 a, .int .i64 m, .int .i64 b, .int .i64 c, .int .i64 d, .int .i64 e, .int .i64 f] 38) (.cells #[.int .i64 a, .int .i64 m, .int .i64 b] 23)
  obtain ⟨i0, i1, i2, i3, i4, i5, i6⟩ := cells7 (alloc_at w (.cells #[.int .i64 a, .int .i64 m, .int .i64 b, .int .i64 c, .int .i64 d, .int .i64 e, .int .i64 f] 38) _ rfl)
  obtain ⟨j0, j1, j2, j3, j4, j5, j6⟩ := cells7 t1
  obtain ⟨W, hW⟩ : ∃ W, (w.alloc (.cells #[.int .i64 a, .int .i64 m, .int .i64 b, .int .i64 c, .int .i64 d, .int .i64 e, .int .i64 f] 38)).alloc (.cells #[.int .i64 a, .int .i64 m, .int .i64 b] 23) = W := ⟨_, rfl⟩
  rw [hW] at t2 t3
  have HW := hidT hW
  clear t1 hW
  obtain ⟨g, hg⟩ : ∃ g, w.heap.size + 1 = g := ⟨_, rfl⟩
  rw [hg] at t2
  have B_0 := hidT (t3)
  have A_0 := hidT (t2)
  clear t2 t3
  go_enter Try.func5, Try.ntmps5
  go_wp2_with fail
  rw [HW.out]
  clear hg i0 i1 i2 i3 i4 i5 i6 j0 j1 j2 j3 j4 j5 j6
  have hp := mtshown_any W
  with_reducible refine hp.mono ?_
  rintro e w1 ⟨rfl, hw1⟩
  have B_1 := hidT (bthen B_0.out hw1)
  have A_1 := hidT (keepH A_0.out hw1)
  clear B_0 A_0
  clear hw1 hp
  obtain ⟨a0, a1, a2⟩ := cells3 A_1.out
  have hp := mrright_any a m b w1 true ht
  go_wp2_with fail
  with_reducible refine hp.mono ?_
  rintro e w2 ⟨rfl, hw2⟩
  have B_2 := hidT (bthen B_1.out hw2)
  have A_2 := hidT (keepH A_1.out hw2)
  clear B_1 A_1
  clear hw2 hp a0 a1 a2
  have hp := mrmay_any c d 1 w2 true ht2
  go_wp2_with fail
  with_reducible refine hp.mono ?_
  rintro e wz ⟨rfl, rfl⟩
  clear hp
  have hp := mrmay_any e f 1 wz false ht3
  go_wp2_with fail
  with_reducible refine hp.mono ?_
  rintro e wz ⟨rfl, rfl⟩
  clear hp
  go_wp2
  go_ret
  exact ⟨rfl, B_2.out⟩
set_option maxHeartbeats 8000000 in
theorem mstays_far (a m b c d e f : Int) (w : World) (ht : Meter.right a m b = true) (ht2 : Meter.may c d 1 = true) (ht3 : Meter.may e f 1 = true) (h : 1099511627776 < c + e) : Calls Try.prog 5 #[.agg #[.int .i64 a, .int .i64 m, .int .i64 b, .int .i64 c, .int .i64 d, .int .i64 e, .int .i64 f]] w (Yes w) := by
  obtain ⟨t1, t2, t3⟩ := two_alloc w (.cells #[.int .i64 a, .int .i64 m, .int .i64 b, .int .i64 c, .int .i64 d, .int .i64 e, .int .i64 f] 38) (.cells #[.int .i64 a, .int .i64 m, .int .i64 b] 23)
  obtain ⟨i0, i1, i2, i3, i4, i5, i6⟩ := cells7 (alloc_at w (.cells #[.int .i64 a, .int .i64 m, .int .i64 b, .int .i64 c, .int .i64 d, .int .i64 e, .int .i64 f] 38) _ rfl)
  obtain ⟨j0, j1, j2, j3, j4, j5, j6⟩ := cells7 t1
  obtain ⟨W, hW⟩ : ∃ W, (w.alloc (.cells #[.int .i64 a, .int .i64 m, .int .i64 b, .int .i64 c, .int .i64 d, .int .i64 e, .int .i64 f] 38)).alloc (.cells #[.int .i64 a, .int .i64 m, .int .i64 b] 23) = W := ⟨_, rfl⟩
  rw [hW] at t2 t3
  have HW := hidT hW
  clear t1 hW
  obtain ⟨g, hg⟩ : ∃ g, w.heap.size + 1 = g := ⟨_, rfl⟩
  rw [hg] at t2
  have B_0 := hidT (t3)
  have A_0 := hidT (t2)
  clear t2 t3
  go_enter Try.func5, Try.ntmps5
  go_wp2_with fail
  rw [HW.out]
  clear hg i0 i1 i2 i3 i4 i5 i6 j0 j1 j2 j3 j4 j5 j6
  have hp := mtshown_any W
  with_reducible refine hp.mono ?_
  rintro e w1 ⟨rfl, hw1⟩
  have B_1 := hidT (bthen B_0.out hw1)
  have A_1 := hidT (keepH A_0.out hw1)
  clear B_0 A_0
  clear hw1 hp
  obtain ⟨a0, a1, a2⟩ := cells3 A_1.out
  have hp := mrright_any a m b w1 true ht
  go_wp2_with fail
  with_reducible refine hp.mono ?_
  rintro e w2 ⟨rfl, hw2⟩
  have B_2 := hidT (bthen B_1.out hw2)
  have A_2 := hidT (keepH A_1.out hw2)
  clear B_1 A_1
  clear hw2 hp a0 a1 a2
  have hp := mrmay_any c d 1 w2 true ht2
  go_wp2_with fail
  with_reducible refine hp.mono ?_
  rintro e wz ⟨rfl, rfl⟩
  clear hp
  have hp := mrmay_any e f 1 wz true ht3
  go_wp2_with fail
  with_reducible refine hp.mono ?_
  rintro e wz ⟨rfl, rfl⟩
  clear hp
  obtain ⟨h1, h2, h3, h4, h5, h6⟩ := Meter.right_iff.1 ht
  obtain ⟨g1, g2, g3, g4, g5, g6⟩ := Meter.may_iff.1 ht2
  obtain ⟨k1, k2, k3, k4, k5, k6⟩ := Meter.may_iff.1 ht3
  obtain ⟨C, eC⟩ : ∃ q, c + e = q := ⟨_, rfl⟩
  obtain ⟨D, eD⟩ : ∃ q, d + f = q := ⟨_, rfl⟩
  have wC : wrap64 (c + e) = C := by rw [IntWalk.wrap64_in _ (by omega)]; exact eC
  have vC : IntKind.i64.wrap (c + e) = C := by rw [IntWalk.i64_in _ (by omega)]; exact eC
  have wD : wrap64 (d + f) = D := by rw [IntWalk.wrap64_in _ (by omega)]; exact eD
  have vD : IntKind.i64.wrap (d + f) = D := by rw [IntWalk.i64_in _ (by omega)]; exact eD
  have p3 : decide (1099511627776 < C) = true := by simp; omega
  clear ht ht2 ht3 h1 h2 h3 h4 h5 h6 g1 g2 g3 g4 g5 g6 k1 k2 k3 k4 k5 k6 eC eD h
  go_wp2
  go_ret
  exact ⟨rfl, B_2.out⟩
set_option maxHeartbeats 8000000 in
theorem mstays_off (a m b c d e f : Int) (w : World) (ht : Meter.right a m b = true) (ht2 : Meter.may c d 1 = true) (ht3 : Meter.may e f 1 = true) (h0 : c + e ≤ 1099511627776) (h : 1099511627776 < d + f) : Calls Try.prog 5 #[.agg #[.int .i64 a, .int .i64 m, .int .i64 b, .int .i64 c, .int .i64 d, .int .i64 e, .int .i64 f]] w (Yes w) := by
  obtain ⟨t1, t2, t3⟩ := two_alloc w (.cells #[.int .i64 a, .int .i64 m, .int .i64 b, .int .i64 c, .int .i64 d, .int .i64 e, .int .i64 f] 38) (.cells #[.int .i64 a, .int .i64 m, .int .i64 b] 23)
  obtain ⟨i0, i1, i2, i3, i4, i5, i6⟩ := cells7 (alloc_at w (.cells #[.int .i64 a, .int .i64 m, .int .i64 b, .int .i64 c, .int .i64 d, .int .i64 e, .int .i64 f] 38) _ rfl)
  obtain ⟨j0, j1, j2, j3, j4, j5, j6⟩ := cells7 t1
  obtain ⟨W, hW⟩ : ∃ W, (w.alloc (.cells #[.int .i64 a, .int .i64 m, .int .i64 b, .int .i64 c, .int .i64 d, .int .i64 e, .int .i64 f] 38)).alloc (.cells #[.int .i64 a, .int .i64 m, .int .i64 b] 23) = W := ⟨_, rfl⟩
  rw [hW] at t2 t3
  have HW := hidT hW
  clear t1 hW
  obtain ⟨g, hg⟩ : ∃ g, w.heap.size + 1 = g := ⟨_, rfl⟩
  rw [hg] at t2
  have B_0 := hidT (t3)
  have A_0 := hidT (t2)
  clear t2 t3
  go_enter Try.func5, Try.ntmps5
  go_wp2_with fail
  rw [HW.out]
  clear hg i0 i1 i2 i3 i4 i5 i6 j0 j1 j2 j3 j4 j5 j6
  have hp := mtshown_any W
  with_reducible refine hp.mono ?_
  rintro e w1 ⟨rfl, hw1⟩
  have B_1 := hidT (bthen B_0.out hw1)
  have A_1 := hidT (keepH A_0.out hw1)
  clear B_0 A_0
  clear hw1 hp
  obtain ⟨a0, a1, a2⟩ := cells3 A_1.out
  have hp := mrright_any a m b w1 true ht
  go_wp2_with fail
  with_reducible refine hp.mono ?_
  rintro e w2 ⟨rfl, hw2⟩
  have B_2 := hidT (bthen B_1.out hw2)
  have A_2 := hidT (keepH A_1.out hw2)
  clear B_1 A_1
  clear hw2 hp a0 a1 a2
  have hp := mrmay_any c d 1 w2 true ht2
  go_wp2_with fail
  with_reducible refine hp.mono ?_
  rintro e wz ⟨rfl, rfl⟩
  clear hp
  have hp := mrmay_any e f 1 wz true ht3
  go_wp2_with fail
  with_reducible refine hp.mono ?_
  rintro e wz ⟨rfl, rfl⟩
  clear hp
  obtain ⟨h1, h2, h3, h4, h5, h6⟩ := Meter.right_iff.1 ht
  obtain ⟨g1, g2, g3, g4, g5, g6⟩ := Meter.may_iff.1 ht2
  obtain ⟨k1, k2, k3, k4, k5, k6⟩ := Meter.may_iff.1 ht3
  obtain ⟨C, eC⟩ : ∃ q, c + e = q := ⟨_, rfl⟩
  obtain ⟨D, eD⟩ : ∃ q, d + f = q := ⟨_, rfl⟩
  have wC : wrap64 (c + e) = C := by rw [IntWalk.wrap64_in _ (by omega)]; exact eC
  have vC : IntKind.i64.wrap (c + e) = C := by rw [IntWalk.i64_in _ (by omega)]; exact eC
  have wD : wrap64 (d + f) = D := by rw [IntWalk.wrap64_in _ (by omega)]; exact eD
  have vD : IntKind.i64.wrap (d + f) = D := by rw [IntWalk.i64_in _ (by omega)]; exact eD
  have p3 : decide (1099511627776 < C) = false := by simp; omega
  have p4 : decide (1099511627776 < D) = true := by simp; omega
  clear ht ht2 ht3 h1 h2 h3 h4 h5 h6 g1 g2 g3 g4 g5 g6 k1 k2 k3 k4 k5 k6 eC eD h h0
  go_wp2
  go_ret
  exact ⟨rfl, B_2.out⟩
set_option maxHeartbeats 8000000 in
theorem mstays_yes (a m b c d e f : Int) (w : World) (ht : Meter.right a m b = true) (ht2 : Meter.may c d 1 = true) (ht3 : Meter.may e f 1 = true) (h0 : c + e ≤ 1099511627776) (h9 : d + f ≤ 1099511627776) : Calls Try.prog 5 #[.agg #[.int .i64 a, .int .i64 m, .int .i64 b, .int .i64 c, .int .i64 d, .int .i64 e, .int .i64 f]] w (Yes w) := by
  obtain ⟨t1, t2, t3⟩ := two_alloc w (.cells #[.int .i64 a, .int .i64 m, .int .i64 b, .int .i64 c, .int .i64 d, .int .i64 e, .int .i64 f] 38) (.cells #[.int .i64 a, .int .i64 m, .int .i64 b] 23)
  obtain ⟨i0, i1, i2, i3, i4, i5, i6⟩ := cells7 (alloc_at w (.cells #[.int .i64 a, .int .i64 m, .int .i64 b, .int .i64 c, .int .i64 d, .int .i64 e, .int .i64 f] 38) _ rfl)
  obtain ⟨j0, j1, j2, j3, j4, j5, j6⟩ := cells7 t1
  obtain ⟨W, hW⟩ : ∃ W, (w.alloc (.cells #[.int .i64 a, .int .i64 m, .int .i64 b, .int .i64 c, .int .i64 d, .int .i64 e, .int .i64 f] 38)).alloc (.cells #[.int .i64 a, .int .i64 m, .int .i64 b] 23) = W := ⟨_, rfl⟩
  rw [hW] at t2 t3
  have HW := hidT hW
  clear t1 hW
  obtain ⟨g, hg⟩ : ∃ g, w.heap.size + 1 = g := ⟨_, rfl⟩
  rw [hg] at t2
  have B_0 := hidT (t3)
  have A_0 := hidT (t2)
  clear t2 t3
  go_enter Try.func5, Try.ntmps5
  go_wp2_with fail
  rw [HW.out]
  clear hg i0 i1 i2 i3 i4 i5 i6 j0 j1 j2 j3 j4 j5 j6
  have hp := mtshown_any W
  with_reducible refine hp.mono ?_
  rintro e w1 ⟨rfl, hw1⟩
  have B_1 := hidT (bthen B_0.out hw1)
  have A_1 := hidT (keepH A_0.out hw1)
  clear B_0 A_0
  clear hw1 hp
  obtain ⟨a0, a1, a2⟩ := cells3 A_1.out
  have hp := mrright_any a m b w1 true ht
  go_wp2_with fail
  with_reducible refine hp.mono ?_
  rintro e w2 ⟨rfl, hw2⟩
  have B_2 := hidT (bthen B_1.out hw2)
  have A_2 := hidT (keepH A_1.out hw2)
  clear B_1 A_1
  clear hw2 hp a0 a1 a2
  have hp := mrmay_any c d 1 w2 true ht2
  go_wp2_with fail
  with_reducible refine hp.mono ?_
  rintro e wz ⟨rfl, rfl⟩
  clear hp
  have hp := mrmay_any e f 1 wz true ht3
  go_wp2_with fail
  with_reducible refine hp.mono ?_
  rintro e wz ⟨rfl, rfl⟩
  clear hp
  obtain ⟨h1, h2, h3, h4, h5, h6⟩ := Meter.right_iff.1 ht
  obtain ⟨g1, g2, g3, g4, g5, g6⟩ := Meter.may_iff.1 ht2
  obtain ⟨k1, k2, k3, k4, k5, k6⟩ := Meter.may_iff.1 ht3
  obtain ⟨C, eC⟩ : ∃ q, c + e = q := ⟨_, rfl⟩
  obtain ⟨D, eD⟩ : ∃ q, d + f = q := ⟨_, rfl⟩
  have wC : wrap64 (c + e) = C := by rw [IntWalk.wrap64_in _ (by omega)]; exact eC
  have vC : IntKind.i64.wrap (c + e) = C := by rw [IntWalk.i64_in _ (by omega)]; exact eC
  have wD : wrap64 (d + f) = D := by rw [IntWalk.wrap64_in _ (by omega)]; exact eD
  have vD : IntKind.i64.wrap (d + f) = D := by rw [IntWalk.i64_in _ (by omega)]; exact eD
  have p3 : decide (1099511627776 < C) = false := by simp; omega
  have p4 : decide (1099511627776 < D) = false := by simp; omega
  have m1 := Meter.cap_in (n := m + c) (by omega)
  have m2 := Meter.cap_in (n := b + d) (by omega)
  have m3 := Meter.cap_more (n := m) (k := c) h4 g1
  have m4 := Meter.cap_more (n := b) (k := d) h6 g3
  have c1 := fun w => add_any a (m := m) (b := b) (c := c) (d := d) ⟨h3, h4⟩ ⟨h5, h6⟩ ⟨g1, g2⟩ ⟨g3, g4⟩ w
  have c2 := fun w => add_any a (m := Meter.cap (m + c)) (b := Meter.cap (b + d)) (c := e) (d := f) m1 m2 ⟨k1, k2⟩ ⟨k3, k4⟩ w
  have c3 := fun w => add_any a (m := m) (b := b) (c := C) (d := D) ⟨h3, h4⟩ ⟨h5, h6⟩ ⟨by omega, by omega⟩ ⟨by omega, by omega⟩ w
  have e1 : Meter.cap (Meter.cap (m + c) + e) = Meter.cap (m + C) := by rw [Meter.cap_cap k1, ← eC, Int.add_assoc]
  have e2 : Meter.cap (Meter.cap (b + d) + f) = Meter.cap (b + D) := by rw [Meter.cap_cap k3, ← eD, Int.add_assoc]
  obtain ⟨P, hP⟩ : ∃ q, Meter.cap (m + c) = q := ⟨_, rfl⟩
  obtain ⟨Q, hQ⟩ : ∃ q, Meter.cap (b + d) = q := ⟨_, rfl⟩
  rw [hP] at c1 c2 m1 m3 e1
  rw [hQ] at c1 c2 m2 m4 e2
  rw [e1, e2] at c2
  obtain ⟨S, hS⟩ : ∃ q, Meter.cap (m + C) = q := ⟨_, rfl⟩
  obtain ⟨U, hU⟩ : ∃ q, Meter.cap (b + D) = q := ⟨_, rfl⟩
  rw [hS, hU] at c2 c3
  have c4 : ∀ w, Calls Try.prog 10 #[.agg #[.int .i64 a, .int .i64 P, .int .i64 Q], .int .i64 1] w (TickIs w 0 0 0 P Q true) := fun w => by
    have h := mttick_any a P Q 1 w ⟨h1, h2⟩ m1 m2
    rw [if_neg (by omega)] at h
    exact h
  have c5 : Meter.right a P Q = true := Meter.right_iff.2 ⟨h1, h2, m1.1, m1.2, m2.1, m2.2⟩
  have d1 : decide (m ≤ P) = true := by simpa using m3
  have d2 : decide (b ≤ Q) = true := by simpa using m4
  have C1 := hidT c1
  have C2 := hidT c2
  have C3 := hidT c3
  have C4 := hidT c4
  have C5 := hidT c5
  clear c1 c2 c3 c4 c5 e1 e2 hP hQ hS hU m1 m2 m3 m4 eC eD h0 h9
  clear ht ht2 ht3 h1 h2 h3 h4 h5 h6 g1 g2 g3 g4 g5 g6 k1 k2 k3 k4 k5 k6 
  have hp := C1.out wz
  obtain ⟨a0, a1, a2⟩ := cells3 A_2.out
  go_wp2_with fail
  with_reducible refine hp.mono ?_
  rintro e w4 ⟨rfl, hw4⟩
  have B_3 := hidT (bthen B_2.out hw4)
  have A_3 := hidT (keepH A_2.out hw4)
  clear B_2 A_2
  clear hw4 hp a0 a1 a2
  have t1 := alloc_at w4 (.cells #[.int .i64 a, .int .i64 P, .int .i64 Q] 23) _ rfl
  have t3 := nkeep w4 (.cells #[.int .i64 a, .int .i64 P, .int .i64 Q] 23)
  obtain ⟨Vw4, hVw4⟩ : ∃ W, w4.alloc (.cells #[.int .i64 a, .int .i64 P, .int .i64 Q] 23) = W := ⟨_, rfl⟩
  rw [hVw4] at t1 t3
  have HVw4 := hidT hVw4
  have B_4 := hidT (bthen B_3.out t3)
  have A_4 := hidT (keepH A_3.out t3)
  clear B_3 A_3
  obtain ⟨gw4, hgw4⟩ : ∃ p, w4.heap.size = p := ⟨_, rfl⟩
  rw [hgw4] at t1
  have X_0 := hidT (t1)
  clear t1 t3 hVw4
  have hp := C4.out Vw4
  obtain ⟨x0, x1, x2⟩ := cells3 X_0.out
  rw [← HVw4.out] at x0 x1 x2
  go_wp2_with fail
  rw [HVw4.out]
  clear hgw4
  with_reducible refine hp.mono ?_
  rintro e w5 ⟨rfl, hw5⟩
  have B_5 := hidT (bthen B_4.out hw5)
  have A_5 := hidT (keepH A_4.out hw5)
  have X_1 := hidT (keepH X_0.out hw5)
  clear B_4 A_4 X_0
  clear hw5 hp x0 x1 x2
  have t1 := alloc_at w5 (.cells #[.int .i64 0, .int .i64 0, .int .i64 0] 23) _ rfl
  have t3 := nkeep w5 (.cells #[.int .i64 0, .int .i64 0, .int .i64 0] 23)
  obtain ⟨Vw5, hVw5⟩ : ∃ W, w5.alloc (.cells #[.int .i64 0, .int .i64 0, .int .i64 0] 23) = W := ⟨_, rfl⟩
  rw [hVw5] at t1 t3
  have HVw5 := hidT hVw5
  have B_6 := hidT (bthen B_5.out t3)
  have A_6 := hidT (keepH A_5.out t3)
  have X_2 := hidT (keepH X_1.out t3)
  clear B_5 A_5 X_1
  obtain ⟨gw5, hgw5⟩ : ∃ p, w5.heap.size = p := ⟨_, rfl⟩
  rw [hgw5] at t1
  have Y_0 := hidT (t1)
  clear t1 t3 hVw5
  obtain ⟨a0, a1, a2⟩ := cells3 A_6.out
  obtain ⟨x0, x1, x2⟩ := cells3 X_2.out
  obtain ⟨y0, y1, y2⟩ := cells3 Y_0.out
  rw [← HVw5.out] at a0 a1 a2 x0 x1 x2 y0 y1 y2
  go_wp2_with fail
  rw [HVw5.out]
  rw [HVw5.out] at a0 a1 a2 x0 x1 x2 y0 y1 y2
  clear hgw5 a0 a1 a2 x0 x1 x2 y0 y1 y2
  have ka0 := fun w' (hb : Below Vw5.heap.size Vw5 w') => (cells3 (keepH A_6.out hb)).1
  have ka1 := fun w' (hb : Below Vw5.heap.size Vw5 w') => (cells3 (keepH A_6.out hb)).2.1
  have ka2 := fun w' (hb : Below Vw5.heap.size Vw5 w') => (cells3 (keepH A_6.out hb)).2.2
  have kx0 := fun w' (hb : Below Vw5.heap.size Vw5 w') => (cells3 (keepH X_2.out hb)).1
  have kx1 := fun w' (hb : Below Vw5.heap.size Vw5 w') => (cells3 (keepH X_2.out hb)).2.1
  have kx2 := fun w' (hb : Below Vw5.heap.size Vw5 w') => (cells3 (keepH X_2.out hb)).2.2
  have ky0 := fun w' (hb : Below Vw5.heap.size Vw5 w') => (cells3 (keepH Y_0.out hb)).1
  have ky1 := fun w' (hb : Below Vw5.heap.size Vw5 w') => (cells3 (keepH Y_0.out hb)).2.1
  have ky2 := fun w' (hb : Below Vw5.heap.size Vw5 w') => (cells3 (keepH Y_0.out hb)).2.2
  have D0 : Below Vw5.heap.size Vw5 Vw5 := Below.refl _ _
  go_region_held (fun w' => Below Vw5.heap.size Vw5 w')
    (first | exact (Below.refl _ _).drew | exact D0 | exact hb6 | exact hb7 | exact hb8 | assumption)
    (first
      | (go_at_call 8; ((with_reducible refine (mrright_any a P Q _ true C5.out).mono ?_); rintro e6 v6 ⟨rfl, hb6'⟩; have hb6 : Below Vw5.heap.size Vw5 v6 := undrew hb6'))
      | (go_at_call 12; ((with_reducible refine (C2.out _).mono ?_); rintro e7 v7 ⟨rfl, hb7'⟩; have hb7 : Below Vw5.heap.size Vw5 v7 := bthen hb6 hb7'))
      | (go_at_call 12; ((with_reducible refine (C3.out _).mono ?_); rintro e8 v8 ⟨rfl, hb8'⟩; have hb8 : Below Vw5.heap.size Vw5 v8 := bthen hb7 hb8'))
      | fail)
  all_goals
    go_wp2
    go_ret
    exact ⟨rfl, bthen B_6.out hb8⟩
theorem mstays_any (a m b c d e f : Int) (w : World) : Calls Try.prog 5 #[.agg #[.int .i64 a, .int .i64 m, .int .i64 b, .int .i64 c, .int .i64 d, .int .i64 e, .int .i64 f]] w (Yes w) := by
  cases ht : Meter.right a m b with
  | false => exact mstays_no a m b c d e f w ht
  | true =>
    cases ht2 : Meter.may c d 1 with
    | false => exact mstays_not a m b c d e f w ht ht2
    | true =>
      cases ht3 : Meter.may e f 1 with
      | false => exact mstays_nor a m b c d e f w ht ht2 ht3
      | true =>
        by_cases h : 1099511627776 < c + e
        · exact mstays_far a m b c d e f w ht ht2 ht3 h
        · by_cases h' : 1099511627776 < d + f
          · exact mstays_off a m b c d e f w ht ht2 ht3 (Int.not_lt.1 h) h'
          · exact mstays_yes a m b c d e f w ht ht2 ht3 (Int.not_lt.1 h) (Int.not_lt.1 h')
end Go.Proofs.Ytahcofejjfdbbaa
