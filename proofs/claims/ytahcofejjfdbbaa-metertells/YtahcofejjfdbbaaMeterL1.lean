/- The law MeterTells, walked. -/
import Derived.Test.YtahcofejjfdbbaaMeterShown
set_option maxRecDepth 100000
namespace Go.Proofs.Ytahcofejjfdbbaa
open Go.RowKit
set_option linter.unusedVariables false

theorem cells6 {w : World} {g : Nat} {a0 a1 a2 a3 a4 a5 : Value} {t : TypeId} (h : w.heap[g]? = some (.cells #[a0, a1, a2, a3, a4, a5] t (0, 0))) : w.cell? ⟨g, 0, none⟩ = some a0 ∧ w.cell? ⟨g, 1, none⟩ = some a1 ∧ w.cell? ⟨g, 2, none⟩ = some a2 ∧ w.cell? ⟨g, 3, none⟩ = some a3 ∧ w.cell? ⟨g, 4, none⟩ = some a4 ∧ w.cell? ⟨g, 5, none⟩ = some a5 :=
  ⟨cell_at h 0 rfl, cell_at h 1 rfl, cell_at h 2 rfl, cell_at h 3 rfl, cell_at h 4 rfl, cell_at h 5 rfl⟩
set_option maxHeartbeats 4000000 in
theorem mtells_no (a m b c d k : Int) (w : World) (ht : Meter.right a m b = false) : Calls Try.prog 3 #[.agg #[.int .i64 a, .int .i64 m, .int .i64 b, .int .i64 c, .int .i64 d, .int .i64 k]] w (Yes w) := by
  obtain ⟨t1, t2, t3⟩ := two_alloc w (.cells #[.int .i64 a, .int .i64 m, .int .i64 b, .int .i64 c, .int .i64 d, .int .i64 k] 25) (.cells #[.int .i64 a, .int .i64 m, .int .i64 b] 23)
  obtain ⟨i0, i1, i2, i3, i4, i5⟩ := cells6 (alloc_at w (.cells #[.int .i64 a, .int .i64 m, .int .i64 b, .int .i64 c, .int .i64 d, .int .i64 k] 25) _ rfl)
  obtain ⟨j0, j1, j2, j3, j4, j5⟩ := cells6 t1
  obtain ⟨W, hW⟩ : ∃ W, (w.alloc (.cells #[.int .i64 a, .int .i64 m, .int .i64 b, .int .i64 c, .int .i64 d, .int .i64 k] 25)).alloc (.cells #[.int .i64 a, .int .i64 m, .int .i64 b] 23) = W := ⟨_, rfl⟩
  rw [hW] at t2 t3
  have HW := hidT hW
  clear t1 hW
  obtain ⟨g, hg⟩ : ∃ g, w.heap.size + 1 = g := ⟨_, rfl⟩
  rw [hg] at t2
  have B_0 := hidT (t3)
  have A_0 := hidT (t2)
  clear t2 t3
  go_enter Try.func3, Try.ntmps3
  go_wp2_with fail
  rw [HW.out]
  clear hg i0 i1 i2 i3 i4 i5 j0 j1 j2 j3 j4 j5
  have hp := mtshown_any W
  with_reducible refine hp.mono ?_
  rintro e w1 ⟨rfl, hw1⟩
  have B_1 := hidT (bthen B_0.out hw1)
  have A_1 := hidT (keepH A_0.out hw1)
  clear B_0 A_0
  clear hw1 hp
  obtain ⟨a0, a1, a2⟩ := cells3 A_1.out
  have hp := mrright_any a m b w1 false ht
  go_wp2_with fail
  with_reducible refine hp.mono ?_
  rintro e w2 ⟨rfl, hw2⟩
  have B_2 := hidT (bthen B_1.out hw2)
  have A_2 := hidT (keepH A_1.out hw2)
  clear B_1 A_1
  clear hw2 hp a0 a1 a2
  go_wp2
  go_ret
  exact ⟨rfl, B_2.out⟩
set_option maxHeartbeats 4000000 in
theorem mtells_not (a m b c d k : Int) (w : World) (ht : Meter.right a m b = true) (ht2 : Meter.may c d k = false) : Calls Try.prog 3 #[.agg #[.int .i64 a, .int .i64 m, .int .i64 b, .int .i64 c, .int .i64 d, .int .i64 k]] w (Yes w) := by
  obtain ⟨t1, t2, t3⟩ := two_alloc w (.cells #[.int .i64 a, .int .i64 m, .int .i64 b, .int .i64 c, .int .i64 d, .int .i64 k] 25) (.cells #[.int .i64 a, .int .i64 m, .int .i64 b] 23)
  obtain ⟨i0, i1, i2, i3, i4, i5⟩ := cells6 (alloc_at w (.cells #[.int .i64 a, .int .i64 m, .int .i64 b, .int .i64 c, .int .i64 d, .int .i64 k] 25) _ rfl)
  obtain ⟨j0, j1, j2, j3, j4, j5⟩ := cells6 t1
  obtain ⟨W, hW⟩ : ∃ W, (w.alloc (.cells #[.int .i64 a, .int .i64 m, .int .i64 b, .int .i64 c, .int .i64 d, .int .i64 k] 25)).alloc (.cells #[.int .i64 a, .int .i64 m, .int .i64 b] 23) = W := ⟨_, rfl⟩
  rw [hW] at t2 t3
  have HW := hidT hW
  clear t1 hW
  obtain ⟨g, hg⟩ : ∃ g, w.heap.size + 1 = g := ⟨_, rfl⟩
  rw [hg] at t2
  have B_0 := hidT (t3)
  have A_0 := hidT (t2)
  clear t2 t3
  go_enter Try.func3, Try.ntmps3
  go_wp2_with fail
  rw [HW.out]
  clear hg i0 i1 i2 i3 i4 i5 j0 j1 j2 j3 j4 j5
  have hp := mtshown_any W
  with_reducible refine hp.mono ?_
  rintro e w1 ⟨rfl, hw1⟩
  have B_1 := hidT (bthen B_0.out hw1)
  have A_1 := hidT (keepH A_0.out hw1)
  clear B_0 A_0
  clear hw1 hp
  obtain ⟨a0, a1, a2⟩ := cells3 A_1.out
  have hp := mrright_any a m b w1 true ht
  go_wp2_with fail
  with_reducible refine hp.mono ?_
  rintro e w2 ⟨rfl, hw2⟩
  have B_2 := hidT (bthen B_1.out hw2)
  have A_2 := hidT (keepH A_1.out hw2)
  clear B_1 A_1
  clear hw2 hp a0 a1 a2
  have hp := mrmay_any c d k w2 false ht2
  go_wp2_with fail
  with_reducible refine hp.mono ?_
  rintro e wz ⟨rfl, rfl⟩
  clear hp
  go_wp2
  go_ret
  exact ⟨rfl, B_2.out⟩
set_option maxHeartbeats 8000000 in
theorem mtells_ahead (a m b c d k : Int) (w : World) (ht : Meter.right a m b = true) (ht2 : Meter.may c d k = true) (h : a + 1 < k) : Calls Try.prog 3 #[.agg #[.int .i64 a, .int .i64 m, .int .i64 b, .int .i64 c, .int .i64 d, .int .i64 k]] w (Yes w) := by
  obtain ⟨t1, t2, t3⟩ := two_alloc w (.cells #[.int .i64 a, .int .i64 m, .int .i64 b, .int .i64 c, .int .i64 d, .int .i64 k] 25) (.cells #[.int .i64 a, .int .i64 m, .int .i64 b] 23)
  obtain ⟨i0, i1, i2, i3, i4, i5⟩ := cells6 (alloc_at w (.cells #[.int .i64 a, .int .i64 m, .int .i64 b, .int .i64 c, .int .i64 d, .int .i64 k] 25) _ rfl)
  obtain ⟨j0, j1, j2, j3, j4, j5⟩ := cells6 t1
  obtain ⟨W, hW⟩ : ∃ W, (w.alloc (.cells #[.int .i64 a, .int .i64 m, .int .i64 b, .int .i64 c, .int .i64 d, .int .i64 k] 25)).alloc (.cells #[.int .i64 a, .int .i64 m, .int .i64 b] 23) = W := ⟨_, rfl⟩
  rw [hW] at t2 t3
  have HW := hidT hW
  clear t1 hW
  obtain ⟨g, hg⟩ : ∃ g, w.heap.size + 1 = g := ⟨_, rfl⟩
  rw [hg] at t2
  have B_0 := hidT (t3)
  have A_0 := hidT (t2)
  clear t2 t3
  go_enter Try.func3, Try.ntmps3
  go_wp2_with fail
  rw [HW.out]
  clear hg i0 i1 i2 i3 i4 i5 j0 j1 j2 j3 j4 j5
  have hp := mtshown_any W
  with_reducible refine hp.mono ?_
  rintro e w1 ⟨rfl, hw1⟩
  have B_1 := hidT (bthen B_0.out hw1)
  have A_1 := hidT (keepH A_0.out hw1)
  clear B_0 A_0
  clear hw1 hp
  obtain ⟨a0, a1, a2⟩ := cells3 A_1.out
  have hp := mrright_any a m b w1 true ht
  go_wp2_with fail
  with_reducible refine hp.mono ?_
  rintro e w2 ⟨rfl, hw2⟩
  have B_2 := hidT (bthen B_1.out hw2)
  have A_2 := hidT (keepH A_1.out hw2)
  clear B_1 A_1
  clear hw2 hp a0 a1 a2
  have hp := mrmay_any c d k w2 true ht2
  go_wp2_with fail
  with_reducible refine hp.mono ?_
  rintro e wz ⟨rfl, rfl⟩
  clear hp
  obtain ⟨h1, h2, h3, h4, h5, h6⟩ := Meter.right_iff.1 ht
  obtain ⟨g1, g2, g3, g4, g5, g6⟩ := Meter.may_iff.1 ht2
  obtain ⟨N, hN⟩ : ∃ N, a + 1 = N := ⟨_, rfl⟩
  have cmt := fun w => add_any a (m := m) (b := b) (c := c) (d := d) ⟨h3, h4⟩ ⟨h5, h6⟩ ⟨g1, g2⟩ ⟨g3, g4⟩ w
  have cmr := fun w => mradd_any a (m := m) (b := b) (c := c) (d := d) ⟨h3, h4⟩ ⟨h5, h6⟩ ⟨g1, g2⟩ ⟨g3, g4⟩ w
  obtain ⟨P, hP⟩ : ∃ q, Meter.cap (m + c) = q := ⟨_, rfl⟩
  obtain ⟨Q, hQ⟩ : ∃ q, Meter.cap (b + d) = q := ⟨_, rfl⟩
  rw [hP, hQ] at cmt cmr
  have HA := hidT cmt
  have HR := hidT cmr
  clear cmt cmr hP hQ
  obtain ⟨a0, a1, a2⟩ := cells3 A_2.out
  have hp := mttick_any a m b k wz ⟨h1, h2⟩ ⟨h3, h4⟩ ⟨h5, h6⟩
  rw [if_pos h, hN] at hp
  go_wp2_with fail
  with_reducible refine hp.mono ?_
  rintro e w4 ⟨rfl, hw4⟩
  have B_3 := hidT (bthen B_2.out hw4)
  have A_3 := hidT (keepH A_2.out hw4)
  clear B_2 A_2
  clear hw4 hp a0 a1 a2
  have t1 := alloc_at w4 (.cells #[.int .i64 N, .int .i64 m, .int .i64 b] 23) _ rfl
  have t3 := nkeep w4 (.cells #[.int .i64 N, .int .i64 m, .int .i64 b] 23)
  obtain ⟨Vw4, hVw4⟩ : ∃ W, w4.alloc (.cells #[.int .i64 N, .int .i64 m, .int .i64 b] 23) = W := ⟨_, rfl⟩
  rw [hVw4] at t1 t3
  have HVw4 := hidT hVw4
  have B_4 := hidT (bthen B_3.out t3)
  have A_4 := hidT (keepH A_3.out t3)
  clear B_3 A_3
  obtain ⟨gw4, hgw4⟩ : ∃ p, w4.heap.size = p := ⟨_, rfl⟩
  rw [hgw4] at t1
  have X_0 := hidT (t1)
  clear t1 t3 hVw4
  obtain ⟨a0, a1, a2⟩ := cells3 A_4.out
  have hp := mrtick_any a m b k Vw4 ⟨h1, h2⟩
  rw [if_pos h, hN] at hp
  rw [← HVw4.out] at a0 a1 a2
  go_wp2_with fail
  rw [HVw4.out]
  clear hgw4
  with_reducible refine hp.mono ?_
  rintro e w5 ⟨rfl, hw5⟩
  have B_5 := hidT (bthen B_4.out hw5)
  have A_5 := hidT (keepH A_4.out hw5)
  have X_1 := hidT (keepH X_0.out hw5)
  clear B_4 A_4 X_0
  clear hw5 hp a0 a1 a2
  have t1 := alloc_at w5 (.cells #[.int .i64 N, .int .i64 m, .int .i64 b] 23) _ rfl
  have t3 := nkeep w5 (.cells #[.int .i64 N, .int .i64 m, .int .i64 b] 23)
  obtain ⟨Vw5, hVw5⟩ : ∃ W, w5.alloc (.cells #[.int .i64 N, .int .i64 m, .int .i64 b] 23) = W := ⟨_, rfl⟩
  rw [hVw5] at t1 t3
  have HVw5 := hidT hVw5
  have B_6 := hidT (bthen B_5.out t3)
  have A_6 := hidT (keepH A_5.out t3)
  have X_2 := hidT (keepH X_1.out t3)
  clear B_5 A_5 X_1
  obtain ⟨gw5, hgw5⟩ : ∃ p, w5.heap.size = p := ⟨_, rfl⟩
  rw [hgw5] at t1
  have Y_0 := hidT (t1)
  clear t1 t3 hVw5
  obtain ⟨a0, a1, a2⟩ := cells3 A_6.out
  obtain ⟨x0, x1, x2⟩ := cells3 X_2.out
  obtain ⟨y0, y1, y2⟩ := cells3 Y_0.out
  clear ht ht2 h1 h2 h3 h4 h5 h6 g1 g2 g3 g4 g5 g6 hN h
  rw [← HVw5.out] at a0 a1 a2 x0 x1 x2 y0 y1 y2
  go_wp2_with fail
  rw [HVw5.out]
  rw [HVw5.out] at a0 a1 a2 x0 x1 x2 y0 y1 y2
  clear hgw5 a0 a1 a2 x0 x1 x2 y0 y1 y2
  have ka0 := fun w' (hb : Below Vw5.heap.size Vw5 w') => (cells3 (keepH A_6.out hb)).1
  have ka1 := fun w' (hb : Below Vw5.heap.size Vw5 w') => (cells3 (keepH A_6.out hb)).2.1
  have ka2 := fun w' (hb : Below Vw5.heap.size Vw5 w') => (cells3 (keepH A_6.out hb)).2.2
  have kx0 := fun w' (hb : Below Vw5.heap.size Vw5 w') => (cells3 (keepH X_2.out hb)).1
  have kx1 := fun w' (hb : Below Vw5.heap.size Vw5 w') => (cells3 (keepH X_2.out hb)).2.1
  have kx2 := fun w' (hb : Below Vw5.heap.size Vw5 w') => (cells3 (keepH X_2.out hb)).2.2
  have ky0 := fun w' (hb : Below Vw5.heap.size Vw5 w') => (cells3 (keepH Y_0.out hb)).1
  have ky1 := fun w' (hb : Below Vw5.heap.size Vw5 w') => (cells3 (keepH Y_0.out hb)).2.1
  have ky2 := fun w' (hb : Below Vw5.heap.size Vw5 w') => (cells3 (keepH Y_0.out hb)).2.2
  have D0 : Below Vw5.heap.size Vw5 Vw5 := Below.refl _ _
  go_region_held (fun w' => Below Vw5.heap.size Vw5 w')
    (first | exact (Below.refl _ _).drew | exact D0 | exact hb6 | exact hb7 | assumption)
    (first
      | (go_at_call 12; ((with_reducible refine (HA.out _).mono ?_); rintro e6 v6 ⟨rfl, hb6'⟩; have hb6 : Below Vw5.heap.size Vw5 v6 := undrew hb6'))
      | (go_at_call 13; ((with_reducible refine (HR.out _).mono ?_); rintro e7 v7 ⟨rfl, hb7'⟩; have hb7 : Below Vw5.heap.size Vw5 v7 := bthen hb6 hb7'))
      | fail)
  all_goals
    go_wp2
    go_ret
    exact ⟨rfl, bthen B_6.out hb7⟩
set_option maxHeartbeats 8000000 in
theorem mtells_over (a m b c d k : Int) (w : World) (ht : Meter.right a m b = true) (ht2 : Meter.may c d k = true) (h : k ≤ a + 1) : Calls Try.prog 3 #[.agg #[.int .i64 a, .int .i64 m, .int .i64 b, .int .i64 c, .int .i64 d, .int .i64 k]] w (Yes w) := by
  obtain ⟨t1, t2, t3⟩ := two_alloc w (.cells #[.int .i64 a, .int .i64 m, .int .i64 b, .int .i64 c, .int .i64 d, .int .i64 k] 25) (.cells #[.int .i64 a, .int .i64 m, .int .i64 b] 23)
  obtain ⟨i0, i1, i2, i3, i4, i5⟩ := cells6 (alloc_at w (.cells #[.int .i64 a, .int .i64 m, .int .i64 b, .int .i64 c, .int .i64 d, .int .i64 k] 25) _ rfl)
  obtain ⟨j0, j1, j2, j3, j4, j5⟩ := cells6 t1
  obtain ⟨W, hW⟩ : ∃ W, (w.alloc (.cells #[.int .i64 a, .int .i64 m, .int .i64 b, .int .i64 c, .int .i64 d, .int .i64 k] 25)).alloc (.cells #[.int .i64 a, .int .i64 m, .int .i64 b] 23) = W := ⟨_, rfl⟩
  rw [hW] at t2 t3
  have HW := hidT hW
  clear t1 hW
  obtain ⟨g, hg⟩ : ∃ g, w.heap.size + 1 = g := ⟨_, rfl⟩
  rw [hg] at t2
  have B_0 := hidT (t3)
  have A_0 := hidT (t2)
  clear t2 t3
  go_enter Try.func3, Try.ntmps3
  go_wp2_with fail
  rw [HW.out]
  clear hg i0 i1 i2 i3 i4 i5 j0 j1 j2 j3 j4 j5
  have hp := mtshown_any W
  with_reducible refine hp.mono ?_
  rintro e w1 ⟨rfl, hw1⟩
  have B_1 := hidT (bthen B_0.out hw1)
  have A_1 := hidT (keepH A_0.out hw1)
  clear B_0 A_0
  clear hw1 hp
  obtain ⟨a0, a1, a2⟩ := cells3 A_1.out
  have hp := mrright_any a m b w1 true ht
  go_wp2_with fail
  with_reducible refine hp.mono ?_
  rintro e w2 ⟨rfl, hw2⟩
  have B_2 := hidT (bthen B_1.out hw2)
  have A_2 := hidT (keepH A_1.out hw2)
  clear B_1 A_1
  clear hw2 hp a0 a1 a2
  have hp := mrmay_any c d k w2 true ht2
  go_wp2_with fail
  with_reducible refine hp.mono ?_
  rintro e wz ⟨rfl, rfl⟩
  clear hp
  obtain ⟨h1, h2, h3, h4, h5, h6⟩ := Meter.right_iff.1 ht
  obtain ⟨g1, g2, g3, g4, g5, g6⟩ := Meter.may_iff.1 ht2
  obtain ⟨N, hN⟩ : ∃ N, a + 1 = N := ⟨_, rfl⟩
  have cmt := fun w => add_any a (m := m) (b := b) (c := c) (d := d) ⟨h3, h4⟩ ⟨h5, h6⟩ ⟨g1, g2⟩ ⟨g3, g4⟩ w
  have cmr := fun w => mradd_any a (m := m) (b := b) (c := c) (d := d) ⟨h3, h4⟩ ⟨h5, h6⟩ ⟨g1, g2⟩ ⟨g3, g4⟩ w
  obtain ⟨P, hP⟩ : ∃ q, Meter.cap (m + c) = q := ⟨_, rfl⟩
  obtain ⟨Q, hQ⟩ : ∃ q, Meter.cap (b + d) = q := ⟨_, rfl⟩
  rw [hP, hQ] at cmt cmr
  have HA := hidT cmt
  have HR := hidT cmr
  clear cmt cmr hP hQ
  obtain ⟨a0, a1, a2⟩ := cells3 A_2.out
  have hp := mttick_any a m b k wz ⟨h1, h2⟩ ⟨h3, h4⟩ ⟨h5, h6⟩
  rw [if_neg (Int.not_lt.2 h)] at hp
  go_wp2_with fail
  with_reducible refine hp.mono ?_
  rintro e w4 ⟨rfl, hw4⟩
  have B_3 := hidT (bthen B_2.out hw4)
  have A_3 := hidT (keepH A_2.out hw4)
  clear B_2 A_2
  clear hw4 hp a0 a1 a2
  have t1 := alloc_at w4 (.cells #[.int .i64 0, .int .i64 0, .int .i64 0] 23) _ rfl
  have t3 := nkeep w4 (.cells #[.int .i64 0, .int .i64 0, .int .i64 0] 23)
  obtain ⟨Vw4, hVw4⟩ : ∃ W, w4.alloc (.cells #[.int .i64 0, .int .i64 0, .int .i64 0] 23) = W := ⟨_, rfl⟩
  rw [hVw4] at t1 t3
  have HVw4 := hidT hVw4
  have B_4 := hidT (bthen B_3.out t3)
  have A_4 := hidT (keepH A_3.out t3)
  clear B_3 A_3
  obtain ⟨gw4, hgw4⟩ : ∃ p, w4.heap.size = p := ⟨_, rfl⟩
  rw [hgw4] at t1
  have X_0 := hidT (t1)
  clear t1 t3 hVw4
  obtain ⟨a0, a1, a2⟩ := cells3 A_4.out
  have hp := mrtick_any a m b k Vw4 ⟨h1, h2⟩
  rw [if_neg (Int.not_lt.2 h)] at hp
  rw [← HVw4.out] at a0 a1 a2
  go_wp2_with fail
  rw [HVw4.out]
  clear hgw4
  with_reducible refine hp.mono ?_
  rintro e w5 ⟨rfl, hw5⟩
  have B_5 := hidT (bthen B_4.out hw5)
  have A_5 := hidT (keepH A_4.out hw5)
  have X_1 := hidT (keepH X_0.out hw5)
  clear B_4 A_4 X_0
  clear hw5 hp a0 a1 a2
  have t1 := alloc_at w5 (.cells #[.int .i64 0, .int .i64 0, .int .i64 0] 23) _ rfl
  have t3 := nkeep w5 (.cells #[.int .i64 0, .int .i64 0, .int .i64 0] 23)
  obtain ⟨Vw5, hVw5⟩ : ∃ W, w5.alloc (.cells #[.int .i64 0, .int .i64 0, .int .i64 0] 23) = W := ⟨_, rfl⟩
  rw [hVw5] at t1 t3
  have HVw5 := hidT hVw5
  have B_6 := hidT (bthen B_5.out t3)
  have A_6 := hidT (keepH A_5.out t3)
  have X_2 := hidT (keepH X_1.out t3)
  clear B_5 A_5 X_1
  obtain ⟨gw5, hgw5⟩ : ∃ p, w5.heap.size = p := ⟨_, rfl⟩
  rw [hgw5] at t1
  have Y_0 := hidT (t1)
  clear t1 t3 hVw5
  obtain ⟨a0, a1, a2⟩ := cells3 A_6.out
  obtain ⟨x0, x1, x2⟩ := cells3 X_2.out
  obtain ⟨y0, y1, y2⟩ := cells3 Y_0.out
  clear ht ht2 h1 h2 h3 h4 h5 h6 g1 g2 g3 g4 g5 g6 hN h
  rw [← HVw5.out] at a0 a1 a2 x0 x1 x2 y0 y1 y2
  go_wp2_with fail
  rw [HVw5.out]
  rw [HVw5.out] at a0 a1 a2 x0 x1 x2 y0 y1 y2
  clear hgw5 a0 a1 a2 x0 x1 x2 y0 y1 y2
  have ka0 := fun w' (hb : Below Vw5.heap.size Vw5 w') => (cells3 (keepH A_6.out hb)).1
  have ka1 := fun w' (hb : Below Vw5.heap.size Vw5 w') => (cells3 (keepH A_6.out hb)).2.1
  have ka2 := fun w' (hb : Below Vw5.heap.size Vw5 w') => (cells3 (keepH A_6.out hb)).2.2
  have kx0 := fun w' (hb : Below Vw5.heap.size Vw5 w') => (cells3 (keepH X_2.out hb)).1
  have kx1 := fun w' (hb : Below Vw5.heap.size Vw5 w') => (cells3 (keepH X_2.out hb)).2.1
  have kx2 := fun w' (hb : Below Vw5.heap.size Vw5 w') => (cells3 (keepH X_2.out hb)).2.2
  have ky0 := fun w' (hb : Below Vw5.heap.size Vw5 w') => (cells3 (keepH Y_0.out hb)).1
  have ky1 := fun w' (hb : Below Vw5.heap.size Vw5 w') => (cells3 (keepH Y_0.out hb)).2.1
  have ky2 := fun w' (hb : Below Vw5.heap.size Vw5 w') => (cells3 (keepH Y_0.out hb)).2.2
  have D0 : Below Vw5.heap.size Vw5 Vw5 := Below.refl _ _
  go_region_held (fun w' => Below Vw5.heap.size Vw5 w')
    (first | exact (Below.refl _ _).drew | exact D0 | exact hb6 | exact hb7 | assumption)
    (first
      | (go_at_call 12; ((with_reducible refine (HA.out _).mono ?_); rintro e6 v6 ⟨rfl, hb6'⟩; have hb6 : Below Vw5.heap.size Vw5 v6 := undrew hb6'))
      | (go_at_call 13; ((with_reducible refine (HR.out _).mono ?_); rintro e7 v7 ⟨rfl, hb7'⟩; have hb7 : Below Vw5.heap.size Vw5 v7 := bthen hb6 hb7'))
      | fail)
  all_goals
    go_wp2
    go_ret
    exact ⟨rfl, bthen B_6.out hb7⟩
theorem mtells_any (a m b c d k : Int) (w : World) : Calls Try.prog 3 #[.agg #[.int .i64 a, .int .i64 m, .int .i64 b, .int .i64 c, .int .i64 d, .int .i64 k]] w (Yes w) := by
  cases ht : Meter.right a m b with
  | false => exact mtells_no a m b c d k w ht
  | true =>
    cases ht2 : Meter.may c d k with
    | false => exact mtells_not a m b c d k w ht ht2
    | true =>
      by_cases h : a + 1 < k
      · exact mtells_ahead a m b c d k w ht ht2 h
      · exact mtells_over a m b c d k w ht ht2 (Int.not_lt.1 h)
end Go.Proofs.Ytahcofejjfdbbaa
