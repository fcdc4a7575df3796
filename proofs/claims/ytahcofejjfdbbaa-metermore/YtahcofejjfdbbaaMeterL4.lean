/- The law MeterMore, walked. -/
import Derived.Test.YtahcofejjfdbbaaMeterShown
set_option maxRecDepth 100000
namespace Go.Proofs.Ytahcofejjfdbbaa
open Go.RowKit
set_option linter.unusedVariables false

theorem cells6 {w : World} {g : Nat} {a0 a1 a2 a3 a4 a5 : Value} {t : TypeId} (h : w.heap[g]? = some (.cells #[a0, a1, a2, a3, a4, a5] t (0, 0))) : w.cell? ⟨g, 0, none⟩ = some a0 ∧ w.cell? ⟨g, 1, none⟩ = some a1 ∧ w.cell? ⟨g, 2, none⟩ = some a2 ∧ w.cell? ⟨g, 3, none⟩ = some a3 ∧ w.cell? ⟨g, 4, none⟩ = some a4 ∧ w.cell? ⟨g, 5, none⟩ = some a5 :=
  ⟨cell_at h 0 rfl, cell_at h 1 rfl, cell_at h 2 rfl, cell_at h 3 rfl, cell_at h 4 rfl, cell_at h 5 rfl⟩
set_option maxHeartbeats 4000000 in
theorem mmore_no (a m b c d u : Int) (w : World) (hu : 0 ≤ u ∧ u < 4294967296) (ht : Meter.right a m b = false) : Calls Try.prog 6 #[.agg #[.int .i64 a, .int .i64 m, .int .i64 b, .int .i64 c, .int .i64 d, .int .u32 u]] w (Yes w) := by
  have p1 : wrap64 u = u := IntWalk.wrap64_in _ (by omega)
  obtain ⟨t1, t2, t3⟩ := two_alloc w (.cells #[.int .i64 a, .int .i64 m, .int .i64 b, .int .i64 c, .int .i64 d, .int .u32 u] 41) (.cells #[.int .i64 a, .int .i64 m, .int .i64 b] 23)
  obtain ⟨i0, i1, i2, i3, i4, i5⟩ := cells6 (alloc_at w (.cells #[.int .i64 a, .int .i64 m, .int .i64 b, .int .i64 c, .int .i64 d, .int .u32 u] 41) _ rfl)
  obtain ⟨j0, j1, j2, j3, j4, j5⟩ := cells6 t1
  obtain ⟨W, hW⟩ : ∃ W, (w.alloc (.cells #[.int .i64 a, .int .i64 m, .int .i64 b, .int .i64 c, .int .i64 d, .int .u32 u] 41)).alloc (.cells #[.int .i64 a, .int .i64 m, .int .i64 b] 23) = W := ⟨_, rfl⟩
  rw [hW] at t2 t3
  have HW := hidT hW
  clear t1 hW
  obtain ⟨g, hg⟩ : ∃ g, w.heap.size + 1 = g := ⟨_, rfl⟩
  rw [hg] at t2
  have B_0 := hidT (t3)
  have A_0 := hidT (t2)
  clear t2 t3
  go_enter Try.func6, Try.ntmps6
  go_wp2_with fail
  rw [HW.out]
  clear hg i0 i1 i2 i3 i4 i5 j0 j1 j2 j3 j4 j5
  have hp := mtshown_any W
  with_reducible refine hp.mono ?_
  rintro e w1 ⟨rfl, hw1⟩
  have B_1 := hidT (bthen B_0.out hw1)
  have A_1 := hidT (keepH A_0.out hw1)
  clear B_0 A_0
  clear hw1 hp
  obtain ⟨a0, a1, a2⟩ := cells3 A_1.out
  have hp := mrright_any a m b w1 false ht
  go_wp2_with fail
  with_reducible refine hp.mono ?_
  rintro e w2 ⟨rfl, hw2⟩
  have B_2 := hidT (bthen B_1.out hw2)
  have A_2 := hidT (keepH A_1.out hw2)
  clear B_1 A_1
  clear hw2 hp a0 a1 a2
  go_wp2
  go_ret
  exact ⟨rfl, B_2.out⟩
set_option maxHeartbeats 4000000 in
theorem mmore_not (a m b c d u : Int) (w : World) (hu : 0 ≤ u ∧ u < 4294967296) (ht : Meter.right a m b = true) (ht2 : Meter.may c d 1 = false) : Calls Try.prog 6 #[.agg #[.int .i64 a, .int .i64 m, .int .i64 b, .int .i64 c, .int .i64 d, .int .u32 u]] w (Yes w) := by
  have p1 : wrap64 u = u := IntWalk.wrap64_in _ (by omega)
  obtain ⟨t1, t2, t3⟩ := two_alloc w (.cells #[.int .i64 a, .int .i64 m, .int .i64 b, .int .i64 c, .int .i64 d, .int .u32 u] 41) (.cells #[.int .i64 a, .int .i64 m, .int .i64 b] 23)
  obtain ⟨i0, i1, i2, i3, i4, i5⟩ := cells6 (alloc_at w (.cells #[.int .i64 a, .int .i64 m, .int .i64 b, .int .i64 c, .int .i64 d, .int .u32 u] 41) _ rfl)
  obtain ⟨j0, j1, j2, j3, j4, j5⟩ := cells6 t1
  obtain ⟨W, hW⟩ : ∃ W, (w.alloc (.cells #[.int .i64 a, .int .i64 m, .int .i64 b, .int .i64 c, .int .i64 d, .int .u32 u] 41)).alloc (.cells #[.int .i64 a, .int .i64 m, .int .i64 b] 23) = W := ⟨_, rfl⟩
  rw [hW] at t2 t3
  have HW := hidT hW
  clear t1 hW
  obtain ⟨g, hg⟩ : ∃ g, w.heap.size + 1 = g := ⟨_, rfl⟩
  rw [hg] at t2
  have B_0 := hidT (t3)
  have A_0 := hidT (t2)
  clear t2 t3
  go_enter Try.func6, Try.ntmps6
  go_wp2_with fail
  rw [HW.out]
  clear hg i0 i1 i2 i3 i4 i5 j0 j1 j2 j3 j4 j5
  have hp := mtshown_any W
  with_reducible refine hp.mono ?_
  rintro e w1 ⟨rfl, hw1⟩
  have B_1 := hidT (bthen B_0.out hw1)
  have A_1 := hidT (keepH A_0.out hw1)
  clear B_0 A_0
  clear hw1 hp
  obtain ⟨a0, a1, a2⟩ := cells3 A_1.out
  have hp := mrright_any a m b w1 true ht
  go_wp2_with fail
  with_reducible refine hp.mono ?_
  rintro e w2 ⟨rfl, hw2⟩
  have B_2 := hidT (bthen B_1.out hw2)
  have A_2 := hidT (keepH A_1.out hw2)
  clear B_1 A_1
  clear hw2 hp a0 a1 a2
  have hp := mrmay_any c d 1 w2 false ht2
  go_wp2_with fail
  with_reducible refine hp.mono ?_
  rintro e wz ⟨rfl, rfl⟩
  clear hp
  go_wp2
  go_ret
  exact ⟨rfl, B_2.out⟩
set_option maxHeartbeats 4000000 in
theorem mmore_far (a m b c d u : Int) (w : World) (hu : 0 ≤ u ∧ u < 4294967296) (ht : Meter.right a m b = true) (ht2 : Meter.may c d 1 = true) (h : 1099511627776 < c + u) : Calls Try.prog 6 #[.agg #[.int .i64 a, .int .i64 m, .int .i64 b, .int .i64 c, .int .i64 d, .int .u32 u]] w (Yes w) := by
  have p1 : wrap64 u = u := IntWalk.wrap64_in _ (by omega)
  obtain ⟨t1, t2, t3⟩ := two_alloc w (.cells #[.int .i64 a, .int .i64 m, .int .i64 b, .int .i64 c, .int .i64 d, .int .u32 u] 41) (.cells #[.int .i64 a, .int .i64 m, .int .i64 b] 23)
  obtain ⟨i0, i1, i2, i3, i4, i5⟩ := cells6 (alloc_at w (.cells #[.int .i64 a, .int .i64 m, .int .i64 b, .int .i64 c, .int .i64 d, .int .u32 u] 41) _ rfl)
  obtain ⟨j0, j1, j2, j3, j4, j5⟩ := cells6 t1
  obtain ⟨W, hW⟩ : ∃ W, (w.alloc (.cells #[.int .i64 a, .int .i64 m, .int .i64 b, .int .i64 c, .int .i64 d, .int .u32 u] 41)).alloc (.cells #[.int .i64 a, .int .i64 m, .int .i64 b] 23) = W := ⟨_, rfl⟩
  rw [hW] at t2 t3
  have HW := hidT hW
  clear t1 hW
  obtain ⟨g, hg⟩ : ∃ g, w.heap.size + 1 = g := ⟨_, rfl⟩
  rw [hg] at t2
  have B_0 := hidT (t3)
  have A_0 := hidT (t2)
  clear t2 t3
  go_enter Try.func6, Try.ntmps6
  go_wp2_with fail
  rw [HW.out]
  clear hg i0 i1 i2 i3 i4 i5 j0 j1 j2 j3 j4 j5
  have hp := mtshown_any W
  with_reducible refine hp.mono ?_
  rintro e w1 ⟨rfl, hw1⟩
  have B_1 := hidT (bthen B_0.out hw1)
  have A_1 := hidT (keepH A_0.out hw1)
  clear B_0 A_0
  clear hw1 hp
  obtain ⟨a0, a1, a2⟩ := cells3 A_1.out
  have hp := mrright_any a m b w1 true ht
  go_wp2_with fail
  with_reducible refine hp.mono ?_
  rintro e w2 ⟨rfl, hw2⟩
  have B_2 := hidT (bthen B_1.out hw2)
  have A_2 := hidT (keepH A_1.out hw2)
  clear B_1 A_1
  clear hw2 hp a0 a1 a2
  have hp := mrmay_any c d 1 w2 true ht2
  go_wp2_with fail
  with_reducible refine hp.mono ?_
  rintro e wz ⟨rfl, rfl⟩
  clear hp
  obtain ⟨g1, g2, g3, g4, g5, g6⟩ := Meter.may_iff.1 ht2
  have p2 : wrap64 (c + u) = c + u := IntWalk.wrap64_in _ (by omega)
  have p3 : decide (1099511627776 < c + u) = true := by simpa using h
  clear ht ht2 g1 g2 g3 g4 g5 g6 h hu
  go_wp2
  go_ret
  exact ⟨rfl, B_2.out⟩
set_option maxHeartbeats 8000000 in
theorem mmore_yes (a m b c d u : Int) (w : World) (hu : 0 ≤ u ∧ u < 4294967296) (ht : Meter.right a m b = true) (ht2 : Meter.may c d 1 = true) (h : c + u ≤ 1099511627776) : Calls Try.prog 6 #[.agg #[.int .i64 a, .int .i64 m, .int .i64 b, .int .i64 c, .int .i64 d, .int .u32 u]] w (Yes w) := by
  have p1 : wrap64 u = u := IntWalk.wrap64_in _ (by omega)
  obtain ⟨t1, t2, t3⟩ := two_alloc w (.cells #[.int .i64 a, .int .i64 m, .int .i64 b, .int .i64 c, .int .i64 d, .int .u32 u] 41) (.cells #[.int .i64 a, .int .i64 m, .int .i64 b] 23)
  obtain ⟨i0, i1, i2, i3, i4, i5⟩ := cells6 (alloc_at w (.cells #[.int .i64 a, .int .i64 m, .int .i64 b, .int .i64 c, .int .i64 d, .int .u32 u] 41) _ rfl)
  obtain ⟨j0, j1, j2, j3, j4, j5⟩ := cells6 t1
  obtain ⟨W, hW⟩ : ∃ W, (w.alloc (.cells #[.int .i64 a, .int .i64 m, .int .i64 b, .int .i64 c, .int .i64 d, .int .u32 u] 41)).alloc (.cells #[.int .i64 a, .int .i64 m, .int .i64 b] 23) = W := ⟨_, rfl⟩
  rw [hW] at t2 t3
  have HW := hidT hW
  clear t1 hW
  obtain ⟨g, hg⟩ : ∃ g, w.heap.size + 1 = g := ⟨_, rfl⟩
  rw [hg] at t2
  have B_0 := hidT (t3)
  have A_0 := hidT (t2)
  clear t2 t3
  go_enter Try.func6, Try.ntmps6
  go_wp2_with fail
  rw [HW.out]
  clear hg i0 i1 i2 i3 i4 i5 j0 j1 j2 j3 j4 j5
  have hp := mtshown_any W
  with_reducible refine hp.mono ?_
  rintro e w1 ⟨rfl, hw1⟩
  have B_1 := hidT (bthen B_0.out hw1)
  have A_1 := hidT (keepH A_0.out hw1)
  clear B_0 A_0
  clear hw1 hp
  obtain ⟨a0, a1, a2⟩ := cells3 A_1.out
  have hp := mrright_any a m b w1 true ht
  go_wp2_with fail
  with_reducible refine hp.mono ?_
  rintro e w2 ⟨rfl, hw2⟩
  have B_2 := hidT (bthen B_1.out hw2)
  have A_2 := hidT (keepH A_1.out hw2)
  clear B_1 A_1
  clear hw2 hp a0 a1 a2
  have hp := mrmay_any c d 1 w2 true ht2
  go_wp2_with fail
  with_reducible refine hp.mono ?_
  rintro e wz ⟨rfl, rfl⟩
  clear hp
  obtain ⟨h1, h2, h3, h4, h5, h6⟩ := Meter.right_iff.1 ht
  obtain ⟨g1, g2, g3, g4, g5, g6⟩ := Meter.may_iff.1 ht2
  have p2 : wrap64 (c + u) = c + u := IntWalk.wrap64_in _ (by omega)
  have p3 : decide (1099511627776 < c + u) = false := by simpa using h
  have c1 := fun w => add_any a (m := m) (b := b) (c := c) (d := d) ⟨h3, h4⟩ ⟨h5, h6⟩ ⟨g1, g2⟩ ⟨g3, g4⟩ w
  have c2 := fun w => add_any a (m := m) (b := b) (c := c + u) (d := d) ⟨h3, h4⟩ ⟨h5, h6⟩ ⟨by omega, h⟩ ⟨g3, g4⟩ w
  have l1 : Meter.cap (m + c) ≤ Meter.cap (m + (c + u)) := Meter.cap_mono (by omega)
  have l2 := (Meter.cap_in (n := m + (c + u)) (by omega)).2
  have l3 := (Meter.cap_in (n := b + d) (by omega)).2
  have l4 : 1099511627776 < m + c ∨ Meter.cap (m + c) = m + c := by
    by_cases z : 1099511627776 < m + c
    · exact .inl z
    · exact .inr (Meter.cap_le (by omega))
  have l5 : 1099511627776 < b + d ∨ Meter.cap (b + d) = b + d := by
    by_cases z : 1099511627776 < b + d
    · exact .inl z
    · exact .inr (Meter.cap_le (by omega))
  obtain ⟨P, hP⟩ : ∃ q, Meter.cap (m + c) = q := ⟨_, rfl⟩
  obtain ⟨Q, hQ⟩ : ∃ q, Meter.cap (b + d) = q := ⟨_, rfl⟩
  obtain ⟨R, hR⟩ : ∃ q, Meter.cap (m + (c + u)) = q := ⟨_, rfl⟩
  rw [hP] at c1 l1 l4
  rw [hQ] at c1 c2 l3 l5
  rw [hR] at c2 l1 l2
  have C1 := hidT c1
  have C2 := hidT c2
  have d1 : decide (P ≤ R) = true := by simpa using l1
  have d2 : decide (R ≤ 1099511627776) = true := by simpa using l2
  have d3 : decide (Q ≤ 1099511627776) = true := by simpa using l3
  obtain ⟨M, eM⟩ : ∃ q, m + c = q := ⟨_, rfl⟩
  obtain ⟨N, eN⟩ : ∃ q, b + d = q := ⟨_, rfl⟩
  have wm : wrap64 (m + c) = M := by rw [IntWalk.wrap64_in _ (by omega)]; exact eM
  have wb : wrap64 (b + d) = N := by rw [IntWalk.wrap64_in _ (by omega)]; exact eN
  have L4 := hidT l4
  have L5 := hidT l5
  clear c1 c2 l1 l2 l3 l4 l5 hP hQ hR ht ht2 h1 h2 h3 h4 h5 h6 g1 g2 g3 g4 g5 g6 h hu
  have hp := C1.out wz
  obtain ⟨a0, a1, a2⟩ := cells3 A_2.out
  go_wp2_with fail
  with_reducible refine hp.mono ?_
  rintro e w4 ⟨rfl, hw4⟩
  have B_3 := hidT (bthen B_2.out hw4)
  have A_3 := hidT (keepH A_2.out hw4)
  clear B_2 A_2
  clear hw4 hp a0 a1 a2
  have t1 := alloc_at w4 (.cells #[.int .i64 a, .int .i64 P, .int .i64 Q] 23) _ rfl
  have t3 := nkeep w4 (.cells #[.int .i64 a, .int .i64 P, .int .i64 Q] 23)
  obtain ⟨Vw4, hVw4⟩ : ∃ W, w4.alloc (.cells #[.int .i64 a, .int .i64 P, .int .i64 Q] 23) = W := ⟨_, rfl⟩
  rw [hVw4] at t1 t3
  have HVw4 := hidT hVw4
  have B_4 := hidT (bthen B_3.out t3)
  have A_4 := hidT (keepH A_3.out t3)
  clear B_3 A_3
  obtain ⟨gw4, hgw4⟩ : ∃ p, w4.heap.size = p := ⟨_, rfl⟩
  rw [hgw4] at t1
  have X_0 := hidT (t1)
  clear t1 t3 hVw4
  have hp := C2.out Vw4
  obtain ⟨a0, a1, a2⟩ := cells3 A_4.out
  rw [← HVw4.out] at a0 a1 a2
  go_wp2_with fail
  rw [HVw4.out]
  clear hgw4
  with_reducible refine hp.mono ?_
  rintro e w5 ⟨rfl, hw5⟩
  have B_5 := hidT (bthen B_4.out hw5)
  have A_5 := hidT (keepH A_4.out hw5)
  have X_1 := hidT (keepH X_0.out hw5)
  clear B_4 A_4 X_0
  clear hw5 hp a0 a1 a2
  have t1 := alloc_at w5 (.cells #[.int .i64 a, .int .i64 R, .int .i64 Q] 23) _ rfl
  have t3 := nkeep w5 (.cells #[.int .i64 a, .int .i64 R, .int .i64 Q] 23)
  obtain ⟨Vw5, hVw5⟩ : ∃ W, w5.alloc (.cells #[.int .i64 a, .int .i64 R, .int .i64 Q] 23) = W := ⟨_, rfl⟩
  rw [hVw5] at t1 t3
  have HVw5 := hidT hVw5
  have B_6 := hidT (bthen B_5.out t3)
  have A_6 := hidT (keepH A_5.out t3)
  have X_2 := hidT (keepH X_1.out t3)
  clear B_5 A_5 X_1
  obtain ⟨gw5, hgw5⟩ : ∃ p, w5.heap.size = p := ⟨_, rfl⟩
  rw [hgw5] at t1
  have Y_0 := hidT (t1)
  clear t1 t3 hVw5
  obtain ⟨a0, a1, a2⟩ := cells3 A_6.out
  obtain ⟨x0, x1, x2⟩ := cells3 X_2.out
  obtain ⟨y0, y1, y2⟩ := cells3 Y_0.out
  have hB := B_6.out
  rw [← HVw5.out] at a0 a1 a2 x0 x1 x2 y0 y1 y2 hB
  have L4 := L4.out
  have L5 := L5.out
  rw [eM] at L4
  rw [eN] at L5
  clear eM eN
  by_cases z : 1099511627776 < M
  ·
    have z0 : decide (1099511627776 < M) = true := by simp; omega
    by_cases y : 1099511627776 < N
    ·
      have y0 : decide (1099511627776 < N) = true := by simp; omega
      clear L4 L5 z y
      go_wp2
      go_ret
      exact ⟨rfl, hB⟩
    ·
      have y0 : decide (1099511627776 < N) = false := by simp; omega
      have y1 : decide (Q = N) = true := by simp; omega
      have y2 : (Q == N) = true := by simp; omega
      clear L4 L5 z y
      go_wp2
      go_ret
      exact ⟨rfl, hB⟩
  ·
    have z0 : decide (1099511627776 < M) = false := by simp; omega
    have z1 : decide (P = M) = true := by simp; omega
    have z2 : (P == M) = true := by simp; omega
    by_cases y : 1099511627776 < N
    ·
      have y0 : decide (1099511627776 < N) = true := by simp; omega
      clear L4 L5 z y
      go_wp2
      go_ret
      exact ⟨rfl, hB⟩
    ·
      have y0 : decide (1099511627776 < N) = false := by simp; omega
      have y1 : decide (Q = N) = true := by simp; omega
      have y2 : (Q == N) = true := by simp; omega
      clear L4 L5 z y
      go_wp2
      go_ret
      exact ⟨rfl, hB⟩
theorem mmore_any (a m b c d u : Int) (w : World) (hu : 0 ≤ u ∧ u < 4294967296) : Calls Try.prog 6 #[.agg #[.int .i64 a, .int .i64 m, .int .i64 b, .int .i64 c, .int .i64 d, .int .u32 u]] w (Yes w) := by
  cases ht : Meter.right a m b with
  | false => exact mmore_no a m b c d u w hu ht
  | true =>
    cases ht2 : Meter.may c d 1 with
    | false => exact mmore_not a m b c d u w hu ht ht2
    | true =>
      by_cases h : 1099511627776 < c + u
      · exact mmore_far a m b c d u w hu ht ht2 h
      · exact mmore_yes a m b c d u w hu ht ht2 (Int.not_lt.1 h)
end Go.Proofs.Ytahcofejjfdbbaa
