/- The law WantTells, walked. -/
import Derived.Test.YtpbkaaljilcecaaWantShown
set_option maxRecDepth 100000
namespace Go.Proofs.Ytpbkaaljilcecaa
open Go.RowKit
set_option linter.unusedVariables false

theorem cells6 {w : World} {g : Nat} {a0 a1 a2 a3 a4 a5 : Value} {t : TypeId} (h : w.heap[g]? = some (.cells #[a0, a1, a2, a3, a4, a5] t (0, 0))) : w.cell? ⟨g, 0, none⟩ = some a0 ∧ w.cell? ⟨g, 1, none⟩ = some a1 ∧ w.cell? ⟨g, 2, none⟩ = some a2 ∧ w.cell? ⟨g, 3, none⟩ = some a3 ∧ w.cell? ⟨g, 4, none⟩ = some a4 ∧ w.cell? ⟨g, 5, none⟩ = some a5 :=
  ⟨cell_at h 0 rfl, cell_at h 1 rfl, cell_at h 2 rfl, cell_at h 3 rfl, cell_at h 4 rfl, cell_at h 5 rfl⟩
set_option maxHeartbeats 4000000 in
theorem wtells_no (k n l h o y : Int) (w : World) (ht : Want.may n h o y = false) : Calls Try.prog 3 #[.agg #[.int .i64 k, .int .i64 n, .int .i64 l, .int .i64 h, .int .i64 o, .int .i64 y]] w (Yes w) := by
  obtain ⟨t1, t2, t3⟩ := two_alloc w (.cells #[.int .i64 k, .int .i64 n, .int .i64 l, .int .i64 h, .int .i64 o, .int .i64 y] 25) (.cells #[.int .i64 k] 23)
  obtain ⟨i0, i1, i2, i3, i4, i5⟩ := cells6 (alloc_at w (.cells #[.int .i64 k, .int .i64 n, .int .i64 l, .int .i64 h, .int .i64 o, .int .i64 y] 25) _ rfl)
  obtain ⟨j0, j1, j2, j3, j4, j5⟩ := cells6 t1
  obtain ⟨W, hW⟩ : ∃ W, (w.alloc (.cells #[.int .i64 k, .int .i64 n, .int .i64 l, .int .i64 h, .int .i64 o, .int .i64 y] 25)).alloc (.cells #[.int .i64 k] 23) = W := ⟨_, rfl⟩
  rw [hW] at t2 t3
  have HW := hidT hW
  clear t1 hW
  obtain ⟨g, hg⟩ : ∃ g, w.heap.size + 1 = g := ⟨_, rfl⟩
  rw [hg] at t2
  have B_0 := hidT (t3)
  have A_0 := hidT (t2)
  clear t2 t3
  go_enter Try.func3, Try.ntmps3
  go_wp2_with fail
  rw [HW.out]
  clear hg i0 i1 i2 i3 i4 i5 j0 j1 j2 j3 j4 j5
  have hp := wantshown_any W
  with_reducible refine hp.mono ?_
  rintro e w1 ⟨rfl, hw1⟩
  have B_1 := hidT (bthen B_0.out hw1)
  have A_1 := hidT (keepH A_0.out hw1)
  clear B_0 A_0
  clear hw1 hp
  have a0 := cells1 A_1.out
  have hp := rmay_any n h o y w1 false ht
  go_wp2_with fail
  with_reducible refine hp.mono ?_
  rintro e wq ⟨rfl, hwq⟩
  obtain rfl : w1 = wq := hwq.symm
  clear hp hwq
  go_wp2
  go_ret
  exact ⟨rfl, B_1.out⟩
set_option maxHeartbeats 4000000 in
theorem wtells_low (k n l h o y : Int) (w : World) (ht : Want.may n h o y = true) (hk : k < 0) : Calls Try.prog 3 #[.agg #[.int .i64 k, .int .i64 n, .int .i64 l, .int .i64 h, .int .i64 o, .int .i64 y]] w (Yes w) := by
  obtain ⟨t1, t2, t3⟩ := two_alloc w (.cells #[.int .i64 k, .int .i64 n, .int .i64 l, .int .i64 h, .int .i64 o, .int .i64 y] 25) (.cells #[.int .i64 k] 23)
  obtain ⟨i0, i1, i2, i3, i4, i5⟩ := cells6 (alloc_at w (.cells #[.int .i64 k, .int .i64 n, .int .i64 l, .int .i64 h, .int .i64 o, .int .i64 y] 25) _ rfl)
  obtain ⟨j0, j1, j2, j3, j4, j5⟩ := cells6 t1
  obtain ⟨W, hW⟩ : ∃ W, (w.alloc (.cells #[.int .i64 k, .int .i64 n, .int .i64 l, .int .i64 h, .int .i64 o, .int .i64 y] 25)).alloc (.cells #[.int .i64 k] 23) = W := ⟨_, rfl⟩
  rw [hW] at t2 t3
  have HW := hidT hW
  clear t1 hW
  obtain ⟨g, hg⟩ : ∃ g, w.heap.size + 1 = g := ⟨_, rfl⟩
  rw [hg] at t2
  have B_0 := hidT (t3)
  have A_0 := hidT (t2)
  clear t2 t3
  go_enter Try.func3, Try.ntmps3
  go_wp2_with fail
  rw [HW.out]
  clear hg i0 i1 i2 i3 i4 i5 j0 j1 j2 j3 j4 j5
  have hp := wantshown_any W
  with_reducible refine hp.mono ?_
  rintro e w1 ⟨rfl, hw1⟩
  have B_1 := hidT (bthen B_0.out hw1)
  have A_1 := hidT (keepH A_0.out hw1)
  clear B_0 A_0
  clear hw1 hp
  have a0 := cells1 A_1.out
  have hp := rmay_any n h o y w1 true ht
  go_wp2_with fail
  with_reducible refine hp.mono ?_
  rintro e wq ⟨rfl, hwq⟩
  obtain rfl : w1 = wq := hwq.symm
  clear hp hwq
  have u1 : decide (k < 0) = true := by simpa using hk
  go_wp2
  go_ret
  exact ⟨rfl, B_1.out⟩
set_option maxHeartbeats 4000000 in
theorem wtells_high (k n l h o y : Int) (w : World) (ht : Want.may n h o y = true) (hk : 0 ≤ k) (hk2 : 1152921504606846976 < k) : Calls Try.prog 3 #[.agg #[.int .i64 k, .int .i64 n, .int .i64 l, .int .i64 h, .int .i64 o, .int .i64 y]] w (Yes w) := by
  obtain ⟨t1, t2, t3⟩ := two_alloc w (.cells #[.int .i64 k, .int .i64 n, .int .i64 l, .int .i64 h, .int .i64 o, .int .i64 y] 25) (.cells #[.int .i64 k] 23)
  obtain ⟨i0, i1, i2, i3, i4, i5⟩ := cells6 (alloc_at w (.cells #[.int .i64 k, .int .i64 n, .int .i64 l, .int .i64 h, .int .i64 o, .int .i64 y] 25) _ rfl)
  obtain ⟨j0, j1, j2, j3, j4, j5⟩ := cells6 t1
  obtain ⟨W, hW⟩ : ∃ W, (w.alloc (.cells #[.int .i64 k, .int .i64 n, .int .i64 l, .int .i64 h, .int .i64 o, .int .i64 y] 25)).alloc (.cells #[.int .i64 k] 23) = W := ⟨_, rfl⟩
  rw [hW] at t2 t3
  have HW := hidT hW
  clear t1 hW
  obtain ⟨g, hg⟩ : ∃ g, w.heap.size + 1 = g := ⟨_, rfl⟩
  rw [hg] at t2
  have B_0 := hidT (t3)
  have A_0 := hidT (t2)
  clear t2 t3
  go_enter Try.func3, Try.ntmps3
  go_wp2_with fail
  rw [HW.out]
  clear hg i0 i1 i2 i3 i4 i5 j0 j1 j2 j3 j4 j5
  have hp := wantshown_any W
  with_reducible refine hp.mono ?_
  rintro e w1 ⟨rfl, hw1⟩
  have B_1 := hidT (bthen B_0.out hw1)
  have A_1 := hidT (keepH A_0.out hw1)
  clear B_0 A_0
  clear hw1 hp
  have a0 := cells1 A_1.out
  have hp := rmay_any n h o y w1 true ht
  go_wp2_with fail
  with_reducible refine hp.mono ?_
  rintro e wq ⟨rfl, hwq⟩
  obtain rfl : w1 = wq := hwq.symm
  clear hp hwq
  have u1 : decide (k < 0) = false := by simp; omega
  have u2 : decide (1152921504606846976 < k) = true := by simpa using hk2
  go_wp2
  go_ret
  exact ⟨rfl, B_1.out⟩
set_option maxHeartbeats 4000000 in
theorem wtells_yes (k n l h o y : Int) (w : World) (ht : Want.may n h o y = true) (hk : 0 ≤ k) (hk2 : k ≤ 1152921504606846976) : Calls Try.prog 3 #[.agg #[.int .i64 k, .int .i64 n, .int .i64 l, .int .i64 h, .int .i64 o, .int .i64 y]] w (Yes w) := by
  obtain ⟨t1, t2, t3⟩ := two_alloc w (.cells #[.int .i64 k, .int .i64 n, .int .i64 l, .int .i64 h, .int .i64 o, .int .i64 y] 25) (.cells #[.int .i64 k] 23)
  obtain ⟨i0, i1, i2, i3, i4, i5⟩ := cells6 (alloc_at w (.cells #[.int .i64 k, .int .i64 n, .int .i64 l, .int .i64 h, .int .i64 o, .int .i64 y] 25) _ rfl)
  obtain ⟨j0, j1, j2, j3, j4, j5⟩ := cells6 t1
  obtain ⟨W, hW⟩ : ∃ W, (w.alloc (.cells #[.int .i64 k, .int .i64 n, .int .i64 l, .int .i64 h, .int .i64 o, .int .i64 y] 25)).alloc (.cells #[.int .i64 k] 23) = W := ⟨_, rfl⟩
  rw [hW] at t2 t3
  have HW := hidT hW
  clear t1 hW
  obtain ⟨g, hg⟩ : ∃ g, w.heap.size + 1 = g := ⟨_, rfl⟩
  rw [hg] at t2
  have B_0 := hidT (t3)
  have A_0 := hidT (t2)
  clear t2 t3
  go_enter Try.func3, Try.ntmps3
  go_wp2_with fail
  rw [HW.out]
  clear hg i0 i1 i2 i3 i4 i5 j0 j1 j2 j3 j4 j5
  have hp := wantshown_any W
  with_reducible refine hp.mono ?_
  rintro e w1 ⟨rfl, hw1⟩
  have B_1 := hidT (bthen B_0.out hw1)
  have A_1 := hidT (keepH A_0.out hw1)
  clear B_0 A_0
  clear hw1 hp
  have a0 := cells1 A_1.out
  have hp := rmay_any n h o y w1 true ht
  go_wp2_with fail
  with_reducible refine hp.mono ?_
  rintro e wq ⟨rfl, hwq⟩
  obtain rfl : w1 = wq := hwq.symm
  clear hp hwq
  have u1 : decide (k < 0) = false := by simp; omega
  have u2 : decide (1152921504606846976 < k) = false := by simp; omega
  obtain ⟨n0, n1, ho, hy⟩ := Want.may_iff.1 ht
  have hn : n = 0 ∨ n = 1 := by omega
  obtain ⟨Q, HQ⟩ : ∃ Q, Hid (Want.asks n l h o = Q) := ⟨_, hidT rfl⟩
  obtain ⟨K, HK⟩ : ∃ K, Hid (Want.hits Q k y = K) := ⟨_, hidT rfl⟩
  obtain ⟨t, HT⟩ : ∃ t, Hid (Want.yes Q k y = t) := ⟨_, hidT rfl⟩
  have HS : Hid (∀ w, Calls Try.prog 9 #[.agg #[.int .i64 k], .int .i64 n, .int .i64 l, .int .i64 h, .int .i64 o, .int .i64 y] w (StepIs w K t)) := hidT fun w => by
    have x := step_any k n l h o y w hn hk hk2
    rw [HQ.out, HK.out, HT.out] at x
    exact x
  have HR : Hid (∀ w, Calls Try.prog 10 #[.agg #[.int .i64 k], .int .i64 n, .int .i64 l, .int .i64 h, .int .i64 o, .int .i64 y] w (StepIs w K t)) := hidT fun w => by
    have x := rstep_any k n l h o y w hn hk hk2
    rw [HQ.out, HK.out, HT.out] at x
    exact x
  have HA : Hid (∀ w, Calls Try.prog 11 #[.int .i64 n, .int .i64 l, .int .i64 h, .int .i64 o] w (fun e w' => e = .returned (.bool Q) ∧ w' = w)) := hidT fun w => by
    have x := asks_any n l h o w hn
    rw [HQ.out] at x
    exact x
  have HX : Hid (∀ w, Calls Try.prog 12 #[.int .i64 n, .int .i64 l, .int .i64 h, .int .i64 o] w (fun e w' => e = .returned (.bool Q) ∧ w' = w)) := hidT fun w => by
    have x := rasks_any n l h o w hn
    rw [HQ.out] at x
    exact x
  obtain ⟨z, hz⟩ : ∃ z, 1 - n = z := ⟨_, rfl⟩
  have HO : Hid (∀ w, Calls Try.prog 13 #[.int .i64 n] w (fun e w' => e = .returned (.int .i64 z) ∧ w' = w)) := hidT fun w => by
    have x := other_any n w hn
    rw [hz] at x
    exact x
  have HP : Hid (∀ w, Calls Try.prog 14 #[.int .i64 n] w (fun e w' => e = .returned (.int .i64 z) ∧ w' = w)) := hidT fun w => by
    have x := rother_any n w hn
    rw [hz] at x
    exact x
  clear ht hk hk2 n0 n1 ho hy hn hz
  have hp := HS.out w1
  go_wp2_with fail
  with_reducible refine hp.mono ?_
  rintro e w2 ⟨rfl, hw2⟩
  have B_2 := hidT (bthen B_1.out hw2)
  have A_2 := hidT (keepH A_1.out hw2)
  clear B_1 A_1
  clear hw2 hp a0
  have t1 := alloc_at w2 (.cells #[.int .i64 K] 23) _ rfl
  have t3 := nkeep w2 (.cells #[.int .i64 K] 23)
  obtain ⟨Vw2, hVw2⟩ : ∃ W, w2.alloc (.cells #[.int .i64 K] 23) = W := ⟨_, rfl⟩
  rw [hVw2] at t1 t3
  have HVw2 := hidT hVw2
  have B_3 := hidT (bthen B_2.out t3)
  have A_3 := hidT (keepH A_2.out t3)
  clear B_2 A_2
  obtain ⟨gw2, hgw2⟩ : ∃ p, w2.heap.size = p := ⟨_, rfl⟩
  rw [hgw2] at t1
  have X_0 := hidT (t1)
  clear t1 t3 hVw2
  have a0 := cells1 A_3.out
  have hp := HR.out Vw2
  rw [← HVw2.out] at a0
  go_wp2_with fail
  rw [HVw2.out]
  clear hgw2
  with_reducible refine hp.mono ?_
  rintro e w3 ⟨rfl, hw3⟩
  have B_4 := hidT (bthen B_3.out hw3)
  have A_4 := hidT (keepH A_3.out hw3)
  have X_1 := hidT (keepH X_0.out hw3)
  clear B_3 A_3 X_0
  clear hw3 hp a0
  have t1 := alloc_at w3 (.cells #[.int .i64 K] 23) _ rfl
  have t3 := nkeep w3 (.cells #[.int .i64 K] 23)
  obtain ⟨Vw3, hVw3⟩ : ∃ W, w3.alloc (.cells #[.int .i64 K] 23) = W := ⟨_, rfl⟩
  rw [hVw3] at t1 t3
  have HVw3 := hidT hVw3
  have B_5 := hidT (bthen B_4.out t3)
  have A_5 := hidT (keepH A_4.out t3)
  have X_2 := hidT (keepH X_1.out t3)
  clear B_4 A_4 X_1
  obtain ⟨gw3, hgw3⟩ : ∃ p, w3.heap.size = p := ⟨_, rfl⟩
  rw [hgw3] at t1
  have Y_0 := hidT (t1)
  clear t1 t3 hVw3
  have x0 := cells1 X_2.out
  have y0 := cells1 Y_0.out
  rw [← HVw3.out] at x0 y0
  go_wp2_with fail
  rw [HVw3.out]
  clear hgw3 x0 y0
  with_reducible refine (HA.out Vw3).mono ?_
  rintro e wq ⟨rfl, hwq⟩
  obtain rfl : Vw3 = wq := hwq.symm
  clear hwq
  go_wp2_with fail
  with_reducible refine (HX.out Vw3).mono ?_
  rintro e wq ⟨rfl, hwq⟩
  obtain rfl : Vw3 = wq := hwq.symm
  clear hwq
  go_wp2_with fail
  with_reducible refine (HO.out Vw3).mono ?_
  rintro e wq ⟨rfl, hwq⟩
  obtain rfl : Vw3 = wq := hwq.symm
  clear hwq
  go_wp2_with fail
  with_reducible refine (HP.out Vw3).mono ?_
  rintro e wq ⟨rfl, hwq⟩
  obtain rfl : Vw3 = wq := hwq.symm
  clear hwq
  go_wp2
  go_ret
  exact ⟨rfl, B_5.out⟩
theorem wtells_any (k n l h o y : Int) (w : World) : Calls Try.prog 3 #[.agg #[.int .i64 k, .int .i64 n, .int .i64 l, .int .i64 h, .int .i64 o, .int .i64 y]] w (Yes w) := by
  cases ht : Want.may n h o y with
  | false => exact wtells_no k n l h o y w ht
  | true =>
    by_cases h1 : k < 0
    · exact wtells_low k n l h o y w ht h1
    · by_cases h2 : 1152921504606846976 < k
      · exact wtells_high k n l h o y w ht (by omega) h2
      · exact wtells_yes k n l h o y w ht (by omega) (by omega)
end Go.Proofs.Ytpbkaaljilcecaa
