/- The document's example of package ask. -/
import Derived.Test.YtkmogmdekpdbpaaAsk2
set_option maxRecDepth 100000
namespace Go.Proofs.Ytkmogmdekpdbpaa
open Go.RowKit
set_option linter.unusedVariables false

theorem fldA (a : Int) (w : World) : Sem.run Try.prog (Instr.field 23 (.agg #[.int .i64 a]) 0) w = .ok (.int .i64 a) w := by kernel_rfl
set_option maxHeartbeats 4000000 in
theorem ashown_any (w : World) : Calls Try.prog 8 #[] w (Yes w) := by
  have h0 := Below.refl w.heap.size w
  have B_0 := hidT (h0)
  clear h0
  go_enter Try.func8, Try.ntmps8
  have hp := step_any 0 5 3 true w (by omega) (by omega) (by omega) (by omega)
  rw [show Ask.due 0 5 3 true = 6 from by decide, show Ask.yes 0 5 true = false from by decide] at hp
  go_wp2_with fail
  with_reducible refine hp.mono ?_
  rintro e w1 ⟨rfl, hw1⟩
  have B_1 := hidT (bthen B_0.out hw1)
  clear B_0
  clear hw1 hp
  have t1 := alloc_at w1 (.cells #[.int .i64 6] 23) _ rfl
  have t3 := nkeep w1 (.cells #[.int .i64 6] 23)
  obtain ⟨Vw1, hVw1⟩ : ∃ W, w1.alloc (.cells #[.int .i64 6] 23) = W := ⟨_, rfl⟩
  rw [hVw1] at t1 t3
  have HVw1 := hidT hVw1
  have B_2 := hidT (bthen B_1.out t3)
  clear B_1
  obtain ⟨gw1, hgw1⟩ : ∃ p, w1.heap.size = p := ⟨_, rfl⟩
  rw [hgw1] at t1
  have A_0 := hidT (t1)
  clear t1 t3 hVw1
  have a0 := cells1 A_0.out
  have hp := step_any 6 6 3 true Vw1 (by omega) (by omega) (by omega) (by omega)
  rw [show Ask.due 6 6 3 true = 9 from by decide, show Ask.yes 6 6 true = true from by decide] at hp
  rw [← HVw1.out] at a0
  go_wp2_with fail
  rw [HVw1.out]
  clear hgw1
  with_reducible refine hp.mono ?_
  rintro e w2 ⟨rfl, hw2⟩
  have B_3 := hidT (bthen B_2.out hw2)
  have A_1 := hidT (keepH A_0.out hw2)
  clear B_2 A_0
  clear hw2 hp a0
  have t1 := alloc_at w2 (.cells #[.int .i64 9] 23) _ rfl
  have t3 := nkeep w2 (.cells #[.int .i64 9] 23)
  obtain ⟨Vw2, hVw2⟩ : ∃ W, w2.alloc (.cells #[.int .i64 9] 23) = W := ⟨_, rfl⟩
  rw [hVw2] at t1 t3
  have HVw2 := hidT hVw2
  have B_4 := hidT (bthen B_3.out t3)
  have A_2 := hidT (keepH A_1.out t3)
  clear B_3 A_1
  obtain ⟨gw2, hgw2⟩ : ∃ p, w2.heap.size = p := ⟨_, rfl⟩
  rw [hgw2] at t1
  have D_0 := hidT (t1)
  clear t1 t3 hVw2
  have a0 := cells1 D_0.out
  have hp := step_any 9 8 3 true Vw2 (by omega) (by omega) (by omega) (by omega)
  rw [show Ask.due 9 8 3 true = 9 from by decide, show Ask.yes 9 8 true = false from by decide] at hp
  rw [← HVw2.out] at a0
  go_wp2_with fail
  rw [HVw2.out]
  clear hgw2
  with_reducible refine hp.mono ?_
  rintro e w3 ⟨rfl, hw3⟩
  have B_5 := hidT (bthen B_4.out hw3)
  have A_3 := hidT (keepH A_2.out hw3)
  have D_1 := hidT (keepH D_0.out hw3)
  clear B_4 A_2 D_0
  clear hw3 hp a0
  have t1 := alloc_at w3 (.cells #[.int .i64 9] 23) _ rfl
  have t3 := nkeep w3 (.cells #[.int .i64 9] 23)
  obtain ⟨Vw3, hVw3⟩ : ∃ W, w3.alloc (.cells #[.int .i64 9] 23) = W := ⟨_, rfl⟩
  rw [hVw3] at t1 t3
  have HVw3 := hidT hVw3
  have B_6 := hidT (bthen B_5.out t3)
  have A_4 := hidT (keepH A_3.out t3)
  have D_2 := hidT (keepH D_1.out t3)
  clear B_5 A_3 D_1
  obtain ⟨gw3, hgw3⟩ : ∃ p, w3.heap.size = p := ⟨_, rfl⟩
  rw [hgw3] at t1
  have E_0 := hidT (t1)
  clear t1 t3 hVw3
  clear E_0
  have a0 := cells1 D_2.out
  have hp := step_any 9 9 3 true Vw3 (by omega) (by omega) (by omega) (by omega)
  rw [show Ask.due 9 9 3 true = 12 from by decide, show Ask.yes 9 9 true = true from by decide] at hp
  rw [← HVw3.out] at a0
  go_wp2_with fail
  rw [HVw3.out]
  clear hgw3
  with_reducible refine hp.mono ?_
  rintro e w4 ⟨rfl, hw4⟩
  have B_7 := hidT (bthen B_6.out hw4)
  have A_5 := hidT (keepH A_4.out hw4)
  have D_3 := hidT (keepH D_2.out hw4)
  clear B_6 A_4 D_2
  clear hw4 hp a0
  have t1 := alloc_at w4 (.cells #[.int .i64 12] 23) _ rfl
  have t3 := nkeep w4 (.cells #[.int .i64 12] 23)
  obtain ⟨Vw4, hVw4⟩ : ∃ W, w4.alloc (.cells #[.int .i64 12] 23) = W := ⟨_, rfl⟩
  rw [hVw4] at t1 t3
  have HVw4 := hidT hVw4
  have B_8 := hidT (bthen B_7.out t3)
  have A_6 := hidT (keepH A_5.out t3)
  have D_4 := hidT (keepH D_3.out t3)
  clear B_7 A_5 D_3
  obtain ⟨gw4, hgw4⟩ : ∃ p, w4.heap.size = p := ⟨_, rfl⟩
  rw [hgw4] at t1
  have E_1 := hidT (t1)
  clear t1 t3 hVw4
  clear E_1
  have a0 := cells1 D_4.out
  have hp := step_any 9 9 3 false Vw4 (by omega) (by omega) (by omega) (by omega)
  rw [show Ask.due 9 9 3 false = 0 from by decide, show Ask.yes 9 9 false = false from by decide] at hp
  rw [← HVw4.out] at a0
  go_wp2_with fail
  rw [HVw4.out]
  clear hgw4
  with_reducible refine hp.mono ?_
  rintro e w5 ⟨rfl, hw5⟩
  have B_9 := hidT (bthen B_8.out hw5)
  have A_7 := hidT (keepH A_6.out hw5)
  have D_5 := hidT (keepH D_4.out hw5)
  clear B_8 A_6 D_4
  clear hw5 hp a0
  have t1 := alloc_at w5 (.cells #[.int .i64 0] 23) _ rfl
  have t3 := nkeep w5 (.cells #[.int .i64 0] 23)
  obtain ⟨Vw5, hVw5⟩ : ∃ W, w5.alloc (.cells #[.int .i64 0] 23) = W := ⟨_, rfl⟩
  rw [hVw5] at t1 t3
  have HVw5 := hidT hVw5
  have B_10 := hidT (bthen B_9.out t3)
  have A_8 := hidT (keepH A_7.out t3)
  have D_6 := hidT (keepH D_5.out t3)
  clear B_9 A_7 D_5
  obtain ⟨gw5, hgw5⟩ : ∃ p, w5.heap.size = p := ⟨_, rfl⟩
  rw [hgw5] at t1
  have C_0 := hidT (t1)
  clear t1 t3 hVw5
  have a0 := cells1 A_8.out
  have d0 := cells1 D_6.out
  have c0 := cells1 C_0.out
  have k11 := fldA 11
  have k0 := fldA 0
  have hp := hush_any 9 8 3 Vw5 (by omega) (by omega) (by omega) (by omega)
  rw [show Ask.hush 9 8 3 = 11 from by decide] at hp
  rw [← HVw5.out] at a0 d0 c0
  go_wp2_with fail
  rw [HVw5.out]
  clear hgw5
  with_reducible refine hp.mono ?_
  rintro e w6 ⟨rfl, hw6⟩
  have B_11 := hidT (bthen B_10.out hw6)
  have A_9 := hidT (keepH A_8.out hw6)
  have D_7 := hidT (keepH D_6.out hw6)
  have C_1 := hidT (keepH C_0.out hw6)
  clear B_10 A_8 D_6 C_0
  clear hw6 hp a0 d0 c0
  have c0 := cells1 C_1.out
  have hp := hush_any 0 8 3 w6 (by omega) (by omega) (by omega) (by omega)
  rw [show Ask.hush 0 8 3 = 0 from by decide] at hp
  go_wp2_with fail
  with_reducible refine hp.mono ?_
  rintro e w7 ⟨rfl, hw7⟩
  have B_12 := hidT (bthen B_11.out hw7)
  have A_10 := hidT (keepH A_9.out hw7)
  have D_8 := hidT (keepH D_7.out hw7)
  have C_2 := hidT (keepH C_1.out hw7)
  clear B_11 A_9 D_7 C_1
  clear hw7 hp c0
  go_wp2
  go_ret
  exact ⟨rfl, B_12.out⟩
end Go.Proofs.Ytkmogmdekpdbpaa
