/- The document's example of package rate. -/
import Derived.Test.YtpobaecfmdpphaaRate3
set_option maxRecDepth 100000
namespace Go.Proofs.Ytpobaecfmdpphaa
open Go.RowKit
set_option linter.unusedVariables false

theorem fldR0 (a b : Int) (w : World) : Sem.run Try.prog (Instr.field 23 (.agg #[.int .i64 a, .int .i64 b]) 0) w = .ok (.int .i64 a) w := by kernel_rfl
theorem fldR1 (a b : Int) (w : World) : Sem.run Try.prog (Instr.field 23 (.agg #[.int .i64 a, .int .i64 b]) 1) w = .ok (.int .i64 b) w := by kernel_rfl
set_option maxHeartbeats 4000000 in
theorem rtshown_any (w : World) : Calls Try.prog 7 #[] w (Yes w) := by
  have h0 := Below.refl w.heap.size w
  have B_0 := hidT (h0)
  clear h0
  go_enter Try.func7, Try.ntmps7
  have t1 := alloc_at w (.cells #[.int .i64 8, .int .i64 3] 23) _ rfl
  have t3 := nkeep w (.cells #[.int .i64 8, .int .i64 3] 23)
  obtain ⟨W, hW⟩ : ∃ W, w.alloc (.cells #[.int .i64 8, .int .i64 3] 23) = W := ⟨_, rfl⟩
  obtain ⟨a0, a1⟩ := cells2 t1
  rw [hW] at t1 t3
  have HW := hidT hW
  have B_1 := hidT (bthen B_0.out t3)
  clear B_0
  have A_0 := hidT (t1)
  clear t1 t3 hW
  have hp := rtspend_any 8 3 2 W (by decide) (by decide)
  rw [show Rate.spend 3 2 = 1 from by decide, show Rate.yes 3 2 = true from by decide] at hp
  go_wp2_with fail
  rw [HW.out]
  with_reducible refine hp.mono ?_
  rintro e w1 ⟨rfl, hw1⟩
  have B_2 := hidT (bthen B_1.out hw1)
  have A_1 := hidT (keepH A_0.out hw1)
  clear B_1 A_0
  clear hw1 hp a0 a1
  have t1 := alloc_at w1 (.cells #[.int .i64 8, .int .i64 1] 23) _ rfl
  have t3 := nkeep w1 (.cells #[.int .i64 8, .int .i64 1] 23)
  obtain ⟨Vw1, hVw1⟩ : ∃ W, w1.alloc (.cells #[.int .i64 8, .int .i64 1] 23) = W := ⟨_, rfl⟩
  rw [hVw1] at t1 t3
  have HVw1 := hidT hVw1
  have B_3 := hidT (bthen B_2.out t3)
  have A_2 := hidT (keepH A_1.out t3)
  clear B_2 A_1
  obtain ⟨gw1, hgw1⟩ : ∃ p, w1.heap.size = p := ⟨_, rfl⟩
  rw [hgw1] at t1
  have X_0 := hidT (t1)
  clear t1 t3 hVw1
  obtain ⟨a0, a1⟩ := cells2 A_2.out
  have hp := rtspend_any 8 3 4 Vw1 (by decide) (by decide)
  rw [show Rate.spend 3 4 = 3 from by decide, show Rate.yes 3 4 = false from by decide] at hp
  rw [← HVw1.out] at a0 a1
  go_wp2_with fail
  rw [HVw1.out]
  clear hgw1
  with_reducible refine hp.mono ?_
  rintro e w2 ⟨rfl, hw2⟩
  have B_4 := hidT (bthen B_3.out hw2)
  have A_3 := hidT (keepH A_2.out hw2)
  have X_1 := hidT (keepH X_0.out hw2)
  clear B_3 A_2 X_0
  clear hw2 hp a0 a1
  have t1 := alloc_at w2 (.cells #[.int .i64 8, .int .i64 3] 23) _ rfl
  have t3 := nkeep w2 (.cells #[.int .i64 8, .int .i64 3] 23)
  obtain ⟨Vw2, hVw2⟩ : ∃ W, w2.alloc (.cells #[.int .i64 8, .int .i64 3] 23) = W := ⟨_, rfl⟩
  rw [hVw2] at t1 t3
  have HVw2 := hidT hVw2
  have B_5 := hidT (bthen B_4.out t3)
  have A_4 := hidT (keepH A_3.out t3)
  have X_2 := hidT (keepH X_1.out t3)
  clear B_4 A_3 X_1
  obtain ⟨gw2, hgw2⟩ : ∃ p, w2.heap.size = p := ⟨_, rfl⟩
  rw [hgw2] at t1
  have Y_0 := hidT (t1)
  clear t1 t3 hVw2
  clear Y_0
  have k0 := fldR0
  have k1 := fldR1
  obtain ⟨a0, a1⟩ := cells2 A_4.out
  have hp := rttick_any 8 3 1 8 20 1 Vw2 (by decide)
  rw [show Rate.more 8 1 8 1 = 4 from by decide, show Rate.left 3 4 20 = 7 from by decide] at hp
  rw [← HVw2.out] at a0 a1
  go_wp2_with fail
  rw [HVw2.out]
  clear hgw2
  with_reducible refine hp.mono ?_
  rintro e w3 ⟨rfl, hw3⟩
  have B_6 := hidT (bthen B_5.out hw3)
  have A_5 := hidT (keepH A_4.out hw3)
  have X_3 := hidT (keepH X_2.out hw3)
  clear B_5 A_4 X_2
  clear hw3 hp a0 a1
  obtain ⟨a0, a1⟩ := cells2 A_5.out
  have hp := rttick_any 8 3 1 8 20 0 w3 (by decide)
  rw [show Rate.more 8 1 8 0 = 8 from by decide, show Rate.left 3 8 20 = 11 from by decide] at hp
  go_wp2_with fail
  with_reducible refine hp.mono ?_
  rintro e w4 ⟨rfl, hw4⟩
  have B_7 := hidT (bthen B_6.out hw4)
  have A_6 := hidT (keepH A_5.out hw4)
  have X_4 := hidT (keepH X_3.out hw4)
  clear B_6 A_5 X_3
  clear hw4 hp a0 a1
  obtain ⟨x0, x1⟩ := cells2 X_4.out
  have hp := rtstart_any 8 20 w4
  go_wp2_with fail
  with_reducible refine hp.mono ?_
  rintro e w5 ⟨rfl, hw5⟩
  have B_8 := hidT (bthen B_7.out hw5)
  have A_7 := hidT (keepH A_6.out hw5)
  have X_5 := hidT (keepH X_4.out hw5)
  clear B_7 A_6 X_4
  clear hw5 hp x0 x1
  obtain ⟨a0, a1⟩ := cells2 A_7.out
  have hp := rtright_any 8 3 1 8 20 w5 true (by decide)
  go_wp2_with fail
  with_reducible refine hp.mono ?_
  rintro e w6 ⟨rfl, hw6⟩
  have B_9 := hidT (bthen B_8.out hw6)
  have A_8 := hidT (keepH A_7.out hw6)
  have X_6 := hidT (keepH X_5.out hw6)
  clear B_8 A_7 X_5
  clear hw6 hp a0 a1
  obtain ⟨a0, a1⟩ := cells2 A_8.out
  have hp := rtright_any 8 3 1 7 20 w6 false (by decide)
  go_wp2_with fail
  with_reducible refine hp.mono ?_
  rintro e w7 ⟨rfl, hw7⟩
  have B_10 := hidT (bthen B_9.out hw7)
  have A_9 := hidT (keepH A_8.out hw7)
  have X_7 := hidT (keepH X_6.out hw7)
  clear B_9 A_8 X_6
  clear hw7 hp a0 a1
  go_wp2
  go_ret
  exact ⟨rfl, B_10.out⟩
end Go.Proofs.Ytpobaecfmdpphaa
