/- The document's example of package meter. -/
import Derived.Test.YtahcofejjfdbbaaMeter3
set_option maxRecDepth 100000
namespace Go.Proofs.Ytahcofejjfdbbaa
open Go.RowKit
set_option linter.unusedVariables false

set_option maxHeartbeats 4000000 in
theorem mtshown_any (w : World) : Calls Try.prog 7 #[] w (Yes w) := by
  have h0 := Below.refl w.heap.size w
  have B_0 := hidT (h0)
  clear h0
  go_enter Try.func7, Try.ntmps7
  have hp := add_any 0 (m := 0) (b := 0) (c := 3) (d := 10) (by decide) (by decide) (by decide) (by decide) w
  rw [show Meter.cap (0 + 3) = 3 from by decide, show Meter.cap (0 + 10) = 10 from by decide] at hp
  go_wp2_with fail
  with_reducible refine hp.mono ?_
  rintro e w1 ⟨rfl, hw1⟩
  have B_1 := hidT (bthen B_0.out hw1)
  clear B_0
  clear hw1 hp
  have hp := mttick_any 0 3 10 2 w1 (by decide) (by decide) (by decide)
  rw [if_pos (by decide), show (0 : Int) + 1 = 1 from by decide] at hp
  go_wp2_with fail
  with_reducible refine hp.mono ?_
  rintro e w2 ⟨rfl, hw2⟩
  have B_2 := hidT (bthen B_1.out hw2)
  clear B_1
  clear hw2 hp
  have t1 := alloc_at w2 (.cells #[.int .i64 1, .int .i64 3, .int .i64 10] 23) _ rfl
  have t3 := nkeep w2 (.cells #[.int .i64 1, .int .i64 3, .int .i64 10] 23)
  obtain ⟨Vw2, hVw2⟩ : ∃ W, w2.alloc (.cells #[.int .i64 1, .int .i64 3, .int .i64 10] 23) = W := ⟨_, rfl⟩
  rw [hVw2] at t1 t3
  have HVw2 := hidT hVw2
  have B_3 := hidT (bthen B_2.out t3)
  clear B_2
  obtain ⟨gw2, hgw2⟩ : ∃ p, w2.heap.size = p := ⟨_, rfl⟩
  rw [hgw2] at t1
  have A_0 := hidT (t1)
  clear t1 t3 hVw2
  obtain ⟨a0, a1, a2⟩ := cells3 A_0.out
  have hp := add_any 1 (m := 3) (b := 10) (c := 1) (d := 5) (by decide) (by decide) (by decide) (by decide) Vw2
  rw [show Meter.cap (3 + 1) = 4 from by decide, show Meter.cap (10 + 5) = 15 from by decide] at hp
  rw [← HVw2.out] at a0 a1 a2
  go_wp2_with fail
  rw [HVw2.out]
  clear hgw2
  with_reducible refine hp.mono ?_
  rintro e w3 ⟨rfl, hw3⟩
  have B_4 := hidT (bthen B_3.out hw3)
  have A_1 := hidT (keepH A_0.out hw3)
  clear B_3 A_0
  clear hw3 hp a0 a1 a2
  have hp := mttick_any 1 4 15 2 w3 (by decide) (by decide) (by decide)
  rw [if_neg (by decide)] at hp
  go_wp2_with fail
  with_reducible refine hp.mono ?_
  rintro e w4 ⟨rfl, hw4⟩
  have B_5 := hidT (bthen B_4.out hw4)
  have A_2 := hidT (keepH A_1.out hw4)
  clear B_4 A_1
  clear hw4 hp
  have t1 := alloc_at w4 (.cells #[.int .i64 0, .int .i64 0, .int .i64 0] 23) _ rfl
  have t3 := nkeep w4 (.cells #[.int .i64 0, .int .i64 0, .int .i64 0] 23)
  obtain ⟨Vw4, hVw4⟩ : ∃ W, w4.alloc (.cells #[.int .i64 0, .int .i64 0, .int .i64 0] 23) = W := ⟨_, rfl⟩
  rw [hVw4] at t1 t3
  have HVw4 := hidT hVw4
  have B_6 := hidT (bthen B_5.out t3)
  have A_3 := hidT (keepH A_2.out t3)
  clear B_5 A_2
  obtain ⟨gw4, hgw4⟩ : ∃ p, w4.heap.size = p := ⟨_, rfl⟩
  rw [hgw4] at t1
  have C_0 := hidT (t1)
  clear t1 t3 hVw4
  obtain ⟨a0, a1, a2⟩ := cells3 A_3.out
  obtain ⟨c0, c1, c2⟩ := cells3 C_0.out
  have hB := B_6.out
  rw [← HVw4.out] at a0 a1 a2 c0 c1 c2 hB
  go_wp2
  go_ret
  exact ⟨rfl, hB⟩
end Go.Proofs.Ytahcofejjfdbbaa
