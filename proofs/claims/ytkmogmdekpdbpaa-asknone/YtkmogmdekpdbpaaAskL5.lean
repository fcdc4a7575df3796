/- The law AskNone, walked. -/
import Derived.Test.YtkmogmdekpdbpaaAskShown
set_option maxRecDepth 100000
namespace Go.Proofs.Ytkmogmdekpdbpaa
open Go.RowKit
set_option linter.unusedVariables false

set_option maxHeartbeats 4000000 in
theorem anone_any (d now t : Int) (w : World) (hn : 0 ≤ now ∧ now < 4294967296) (ht : 0 ≤ t ∧ t < 65536) : Calls Try.prog 7 #[.int .i64 d, .int .u32 now, .int .u16 t] w (Yes w) := by
  obtain ⟨hn0, hn1⟩ := hn
  obtain ⟨ht0, ht1⟩ := ht
  have e1 : Int.tmod t 1000 = t % 1000 := Int.tmod_eq_emod_of_nonneg ht0
  obtain ⟨N, hN⟩ : ∃ N, t % 1000 = N := ⟨_, rfl⟩
  have N0 : 0 ≤ N := by omega
  have N1 : N < 1000 := by omega
  rw [hN] at e1
  have p1 : wrap64 t = t := IntWalk.wrap64_in _ (by omega)
  have p2 : wrap64 now = now := IntWalk.wrap64_in _ (by omega)
  obtain ⟨n, an⟩ : ∃ n, 1 + N = n := ⟨_, rfl⟩
  have n0 : 1 ≤ n := by omega
  have n1 : n ≤ 1000 := by omega
  clear N0 N1 hN
  have s1 : wrap64 (now + 1) = now + 1 := IntWalk.wrap64_in _ (by omega)
  have s2 : wrap64 (now + 2) = now + 2 := IntWalk.wrap64_in _ (by omega)
  have s3 : wrap64 (now + 2 + n) = now + 2 + n := IntWalk.wrap64_in _ (by omega)
  have u1 : IntKind.i64.wrap (now + 1) = now + 1 := IntWalk.i64_in _ (by omega)
  have u2 : IntKind.i64.wrap (now + 2) = now + 2 := IntWalk.i64_in _ (by omega)
  have u3 : IntKind.i64.wrap (now + 2 + n) = now + 2 + n := IntWalk.i64_in _ (by omega)
  have h0 := Below.refl w.heap.size w
  have B_0 := hidT (h0)
  clear h0
  go_enter Try.func7, Try.ntmps7
  have hp := ashown_any w
  go_wp2_with fail
  with_reducible refine hp.mono ?_
  rintro e w1 ⟨rfl, hw1⟩
  have B_1 := hidT (bthen B_0.out hw1)
  clear B_0
  clear hw1 hp
  have hp := step_any d now n false w1 (by omega) (by omega) (by omega) (by omega)
  rw [Ask.due_none, Ask.yes_none] at hp
  go_wp2_with fail
  with_reducible refine hp.mono ?_
  rintro e w2 ⟨rfl, hw2⟩
  have B_2 := hidT (bthen B_1.out hw2)
  clear B_1
  clear hw2 hp
  have t1 := alloc_at w2 (.cells #[.int .i64 0] 23) _ rfl
  have t3 := nkeep w2 (.cells #[.int .i64 0] 23)
  obtain ⟨Vw2, hVw2⟩ : ∃ W, w2.alloc (.cells #[.int .i64 0] 23) = W := ⟨_, rfl⟩
  rw [hVw2] at t1 t3
  have HVw2 := hidT hVw2
  have B_3 := hidT (bthen B_2.out t3)
  clear B_2
  obtain ⟨gw2, hgw2⟩ : ∃ p, w2.heap.size = p := ⟨_, rfl⟩
  rw [hgw2] at t1
  have A_0 := hidT (t1)
  clear t1 t3 hVw2
  clear an e1 p1
  have a0 := cells1 A_0.out
  have hp := step_any 0 (now + 1) n true Vw2 (by omega) (by omega) (by omega) (by omega)
  rw [Ask.due_new, Ask.yes_new, show now + 1 + 1 = now + 2 from by omega] at hp
  rw [← HVw2.out] at a0
  go_wp2_with fail
  rw [HVw2.out]
  clear hgw2
  with_reducible refine hp.mono ?_
  rintro e w3 ⟨rfl, hw3⟩
  have B_4 := hidT (bthen B_3.out hw3)
  have A_1 := hidT (keepH A_0.out hw3)
  clear B_3 A_0
  clear hw3 hp a0
  have t1 := alloc_at w3 (.cells #[.int .i64 (now + 2)] 23) _ rfl
  have t3 := nkeep w3 (.cells #[.int .i64 (now + 2)] 23)
  obtain ⟨Vw3, hVw3⟩ : ∃ W, w3.alloc (.cells #[.int .i64 (now + 2)] 23) = W := ⟨_, rfl⟩
  rw [hVw3] at t1 t3
  have HVw3 := hidT hVw3
  have B_5 := hidT (bthen B_4.out t3)
  have A_2 := hidT (keepH A_1.out t3)
  clear B_4 A_1
  obtain ⟨gw3, hgw3⟩ : ∃ p, w3.heap.size = p := ⟨_, rfl⟩
  rw [hgw3] at t1
  have D_0 := hidT (t1)
  clear t1 t3 hVw3
  have a0 := cells1 D_0.out
  have hp := step_any (now + 2) (now + 2) n true Vw3 (by omega) (by omega) (by omega) (by omega)
  rw [Ask.due_time n (show now + 2 ≠ 0 by omega) (Int.le_refl _), Ask.yes_time (show now + 2 ≠ 0 by omega) (Int.le_refl _)] at hp
  rw [← HVw3.out] at a0
  go_wp2_with fail
  rw [HVw3.out]
  clear hgw3
  with_reducible refine hp.mono ?_
  rintro e w4 ⟨rfl, hw4⟩
  have B_6 := hidT (bthen B_5.out hw4)
  have A_3 := hidT (keepH A_2.out hw4)
  have D_1 := hidT (keepH D_0.out hw4)
  clear B_5 A_2 D_0
  clear hw4 hp a0
  have t1 := alloc_at w4 (.cells #[.int .i64 (now + 2 + n)] 23) _ rfl
  have t3 := nkeep w4 (.cells #[.int .i64 (now + 2 + n)] 23)
  obtain ⟨Vw4, hVw4⟩ : ∃ W, w4.alloc (.cells #[.int .i64 (now + 2 + n)] 23) = W := ⟨_, rfl⟩
  rw [hVw4] at t1 t3
  have HVw4 := hidT hVw4
  have B_7 := hidT (bthen B_6.out t3)
  have A_4 := hidT (keepH A_3.out t3)
  have D_2 := hidT (keepH D_1.out t3)
  clear B_6 A_3 D_1
  obtain ⟨gw4, hgw4⟩ : ∃ p, w4.heap.size = p := ⟨_, rfl⟩
  rw [hgw4] at t1
  have E_0 := hidT (t1)
  clear t1 t3 hVw4
  have a0 := cells1 A_4.out
  have d0 := cells1 D_2.out
  have c0 := cells1 E_0.out
  rw [← HVw4.out] at a0 d0 c0
  go_wp2_with fail
  rw [HVw4.out]
  go_ret
  exact ⟨rfl, B_7.out⟩
end Go.Proofs.Ytkmogmdekpdbpaa
