/- The law AskEach, walked. -/
import Derived.Test.YtkmogmdekpdbpaaAskShown
import Derived.Test.YtkmogmdekpdbpaaAskRun
set_option maxRecDepth 100000
namespace Go.Proofs.Ytkmogmdekpdbpaa
open Go.RowKit
set_option linter.unusedVariables false

set_option maxHeartbeats 4000000 in
theorem aeach_any (now t g0 : Int) (w : World) (hn : 0 ≤ now ∧ now < 4294967296) (ht : 0 ≤ t ∧ t < 256) (hg : 0 ≤ g0 ∧ g0 < 256) : Calls Try.prog 4 #[.int .u32 now, .int .u8 t, .int .u8 g0] w (Yes w) := by
  obtain ⟨hn0, hn1⟩ := hn
  have et : Int.tmod t 50 = t % 50 := Int.tmod_eq_emod_of_nonneg ht.1
  have pt : wrap64 t = t := IntWalk.wrap64_in _ (by omega)
  have eg : Int.tmod g0 200 = g0 % 200 := Int.tmod_eq_emod_of_nonneg hg.1
  have pg : wrap64 g0 = g0 := IntWalk.wrap64_in _ (by omega)
  obtain ⟨N, hN⟩ : ∃ N, t % 50 = N := ⟨_, rfl⟩
  have N0 : 0 ≤ N := by omega
  have N1 : N < 50 := by omega
  rw [hN] at et
  obtain ⟨n, an⟩ : ∃ n, 1 + N = n := ⟨_, rfl⟩
  have n0 : 1 ≤ n := by omega
  have n1 : n ≤ 50 := by omega
  clear N0 N1 hN
  obtain ⟨E, hE⟩ : ∃ E, g0 % 200 = E := ⟨_, rfl⟩
  have E0 : 0 ≤ E := by omega
  have E1 : E < 200 := by omega
  rw [hE] at eg
  have pn : wrap64 now = now := IntWalk.wrap64_in _ (by omega)
  have h0 := Below.refl w.heap.size w
  have B_0 := hidT (h0)
  clear h0 hE
  go_enter Try.func4, Try.ntmps4
  have hp := ashown_any w
  go_wp2_with fail
  with_reducible refine hp.mono ?_
  rintro e w1 ⟨rfl, hw1⟩
  have B_1 := hidT (bthen B_0.out hw1)
  clear B_0
  clear hw1 hp
  have HGW := hidT (show w.heap.size ≤ w1.heap.size from B_1.out.size)
  have t1 := alloc_at w1 (.cells #[.int .i64 0] 23) _ rfl
  have t3 := nkeep w1 (.cells #[.int .i64 0] 23)
  obtain ⟨Vw1, hVw1⟩ : ∃ W, w1.alloc (.cells #[.int .i64 0] 23) = W := ⟨_, rfl⟩
  rw [hVw1] at t1 t3
  have HVw1 := hidT hVw1
  have B_2 := hidT (bthen B_1.out t3)
  clear B_1
  obtain ⟨gw1, hgw1⟩ : ∃ p, w1.heap.size = p := ⟨_, rfl⟩
  rw [hgw1] at t1
  have A_0 := hidT (t1)
  clear t1 t3 hVw1
  rw [hgw1] at HGW
  go_wp2_with fail
  rw [HVw1.out]
  clear hgw1 et eg pt pg an
  have HA0 := hidT (A_0.out)
  have HB0 := hidT (B_2.out)
  go_loopw [11] (fun i wr => ∃ (j : Nat) (d : Int), i = .int .i64 j ∧ j ≤ 200 ∧ Hid (Ask.At now n E j d) ∧ Hid (wr.heap[gw1]? = some (.cells #[.int .i64 d] 23 (0, 0))) ∧ Hid (Below w.heap.size w wr)) (fun i _ => 200 - (intOf i).toNat)
  case atStart => exact ⟨0, 0, rfl, Nat.zero_le _, hidT (.inl ⟨.inl rfl, rfl⟩), HA0.out, HB0.out⟩
  case round =>
    obtain ⟨j, d, rfl, hj, HI, A_0, B_0⟩ := hrel
    clear HA0 HB0
    by_cases hj2 : j < 200
    ·
      have u1 : decide ((j : Int) < 200) = true := by simp; omega
      by_cases hE : (j : Int) = E
      ·
        have Hs1 : Hid (wrap64 (now + (j : Int)) = now + j) := hidT (IntWalk.wrap64_in _ (by omega))
        have g1 : decide ((j : Int) = E) = true := by simp; omega
        have g2 : ((j : Int) == E) = true := by simp; omega
        have g3 : ((j : Int) != E) = false := by simp; omega
        have g4 : decide (E < (j : Int)) = false := by simp; omega
        have HI2 := hidT (show Ask.At now n E ((j : Int) + 1) (0) from (by rw [hE]; exact Ask.At.gone now n E))
        have hp := step_any d (now + j) n false wr (by omega) (by omega) (by omega) (by omega)
        rw [Ask.due_none, Ask.yes_none] at hp
        clear HI hE
        have s1 := Hs1.out
        clear Hs1
        have a0 := cells1 A_0.out
        go_wp2_with fail
        with_reducible refine hp.mono ?_
        rintro e w5 ⟨rfl, hw5⟩
        have A_1 := hidT (keepH A_0.out hw5)
        have B_1 := hidT (bthen B_0.out hw5)
        clear A_0 B_0
        clear hw5 hp a0
        have t1 := alloc_at w5 (.cells #[.int .i64 0] 23) _ rfl
        have t3 := nkeep w5 (.cells #[.int .i64 0] 23)
        obtain ⟨Vw5, hVw5⟩ : ∃ W, w5.alloc (.cells #[.int .i64 0] 23) = W := ⟨_, rfl⟩
        rw [hVw5] at t1 t3
        have HVw5 := hidT hVw5
        have A_2 := hidT (keepH A_1.out t3)
        have B_2 := hidT (bthen B_1.out t3)
        clear A_1 B_1
        obtain ⟨gw5, hgw5⟩ : ∃ p, w5.heap.size = p := ⟨_, rfl⟩
        rw [hgw5] at t1
        have X_0 := hidT (t1)
        clear t1 t3 hVw5
        have a0 := cells1 A_2.out
        have x0 := cells1 X_0.out
        have f0 := no_frozen A_2.out 0
        rw [← HVw5.out] at a0 x0 f0
        clear hgw5
        go_wp2_with fail
        rw [HVw5.out]
        exact ⟨⟨j + 1, 0, by go_num, by omega, by simpa using HI2, hidT (set1 A_2.out _), hidT (Below.setCell (p := ⟨gw1, 0, none⟩) B_2.out HGW.out _)⟩, by first | (simp [intOf]; done) | (simp [intOf]; omega)⟩
      ·
        rcases HI.out with ⟨hh, rfl⟩ | ⟨f, m, hf, hfj, hd, hd1, hd2⟩
        ·
          rcases hh with hh | hh
          ·
            have Hs1 : Hid (wrap64 (now + (j : Int)) = now + j) := hidT (IntWalk.wrap64_in _ (by omega))
            have g1 : decide ((j : Int) = E) = false := by simp; omega
            have g2 : ((j : Int) == E) = false := by simp; omega
            have g3 : ((j : Int) != E) = true := by simp; omega
            have g4 : decide (E < (j : Int)) = false := by simp; omega
            have k3 : decide (1 ≤ (j : Int)) = false := by simp; omega
            have HI2 := hidT (show Ask.At now n E ((j : Int) + 1) (now + j + 1) from Ask.At.first (by omega) hh (by omega))
            have hp := step_any 0 (now + j) n true wr (by omega) (by omega) (by omega) (by omega)
            rw [Ask.due_new, Ask.yes_new] at hp
            clear HI hE hh
            have s1 := Hs1.out
            clear Hs1
            have a0 := cells1 A_0.out
            go_wp2_with fail
            with_reducible refine hp.mono ?_
            rintro e w5 ⟨rfl, hw5⟩
            have A_1 := hidT (keepH A_0.out hw5)
            have B_1 := hidT (bthen B_0.out hw5)
            clear A_0 B_0
            clear hw5 hp a0
            have t1 := alloc_at w5 (.cells #[.int .i64 (now + j + 1)] 23) _ rfl
            have t3 := nkeep w5 (.cells #[.int .i64 (now + j + 1)] 23)
            obtain ⟨Vw5, hVw5⟩ : ∃ W, w5.alloc (.cells #[.int .i64 (now + j + 1)] 23) = W := ⟨_, rfl⟩
            rw [hVw5] at t1 t3
            have HVw5 := hidT hVw5
            have A_2 := hidT (keepH A_1.out t3)
            have B_2 := hidT (bthen B_1.out t3)
            clear A_1 B_1
            obtain ⟨gw5, hgw5⟩ : ∃ p, w5.heap.size = p := ⟨_, rfl⟩
            rw [hgw5] at t1
            have X_0 := hidT (t1)
            clear t1 t3 hVw5
            have a0 := cells1 A_2.out
            have x0 := cells1 X_0.out
            have f0 := no_frozen A_2.out 0
            rw [← HVw5.out] at a0 x0 f0
            clear hgw5
            go_wp2_with fail
            rw [HVw5.out]
            exact ⟨⟨j + 1, now + j + 1, by go_num, by omega, by simpa using HI2, hidT (set1 A_2.out _), hidT (Below.setCell (p := ⟨gw1, 0, none⟩) B_2.out HGW.out _)⟩, by first | (simp [intOf]; done) | (simp [intOf]; omega)⟩
          ·
            have Hs1 : Hid (wrap64 (now + (j : Int)) = now + j) := hidT (IntWalk.wrap64_in _ (by omega))
            have g1 : decide ((j : Int) = E) = false := by simp; omega
            have g2 : ((j : Int) == E) = false := by simp; omega
            have g3 : ((j : Int) != E) = true := by simp; omega
            have g4 : decide (E < (j : Int)) = true := by simp; omega
            have k3 : decide (1 ≤ (j : Int) - (E + 1)) = false := by simp; omega
            have HI2 := hidT (show Ask.At now n E ((j : Int) + 1) (now + j + 1) from Ask.At.anew (by omega) (by omega) hh)
            have hp := step_any 0 (now + j) n true wr (by omega) (by omega) (by omega) (by omega)
            rw [Ask.due_new, Ask.yes_new] at hp
            clear HI hE hh
            have s1 := Hs1.out
            clear Hs1
            have a0 := cells1 A_0.out
            go_wp2_with fail
            with_reducible refine hp.mono ?_
            rintro e w5 ⟨rfl, hw5⟩
            have A_1 := hidT (keepH A_0.out hw5)
            have B_1 := hidT (bthen B_0.out hw5)
            clear A_0 B_0
            clear hw5 hp a0
            have t1 := alloc_at w5 (.cells #[.int .i64 (now + j + 1)] 23) _ rfl
            have t3 := nkeep w5 (.cells #[.int .i64 (now + j + 1)] 23)
            obtain ⟨Vw5, hVw5⟩ : ∃ W, w5.alloc (.cells #[.int .i64 (now + j + 1)] 23) = W := ⟨_, rfl⟩
            rw [hVw5] at t1 t3
            have HVw5 := hidT hVw5
            have A_2 := hidT (keepH A_1.out t3)
            have B_2 := hidT (bthen B_1.out t3)
            clear A_1 B_1
            obtain ⟨gw5, hgw5⟩ : ∃ p, w5.heap.size = p := ⟨_, rfl⟩
            rw [hgw5] at t1
            have X_0 := hidT (t1)
            clear t1 t3 hVw5
            have a0 := cells1 A_2.out
            have x0 := cells1 X_0.out
            have f0 := no_frozen A_2.out 0
            rw [← HVw5.out] at a0 x0 f0
            clear hgw5
            go_wp2_with fail
            rw [HVw5.out]
            exact ⟨⟨j + 1, now + j + 1, by go_num, by omega, by simpa using HI2, hidT (set1 A_2.out _), hidT (Below.setCell (p := ⟨gw1, 0, none⟩) B_2.out HGW.out _)⟩, by first | (simp [intOf]; done) | (simp [intOf]; omega)⟩
        ·
          rcases hf with hf | hf
          ·
            obtain ⟨hf1, hf2⟩ := hf
            by_cases ht : d = now + j
            ·
              have Hs1 : Hid (wrap64 (now + (j : Int)) = now + j) := hidT (IntWalk.wrap64_in _ (by omega))
              have g1 : decide ((j : Int) = E) = false := by simp; omega
              have g2 : ((j : Int) == E) = false := by simp; omega
              have g3 : ((j : Int) != E) = true := by simp; omega
              have g4 : decide (E < (j : Int)) = false := by simp; omega
              have hff : (f = 0 ∧ (j : Int) < E) ∨ (f = E + 1 ∧ E < (j : Int)) := .inl ⟨hf1, by omega⟩
              have k3 : decide (1 ≤ (j : Int)) = true := by simp; omega
              have k5 : n ≠ 0 := by omega
              have k6 : (n == 0) = false := by simp; omega
              have k7 : decide (n = 0) = false := by simp; omega
              have Ht0 : Hid (Int.tmod ((j : Int) - 1) n = ((j : Int) - 1) % n) := hidT (Int.tmod_eq_emod_of_nonneg (by omega))
              have t0 : ((j : Int) - 1) % n = 0 := Ask.on_turn (m := m) (by omega)
              have Ht1 : Hid (Int.tmod ((j : Int) - 1) n = 0) := hidT (by rw [Ht0.out]; exact t0)
              have HI2 := hidT (show Ask.At now n E ((j : Int) + 1) (now + j + n) from Ask.At.time (m := m) (by omega) hff hfj (by omega))
              have hp := step_any d (now + j) n true wr (by omega) (by omega) (by omega) (by omega)
              rw [Ask.due_time n (show d ≠ 0 by omega) (show d ≤ now + j by omega), Ask.yes_time (show d ≠ 0 by omega) (show d ≤ now + j by omega)] at hp
              clear HI hE Ht0 hff hf1 hf2 hfj hd hd1 hd2 ht
              have s1 := Hs1.out
              clear Hs1
              have t1 := Ht1.out
              clear Ht1
              have a0 := cells1 A_0.out
              go_wp2_with fail
              with_reducible refine hp.mono ?_
              rintro e w5 ⟨rfl, hw5⟩
              have A_1 := hidT (keepH A_0.out hw5)
              have B_1 := hidT (bthen B_0.out hw5)
              clear A_0 B_0
              clear hw5 hp a0
              have t1 := alloc_at w5 (.cells #[.int .i64 (now + j + n)] 23) _ rfl
              have t3 := nkeep w5 (.cells #[.int .i64 (now + j + n)] 23)
              obtain ⟨Vw5, hVw5⟩ : ∃ W, w5.alloc (.cells #[.int .i64 (now + j + n)] 23) = W := ⟨_, rfl⟩
              rw [hVw5] at t1 t3
              have HVw5 := hidT hVw5
              have A_2 := hidT (keepH A_1.out t3)
              have B_2 := hidT (bthen B_1.out t3)
              clear A_1 B_1
              obtain ⟨gw5, hgw5⟩ : ∃ p, w5.heap.size = p := ⟨_, rfl⟩
              rw [hgw5] at t1
              have X_0 := hidT (t1)
              clear t1 t3 hVw5
              have a0 := cells1 A_2.out
              have x0 := cells1 X_0.out
              have f0 := no_frozen A_2.out 0
              rw [← HVw5.out] at a0 x0 f0
              clear hgw5
              go_wp2_with fail
              rw [HVw5.out]
              exact ⟨⟨j + 1, now + j + n, by go_num, by omega, by simpa using HI2, hidT (set1 A_2.out _), hidT (Below.setCell (p := ⟨gw1, 0, none⟩) B_2.out HGW.out _)⟩, by first | (simp [intOf]; done) | (simp [intOf]; omega)⟩
            ·
              have Hs1 : Hid (wrap64 (now + (j : Int)) = now + j) := hidT (IntWalk.wrap64_in _ (by omega))
              have g1 : decide ((j : Int) = E) = false := by simp; omega
              have g2 : ((j : Int) == E) = false := by simp; omega
              have g3 : ((j : Int) != E) = true := by simp; omega
              have g4 : decide (E < (j : Int)) = false := by simp; omega
              have hff : (f = 0 ∧ (j : Int) < E) ∨ (f = E + 1 ∧ E < (j : Int)) := .inl ⟨hf1, by omega⟩
              have k3 : decide (1 ≤ (j : Int)) = true := by simp; omega
              have k5 : n ≠ 0 := by omega
              have k6 : (n == 0) = false := by simp; omega
              have k7 : decide (n = 0) = false := by simp; omega
              have Ht0 : Hid (Int.tmod ((j : Int) - 1) n = ((j : Int) - 1) % n) := hidT (Int.tmod_eq_emod_of_nonneg (by omega))
              have tz : ((j : Int) - 1) % n ≠ 0 := Ask.off_turn (m := m) (by omega) (by omega) (by omega)
              obtain ⟨R, hR⟩ : ∃ R, ((j : Int) - 1) % n = R := ⟨_, rfl⟩
              have Ht1 : Hid (Int.tmod ((j : Int) - 1) n = R) := hidT (by rw [Ht0.out, hR])
              have R0 : 0 ≤ R := by rw [← hR]; exact Int.emod_nonneg _ (by omega)
              have R1 : R < n := by rw [← hR]; exact Int.emod_lt_of_pos _ (by omega)
              rw [hR] at tz
              have t2 : decide (R = 0) = false := by simp; omega
              have t3 : (R == 0) = false := by simp; omega
              have Ht4 : Hid (wrap64 R = R) := hidT (IntWalk.wrap64_in _ (by omega))
              have HI2 := hidT (show Ask.At now n E ((j : Int) + 1) (d) from Ask.At.later (m := m) hff hfj hd (by omega) hd2)
              have hp := step_any d (now + j) n true wr (by omega) (by omega) (by omega) (by omega)
              rw [Ask.due_later n (show d ≠ 0 by omega) (show now + (j : Int) < d by omega), Ask.yes_later (show now + (j : Int) < d by omega)] at hp
              clear HI hE Ht0 hff hf1 hf2 hfj hd hd1 hd2 ht R0 R1
              have s1 := Hs1.out
              clear Hs1
              have t1 := Ht1.out
              clear Ht1
              have t4 := Ht4.out
              clear Ht4
              have a0 := cells1 A_0.out
              go_wp2_with fail
              with_reducible refine hp.mono ?_
              rintro e w5 ⟨rfl, hw5⟩
              have A_1 := hidT (keepH A_0.out hw5)
              have B_1 := hidT (bthen B_0.out hw5)
              clear A_0 B_0
              clear hw5 hp a0
              have t1 := alloc_at w5 (.cells #[.int .i64 d] 23) _ rfl
              have t3 := nkeep w5 (.cells #[.int .i64 d] 23)
              obtain ⟨Vw5, hVw5⟩ : ∃ W, w5.alloc (.cells #[.int .i64 d] 23) = W := ⟨_, rfl⟩
              rw [hVw5] at t1 t3
              have HVw5 := hidT hVw5
              have A_2 := hidT (keepH A_1.out t3)
              have B_2 := hidT (bthen B_1.out t3)
              clear A_1 B_1
              obtain ⟨gw5, hgw5⟩ : ∃ p, w5.heap.size = p := ⟨_, rfl⟩
              rw [hgw5] at t1
              have X_0 := hidT (t1)
              clear t1 t3 hVw5
              have a0 := cells1 A_2.out
              have x0 := cells1 X_0.out
              have f0 := no_frozen A_2.out 0
              rw [← HVw5.out] at a0 x0 f0
              clear hgw5
              go_wp2_with fail
              rw [HVw5.out]
              exact ⟨⟨j + 1, d, by go_num, by omega, by simpa using HI2, hidT (set1 A_2.out _), hidT (Below.setCell (p := ⟨gw1, 0, none⟩) B_2.out HGW.out _)⟩, by first | (simp [intOf]; done) | (simp [intOf]; omega)⟩
          ·
            obtain ⟨hf1, hf2⟩ := hf
            by_cases ht : d = now + j
            ·
              have Hs1 : Hid (wrap64 (now + (j : Int)) = now + j) := hidT (IntWalk.wrap64_in _ (by omega))
              have g1 : decide ((j : Int) = E) = false := by simp; omega
              have g2 : ((j : Int) == E) = false := by simp; omega
              have g3 : ((j : Int) != E) = true := by simp; omega
              have g4 : decide (E < (j : Int)) = true := by simp; omega
              have hff : (f = 0 ∧ (j : Int) < E) ∨ (f = E + 1 ∧ E < (j : Int)) := .inr ⟨hf1, hf2⟩
              have k3 : decide (1 ≤ (j : Int) - (E + 1)) = true := by simp; omega
              have k5 : n ≠ 0 := by omega
              have k6 : (n == 0) = false := by simp; omega
              have k7 : decide (n = 0) = false := by simp; omega
              have Ht0 : Hid (Int.tmod ((j : Int) - (E + 1) - 1) n = ((j : Int) - (E + 1) - 1) % n) := hidT (Int.tmod_eq_emod_of_nonneg (by omega))
              have t0 : ((j : Int) - (E + 1) - 1) % n = 0 := Ask.on_turn (m := m) (by omega)
              have Ht1 : Hid (Int.tmod ((j : Int) - (E + 1) - 1) n = 0) := hidT (by rw [Ht0.out]; exact t0)
              have HI2 := hidT (show Ask.At now n E ((j : Int) + 1) (now + j + n) from Ask.At.time (m := m) (by omega) hff hfj (by omega))
              have hp := step_any d (now + j) n true wr (by omega) (by omega) (by omega) (by omega)
              rw [Ask.due_time n (show d ≠ 0 by omega) (show d ≤ now + j by omega), Ask.yes_time (show d ≠ 0 by omega) (show d ≤ now + j by omega)] at hp
              clear HI hE Ht0 hff hf1 hf2 hfj hd hd1 hd2 ht
              have s1 := Hs1.out
              clear Hs1
              have t1 := Ht1.out
              clear Ht1
              have a0 := cells1 A_0.out
              go_wp2_with fail
              with_reducible refine hp.mono ?_
              rintro e w5 ⟨rfl, hw5⟩
              have A_1 := hidT (keepH A_0.out hw5)
              have B_1 := hidT (bthen B_0.out hw5)
              clear A_0 B_0
              clear hw5 hp a0
              have t1 := alloc_at w5 (.cells #[.int .i64 (now + j + n)] 23) _ rfl
              have t3 := nkeep w5 (.cells #[.int .i64 (now + j + n)] 23)
              obtain ⟨Vw5, hVw5⟩ : ∃ W, w5.alloc (.cells #[.int .i64 (now + j + n)] 23) = W := ⟨_, rfl⟩
              rw [hVw5] at t1 t3
              have HVw5 := hidT hVw5
              have A_2 := hidT (keepH A_1.out t3)
              have B_2 := hidT (bthen B_1.out t3)
              clear A_1 B_1
              obtain ⟨gw5, hgw5⟩ : ∃ p, w5.heap.size = p := ⟨_, rfl⟩
              rw [hgw5] at t1
              have X_0 := hidT (t1)
              clear t1 t3 hVw5
              have a0 := cells1 A_2.out
              have x0 := cells1 X_0.out
              have f0 := no_frozen A_2.out 0
              rw [← HVw5.out] at a0 x0 f0
              clear hgw5
              go_wp2_with fail
              rw [HVw5.out]
              exact ⟨⟨j + 1, now + j + n, by go_num, by omega, by simpa using HI2, hidT (set1 A_2.out _), hidT (Below.setCell (p := ⟨gw1, 0, none⟩) B_2.out HGW.out _)⟩, by first | (simp [intOf]; done) | (simp [intOf]; omega)⟩
            ·
              have Hs1 : Hid (wrap64 (now + (j : Int)) = now + j) := hidT (IntWalk.wrap64_in _ (by omega))
              have g1 : decide ((j : Int) = E) = false := by simp; omega
              have g2 : ((j : Int) == E) = false := by simp; omega
              have g3 : ((j : Int) != E) = true := by simp; omega
              have g4 : decide (E < (j : Int)) = true := by simp; omega
              have hff : (f = 0 ∧ (j : Int) < E) ∨ (f = E + 1 ∧ E < (j : Int)) := .inr ⟨hf1, hf2⟩
              have k3 : decide (1 ≤ (j : Int) - (E + 1)) = true := by simp; omega
              have k5 : n ≠ 0 := by omega
              have k6 : (n == 0) = false := by simp; omega
              have k7 : decide (n = 0) = false := by simp; omega
              have Ht0 : Hid (Int.tmod ((j : Int) - (E + 1) - 1) n = ((j : Int) - (E + 1) - 1) % n) := hidT (Int.tmod_eq_emod_of_nonneg (by omega))
              have tz : ((j : Int) - (E + 1) - 1) % n ≠ 0 := Ask.off_turn (m := m) (by omega) (by omega) (by omega)
              obtain ⟨R, hR⟩ : ∃ R, ((j : Int) - (E + 1) - 1) % n = R := ⟨_, rfl⟩
              have Ht1 : Hid (Int.tmod ((j : Int) - (E + 1) - 1) n = R) := hidT (by rw [Ht0.out, hR])
              have R0 : 0 ≤ R := by rw [← hR]; exact Int.emod_nonneg _ (by omega)
              have R1 : R < n := by rw [← hR]; exact Int.emod_lt_of_pos _ (by omega)
              rw [hR] at tz
              have t2 : decide (R = 0) = false := by simp; omega
              have t3 : (R == 0) = false := by simp; omega
              have Ht4 : Hid (wrap64 R = R) := hidT (IntWalk.wrap64_in _ (by omega))
              have HI2 := hidT (show Ask.At now n E ((j : Int) + 1) (d) from Ask.At.later (m := m) hff hfj hd (by omega) hd2)
              have hp := step_any d (now + j) n true wr (by omega) (by omega) (by omega) (by omega)
              rw [Ask.due_later n (show d ≠ 0 by omega) (show now + (j : Int) < d by omega), Ask.yes_later (show now + (j : Int) < d by omega)] at hp
              clear HI hE Ht0 hff hf1 hf2 hfj hd hd1 hd2 ht R0 R1
              have s1 := Hs1.out
              clear Hs1
              have t1 := Ht1.out
              clear Ht1
              have t4 := Ht4.out
              clear Ht4
              have a0 := cells1 A_0.out
              go_wp2_with fail
              with_reducible refine hp.mono ?_
              rintro e w5 ⟨rfl, hw5⟩
              have A_1 := hidT (keepH A_0.out hw5)
              have B_1 := hidT (bthen B_0.out hw5)
              clear A_0 B_0
              clear hw5 hp a0
              have t1 := alloc_at w5 (.cells #[.int .i64 d] 23) _ rfl
              have t3 := nkeep w5 (.cells #[.int .i64 d] 23)
              obtain ⟨Vw5, hVw5⟩ : ∃ W, w5.alloc (.cells #[.int .i64 d] 23) = W := ⟨_, rfl⟩
              rw [hVw5] at t1 t3
              have HVw5 := hidT hVw5
              have A_2 := hidT (keepH A_1.out t3)
              have B_2 := hidT (bthen B_1.out t3)
              clear A_1 B_1
              obtain ⟨gw5, hgw5⟩ : ∃ p, w5.heap.size = p := ⟨_, rfl⟩
              rw [hgw5] at t1
              have X_0 := hidT (t1)
              clear t1 t3 hVw5
              have a0 := cells1 A_2.out
              have x0 := cells1 X_0.out
              have f0 := no_frozen A_2.out 0
              rw [← HVw5.out] at a0 x0 f0
              clear hgw5
              go_wp2_with fail
              rw [HVw5.out]
              exact ⟨⟨j + 1, d, by go_num, by omega, by simpa using HI2, hidT (set1 A_2.out _), hidT (Below.setCell (p := ⟨gw1, 0, none⟩) B_2.out HGW.out _)⟩, by first | (simp [intOf]; done) | (simp [intOf]; omega)⟩
    ·
      have u1 : decide ((j : Int) < 200) = false := by simp; omega
      go_wp2
      go_ret
      exact ⟨rfl, B_0.out⟩
end Go.Proofs.Ytkmogmdekpdbpaa
