/- The law AskHushed, walked. -/
import Derived.Test.YtkmogmdekpdbpaaAskShown
import Derived.Test.YtkmogmdekpdbpaaAskRun
set_option maxRecDepth 100000
namespace Go.Proofs.Ytkmogmdekpdbpaa
open Go.RowKit
set_option linter.unusedVariables false

set_option maxHeartbeats 4000000 in
theorem ahushed_any (now t g0 : Int) (w : World) (hn : 0 ≤ now ∧ now < 4294967296) (ht : 0 ≤ t ∧ t < 256) (hg : 0 ≤ g0 ∧ g0 < 256) : Calls Try.prog 5 #[.int .u32 now, .int .u8 t, .int .u8 g0] w (Yes w) := by
  obtain ⟨hn0, hn1⟩ := hn
  have et : Int.tmod t 30 = t % 30 := Int.tmod_eq_emod_of_nonneg ht.1
  have pt : wrap64 t = t := IntWalk.wrap64_in _ (by omega)
  have eg : Int.tmod g0 60 = g0 % 60 := Int.tmod_eq_emod_of_nonneg hg.1
  have pg : wrap64 g0 = g0 := IntWalk.wrap64_in _ (by omega)
  obtain ⟨Nn, hNn⟩ : ∃ N, t % 30 = N := ⟨_, rfl⟩
  have N0n : 0 ≤ Nn := by omega
  have N1n : Nn < 30 := by omega
  rw [hNn] at et
  obtain ⟨n, an⟩ : ∃ n, 1 + Nn = n := ⟨_, rfl⟩
  have n0 : 1 ≤ n := by omega
  have n1 : n ≤ 30 := by omega
  clear N0n N1n hNn
  obtain ⟨Nh, hNh⟩ : ∃ N, g0 % 60 = N := ⟨_, rfl⟩
  have N0h : 0 ≤ Nh := by omega
  have N1h : Nh < 60 := by omega
  rw [hNh] at eg
  obtain ⟨h, ah⟩ : ∃ n, 1 + Nh = n := ⟨_, rfl⟩
  have h0 : 1 ≤ h := by omega
  have h1 : h ≤ 60 := by omega
  clear N0h N1h hNh
  have pn : wrap64 now = now := IntWalk.wrap64_in _ (by omega)
  have h0' := Below.refl w.heap.size w
  have B_0 := hidT (h0')
  clear h0'
  go_enter Try.func5, Try.ntmps5
  have hp := ashown_any w
  go_wp2_with fail
  with_reducible refine hp.mono ?_
  rintro e w1 ⟨rfl, hw1⟩
  have B_1 := hidT (bthen B_0.out hw1)
  clear B_0
  clear hw1 hp
  have HGW := hidT (show w.heap.size ≤ w1.heap.size from B_1.out.size)
  have t1 := alloc_at w1 (.cells #[.int .i64 0] 23) _ rfl
  have t3 := nkeep w1 (.cells #[.int .i64 0] 23)
  obtain ⟨Vw1, hVw1⟩ : ∃ W, w1.alloc (.cells #[.int .i64 0] 23) = W := ⟨_, rfl⟩
  rw [hVw1] at t1 t3
  have HVw1 := hidT hVw1
  have B_2 := hidT (bthen B_1.out t3)
  clear B_1
  obtain ⟨gw1, hgw1⟩ : ∃ p, w1.heap.size = p := ⟨_, rfl⟩
  rw [hgw1] at t1
  have A_0 := hidT (t1)
  clear t1 t3 hVw1
  rw [hgw1] at HGW
  go_wp2_with fail
  rw [HVw1.out]
  clear hgw1 et eg pt pg an ah ht hg
  have HA0 := hidT (A_0.out)
  have HB0 := hidT (B_2.out)
  go_loopw [11, 12] (fun s i wr => ∃ (j : Nat) (d x : Int), i = .int .i64 j ∧ s = .int .i64 x ∧ j ≤ 120 ∧ Hid (Ask.Hat now n h j d x) ∧ Hid (wr.heap[gw1]? = some (.cells #[.int .i64 d] 23 (0, 0))) ∧ Hid (Below w.heap.size w wr)) (fun _ i _ => 120 - (intOf i).toNat)
  case atStart => exact ⟨0, 0, -1, rfl, rfl, Nat.zero_le _, hidT (.inl ⟨rfl, rfl, rfl⟩), HA0.out, HB0.out⟩
  case round =>
    obtain ⟨j, d, x, rfl, rfl, hj, HI, A_0, B_0⟩ := hrel
    clear HA0 HB0
    by_cases hj2 : j < 120
    ·
      have u1 : decide ((j : Int) < 120) = true := by simp; omega
      rcases HI.out with ⟨hh, rfl, rfl⟩ | ⟨hh, hh2, rfl, hd1, hd2⟩ | ⟨hh, hh2, rfl, hd⟩ | ⟨hh, rfl⟩
      ·
        have g1 : decide ((j : Int) = h) = false := by simp; omega
        have g2 : ((j : Int) == h) = false := by simp; omega
        have g3 : decide (h < (j : Int)) = false := by simp; omega
        have HI2 := hidT (show Ask.Hat now n h ((j : Int) + 1) (now + j + 1) (-1) from Ask.Hat.first (by omega) (by omega) hh)
        have hp := step_any 0 (now + j) n true wr (by omega) (by omega) (by omega) (by omega)
        rw [Ask.due_new, Ask.yes_new] at hp
        clear HI hh
        have s1 : wrap64 (now + (j : Int)) = now + j := IntWalk.wrap64_in _ (by omega)
        have a0 := cells1 A_0.out
        go_wp2_with fail
        with_reducible refine hp.mono ?_
        rintro e w5 ⟨rfl, hw5⟩
        have A_1 := hidT (keepH A_0.out hw5)
        have B_1 := hidT (bthen B_0.out hw5)
        clear A_0 B_0
        clear hw5 hp a0
        have t1 := alloc_at w5 (.cells #[.int .i64 (now + j + 1)] 23) _ rfl
        have t3 := nkeep w5 (.cells #[.int .i64 (now + j + 1)] 23)
        obtain ⟨Vw5, hVw5⟩ : ∃ W, w5.alloc (.cells #[.int .i64 (now + j + 1)] 23) = W := ⟨_, rfl⟩
        rw [hVw5] at t1 t3
        have HVw5 := hidT hVw5
        have A_2 := hidT (keepH A_1.out t3)
        have B_2 := hidT (bthen B_1.out t3)
        clear A_1 B_1
        obtain ⟨gw5, hgw5⟩ : ∃ p, w5.heap.size = p := ⟨_, rfl⟩
        rw [hgw5] at t1
        have X_0 := hidT (t1)
        clear t1 t3 hVw5
        have a0 := cells1 A_2.out
        have x0 := cells1 X_0.out
        have f0 := no_frozen A_2.out 0
        rw [← HVw5.out] at a0 x0 f0
        clear hgw5
        go_wp2_with fail
        rw [HVw5.out]
        exact ⟨⟨j + 1, now + j + 1, -1, by go_num, rfl, by omega, by simpa using HI2, hidT (set1 A_2.out _), hidT (Below.setCell (p := ⟨gw1, 0, none⟩) B_2.out HGW.out _)⟩, by first | (simp [intOf]; done) | (simp [intOf]; omega)⟩
      ·
        by_cases he : (j : Int) = h
        ·
          by_cases ht : d = now + j
          ·
            have g1 : decide ((j : Int) = h) = true := by simp; omega
            have g2 : ((j : Int) == h) = true := by simp; omega
            have g3 : decide (h < (j : Int)) = false := by simp; omega
            have HI2 := hidT (show Ask.Hat now n h ((j : Int) + 1) (now + j + n) (-1) from Ask.Hat.hushed (by omega) he)
            have hp := step_any d (now + j) n true wr (by omega) (by omega) (by omega) (by omega)
            rw [Ask.due_time n (show d ≠ 0 by omega) (show d ≤ now + j by omega), Ask.yes_time (show d ≠ 0 by omega) (show d ≤ now + j by omega)] at hp
            have HH : Hid (∀ w', Calls Try.prog 12 #[.agg #[.int .i64 (now + j + n)], .int .i64 (now + (j : Int)), .int .i64 n] w' (HushIs w' (now + j + n))) := hidT fun w' => by
              have h1 := hush_any (now + j + n) (now + j) n w' (by omega) (by omega) (by omega) (by omega)
              rw [Ask.hush_to (by omega) (by omega)] at h1
              exact h1
            have b1 : decide (now + (j : Int) + n < now + j + n) = false := by rw [decide_eq_false_iff_not]; omega
            clear HI hh hh2 he ht hd1 hd2
            have s1 : wrap64 (now + (j : Int)) = now + j := IntWalk.wrap64_in _ (by omega)
            have a0 := cells1 A_0.out
            go_wp2_with fail
            with_reducible refine hp.mono ?_
            rintro e w5 ⟨rfl, hw5⟩
            have A_1 := hidT (keepH A_0.out hw5)
            have B_1 := hidT (bthen B_0.out hw5)
            clear A_0 B_0
            clear hw5 hp a0
            have t1 := alloc_at w5 (.cells #[.int .i64 (now + j + n)] 23) _ rfl
            have t3 := nkeep w5 (.cells #[.int .i64 (now + j + n)] 23)
            obtain ⟨Vw5, hVw5⟩ : ∃ W, w5.alloc (.cells #[.int .i64 (now + j + n)] 23) = W := ⟨_, rfl⟩
            rw [hVw5] at t1 t3
            have HVw5 := hidT hVw5
            have A_2 := hidT (keepH A_1.out t3)
            have B_2 := hidT (bthen B_1.out t3)
            clear A_1 B_1
            obtain ⟨gw5, hgw5⟩ : ∃ p, w5.heap.size = p := ⟨_, rfl⟩
            rw [hgw5] at t1
            have X_0 := hidT (t1)
            clear t1 t3 hVw5
            have a0 := cells1 A_2.out
            have x0 := cells1 X_0.out
            have f0 := no_frozen A_2.out 0
            rw [← HVw5.out] at a0 x0 f0
            clear hgw5
            go_wp2_with fail
            rw [HVw5.out]
            clear a0 x0 f0
            have hx1 := set1 A_2.out (.int .i64 (now + j + n))
            have hx2 := Below.setCell (p := ⟨gw1, 0, none⟩) B_2.out HGW.out (.int .i64 (now + j + n))
            clear A_2
            clear B_2
            clear X_0
            generalize Vw5.setCell ⟨gw1, 0, none⟩ (.int .i64 (now + j + n)) = w6 at *
            have A_3 := hidT (hx1)
            have B_3 := hidT (hx2)
            clear hx1 hx2
            with_reducible refine (HH.out w6).mono ?_
            rintro e w7 ⟨rfl, hw7⟩
            have A_4 := hidT (keepH A_3.out hw7)
            have B_4 := hidT (bthen B_3.out hw7)
            clear A_3 B_3
            clear hw7 HH
            have t1 := alloc_at w7 (.cells #[.int .i64 (now + j + n)] 23) _ rfl
            have t3 := nkeep w7 (.cells #[.int .i64 (now + j + n)] 23)
            obtain ⟨Vw7, hVw7⟩ : ∃ W, w7.alloc (.cells #[.int .i64 (now + j + n)] 23) = W := ⟨_, rfl⟩
            rw [hVw7] at t1 t3
            have HVw7 := hidT hVw7
            have A_5 := hidT (keepH A_4.out t3)
            have B_5 := hidT (bthen B_4.out t3)
            clear A_4 B_4
            obtain ⟨gw7, hgw7⟩ : ∃ p, w7.heap.size = p := ⟨_, rfl⟩
            rw [hgw7] at t1
            have Y_0 := hidT (t1)
            clear t1 t3 hVw7
            have a0 := cells1 A_5.out
            have y0 := cells1 Y_0.out
            have f0 := no_frozen A_5.out 0
            rw [← HVw7.out] at a0 y0 f0
            clear hgw7
            go_wp2_with fail
            rw [HVw7.out]
            exact ⟨⟨j + 1, now + j + n, -1, by go_num, rfl, by omega, by simpa using HI2, hidT (set1 A_5.out _), hidT (Below.setCell (p := ⟨gw1, 0, none⟩) B_5.out HGW.out _)⟩, by first | (simp [intOf]; done) | (simp [intOf]; omega)⟩
          ·
            have g1 : decide ((j : Int) = h) = true := by simp; omega
            have g2 : ((j : Int) == h) = true := by simp; omega
            have g3 : decide (h < (j : Int)) = false := by simp; omega
            have HI2 := hidT (show Ask.Hat now n h ((j : Int) + 1) (now + j + n) (-1) from Ask.Hat.hushed (by omega) he)
            have hp := step_any d (now + j) n true wr (by omega) (by omega) (by omega) (by omega)
            rw [Ask.due_later n (show d ≠ 0 by omega) (show now + (j : Int) < d by omega), Ask.yes_later (show now + (j : Int) < d by omega)] at hp
            have HH : Hid (∀ w', Calls Try.prog 12 #[.agg #[.int .i64 d], .int .i64 (now + (j : Int)), .int .i64 n] w' (HushIs w' (now + j + n))) := hidT fun w' => by
              have h1 := hush_any (d) (now + j) n w' (by omega) (by omega) (by omega) (by omega)
              rw [Ask.hush_to (by omega) (by omega)] at h1
              exact h1
            have b1 : decide (now + (j : Int) + n < d) = false := by rw [decide_eq_false_iff_not]; omega
            clear HI hh hh2 he ht hd1 hd2
            have s1 : wrap64 (now + (j : Int)) = now + j := IntWalk.wrap64_in _ (by omega)
            have a0 := cells1 A_0.out
            go_wp2_with fail
            with_reducible refine hp.mono ?_
            rintro e w5 ⟨rfl, hw5⟩
            have A_1 := hidT (keepH A_0.out hw5)
            have B_1 := hidT (bthen B_0.out hw5)
            clear A_0 B_0
            clear hw5 hp a0
            have t1 := alloc_at w5 (.cells #[.int .i64 d] 23) _ rfl
            have t3 := nkeep w5 (.cells #[.int .i64 d] 23)
            obtain ⟨Vw5, hVw5⟩ : ∃ W, w5.alloc (.cells #[.int .i64 d] 23) = W := ⟨_, rfl⟩
            rw [hVw5] at t1 t3
            have HVw5 := hidT hVw5
            have A_2 := hidT (keepH A_1.out t3)
            have B_2 := hidT (bthen B_1.out t3)
            clear A_1 B_1
            obtain ⟨gw5, hgw5⟩ : ∃ p, w5.heap.size = p := ⟨_, rfl⟩
            rw [hgw5] at t1
            have X_0 := hidT (t1)
            clear t1 t3 hVw5
            have a0 := cells1 A_2.out
            have x0 := cells1 X_0.out
            have f0 := no_frozen A_2.out 0
            rw [← HVw5.out] at a0 x0 f0
            clear hgw5
            go_wp2_with fail
            rw [HVw5.out]
            clear a0 x0 f0
            have hx1 := set1 A_2.out (.int .i64 d)
            have hx2 := Below.setCell (p := ⟨gw1, 0, none⟩) B_2.out HGW.out (.int .i64 d)
            clear A_2
            clear B_2
            clear X_0
            generalize Vw5.setCell ⟨gw1, 0, none⟩ (.int .i64 d) = w6 at *
            have A_3 := hidT (hx1)
            have B_3 := hidT (hx2)
            clear hx1 hx2
            with_reducible refine (HH.out w6).mono ?_
            rintro e w7 ⟨rfl, hw7⟩
            have A_4 := hidT (keepH A_3.out hw7)
            have B_4 := hidT (bthen B_3.out hw7)
            clear A_3 B_3
            clear hw7 HH
            have t1 := alloc_at w7 (.cells #[.int .i64 (now + j + n)] 23) _ rfl
            have t3 := nkeep w7 (.cells #[.int .i64 (now + j + n)] 23)
            obtain ⟨Vw7, hVw7⟩ : ∃ W, w7.alloc (.cells #[.int .i64 (now + j + n)] 23) = W := ⟨_, rfl⟩
            rw [hVw7] at t1 t3
            have HVw7 := hidT hVw7
            have A_5 := hidT (keepH A_4.out t3)
            have B_5 := hidT (bthen B_4.out t3)
            clear A_4 B_4
            obtain ⟨gw7, hgw7⟩ : ∃ p, w7.heap.size = p := ⟨_, rfl⟩
            rw [hgw7] at t1
            have Y_0 := hidT (t1)
            clear t1 t3 hVw7
            have a0 := cells1 A_5.out
            have y0 := cells1 Y_0.out
            have f0 := no_frozen A_5.out 0
            rw [← HVw7.out] at a0 y0 f0
            clear hgw7
            go_wp2_with fail
            rw [HVw7.out]
            exact ⟨⟨j + 1, now + j + n, -1, by go_num, rfl, by omega, by simpa using HI2, hidT (set1 A_5.out _), hidT (Below.setCell (p := ⟨gw1, 0, none⟩) B_5.out HGW.out _)⟩, by first | (simp [intOf]; done) | (simp [intOf]; omega)⟩
        ·
          by_cases ht : d = now + j
          ·
            have g1 : decide ((j : Int) = h) = false := by simp; omega
            have g2 : ((j : Int) == h) = false := by simp; omega
            have g3 : decide (h < (j : Int)) = false := by simp; omega
            have HI2 := hidT (show Ask.Hat now n h ((j : Int) + 1) (now + j + n) (-1) from Ask.Hat.time (by omega) hh (by omega))
            have hp := step_any d (now + j) n true wr (by omega) (by omega) (by omega) (by omega)
            rw [Ask.due_time n (show d ≠ 0 by omega) (show d ≤ now + j by omega), Ask.yes_time (show d ≠ 0 by omega) (show d ≤ now + j by omega)] at hp
            clear HI hh hh2 he ht hd1 hd2
            have s1 : wrap64 (now + (j : Int)) = now + j := IntWalk.wrap64_in _ (by omega)
            have a0 := cells1 A_0.out
            go_wp2_with fail
            with_reducible refine hp.mono ?_
            rintro e w5 ⟨rfl, hw5⟩
            have A_1 := hidT (keepH A_0.out hw5)
            have B_1 := hidT (bthen B_0.out hw5)
            clear A_0 B_0
            clear hw5 hp a0
            have t1 := alloc_at w5 (.cells #[.int .i64 (now + j + n)] 23) _ rfl
            have t3 := nkeep w5 (.cells #[.int .i64 (now + j + n)] 23)
            obtain ⟨Vw5, hVw5⟩ : ∃ W, w5.alloc (.cells #[.int .i64 (now + j + n)] 23) = W := ⟨_, rfl⟩
            rw [hVw5] at t1 t3
            have HVw5 := hidT hVw5
            have A_2 := hidT (keepH A_1.out t3)
            have B_2 := hidT (bthen B_1.out t3)
            clear A_1 B_1
            obtain ⟨gw5, hgw5⟩ : ∃ p, w5.heap.size = p := ⟨_, rfl⟩
            rw [hgw5] at t1
            have X_0 := hidT (t1)
            clear t1 t3 hVw5
            have a0 := cells1 A_2.out
            have x0 := cells1 X_0.out
            have f0 := no_frozen A_2.out 0
            rw [← HVw5.out] at a0 x0 f0
            clear hgw5
            go_wp2_with fail
            rw [HVw5.out]
            exact ⟨⟨j + 1, now + j + n, -1, by go_num, rfl, by omega, by simpa using HI2, hidT (set1 A_2.out _), hidT (Below.setCell (p := ⟨gw1, 0, none⟩) B_2.out HGW.out _)⟩, by first | (simp [intOf]; done) | (simp [intOf]; omega)⟩
          ·
            have g1 : decide ((j : Int) = h) = false := by simp; omega
            have g2 : ((j : Int) == h) = false := by simp; omega
            have g3 : decide (h < (j : Int)) = false := by simp; omega
            have HI2 := hidT (show Ask.Hat now n h ((j : Int) + 1) (d) (-1) from Ask.Hat.later hh (by omega) (by omega) hd2)
            have hp := step_any d (now + j) n true wr (by omega) (by omega) (by omega) (by omega)
            rw [Ask.due_later n (show d ≠ 0 by omega) (show now + (j : Int) < d by omega), Ask.yes_later (show now + (j : Int) < d by omega)] at hp
            clear HI hh hh2 he ht hd1 hd2
            have s1 : wrap64 (now + (j : Int)) = now + j := IntWalk.wrap64_in _ (by omega)
            have a0 := cells1 A_0.out
            go_wp2_with fail
            with_reducible refine hp.mono ?_
            rintro e w5 ⟨rfl, hw5⟩
            have A_1 := hidT (keepH A_0.out hw5)
            have B_1 := hidT (bthen B_0.out hw5)
            clear A_0 B_0
            clear hw5 hp a0
            have t1 := alloc_at w5 (.cells #[.int .i64 d] 23) _ rfl
            have t3 := nkeep w5 (.cells #[.int .i64 d] 23)
            obtain ⟨Vw5, hVw5⟩ : ∃ W, w5.alloc (.cells #[.int .i64 d] 23) = W := ⟨_, rfl⟩
            rw [hVw5] at t1 t3
            have HVw5 := hidT hVw5
            have A_2 := hidT (keepH A_1.out t3)
            have B_2 := hidT (bthen B_1.out t3)
            clear A_1 B_1
            obtain ⟨gw5, hgw5⟩ : ∃ p, w5.heap.size = p := ⟨_, rfl⟩
            rw [hgw5] at t1
            have X_0 := hidT (t1)
            clear t1 t3 hVw5
            have a0 := cells1 A_2.out
            have x0 := cells1 X_0.out
            have f0 := no_frozen A_2.out 0
            rw [← HVw5.out] at a0 x0 f0
            clear hgw5
            go_wp2_with fail
            rw [HVw5.out]
            exact ⟨⟨j + 1, d, -1, by go_num, rfl, by omega, by simpa using HI2, hidT (set1 A_2.out _), hidT (Below.setCell (p := ⟨gw1, 0, none⟩) B_2.out HGW.out _)⟩, by first | (simp [intOf]; done) | (simp [intOf]; omega)⟩
      ·
        by_cases he : (j : Int) = h + n
        ·
          have g1 : decide ((j : Int) = h) = false := by simp; omega
          have g2 : ((j : Int) == h) = false := by simp; omega
          have g3 : decide (h < (j : Int)) = true := by simp; omega
          have HI2 := hidT (show Ask.Hat now n h ((j : Int) + 1) (now + j + n) ((j : Int)) from Ask.Hat.asked he)
          have hp := step_any d (now + j) n true wr (by omega) (by omega) (by omega) (by omega)
          rw [Ask.due_time n (show d ≠ 0 by omega) (show d ≤ now + j by omega), Ask.yes_time (show d ≠ 0 by omega) (show d ≤ now + j by omega)] at hp
          clear HI hh hh2 he hd
          have s1 : wrap64 (now + (j : Int)) = now + j := IntWalk.wrap64_in _ (by omega)
          have a0 := cells1 A_0.out
          go_wp2_with fail
          with_reducible refine hp.mono ?_
          rintro e w5 ⟨rfl, hw5⟩
          have A_1 := hidT (keepH A_0.out hw5)
          have B_1 := hidT (bthen B_0.out hw5)
          clear A_0 B_0
          clear hw5 hp a0
          have t1 := alloc_at w5 (.cells #[.int .i64 (now + j + n)] 23) _ rfl
          have t3 := nkeep w5 (.cells #[.int .i64 (now + j + n)] 23)
          obtain ⟨Vw5, hVw5⟩ : ∃ W, w5.alloc (.cells #[.int .i64 (now + j + n)] 23) = W := ⟨_, rfl⟩
          rw [hVw5] at t1 t3
          have HVw5 := hidT hVw5
          have A_2 := hidT (keepH A_1.out t3)
          have B_2 := hidT (bthen B_1.out t3)
          clear A_1 B_1
          obtain ⟨gw5, hgw5⟩ : ∃ p, w5.heap.size = p := ⟨_, rfl⟩
          rw [hgw5] at t1
          have X_0 := hidT (t1)
          clear t1 t3 hVw5
          have a0 := cells1 A_2.out
          have x0 := cells1 X_0.out
          have f0 := no_frozen A_2.out 0
          rw [← HVw5.out] at a0 x0 f0
          clear hgw5
          go_wp2_with fail
          rw [HVw5.out]
          exact ⟨⟨j + 1, now + j + n, (j : Int), by go_num, rfl, by omega, by simpa using HI2, hidT (set1 A_2.out _), hidT (Below.setCell (p := ⟨gw1, 0, none⟩) B_2.out HGW.out _)⟩, by first | (simp [intOf]; done) | (simp [intOf]; omega)⟩
        ·
          have g1 : decide ((j : Int) = h) = false := by simp; omega
          have g2 : ((j : Int) == h) = false := by simp; omega
          have g3 : decide (h < (j : Int)) = true := by simp; omega
          have HI2 := hidT (show Ask.Hat now n h ((j : Int) + 1) (d) (-1) from by rw [hd]; exact Ask.Hat.waits hh (by omega))
          have hp := step_any d (now + j) n true wr (by omega) (by omega) (by omega) (by omega)
          rw [Ask.due_later n (show d ≠ 0 by omega) (show now + (j : Int) < d by omega), Ask.yes_later (show now + (j : Int) < d by omega)] at hp
          clear HI hh hh2 he hd
          have s1 : wrap64 (now + (j : Int)) = now + j := IntWalk.wrap64_in _ (by omega)
          have a0 := cells1 A_0.out
          go_wp2_with fail
          with_reducible refine hp.mono ?_
          rintro e w5 ⟨rfl, hw5⟩
          have A_1 := hidT (keepH A_0.out hw5)
          have B_1 := hidT (bthen B_0.out hw5)
          clear A_0 B_0
          clear hw5 hp a0
          have t1 := alloc_at w5 (.cells #[.int .i64 d] 23) _ rfl
          have t3 := nkeep w5 (.cells #[.int .i64 d] 23)
          obtain ⟨Vw5, hVw5⟩ : ∃ W, w5.alloc (.cells #[.int .i64 d] 23) = W := ⟨_, rfl⟩
          rw [hVw5] at t1 t3
          have HVw5 := hidT hVw5
          have A_2 := hidT (keepH A_1.out t3)
          have B_2 := hidT (bthen B_1.out t3)
          clear A_1 B_1
          obtain ⟨gw5, hgw5⟩ : ∃ p, w5.heap.size = p := ⟨_, rfl⟩
          rw [hgw5] at t1
          have X_0 := hidT (t1)
          clear t1 t3 hVw5
          have a0 := cells1 A_2.out
          have x0 := cells1 X_0.out
          have f0 := no_frozen A_2.out 0
          rw [← HVw5.out] at a0 x0 f0
          clear hgw5
          go_wp2_with fail
          rw [HVw5.out]
          exact ⟨⟨j + 1, d, -1, by go_num, rfl, by omega, by simpa using HI2, hidT (set1 A_2.out _), hidT (Below.setCell (p := ⟨gw1, 0, none⟩) B_2.out HGW.out _)⟩, by first | (simp [intOf]; done) | (simp [intOf]; omega)⟩
      ·
        have g1 : decide ((j : Int) = h) = false := by simp; omega
        have g2 : ((j : Int) == h) = false := by simp; omega
        have g3 : decide (h < (j : Int)) = true := by simp; omega
        obtain ⟨D, HD⟩ : ∃ D, Hid (Ask.due d (now + j) n true = D) := ⟨_, hidT rfl⟩
        obtain ⟨T, HT⟩ : ∃ T, Hid (Ask.yes d (now + j) true = T) := ⟨_, hidT rfl⟩
        have g4 : decide (h + n < 0) = false := by simp; omega
        have HI2 := hidT (show Ask.Hat now n h ((j : Int) + 1) (D) (h + n) from Ask.Hat.over hh)
        have hp := step_any d (now + j) n true wr (by omega) (by omega) (by omega) (by omega)
        rw [HD.out, HT.out] at hp
        clear HI hh
        have s1 : wrap64 (now + (j : Int)) = now + j := IntWalk.wrap64_in _ (by omega)
        have a0 := cells1 A_0.out
        go_wp2_with fail
        with_reducible refine hp.mono ?_
        rintro e w5 ⟨rfl, hw5⟩
        have A_1 := hidT (keepH A_0.out hw5)
        have B_1 := hidT (bthen B_0.out hw5)
        clear A_0 B_0
        clear hw5 hp a0
        have t1 := alloc_at w5 (.cells #[.int .i64 D] 23) _ rfl
        have t3 := nkeep w5 (.cells #[.int .i64 D] 23)
        obtain ⟨Vw5, hVw5⟩ : ∃ W, w5.alloc (.cells #[.int .i64 D] 23) = W := ⟨_, rfl⟩
        rw [hVw5] at t1 t3
        have HVw5 := hidT hVw5
        have A_2 := hidT (keepH A_1.out t3)
        have B_2 := hidT (bthen B_1.out t3)
        clear A_1 B_1
        obtain ⟨gw5, hgw5⟩ : ∃ p, w5.heap.size = p := ⟨_, rfl⟩
        rw [hgw5] at t1
        have X_0 := hidT (t1)
        clear t1 t3 hVw5
        have a0 := cells1 A_2.out
        have x0 := cells1 X_0.out
        have f0 := no_frozen A_2.out 0
        rw [← HVw5.out] at a0 x0 f0
        clear hgw5
        go_wp2_with fail
        rw [HVw5.out]
        exact ⟨⟨j + 1, D, h + n, by go_num, rfl, by omega, by simpa using HI2, hidT (set1 A_2.out _), hidT (Below.setCell (p := ⟨gw1, 0, none⟩) B_2.out HGW.out _)⟩, by first | (simp [intOf]; done) | (simp [intOf]; omega)⟩
    ·
      have u1 : decide ((j : Int) < 120) = false := by simp; omega
      have ex : x = h + n := by rcases HI.out with hh | hh | hh | hh <;> omega
      subst ex
      have k0 := fldA 0
      have s1 : wrap64 (h + n) = h + n := IntWalk.wrap64_in _ (by omega)
      have hp := hush_any 0 now n wr (by omega) (by omega) (by omega) (by omega)
      rw [show Ask.hush 0 now n = 0 from by simp [Ask.hush]] at hp
      go_wp2_with fail
      with_reducible refine hp.mono ?_
      rintro e w9 ⟨rfl, hw9⟩
      have HB9 := hidT (bthen B_0.out hw9)
      clear hw9 hp
      go_wp2
      go_ret
      exact ⟨rfl, HB9.out⟩
end Go.Proofs.Ytkmogmdekpdbpaa
