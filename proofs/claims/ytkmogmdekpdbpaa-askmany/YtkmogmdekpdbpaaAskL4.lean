/- The law AskMany, walked. -/
import Derived.Test.YtkmogmdekpdbpaaAskShown
import Derived.Test.YtkmogmdekpdbpaaAskRun
set_option maxRecDepth 100000
namespace Go.Proofs.Ytkmogmdekpdbpaa
open Go.RowKit
set_option linter.unusedVariables false

set_option maxHeartbeats 4000000 in
theorem amany_any (k t m : Int) (w : World) (hk : 0 ≤ k ∧ k < 65536) (ht : 0 ≤ t ∧ t < 256) (hm : 0 ≤ m ∧ m < 256) : Calls Try.prog 6 #[.int .u16 k, .int .u8 t, .int .u8 m] w (Yes w) := by
  have et : Int.tmod k 300 = k % 300 := Int.tmod_eq_emod_of_nonneg hk.1
  have pt : wrap64 k = k := IntWalk.wrap64_in _ (by omega)
  have ea : Int.tmod t 60 = t % 60 := Int.tmod_eq_emod_of_nonneg ht.1
  have pa : wrap64 t = t := IntWalk.wrap64_in _ (by omega)
  have eb : Int.tmod m 20 = m % 20 := Int.tmod_eq_emod_of_nonneg hm.1
  have pb : wrap64 m = m := IntWalk.wrap64_in _ (by omega)
  obtain ⟨N, hN⟩ : ∃ N : Nat, k % 300 = (N : Int) := ⟨(k % 300).toNat, by omega⟩
  have N1 : N < 300 := by omega
  rw [hN] at et
  obtain ⟨A, hA⟩ : ∃ A, t % 60 = A := ⟨_, rfl⟩
  have A0 : 0 ≤ A := by omega
  have A1 : A < 60 := by omega
  rw [hA] at ea
  obtain ⟨a, aa⟩ : ∃ a, 1 + A = a := ⟨_, rfl⟩
  have a0 : 1 ≤ a := by omega
  have a1 : a ≤ 60 := by omega
  clear A0 A1 hA
  obtain ⟨M, hM⟩ : ∃ M, m % 20 = M := ⟨_, rfl⟩
  have M0 : 0 ≤ M := by omega
  have M1 : M < 20 := by omega
  rw [hM] at eb
  obtain ⟨b, ab⟩ : ∃ b, a + M = b := ⟨_, rfl⟩
  have b0 : a ≤ b := by omega
  have b1 : b ≤ 79 := by omega
  clear M0 M1 hM hN
  have h0' := Below.refl w.heap.size w
  have B_0 := hidT (h0')
  clear h0' hk ht hm
  go_enter Try.func6, Try.ntmps6
  have hp := ashown_any w
  go_wp2_with fail
  with_reducible refine hp.mono ?_
  rintro e w1 ⟨rfl, hw1⟩
  have B_1 := hidT (bthen B_0.out hw1)
  clear B_0
  clear hw1 hp
  have HGW := hidT (show w.heap.size ≤ w1.heap.size from B_1.out.size)
  obtain ⟨t1, t2, t3⟩ := two_alloc w1 (.cells #[.int .i64 0] 23) (.cells #[.int .i64 0] 23)
  obtain ⟨Vw1, hVw1⟩ : ∃ W, (w1.alloc (.cells #[.int .i64 0] 23)).alloc (.cells #[.int .i64 0] 23) = W := ⟨_, rfl⟩
  rw [hVw1] at t1 t2 t3
  have HVw1 := hidT hVw1
  have B_2 := hidT (bthen B_1.out t3)
  clear B_1
  obtain ⟨gw1, hgw1⟩ : ∃ p, w1.heap.size = p := ⟨_, rfl⟩
  rw [hgw1] at t1 t2
  have A_0 := hidT (t1)
  have C_0 := hidT (t2)
  clear t1 t3 hVw1 t2
  rw [hgw1] at HGW
  go_wp2_with fail
  rw [HVw1.out]
  clear hgw1 et ea eb pt pa pb aa ab
  have HA0 := hidT (A_0.out)
  have HC0 := hidT (C_0.out)
  have HB0 := hidT (B_2.out)
  go_loopw [13, 14, 15] (fun s u i wr => ∃ (j : Nat) (d e o l : Int), i = .int .i64 j ∧ s = .int .i64 o ∧ u = .int .i64 l ∧ j ≤ N ∧ Hid (Ask.Mat a j d o ∧ Ask.Mat b j e l) ∧ Hid (wr.heap[gw1]? = some (.cells #[.int .i64 d] 23 (0, 0))) ∧ Hid (wr.heap[gw1 + 1]? = some (.cells #[.int .i64 e] 23 (0, 0))) ∧ Hid (Below w.heap.size w wr)) (fun _ _ i _ => N - (intOf i).toNat)
  case atStart => exact ⟨0, 0, 0, 0, 0, rfl, rfl, rfl, Nat.zero_le _, hidT ⟨.inl ⟨rfl, rfl, rfl⟩, .inl ⟨rfl, rfl, rfl⟩⟩, HA0.out, HC0.out, HB0.out⟩
  case round =>
    obtain ⟨j, d, e, o, l, rfl, rfl, rfl, hj, HI, A_0, C_0, B_0⟩ := hrel
    clear HA0 HC0 HB0
    have o0 := HI.out.1.times
    have l0 := HI.out.2.times
    obtain ⟨o0, o1⟩ := o0
    obtain ⟨l0, l1⟩ := l0
    by_cases hj2 : j < N
    ·
      cases h1 : Ask.yes d j true <;> cases h2 : Ask.yes e j true
      ·
        have u1 : decide ((j : Int) < (N : Int)) = true := by simp; omega
        have HI2 := hidT (And.intro (Ask.Mat.no (by omega) HI.out.1 h1) (Ask.Mat.no (by omega) HI.out.2 h2))
        have hp := step_any d j a true wr (by omega) (by omega) (by omega) (by omega)
        have HP : Hid (∀ w', Calls Try.prog 10 #[.agg #[.int .i64 e], .int .i64 (j : Int), .int .i64 b, .bool true] w' (StepIs w' (Ask.due e j b true) (Ask.yes e j true))) := hidT fun w' => step_any e j b true w' (by omega) (by omega) (by omega) (by omega)
        obtain ⟨D, hD⟩ : ∃ D, Ask.due d j a true = D := ⟨_, rfl⟩
        obtain ⟨E, hE⟩ : ∃ E, Ask.due e j b true = E := ⟨_, rfl⟩
        rw [hD, h1] at hp
        rw [hD, hE] at HI2
        rw [hE, h2] at HP
        clear hD hE h1 h2 HI
        have c0 := cells1 A_0.out
        go_wp2_with fail
        with_reducible refine hp.mono ?_
        rintro e w5 ⟨rfl, hw5⟩
        have A_1 := hidT (keepH A_0.out hw5)
        have C_1 := hidT (keepH C_0.out hw5)
        have B_1 := hidT (bthen B_0.out hw5)
        clear A_0 C_0 B_0
        clear hw5 hp c0
        have t1 := alloc_at w5 (.cells #[.int .i64 D] 23) _ rfl
        have t3 := nkeep w5 (.cells #[.int .i64 D] 23)
        obtain ⟨Vw5, hVw5⟩ : ∃ W, w5.alloc (.cells #[.int .i64 D] 23) = W := ⟨_, rfl⟩
        rw [hVw5] at t1 t3
        have HVw5 := hidT hVw5
        have A_2 := hidT (keepH A_1.out t3)
        have C_2 := hidT (keepH C_1.out t3)
        have B_2 := hidT (bthen B_1.out t3)
        clear A_1 C_1 B_1
        obtain ⟨gw5, hgw5⟩ : ∃ p, w5.heap.size = p := ⟨_, rfl⟩
        rw [hgw5] at t1
        have X_0 := hidT (t1)
        clear t1 t3 hVw5
        have c0 := cells1 C_2.out
        have hp := HP.out Vw5
        rw [← HVw5.out] at c0
        go_wp2_with fail
        rw [HVw5.out]
        clear hgw5
        with_reducible refine hp.mono ?_
        rintro e w6 ⟨rfl, hw6⟩
        have A_3 := hidT (keepH A_2.out hw6)
        have C_3 := hidT (keepH C_2.out hw6)
        have B_3 := hidT (bthen B_2.out hw6)
        have X_1 := hidT (keepH X_0.out hw6)
        clear A_2 C_2 B_2 X_0
        clear hw6 hp c0 HP
        have HL := hidT (blk_lt C_3.out)
        have t1 := alloc_at w6 (.cells #[.int .i64 E] 23) _ rfl
        have t3 := nkeep w6 (.cells #[.int .i64 E] 23)
        obtain ⟨Vw6, hVw6⟩ : ∃ W, w6.alloc (.cells #[.int .i64 E] 23) = W := ⟨_, rfl⟩
        rw [hVw6] at t1 t3
        have HVw6 := hidT hVw6
        have A_4 := hidT (keepH A_3.out t3)
        have C_4 := hidT (keepH C_3.out t3)
        have B_4 := hidT (bthen B_3.out t3)
        have X_2 := hidT (keepH X_1.out t3)
        clear A_3 C_3 B_3 X_1
        obtain ⟨gw6, hgw6⟩ : ∃ p, w6.heap.size = p := ⟨_, rfl⟩
        rw [hgw6] at t1
        have Y_0 := hidT (t1)
        clear t1 t3 hVw6
        rw [hgw6] at HL
        have f0 := no_frozen A_4.out 0
        have f1 := no_frozen C_4.out 0
        have x0 := cells1 X_2.out
        have ca := cells1 A_4.out
        have cc := cells1 C_4.out
        have y0 : (Vw6.setCell ⟨gw1, 0, none⟩ (.int .i64 D)).cell? ⟨gw6, 0, none⟩ = _ := cells1 (set_off Y_0.out (Nat.ne_of_gt (Nat.lt_of_succ_lt HL.out)) _)
        rw [← HVw6.out] at f0 f1 x0 y0 ca cc
        have s1 : wrap64 (o + 1) = o + 1 := IntWalk.wrap64_in _ (by omega)
        have s2 : wrap64 (l + 1) = l + 1 := IntWalk.wrap64_in _ (by omega)
        clear o0 o1 l0 l1
        go_wp2_with fail
        rw [HVw6.out]
        exact ⟨⟨j + 1, D, E, o, l, by go_num, by first | rfl | rw [s1], by first | rfl | rw [s2], by omega, by simpa using HI2, hidT (set_off (set1 A_4.out _) (by omega) _), hidT (set1 (set_off C_4.out (by omega) _) _), hidT (Below.setCell (p := ⟨gw1 + 1, 0, none⟩) (Below.setCell (p := ⟨gw1, 0, none⟩) B_4.out HGW.out _) (Nat.le_succ_of_le HGW.out) _)⟩, by first | (simp [intOf]; done) | (simp [intOf]; omega)⟩
      ·
        have u1 : decide ((j : Int) < (N : Int)) = true := by simp; omega
        have HI2 := hidT (And.intro (Ask.Mat.no (by omega) HI.out.1 h1) (Ask.Mat.yes_ (by omega) HI.out.2 h2))
        have hp := step_any d j a true wr (by omega) (by omega) (by omega) (by omega)
        have HP : Hid (∀ w', Calls Try.prog 10 #[.agg #[.int .i64 e], .int .i64 (j : Int), .int .i64 b, .bool true] w' (StepIs w' (Ask.due e j b true) (Ask.yes e j true))) := hidT fun w' => step_any e j b true w' (by omega) (by omega) (by omega) (by omega)
        obtain ⟨D, hD⟩ : ∃ D, Ask.due d j a true = D := ⟨_, rfl⟩
        obtain ⟨E, hE⟩ : ∃ E, Ask.due e j b true = E := ⟨_, rfl⟩
        rw [hD, h1] at hp
        rw [hD, hE] at HI2
        rw [hE, h2] at HP
        clear hD hE h1 h2 HI
        have c0 := cells1 A_0.out
        go_wp2_with fail
        with_reducible refine hp.mono ?_
        rintro e w5 ⟨rfl, hw5⟩
        have A_1 := hidT (keepH A_0.out hw5)
        have C_1 := hidT (keepH C_0.out hw5)
        have B_1 := hidT (bthen B_0.out hw5)
        clear A_0 C_0 B_0
        clear hw5 hp c0
        have t1 := alloc_at w5 (.cells #[.int .i64 D] 23) _ rfl
        have t3 := nkeep w5 (.cells #[.int .i64 D] 23)
        obtain ⟨Vw5, hVw5⟩ : ∃ W, w5.alloc (.cells #[.int .i64 D] 23) = W := ⟨_, rfl⟩
        rw [hVw5] at t1 t3
        have HVw5 := hidT hVw5
        have A_2 := hidT (keepH A_1.out t3)
        have C_2 := hidT (keepH C_1.out t3)
        have B_2 := hidT (bthen B_1.out t3)
        clear A_1 C_1 B_1
        obtain ⟨gw5, hgw5⟩ : ∃ p, w5.heap.size = p := ⟨_, rfl⟩
        rw [hgw5] at t1
        have X_0 := hidT (t1)
        clear t1 t3 hVw5
        have c0 := cells1 C_2.out
        have hp := HP.out Vw5
        rw [← HVw5.out] at c0
        go_wp2_with fail
        rw [HVw5.out]
        clear hgw5
        with_reducible refine hp.mono ?_
        rintro e w6 ⟨rfl, hw6⟩
        have A_3 := hidT (keepH A_2.out hw6)
        have C_3 := hidT (keepH C_2.out hw6)
        have B_3 := hidT (bthen B_2.out hw6)
        have X_1 := hidT (keepH X_0.out hw6)
        clear A_2 C_2 B_2 X_0
        clear hw6 hp c0 HP
        have HL := hidT (blk_lt C_3.out)
        have t1 := alloc_at w6 (.cells #[.int .i64 E] 23) _ rfl
        have t3 := nkeep w6 (.cells #[.int .i64 E] 23)
        obtain ⟨Vw6, hVw6⟩ : ∃ W, w6.alloc (.cells #[.int .i64 E] 23) = W := ⟨_, rfl⟩
        rw [hVw6] at t1 t3
        have HVw6 := hidT hVw6
        have A_4 := hidT (keepH A_3.out t3)
        have C_4 := hidT (keepH C_3.out t3)
        have B_4 := hidT (bthen B_3.out t3)
        have X_2 := hidT (keepH X_1.out t3)
        clear A_3 C_3 B_3 X_1
        obtain ⟨gw6, hgw6⟩ : ∃ p, w6.heap.size = p := ⟨_, rfl⟩
        rw [hgw6] at t1
        have Y_0 := hidT (t1)
        clear t1 t3 hVw6
        rw [hgw6] at HL
        have f0 := no_frozen A_4.out 0
        have f1 := no_frozen C_4.out 0
        have x0 := cells1 X_2.out
        have ca := cells1 A_4.out
        have cc := cells1 C_4.out
        have y0 : (Vw6.setCell ⟨gw1, 0, none⟩ (.int .i64 D)).cell? ⟨gw6, 0, none⟩ = _ := cells1 (set_off Y_0.out (Nat.ne_of_gt (Nat.lt_of_succ_lt HL.out)) _)
        rw [← HVw6.out] at f0 f1 x0 y0 ca cc
        have s1 : wrap64 (o + 1) = o + 1 := IntWalk.wrap64_in _ (by omega)
        have s2 : wrap64 (l + 1) = l + 1 := IntWalk.wrap64_in _ (by omega)
        clear o0 o1 l0 l1
        go_wp2_with fail
        rw [HVw6.out]
        exact ⟨⟨j + 1, D, E, o, l + 1, by go_num, by first | rfl | rw [s1], by first | rfl | rw [s2], by omega, by simpa using HI2, hidT (set_off (set1 A_4.out _) (by omega) _), hidT (set1 (set_off C_4.out (by omega) _) _), hidT (Below.setCell (p := ⟨gw1 + 1, 0, none⟩) (Below.setCell (p := ⟨gw1, 0, none⟩) B_4.out HGW.out _) (Nat.le_succ_of_le HGW.out) _)⟩, by first | (simp [intOf]; done) | (simp [intOf]; omega)⟩
      ·
        have u1 : decide ((j : Int) < (N : Int)) = true := by simp; omega
        have HI2 := hidT (And.intro (Ask.Mat.yes_ (by omega) HI.out.1 h1) (Ask.Mat.no (by omega) HI.out.2 h2))
        have hp := step_any d j a true wr (by omega) (by omega) (by omega) (by omega)
        have HP : Hid (∀ w', Calls Try.prog 10 #[.agg #[.int .i64 e], .int .i64 (j : Int), .int .i64 b, .bool true] w' (StepIs w' (Ask.due e j b true) (Ask.yes e j true))) := hidT fun w' => step_any e j b true w' (by omega) (by omega) (by omega) (by omega)
        obtain ⟨D, hD⟩ : ∃ D, Ask.due d j a true = D := ⟨_, rfl⟩
        obtain ⟨E, hE⟩ : ∃ E, Ask.due e j b true = E := ⟨_, rfl⟩
        rw [hD, h1] at hp
        rw [hD, hE] at HI2
        rw [hE, h2] at HP
        clear hD hE h1 h2 HI
        have c0 := cells1 A_0.out
        go_wp2_with fail
        with_reducible refine hp.mono ?_
        rintro e w5 ⟨rfl, hw5⟩
        have A_1 := hidT (keepH A_0.out hw5)
        have C_1 := hidT (keepH C_0.out hw5)
        have B_1 := hidT (bthen B_0.out hw5)
        clear A_0 C_0 B_0
        clear hw5 hp c0
        have t1 := alloc_at w5 (.cells #[.int .i64 D] 23) _ rfl
        have t3 := nkeep w5 (.cells #[.int .i64 D] 23)
        obtain ⟨Vw5, hVw5⟩ : ∃ W, w5.alloc (.cells #[.int .i64 D] 23) = W := ⟨_, rfl⟩
        rw [hVw5] at t1 t3
        have HVw5 := hidT hVw5
        have A_2 := hidT (keepH A_1.out t3)
        have C_2 := hidT (keepH C_1.out t3)
        have B_2 := hidT (bthen B_1.out t3)
        clear A_1 C_1 B_1
        obtain ⟨gw5, hgw5⟩ : ∃ p, w5.heap.size = p := ⟨_, rfl⟩
        rw [hgw5] at t1
        have X_0 := hidT (t1)
        clear t1 t3 hVw5
        have c0 := cells1 C_2.out
        have hp := HP.out Vw5
        rw [← HVw5.out] at c0
        go_wp2_with fail
        rw [HVw5.out]
        clear hgw5
        with_reducible refine hp.mono ?_
        rintro e w6 ⟨rfl, hw6⟩
        have A_3 := hidT (keepH A_2.out hw6)
        have C_3 := hidT (keepH C_2.out hw6)
        have B_3 := hidT (bthen B_2.out hw6)
        have X_1 := hidT (keepH X_0.out hw6)
        clear A_2 C_2 B_2 X_0
        clear hw6 hp c0 HP
        have HL := hidT (blk_lt C_3.out)
        have t1 := alloc_at w6 (.cells #[.int .i64 E] 23) _ rfl
        have t3 := nkeep w6 (.cells #[.int .i64 E] 23)
        obtain ⟨Vw6, hVw6⟩ : ∃ W, w6.alloc (.cells #[.int .i64 E] 23) = W := ⟨_, rfl⟩
        rw [hVw6] at t1 t3
        have HVw6 := hidT hVw6
        have A_4 := hidT (keepH A_3.out t3)
        have C_4 := hidT (keepH C_3.out t3)
        have B_4 := hidT (bthen B_3.out t3)
        have X_2 := hidT (keepH X_1.out t3)
        clear A_3 C_3 B_3 X_1
        obtain ⟨gw6, hgw6⟩ : ∃ p, w6.heap.size = p := ⟨_, rfl⟩
        rw [hgw6] at t1
        have Y_0 := hidT (t1)
        clear t1 t3 hVw6
        rw [hgw6] at HL
        have f0 := no_frozen A_4.out 0
        have f1 := no_frozen C_4.out 0
        have x0 := cells1 X_2.out
        have ca := cells1 A_4.out
        have cc := cells1 C_4.out
        have y0 : (Vw6.setCell ⟨gw1, 0, none⟩ (.int .i64 D)).cell? ⟨gw6, 0, none⟩ = _ := cells1 (set_off Y_0.out (Nat.ne_of_gt (Nat.lt_of_succ_lt HL.out)) _)
        rw [← HVw6.out] at f0 f1 x0 y0 ca cc
        have s1 : wrap64 (o + 1) = o + 1 := IntWalk.wrap64_in _ (by omega)
        have s2 : wrap64 (l + 1) = l + 1 := IntWalk.wrap64_in _ (by omega)
        clear o0 o1 l0 l1
        go_wp2_with fail
        rw [HVw6.out]
        exact ⟨⟨j + 1, D, E, o + 1, l, by go_num, by first | rfl | rw [s1], by first | rfl | rw [s2], by omega, by simpa using HI2, hidT (set_off (set1 A_4.out _) (by omega) _), hidT (set1 (set_off C_4.out (by omega) _) _), hidT (Below.setCell (p := ⟨gw1 + 1, 0, none⟩) (Below.setCell (p := ⟨gw1, 0, none⟩) B_4.out HGW.out _) (Nat.le_succ_of_le HGW.out) _)⟩, by first | (simp [intOf]; done) | (simp [intOf]; omega)⟩
      ·
        have u1 : decide ((j : Int) < (N : Int)) = true := by simp; omega
        have HI2 := hidT (And.intro (Ask.Mat.yes_ (by omega) HI.out.1 h1) (Ask.Mat.yes_ (by omega) HI.out.2 h2))
        have hp := step_any d j a true wr (by omega) (by omega) (by omega) (by omega)
        have HP : Hid (∀ w', Calls Try.prog 10 #[.agg #[.int .i64 e], .int .i64 (j : Int), .int .i64 b, .bool true] w' (StepIs w' (Ask.due e j b true) (Ask.yes e j true))) := hidT fun w' => step_any e j b true w' (by omega) (by omega) (by omega) (by omega)
        obtain ⟨D, hD⟩ : ∃ D, Ask.due d j a true = D := ⟨_, rfl⟩
        obtain ⟨E, hE⟩ : ∃ E, Ask.due e j b true = E := ⟨_, rfl⟩
        rw [hD, h1] at hp
        rw [hD, hE] at HI2
        rw [hE, h2] at HP
        clear hD hE h1 h2 HI
        have c0 := cells1 A_0.out
        go_wp2_with fail
        with_reducible refine hp.mono ?_
        rintro e w5 ⟨rfl, hw5⟩
        have A_1 := hidT (keepH A_0.out hw5)
        have C_1 := hidT (keepH C_0.out hw5)
        have B_1 := hidT (bthen B_0.out hw5)
        clear A_0 C_0 B_0
        clear hw5 hp c0
        have t1 := alloc_at w5 (.cells #[.int .i64 D] 23) _ rfl
        have t3 := nkeep w5 (.cells #[.int .i64 D] 23)
        obtain ⟨Vw5, hVw5⟩ : ∃ W, w5.alloc (.cells #[.int .i64 D] 23) = W := ⟨_, rfl⟩
        rw [hVw5] at t1 t3
        have HVw5 := hidT hVw5
        have A_2 := hidT (keepH A_1.out t3)
        have C_2 := hidT (keepH C_1.out t3)
        have B_2 := hidT (bthen B_1.out t3)
        clear A_1 C_1 B_1
        obtain ⟨gw5, hgw5⟩ : ∃ p, w5.heap.size = p := ⟨_, rfl⟩
        rw [hgw5] at t1
        have X_0 := hidT (t1)
        clear t1 t3 hVw5
        have c0 := cells1 C_2.out
        have hp := HP.out Vw5
        rw [← HVw5.out] at c0
        go_wp2_with fail
        rw [HVw5.out]
        clear hgw5
        with_reducible refine hp.mono ?_
        rintro e w6 ⟨rfl, hw6⟩
        have A_3 := hidT (keepH A_2.out hw6)
        have C_3 := hidT (keepH C_2.out hw6)
        have B_3 := hidT (bthen B_2.out hw6)
        have X_1 := hidT (keepH X_0.out hw6)
        clear A_2 C_2 B_2 X_0
        clear hw6 hp c0 HP
        have HL := hidT (blk_lt C_3.out)
        have t1 := alloc_at w6 (.cells #[.int .i64 E] 23) _ rfl
        have t3 := nkeep w6 (.cells #[.int .i64 E] 23)
        obtain ⟨Vw6, hVw6⟩ : ∃ W, w6.alloc (.cells #[.int .i64 E] 23) = W := ⟨_, rfl⟩
        rw [hVw6] at t1 t3
        have HVw6 := hidT hVw6
        have A_4 := hidT (keepH A_3.out t3)
        have C_4 := hidT (keepH C_3.out t3)
        have B_4 := hidT (bthen B_3.out t3)
        have X_2 := hidT (keepH X_1.out t3)
        clear A_3 C_3 B_3 X_1
        obtain ⟨gw6, hgw6⟩ : ∃ p, w6.heap.size = p := ⟨_, rfl⟩
        rw [hgw6] at t1
        have Y_0 := hidT (t1)
        clear t1 t3 hVw6
        rw [hgw6] at HL
        have f0 := no_frozen A_4.out 0
        have f1 := no_frozen C_4.out 0
        have x0 := cells1 X_2.out
        have ca := cells1 A_4.out
        have cc := cells1 C_4.out
        have y0 : (Vw6.setCell ⟨gw1, 0, none⟩ (.int .i64 D)).cell? ⟨gw6, 0, none⟩ = _ := cells1 (set_off Y_0.out (Nat.ne_of_gt (Nat.lt_of_succ_lt HL.out)) _)
        rw [← HVw6.out] at f0 f1 x0 y0 ca cc
        have s1 : wrap64 (o + 1) = o + 1 := IntWalk.wrap64_in _ (by omega)
        have s2 : wrap64 (l + 1) = l + 1 := IntWalk.wrap64_in _ (by omega)
        clear o0 o1 l0 l1
        go_wp2_with fail
        rw [HVw6.out]
        exact ⟨⟨j + 1, D, E, o + 1, l + 1, by go_num, by first | rfl | rw [s1], by first | rfl | rw [s2], by omega, by simpa using HI2, hidT (set_off (set1 A_4.out _) (by omega) _), hidT (set1 (set_off C_4.out (by omega) _) _), hidT (Below.setCell (p := ⟨gw1 + 1, 0, none⟩) (Below.setCell (p := ⟨gw1, 0, none⟩) B_4.out HGW.out _) (Nat.le_succ_of_le HGW.out) _)⟩, by first | (simp [intOf]; done) | (simp [intOf]; omega)⟩
    ·
      have hjn : j = N := by omega
      subst hjn
      have u1 : decide ((j : Int) < (j : Int)) = false := by simp
      have hl := Ask.Mat.less a0 b0 HI.out.1 HI.out.2
      have g1 : decide (l ≤ o) = true := by simp; omega
      by_cases h2 : 2 ≤ j
      ·
        have hq := Ask.Mat.many a0 HI.out.1 (by omega)
        have u2 : decide (2 ≤ (j : Int)) = true := by simp; omega
        have Ht0 : Hid (Int.tdiv ((j : Int) - 2) a = ((j : Int) - 2) / a) := hidT (Int.tdiv_eq_ediv_of_nonneg (by omega))
        obtain ⟨Q, hQ⟩ : ∃ Q, o - 1 = Q := ⟨_, rfl⟩
        rw [hQ] at hq
        have t1 : Int.tdiv ((j : Int) - 2) a = Q := by rw [Ht0.out, hq]
        have k5 : a ≠ 0 := by omega
        have k6 : (a == 0) = false := by simp; omega
        have k7 : decide (a = 0) = false := by simp; omega
        have Q0 : 0 ≤ Q + 1 := by omega
        have Q1 : Q ≤ 300 := by omega
        obtain rfl : o = Q + 1 := by omega
        clear hQ Ht0
        go_wp2
        go_ret
        exact ⟨rfl, B_0.out⟩
      ·
        have ho := Ask.Mat.few a0 HI.out.1 (by omega) (by omega)
        have u2 : decide (2 ≤ (j : Int)) = false := by simp; omega
        subst ho
        go_wp2
        go_ret
        exact ⟨rfl, B_0.out⟩
end Go.Proofs.Ytkmogmdekpdbpaa
