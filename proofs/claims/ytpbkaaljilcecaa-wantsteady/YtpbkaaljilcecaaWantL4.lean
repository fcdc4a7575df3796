/- The law WantSteady, walked. -/
import Derived.Test.YtpbkaaljilcecaaWantShown
import Derived.Test.YtpbkaaljilcecaaWantRun
set_option maxRecDepth 100000
namespace Go.Proofs.Ytpbkaaljilcecaa
open Go.RowKit
set_option linter.unusedVariables false

theorem cells5 {w : World} {g : Nat} {a0 a1 a2 a3 a4 : Value} {t : TypeId} (h : w.heap[g]? = some (.cells #[a0, a1, a2, a3, a4] t (0, 0))) : w.cell? ⟨g, 0, none⟩ = some a0 ∧ w.cell? ⟨g, 1, none⟩ = some a1 ∧ w.cell? ⟨g, 2, none⟩ = some a2 ∧ w.cell? ⟨g, 3, none⟩ = some a3 ∧ w.cell? ⟨g, 4, none⟩ = some a4 :=
  ⟨cell_at h 0 rfl, cell_at h 1 rfl, cell_at h 2 rfl, cell_at h 3 rfl, cell_at h 4 rfl⟩
set_option maxHeartbeats 4000000 in
theorem wsteady_any (a l h o c : Int) (w : World) (ha : 0 ≤ a ∧ a < 256) (hc : 0 ≤ c ∧ c < 256) : Calls Try.prog 6 #[.agg #[.int .u8 a, .int .i64 l, .int .i64 h, .int .i64 o, .int .u8 c]] w (Yes w) := by
  have ea : Int.tmod a 2 = a % 2 := Int.tmod_eq_emod_of_nonneg ha.1
  have pa : wrap64 a = a := IntWalk.wrap64_in _ (by omega)
  obtain ⟨Fa, hFa⟩ : ∃ N, a % 2 = N := ⟨_, rfl⟩
  have a0 : 0 ≤ Fa := by omega
  have a1 : Fa < 2 := by omega
  rw [hFa] at ea
  clear hFa
  have ec : Int.tmod c 9 = c % 9 := Int.tmod_eq_emod_of_nonneg hc.1
  have pc : wrap64 c = c := IntWalk.wrap64_in _ (by omega)
  obtain ⟨Fc, hFc⟩ : ∃ N, c % 9 = N := ⟨_, rfl⟩
  have c0 : 0 ≤ Fc := by omega
  have c1 : Fc < 9 := by omega
  rw [hFc] at ec
  clear hFc
  obtain ⟨n, an⟩ : ∃ q, 1 + Fc = q := ⟨_, rfl⟩
  have n0 : 1 ≤ n := by omega
  have n1 : n ≤ 9 := by omega
  have hn : Fa = 0 ∨ Fa = 1 := by omega
  clear a0 a1 c0 c1
  obtain ⟨Q, hQ⟩ : ∃ Q, Want.asks Fa l h o = Q := ⟨_, rfl⟩
  have HA : Hid (∀ w, Calls Try.prog 11 #[.int .i64 Fa, .int .i64 l, .int .i64 h, .int .i64 o] w (fun e w' => e = .returned (.bool Q) ∧ w' = w)) := hidT fun w => by
    have x := asks_any Fa l h o w hn
    rw [hQ] at x
    exact x
  have HS : Hid (∀ k w, 0 ≤ k → k ≤ 9 → Calls Try.prog 9 #[.agg #[.int .i64 k], .int .i64 Fa, .int .i64 l, .int .i64 h, .int .i64 o, .int .i64 n] w (StepIs w (Want.hits Q k n) (Want.yes Q k n))) := hidT fun k w k0 k1 => by
    have x := step_any k Fa l h o n w hn k0 (by omega)
    rw [hQ] at x
    exact x
  clear hQ hn
  have t1 := alloc_at w (.cells #[.int .u8 a, .int .i64 l, .int .i64 h, .int .i64 o, .int .u8 c] 38) _ rfl
  have t3 := nkeep w (.cells #[.int .u8 a, .int .i64 l, .int .i64 h, .int .i64 o, .int .u8 c] 38)
  obtain ⟨i0, i1, i2, i3, i4⟩ := cells5 t1
  obtain ⟨W, hW⟩ : ∃ W, w.alloc (.cells #[.int .u8 a, .int .i64 l, .int .i64 h, .int .i64 o, .int .u8 c] 38) = W := ⟨_, rfl⟩
  rw [hW] at t3
  have HW := hidT hW
  clear t1 hW
  have B_0 := hidT (t3)
  clear t3
  go_enter Try.func6, Try.ntmps6
  go_wp2_with fail
  rw [HW.out]
  clear i0 i1 i2 i3 i4
  have hp := wantshown_any W
  with_reducible refine hp.mono ?_
  rintro e w1 ⟨rfl, hw1⟩
  have B_1 := hidT (bthen B_0.out hw1)
  clear B_0
  clear hw1 hp
  by_cases hoh : h ≤ o
  ·
    have u1 : decide (h ≤ o) = true := by simpa using hoh
    go_wp2
    go_ret
    exact ⟨rfl, B_1.out⟩
  ·
    have u1 : decide (h ≤ o) = false := by simp; omega
    have hp := HA.out w1
    go_wp2_with fail
    with_reducible refine hp.mono ?_
    rintro e wq ⟨rfl, hwq⟩
    obtain rfl : w1 = wq := hwq.symm
    clear hp hwq
    have HGW := hidT (show w.heap.size ≤ w1.heap.size from B_1.out.size)
    have t1 := alloc_at w1 (.cells #[.int .i64 0] 23) _ rfl
    have t3 := nkeep w1 (.cells #[.int .i64 0] 23)
    obtain ⟨Vw1, hVw1⟩ : ∃ W, w1.alloc (.cells #[.int .i64 0] 23) = W := ⟨_, rfl⟩
    rw [hVw1] at t1 t3
    have HVw1 := hidT hVw1
    have B_2 := hidT (bthen B_1.out t3)
    clear B_1
    obtain ⟨gw1, hgw1⟩ : ∃ p, w1.heap.size = p := ⟨_, rfl⟩
    rw [hgw1] at t1
    have X_0 := hidT (t1)
    clear t1 t3 hVw1
    rw [hgw1] at HGW
    go_wp2_with fail
    rw [HVw1.out]
    clear hgw1 ea pa ec pc an u1 hoh
    have HX0 := hidT (X_0.out)
    have HB0 := hidT (B_2.out)
    go_loopw [13] (fun i wr => ∃ (j : Nat) (k : Int), i = .int .i64 j ∧ 1 ≤ j ∧ j ≤ 101 ∧ 0 ≤ k ∧ k < n ∧ Hid (Want.Steady Q n j k) ∧ Hid (wr.heap[gw1]? = some (.cells #[.int .i64 k] 23 (0, 0))) ∧ Hid (Below w.heap.size w wr)) (fun i _ => 101 - (intOf i).toNat)
    case atStart => exact ⟨1, 0, rfl, by omega, by omega, by omega, by omega, hidT (Want.Steady.start Q n), HX0.out, HB0.out⟩
    case round =>
      obtain ⟨j, k, rfl, hj1, hj, k0, k1, HI, X_0, B_0⟩ := hrel
      clear HX0 HB0
      by_cases hj2 : j ≤ 100
      ·
        have k5 : n ≠ 0 := by omega
        have k6 : (n == 0) = false := by simp; omega
        have k7 : decide (n = 0) = false := by simp; omega
        rcases HI.out with ⟨rfl, rfl⟩ | ⟨rfl, hk⟩
        ·
          have g1 : decide ((j : Int) ≤ 100) = true := by simp; omega
          have d1 : decide (n ≤ 0) = false := by simp; omega
          have HI2 := hidT (Want.Steady.not n (j + 1))
          have hp := HS.out 0 wr k0 (by omega)
          rw [Want.hits_no, Want.yes_no] at hp
          clear HI HA 
          have x0 := cells1 X_0.out
          go_wp2_with fail
          with_reducible refine hp.mono ?_
          rintro e w5 ⟨rfl, hw5⟩
          have X_1 := hidT (keepH X_0.out hw5)
          have B_1 := hidT (bthen B_0.out hw5)
          clear X_0 B_0
          clear hw5 hp x0
          have t1 := alloc_at w5 (.cells #[.int .i64 0] 23) _ rfl
          have t3 := nkeep w5 (.cells #[.int .i64 0] 23)
          obtain ⟨Vw5, hVw5⟩ : ∃ W, w5.alloc (.cells #[.int .i64 0] 23) = W := ⟨_, rfl⟩
          rw [hVw5] at t1 t3
          have HVw5 := hidT hVw5
          have X_2 := hidT (keepH X_1.out t3)
          have B_2 := hidT (bthen B_1.out t3)
          clear X_1 B_1
          obtain ⟨gw5, hgw5⟩ : ∃ p, w5.heap.size = p := ⟨_, rfl⟩
          rw [hgw5] at t1
          have Y_0 := hidT (t1)
          clear t1 t3 hVw5
          have x0 := cells1 X_2.out
          have y0 := cells1 Y_0.out
          have f0 := no_frozen X_2.out 0
          rw [← HVw5.out] at f0 x0 y0
          go_wp2_with fail
          rw [HVw5.out]
          exact ⟨⟨j + 1, 0, by go_num, by omega, by omega, by omega, by omega, by simpa using HI2, hidT (set1 X_2.out _), hidT (Below.setCell (p := ⟨gw1, 0, none⟩) B_2.out HGW.out _)⟩, by first | (simp [intOf]; done) | (simp [intOf]; omega)⟩
        ·
          have et : Int.tmod (j : Int) n = (j : Int) % n := Int.tmod_eq_emod_of_nonneg (by omega)
          by_cases hkn : k + 1 < n
          ·
            have g1 : decide ((j : Int) ≤ 100) = true := by simp; omega
            obtain ⟨K, eK⟩ : ∃ K, k + 1 = K := ⟨_, rfl⟩
            have tj : Int.tmod (j : Int) n = K := by rw [et, Want.turn_more hk k0 hkn, eK]
            have d0 : decide (K < 0) = false := by simp; omega
            have d1 : decide (n ≤ K) = false := by simp; omega
            have d2 : decide (K = 0) = false := by simp; omega
            have d3 : (K == 0) = false := by simp; omega
            have K1 : K < n := by omega
            have K0 : 0 ≤ K := by omega
            have HI2 := hidT (show Want.Steady true n (j + 1) K from eK ▸ Want.Steady.more hk k0 hkn)
            have hp := HS.out k wr k0 (by omega)
            rw [Want.hits_more hkn, Want.yes_more hkn, eK] at hp
            clear HI HA et hk eK hkn
            have x0 := cells1 X_0.out
            go_wp2_with fail
            with_reducible refine hp.mono ?_
            rintro e w5 ⟨rfl, hw5⟩
            have X_1 := hidT (keepH X_0.out hw5)
            have B_1 := hidT (bthen B_0.out hw5)
            clear X_0 B_0
            clear hw5 hp x0
            have t1 := alloc_at w5 (.cells #[.int .i64 K] 23) _ rfl
            have t3 := nkeep w5 (.cells #[.int .i64 K] 23)
            obtain ⟨Vw5, hVw5⟩ : ∃ W, w5.alloc (.cells #[.int .i64 K] 23) = W := ⟨_, rfl⟩
            rw [hVw5] at t1 t3
            have HVw5 := hidT hVw5
            have X_2 := hidT (keepH X_1.out t3)
            have B_2 := hidT (bthen B_1.out t3)
            clear X_1 B_1
            obtain ⟨gw5, hgw5⟩ : ∃ p, w5.heap.size = p := ⟨_, rfl⟩
            rw [hgw5] at t1
            have Y_0 := hidT (t1)
            clear t1 t3 hVw5
            have x0 := cells1 X_2.out
            have y0 := cells1 Y_0.out
            have f0 := no_frozen X_2.out 0
            rw [← HVw5.out] at f0 x0 y0
            go_wp2_with fail
            rw [HVw5.out]
            exact ⟨⟨j + 1, K, by go_num, by omega, by omega, by omega, by omega, by simpa using HI2, hidT (set1 X_2.out _), hidT (Below.setCell (p := ⟨gw1, 0, none⟩) B_2.out HGW.out _)⟩, by first | (simp [intOf]; done) | (simp [intOf]; omega)⟩
          ·
            have g1 : decide ((j : Int) ≤ 100) = true := by simp; omega
            have tj : Int.tmod (j : Int) n = 0 := by rw [et, Want.turn_full hk (by omega)]
            have d1 : decide (n ≤ 0) = false := by simp; omega
            have HI2 := hidT (Want.Steady.full hk (by omega))
            have hp := HS.out k wr k0 (by omega)
            rw [Want.hits_full (show n ≤ k + 1 by omega), Want.yes_full (show n ≤ k + 1 by omega)] at hp
            clear HI HA et hk hkn
            have x0 := cells1 X_0.out
            go_wp2_with fail
            with_reducible refine hp.mono ?_
            rintro e w5 ⟨rfl, hw5⟩
            have X_1 := hidT (keepH X_0.out hw5)
            have B_1 := hidT (bthen B_0.out hw5)
            clear X_0 B_0
            clear hw5 hp x0
            have t1 := alloc_at w5 (.cells #[.int .i64 0] 23) _ rfl
            have t3 := nkeep w5 (.cells #[.int .i64 0] 23)
            obtain ⟨Vw5, hVw5⟩ : ∃ W, w5.alloc (.cells #[.int .i64 0] 23) = W := ⟨_, rfl⟩
            rw [hVw5] at t1 t3
            have HVw5 := hidT hVw5
            have X_2 := hidT (keepH X_1.out t3)
            have B_2 := hidT (bthen B_1.out t3)
            clear X_1 B_1
            obtain ⟨gw5, hgw5⟩ : ∃ p, w5.heap.size = p := ⟨_, rfl⟩
            rw [hgw5] at t1
            have Y_0 := hidT (t1)
            clear t1 t3 hVw5
            have x0 := cells1 X_2.out
            have y0 := cells1 Y_0.out
            have f0 := no_frozen X_2.out 0
            rw [← HVw5.out] at f0 x0 y0
            go_wp2_with fail
            rw [HVw5.out]
            exact ⟨⟨j + 1, 0, by go_num, by omega, by omega, by omega, by omega, by simpa using HI2, hidT (set1 X_2.out _), hidT (Below.setCell (p := ⟨gw1, 0, none⟩) B_2.out HGW.out _)⟩, by first | (simp [intOf]; done) | (simp [intOf]; omega)⟩
      ·
        have g1 : decide ((j : Int) ≤ 100) = false := by simp; omega
        go_wp2
        go_ret
        exact ⟨rfl, B_0.out⟩
end Go.Proofs.Ytpbkaaljilcecaa
