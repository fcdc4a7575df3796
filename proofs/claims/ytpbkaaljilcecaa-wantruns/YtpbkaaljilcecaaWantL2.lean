/- The law WantRuns, walked. -/
import Derived.Test.YtpbkaaljilcecaaWantShown
set_option maxRecDepth 100000
namespace Go.Proofs.Ytpbkaaljilcecaa
open Go.RowKit
set_option linter.unusedVariables false

theorem cells5 {w : World} {g : Nat} {a0 a1 a2 a3 a4 : Value} {t : TypeId} (h : w.heap[g]? = some (.cells #[a0, a1, a2, a3, a4] t (0, 0))) : w.cell? ⟨g, 0, none⟩ = some a0 ∧ w.cell? ⟨g, 1, none⟩ = some a1 ∧ w.cell? ⟨g, 2, none⟩ = some a2 ∧ w.cell? ⟨g, 3, none⟩ = some a3 ∧ w.cell? ⟨g, 4, none⟩ = some a4 :=
  ⟨cell_at h 0 rfl, cell_at h 1 rfl, cell_at h 2 rfl, cell_at h 3 rfl, cell_at h 4 rfl⟩
theorem byte_at {w : World} {A : Option Addr} {n c i : Nat} {l : List UInt8} (h : Rd w A n c l) (hi : i < n) : ∃ b o x, A = some ⟨b, o, none⟩ ∧ ∀ w', Below w.heap.size w w' → w'.cell? ⟨b, o + i, none⟩ = some (.int .u8 ((x : UInt8).toNat : Int)) := by
  obtain ⟨b, o, hA, _⟩ := h.2.2.2.2 (by omega)
  have hl : i < l.length := by have := h.1; omega
  refine ⟨b, o, l[i], hA, fun w' hb => ?_⟩
  obtain ⟨b', o', hA', hc⟩ := (h.below hb).2.2.2.2 (by omega)
  rw [hA] at hA'
  injection hA' with hA'
  injection hA' with h1 h2
  subst h1 h2
  exact hc i _ (by simp [hl])
set_option maxHeartbeats 4000000 in
theorem wruns_any (A : Option Addr) (m c : Nat) (ls : List UInt8) (a b d y : Int) (w : World) (hA : Rd w A m c ls) (ha : 0 ≤ a ∧ a < 256) (hb : 0 ≤ b ∧ b < 256) (hd : 0 ≤ d ∧ d < 256) (hy : 0 ≤ y ∧ y < 256) : Calls Try.prog 4 #[.agg #[.slice A m c, .int .u8 a, .int .u8 b, .int .u8 d, .int .u8 y]] w (Yes w) := by
  have hm := hA.le
  have HA := hidT hA
  clear hA
  have ea : Int.tmod a 2 = a % 2 := Int.tmod_eq_emod_of_nonneg ha.1
  have pa : wrap64 a = a := IntWalk.wrap64_in _ (by omega)
  obtain ⟨Fa, hFa⟩ : ∃ N, a % 2 = N := ⟨_, rfl⟩
  have a0 : 0 ≤ Fa := by omega
  have a1 : Fa < 2 := by omega
  rw [hFa] at ea
  clear hFa
  have ed : Int.tmod d 40 = d % 40 := Int.tmod_eq_emod_of_nonneg hd.1
  have pd : wrap64 d = d := IntWalk.wrap64_in _ (by omega)
  obtain ⟨Fd, hFd⟩ : ∃ N, d % 40 = N := ⟨_, rfl⟩
  have d0 : 0 ≤ Fd := by omega
  have d1 : Fd < 40 := by omega
  rw [hFd] at ed
  clear hFd
  have ey : Int.tmod y 6 = y % 6 := Int.tmod_eq_emod_of_nonneg hy.1
  have py : wrap64 y = y := IntWalk.wrap64_in _ (by omega)
  obtain ⟨Fy, hFy⟩ : ∃ N, y % 6 = N := ⟨_, rfl⟩
  have y0 : 0 ≤ Fy := by omega
  have y1 : Fy < 6 := by omega
  rw [hFy] at ey
  clear hFy
  have pb : wrap64 b = b := IntWalk.wrap64_in _ (by omega)
  obtain ⟨n, an⟩ : ∃ q, 1 + Fy = q := ⟨_, rfl⟩
  have n0 : 1 ≤ n := by omega
  have n1 : n ≤ 6 := by omega
  have hE : Fa = 0 ∨ Fa = 1 := by omega
  obtain ⟨H, aH⟩ : ∃ q, 1 + b = q := ⟨_, rfl⟩
  have H0 : 1 ≤ H := by omega
  have H1 : H ≤ 256 := by omega
  obtain ⟨G, aG⟩ : ∃ q, H - 1 = q := ⟨_, rfl⟩
  have G0 : 0 ≤ G := by omega
  have G1 : G ≤ 255 := by omega
  obtain ⟨O, aO⟩ : ∃ q, G - Fd = q := ⟨_, rfl⟩
  have O0 : O < H := by omega
  have O1 : -40 ≤ O := by omega
  have HE := hidT hE
  clear a0 a1 d0 d1 y0 y1 hE
  have t1 := alloc_at w (.cells #[.slice A m c, .int .u8 a, .int .u8 b, .int .u8 d, .int .u8 y] 34) _ rfl
  have t3 := nkeep w (.cells #[.slice A m c, .int .u8 a, .int .u8 b, .int .u8 d, .int .u8 y] 34)
  obtain ⟨i0, i1, i2, i3, i4⟩ := cells5 t1
  obtain ⟨W, hW⟩ : ∃ W, w.alloc (.cells #[.slice A m c, .int .u8 a, .int .u8 b, .int .u8 d, .int .u8 y] 34) = W := ⟨_, rfl⟩
  rw [hW] at t3
  have HW := hidT hW
  clear t1 hW
  have B_0 := hidT (t3)
  clear t3
  go_enter Try.func4, Try.ntmps4
  go_wp2_with fail
  rw [HW.out]
  clear i0 i1 i2 i3 i4
  have hp := wantshown_any W
  with_reducible refine hp.mono ?_
  rintro e w1 ⟨rfl, hw1⟩
  have B_1 := hidT (bthen B_0.out hw1)
  clear B_0
  clear hw1 hp
  by_cases h200 : m ≤ 200
  ·
    have t1 : decide (200 < m) = false := by simp; omega
    have t2 : decide ((200 : Int) < (m : Int)) = false := by simp; omega
    have HGW := hidT (show w.heap.size ≤ w1.heap.size from B_1.out.size)
    have t1 := alloc_at w1 (.cells #[.int .i64 0] 23) _ rfl
    have t3 := nkeep w1 (.cells #[.int .i64 0] 23)
    obtain ⟨Vw1, hVw1⟩ : ∃ W, w1.alloc (.cells #[.int .i64 0] 23) = W := ⟨_, rfl⟩
    rw [hVw1] at t1 t3
    have HVw1 := hidT hVw1
    have B_2 := hidT (bthen B_1.out t3)
    clear B_1
    obtain ⟨gw1, hgw1⟩ : ∃ p, w1.heap.size = p := ⟨_, rfl⟩
    rw [hgw1] at t1
    have X_0 := hidT (t1)
    clear t1 t3 hVw1
    rw [hgw1] at HGW
    go_wp2_with fail
    rw [HVw1.out]
    clear hgw1 ea pa ed pd ey py pb an aH aG aO t1 t2
    have HX0 := hidT (X_0.out)
    have HB0 := hidT (B_2.out)
    go_loopw [14, 15] (fun r i wr => ∃ (j : Nat) (k : Int), i = .int .i64 j ∧ r = .int .i64 k ∧ j ≤ m ∧ 0 ≤ k ∧ k < n ∧ Hid (wr.heap[gw1]? = some (.cells #[.int .i64 k] 23 (0, 0))) ∧ Hid (Below w.heap.size w wr)) (fun _ i _ => m - (intOf i).toNat)
    case atStart => exact ⟨0, 0, rfl, rfl, Nat.zero_le _, by omega, by omega, HX0.out, HB0.out⟩
    case round =>
      obtain ⟨j, k, rfl, rfl, hj, k0, k1, X_0, B_0⟩ := hrel
      clear HX0 HB0
      by_cases hjm : j < m
      ·
        have g1 : decide (j < m) = true := by simpa using hjm
        have g2 : decide ((j : Int) < (m : Int)) = true := by simp; omega
        obtain ⟨b1, o1, fb, rfl, hcell⟩ := byte_at HA.out hjm
        obtain ⟨L, eL⟩ : ∃ L : Int, (fb.toNat : Int) = L := ⟨_, rfl⟩
        have L0 : 0 ≤ L := by omega
        have L1 : L < 256 := by have := fb.toNat_lt; omega
        rw [eL] at hcell
        clear eL
        have x1 : (0 : Int) ≤ (j : Int) := by omega
        have x2 : (j : Int) < (m : Int) := by omega
        have z1 : decide ((0 : Int) = n) = false := by simp; omega
        have z2 : ((0 : Int) == n) = false := by simp; omega
        have hc := hcell wr B_0.out
        clear hcell
        rcases HE.out with rfl | rfl
        ·
          by_cases hq : H ≤ L
          ·
            by_cases hkn : k + 1 < n
            ·
              have dq : decide (H ≤ L) = true := by simp; omega
              have ea : Want.asks 0 L H O = true := by rw [Want.asks_seq, dq]
              have hp := step_any k 0 L H O n wr (.inl rfl) k0 (by omega)
              rw [ea, Want.hits_more hkn, Want.yes_more hkn] at hp
              have y1 : decide (k + 1 = n) = false := by simp; omega
              have y2 : ((k + 1) == n) = false := by simp; omega
              have s1 : wrap64 (k + 1) = k + 1 := IntWalk.wrap64_in _ (by omega)
              clear ea hq HE
              have x0 := cells1 X_0.out
              go_wp2_with fail
              with_reducible refine hp.mono ?_
              rintro e w5 ⟨rfl, hw5⟩
              have X_1 := hidT (keepH X_0.out hw5)
              have B_1 := hidT (bthen B_0.out hw5)
              clear X_0 B_0
              clear hw5 hp x0
              have t1 := alloc_at w5 (.cells #[.int .i64 (k + 1)] 23) _ rfl
              have t3 := nkeep w5 (.cells #[.int .i64 (k + 1)] 23)
              obtain ⟨Vw5, hVw5⟩ : ∃ W, w5.alloc (.cells #[.int .i64 (k + 1)] 23) = W := ⟨_, rfl⟩
              rw [hVw5] at t1 t3
              have HVw5 := hidT hVw5
              have X_2 := hidT (keepH X_1.out t3)
              have B_2 := hidT (bthen B_1.out t3)
              clear X_1 B_1
              obtain ⟨gw5, hgw5⟩ : ∃ p, w5.heap.size = p := ⟨_, rfl⟩
              rw [hgw5] at t1
              have Y_0 := hidT (t1)
              clear t1 t3 hVw5
              have x0 := cells1 X_2.out
              have y0 := cells1 Y_0.out
              have f0 := no_frozen X_2.out 0
              rw [← HVw5.out] at f0 x0 y0
              go_wp2_with fail
              rw [HVw5.out]
              exact ⟨⟨j + 1, (k + 1), by go_num, by first | rfl | rw [s1], by omega, by omega, by omega, hidT (set1 X_2.out _), hidT (Below.setCell (p := ⟨gw1, 0, none⟩) B_2.out HGW.out _)⟩, by first | (simp [intOf]; done) | (simp [intOf]; omega)⟩
            ·
              have dq : decide (H ≤ L) = true := by simp; omega
              have ea : Want.asks 0 L H O = true := by rw [Want.asks_seq, dq]
              have hp := step_any k 0 L H O n wr (.inl rfl) k0 (by omega)
              rw [ea, Want.hits_full (show n ≤ k + 1 by omega), Want.yes_full (show n ≤ k + 1 by omega)] at hp
              have y1 : decide (k + 1 = n) = true := by simp; omega
              have y2 : ((k + 1) == n) = true := by simp; omega
              have s1 : wrap64 (k + 1) = k + 1 := IntWalk.wrap64_in _ (by omega)
              clear ea hq HE
              have x0 := cells1 X_0.out
              go_wp2_with fail
              with_reducible refine hp.mono ?_
              rintro e w5 ⟨rfl, hw5⟩
              have X_1 := hidT (keepH X_0.out hw5)
              have B_1 := hidT (bthen B_0.out hw5)
              clear X_0 B_0
              clear hw5 hp x0
              have t1 := alloc_at w5 (.cells #[.int .i64 0] 23) _ rfl
              have t3 := nkeep w5 (.cells #[.int .i64 0] 23)
              obtain ⟨Vw5, hVw5⟩ : ∃ W, w5.alloc (.cells #[.int .i64 0] 23) = W := ⟨_, rfl⟩
              rw [hVw5] at t1 t3
              have HVw5 := hidT hVw5
              have X_2 := hidT (keepH X_1.out t3)
              have B_2 := hidT (bthen B_1.out t3)
              clear X_1 B_1
              obtain ⟨gw5, hgw5⟩ : ∃ p, w5.heap.size = p := ⟨_, rfl⟩
              rw [hgw5] at t1
              have Y_0 := hidT (t1)
              clear t1 t3 hVw5
              have x0 := cells1 X_2.out
              have y0 := cells1 Y_0.out
              have f0 := no_frozen X_2.out 0
              rw [← HVw5.out] at f0 x0 y0
              go_wp2_with fail
              rw [HVw5.out]
              exact ⟨⟨j + 1, 0, by go_num, by first | rfl | rw [s1], by omega, by omega, by omega, hidT (set1 X_2.out _), hidT (Below.setCell (p := ⟨gw1, 0, none⟩) B_2.out HGW.out _)⟩, by first | (simp [intOf]; done) | (simp [intOf]; omega)⟩
          ·
            have dq : decide (H ≤ L) = false := by simp; omega
            have ea : Want.asks 0 L H O = false := by rw [Want.asks_seq, dq]
            have hp := step_any k 0 L H O n wr (.inl rfl) k0 (by omega)
            rw [ea, Want.hits_no, Want.yes_no] at hp
            clear ea hq HE
            have x0 := cells1 X_0.out
            go_wp2_with fail
            with_reducible refine hp.mono ?_
            rintro e w5 ⟨rfl, hw5⟩
            have X_1 := hidT (keepH X_0.out hw5)
            have B_1 := hidT (bthen B_0.out hw5)
            clear X_0 B_0
            clear hw5 hp x0
            have t1 := alloc_at w5 (.cells #[.int .i64 0] 23) _ rfl
            have t3 := nkeep w5 (.cells #[.int .i64 0] 23)
            obtain ⟨Vw5, hVw5⟩ : ∃ W, w5.alloc (.cells #[.int .i64 0] 23) = W := ⟨_, rfl⟩
            rw [hVw5] at t1 t3
            have HVw5 := hidT hVw5
            have X_2 := hidT (keepH X_1.out t3)
            have B_2 := hidT (bthen B_1.out t3)
            clear X_1 B_1
            obtain ⟨gw5, hgw5⟩ : ∃ p, w5.heap.size = p := ⟨_, rfl⟩
            rw [hgw5] at t1
            have Y_0 := hidT (t1)
            clear t1 t3 hVw5
            have x0 := cells1 X_2.out
            have y0 := cells1 Y_0.out
            have f0 := no_frozen X_2.out 0
            rw [← HVw5.out] at f0 x0 y0
            go_wp2_with fail
            rw [HVw5.out]
            exact ⟨⟨j + 1, 0, by go_num, by first | rfl | rw [s1], by omega, by omega, by omega, hidT (set1 X_2.out _), hidT (Below.setCell (p := ⟨gw1, 0, none⟩) B_2.out HGW.out _)⟩, by first | (simp [intOf]; done) | (simp [intOf]; omega)⟩
        ·
          by_cases hq : L ≤ O
          ·
            by_cases hkn : k + 1 < n
            ·
              have dq : decide (L ≤ O) = true := by simp; omega
              have ea : Want.asks 1 L H O = true := by rw [Want.asks_pri, dq]
              have hp := step_any k 1 L H O n wr (.inr rfl) k0 (by omega)
              rw [ea, Want.hits_more hkn, Want.yes_more hkn] at hp
              have y1 : decide (k + 1 = n) = false := by simp; omega
              have y2 : ((k + 1) == n) = false := by simp; omega
              have s1 : wrap64 (k + 1) = k + 1 := IntWalk.wrap64_in _ (by omega)
              clear ea hq HE
              have x0 := cells1 X_0.out
              go_wp2_with fail
              with_reducible refine hp.mono ?_
              rintro e w5 ⟨rfl, hw5⟩
              have X_1 := hidT (keepH X_0.out hw5)
              have B_1 := hidT (bthen B_0.out hw5)
              clear X_0 B_0
              clear hw5 hp x0
              have t1 := alloc_at w5 (.cells #[.int .i64 (k + 1)] 23) _ rfl
              have t3 := nkeep w5 (.cells #[.int .i64 (k + 1)] 23)
              obtain ⟨Vw5, hVw5⟩ : ∃ W, w5.alloc (.cells #[.int .i64 (k + 1)] 23) = W := ⟨_, rfl⟩
              rw [hVw5] at t1 t3
              have HVw5 := hidT hVw5
              have X_2 := hidT (keepH X_1.out t3)
              have B_2 := hidT (bthen B_1.out t3)
              clear X_1 B_1
              obtain ⟨gw5, hgw5⟩ : ∃ p, w5.heap.size = p := ⟨_, rfl⟩
              rw [hgw5] at t1
              have Y_0 := hidT (t1)
              clear t1 t3 hVw5
              have x0 := cells1 X_2.out
              have y0 := cells1 Y_0.out
              have f0 := no_frozen X_2.out 0
              rw [← HVw5.out] at f0 x0 y0
              go_wp2_with fail
              rw [HVw5.out]
              exact ⟨⟨j + 1, (k + 1), by go_num, by first | rfl | rw [s1], by omega, by omega, by omega, hidT (set1 X_2.out _), hidT (Below.setCell (p := ⟨gw1, 0, none⟩) B_2.out HGW.out _)⟩, by first | (simp [intOf]; done) | (simp [intOf]; omega)⟩
            ·
              have dq : decide (L ≤ O) = true := by simp; omega
              have ea : Want.asks 1 L H O = true := by rw [Want.asks_pri, dq]
              have hp := step_any k 1 L H O n wr (.inr rfl) k0 (by omega)
              rw [ea, Want.hits_full (show n ≤ k + 1 by omega), Want.yes_full (show n ≤ k + 1 by omega)] at hp
              have y1 : decide (k + 1 = n) = true := by simp; omega
              have y2 : ((k + 1) == n) = true := by simp; omega
              have s1 : wrap64 (k + 1) = k + 1 := IntWalk.wrap64_in _ (by omega)
              clear ea hq HE
              have x0 := cells1 X_0.out
              go_wp2_with fail
              with_reducible refine hp.mono ?_
              rintro e w5 ⟨rfl, hw5⟩
              have X_1 := hidT (keepH X_0.out hw5)
              have B_1 := hidT (bthen B_0.out hw5)
              clear X_0 B_0
              clear hw5 hp x0
              have t1 := alloc_at w5 (.cells #[.int .i64 0] 23) _ rfl
              have t3 := nkeep w5 (.cells #[.int .i64 0] 23)
              obtain ⟨Vw5, hVw5⟩ : ∃ W, w5.alloc (.cells #[.int .i64 0] 23) = W := ⟨_, rfl⟩
              rw [hVw5] at t1 t3
              have HVw5 := hidT hVw5
              have X_2 := hidT (keepH X_1.out t3)
              have B_2 := hidT (bthen B_1.out t3)
              clear X_1 B_1
              obtain ⟨gw5, hgw5⟩ : ∃ p, w5.heap.size = p := ⟨_, rfl⟩
              rw [hgw5] at t1
              have Y_0 := hidT (t1)
              clear t1 t3 hVw5
              have x0 := cells1 X_2.out
              have y0 := cells1 Y_0.out
              have f0 := no_frozen X_2.out 0
              rw [← HVw5.out] at f0 x0 y0
              go_wp2_with fail
              rw [HVw5.out]
              exact ⟨⟨j + 1, 0, by go_num, by first | rfl | rw [s1], by omega, by omega, by omega, hidT (set1 X_2.out _), hidT (Below.setCell (p := ⟨gw1, 0, none⟩) B_2.out HGW.out _)⟩, by first | (simp [intOf]; done) | (simp [intOf]; omega)⟩
          ·
            have dq : decide (L ≤ O) = false := by simp; omega
            have ea : Want.asks 1 L H O = false := by rw [Want.asks_pri, dq]
            have hp := step_any k 1 L H O n wr (.inr rfl) k0 (by omega)
            rw [ea, Want.hits_no, Want.yes_no] at hp
            clear ea hq HE
            have x0 := cells1 X_0.out
            go_wp2_with fail
            with_reducible refine hp.mono ?_
            rintro e w5 ⟨rfl, hw5⟩
            have X_1 := hidT (keepH X_0.out hw5)
            have B_1 := hidT (bthen B_0.out hw5)
            clear X_0 B_0
            clear hw5 hp x0
            have t1 := alloc_at w5 (.cells #[.int .i64 0] 23) _ rfl
            have t3 := nkeep w5 (.cells #[.int .i64 0] 23)
            obtain ⟨Vw5, hVw5⟩ : ∃ W, w5.alloc (.cells #[.int .i64 0] 23) = W := ⟨_, rfl⟩
            rw [hVw5] at t1 t3
            have HVw5 := hidT hVw5
            have X_2 := hidT (keepH X_1.out t3)
            have B_2 := hidT (bthen B_1.out t3)
            clear X_1 B_1
            obtain ⟨gw5, hgw5⟩ : ∃ p, w5.heap.size = p := ⟨_, rfl⟩
            rw [hgw5] at t1
            have Y_0 := hidT (t1)
            clear t1 t3 hVw5
            have x0 := cells1 X_2.out
            have y0 := cells1 Y_0.out
            have f0 := no_frozen X_2.out 0
            rw [← HVw5.out] at f0 x0 y0
            go_wp2_with fail
            rw [HVw5.out]
            exact ⟨⟨j + 1, 0, by go_num, by first | rfl | rw [s1], by omega, by omega, by omega, hidT (set1 X_2.out _), hidT (Below.setCell (p := ⟨gw1, 0, none⟩) B_2.out HGW.out _)⟩, by first | (simp [intOf]; done) | (simp [intOf]; omega)⟩
      ·
        have g1 : decide (j < m) = false := by simp; omega
        have g2 : decide ((j : Int) < (m : Int)) = false := by simp; omega
        go_wp2
        go_ret
        exact ⟨rfl, B_0.out⟩
  ·
    have t1 : decide (200 < m) = true := by simp; omega
    have t2 : decide ((200 : Int) < (m : Int)) = true := by simp; omega
    go_wp2
    go_ret
    exact ⟨rfl, B_1.out⟩
end Go.Proofs.Ytpbkaaljilcecaa
