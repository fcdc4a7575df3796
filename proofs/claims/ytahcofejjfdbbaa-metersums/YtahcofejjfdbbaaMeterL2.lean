/- The law MeterSums, walked. -/
import Derived.Test.YtahcofejjfdbbaaMeterShown
import Derived.Test.YtahcofejjfdbbaaMeterOpen
import Derived.Deep.QuietTactic
import Derived.BigQuiet
set_option maxRecDepth 100000
namespace Go.Proofs.Ytahcofejjfdbbaa
open Go.RowKit
set_option linter.unusedVariables false

namespace Meter
/-- Where the loop stands at its number j: its load is a, m, s. -/
def Run (k j a m s : Int) : Prop := a = j % k ∧ 0 ≤ m ∧ m ≤ j * 1048576 ∧ 0 ≤ s ∧ s ≤ j * 1048576 ∧ (1 ≤ k ∧ k ≤ 20 → 0 ≤ a ∧ a < k)
theorem Run.start {k : Int} : Run k ((0 : Nat) : Int) 0 0 0 := ⟨by simp, by omega, by simp, by omega, by simp, fun h => by omega⟩
theorem Run.mod {k j a m s : Int} (h : Run k j a m s) (hk : 1 ≤ k ∧ k ≤ 20) : 0 ≤ a ∧ 0 ≤ (j + 1) % k ∧ (j + 1) % k < k ∧ (a + 1 < k → (j + 1) % k = a + 1) ∧ (k ≤ a + 1 → (j + 1) % k = 0) := by
  obtain ⟨h1, _, _, _, _, h6⟩ := h
  obtain ⟨g1, g2⟩ := h6 hk
  have e : (j + 1) % k = (a + 1) % k := by rw [h1, Int.emod_add_emod]
  refine ⟨g1, Int.emod_nonneg _ (by omega), Int.emod_lt_of_pos _ (by omega), fun q => ?_, fun q => ?_⟩
  · rw [e]
    exact Int.emod_eq_of_lt (by omega) q
  · rw [e, show a + 1 = k by omega]
    exact Int.emod_self
theorem Run.next {k j a m s x y : Int} (h : Run k j a m s) (hk : 1 ≤ k ∧ k ≤ 20) (hx : 0 ≤ x ∧ x < 1048576) (hy : 0 ≤ y ∧ y < 1048576) (hj : 0 ≤ j) : (a + 1 < k → Run k (j + 1) (a + 1) (m + x) (s + y)) ∧ (k ≤ a + 1 → Run k (j + 1) 0 0 0) := by
  obtain ⟨_, m1, m2, m3, m4⟩ := h.mod hk
  obtain ⟨h1, h2, h3, h4, h5, h6⟩ := h
  obtain ⟨g1, g2⟩ := h6 hk
  refine ⟨fun q => ⟨(m3 q).symm, by omega, by omega, by omega, by omega, fun _ => ⟨by omega, by omega⟩⟩, fun q => ⟨(m4 q).symm, by omega, by omega, by omega, by omega, fun _ => ⟨by omega, by omega⟩⟩⟩
end Meter
theorem pair_at {w : World} {A : Option Addr} {n c j : Nat} {l : List (Int × Int)} (h : RdP w A n c l) (hj : j < n) : ∃ b o x y, A = some ⟨b, o, none⟩ ∧ (0 ≤ x ∧ x < 4294967296) ∧ (0 ≤ y ∧ y < 4294967296) ∧ (∀ w', Below w.heap.size w w' → w'.cell? ⟨b, o + j * 2, none⟩ = some (.int .u32 x)) ∧ ∀ w', Below w.heap.size w w' → w'.cell? ⟨b, o + j * 2 + 1, none⟩ = some (.int .u32 y) := by
  obtain ⟨b, o, x, y, hA, h1, h2, h3, h4⟩ := h.at_ hj
  exact ⟨b, o, x, y, hA, h1, h2, fun w' hb => (hb.cell (World.block_lt_of_cell? _ _ h3)).trans h3, fun w' hb => (hb.cell (World.block_lt_of_cell? _ _ h4)).trans h4⟩
set_option maxHeartbeats 2000000 in
theorem msums_any (A : Option Addr) (n d : Nat) (l : List (Int × Int)) (c : Int) (w : World) (hA : RdP w A n d l) (hc : 0 ≤ c ∧ c < 256) : Calls Try.prog 4 #[.slice A n d, .int .u8 c] w (Yes w) := by
  have hn := hA.le
  have HA := hidT hA
  clear hA
  have ec : Int.tmod c 20 = c % 20 := Int.tmod_eq_emod_of_nonneg hc.1
  have pc : wrap64 c = c := IntWalk.wrap64_in _ (by omega)
  obtain ⟨Fc, hFc⟩ : ∃ N, c % 20 = N := ⟨_, rfl⟩
  have c0 : 0 ≤ Fc := by omega
  have c1 : Fc < 20 := by omega
  rw [hFc] at ec
  clear hFc
  obtain ⟨k, ak⟩ : ∃ q, 1 + Fc = q := ⟨_, rfl⟩
  have k0 : 1 ≤ k := by omega
  have k1 : k ≤ 20 := by omega
  clear c0 c1
  have h0 := Below.refl w.heap.size w
  have B_0 := hidT (h0)
  clear h0
  go_enter Try.func4, Try.ntmps4
  have hp := mtshown_any w
  go_wp2_with fail
  with_reducible refine hp.mono ?_
  rintro e w1 ⟨rfl, hw1⟩
  have B_1 := hidT (bthen B_0.out hw1)
  clear B_0
  clear hw1 hp
  by_cases h200 : n ≤ 200
  ·
    have t1 : decide (200 < n) = false := by simp; omega
    have t2 : decide ((200 : Int) < (n : Int)) = false := by simp; omega
    have HGW := hidT (show w.heap.size ≤ w1.heap.size from B_1.out.size)
    have t1 := alloc_at w1 (.cells #[.int .i64 0, .int .i64 0, .int .i64 0] 23) _ rfl
    have t3 := nkeep w1 (.cells #[.int .i64 0, .int .i64 0, .int .i64 0] 23)
    obtain ⟨Vw1, hVw1⟩ : ∃ W, w1.alloc (.cells #[.int .i64 0, .int .i64 0, .int .i64 0] 23) = W := ⟨_, rfl⟩
    rw [hVw1] at t1 t3
    have HVw1 := hidT hVw1
    have B_2 := hidT (bthen B_1.out t3)
    clear B_1
    obtain ⟨gw1, hgw1⟩ : ∃ p, w1.heap.size = p := ⟨_, rfl⟩
    rw [hgw1] at t1
    have X_0 := hidT (t1)
    clear t1 t3 hVw1
    rw [hgw1] at HGW
    go_wp2_with fail
    rw [HVw1.out]
    clear hgw1 ec pc ak t1 t2
    have HX0 := hidT (X_0.out)
    have HB0 := hidT (B_2.out)
    go_loopw [8, 9, 10] (fun u v i wr => ∃ (j : Nat) (a M S : Int), i = .int .i64 j ∧ u = .int .i64 M ∧ v = .int .i64 S ∧ j ≤ n ∧ Hid (Meter.Run k j a M S) ∧ Hid (wr.heap[gw1]? = some (.cells #[.int .i64 a, .int .i64 M, .int .i64 S] 23 (0, 0))) ∧ Hid (Below w.heap.size w wr)) (fun _ _ i _ => n - (intOf i).toNat)
    case atStart => exact ⟨0, 0, 0, 0, rfl, rfl, rfl, Nat.zero_le _, hidT Meter.Run.start, HX0.out, HB0.out⟩
    case round =>
      obtain ⟨j, a, M, S, rfl, rfl, rfl, hj, HI, X_0, B_0⟩ := hrel
      clear HX0 HB0
      by_cases hjn : j < n
      ·
        obtain ⟨b1, o1, x, y, rfl, hx, hy, hcx, hcy⟩ := pair_at HA.out hjn
        have ccx := hcx _ B_0.out
        have ccy := hcy _ B_0.out
        obtain ⟨r1, r2, r3, r4, r5, r6⟩ := id HI.out
        have r7 := r6 ⟨k0, k1⟩
        have yy1 : (0 : Int) ≤ (j : Int) := by omega
        have yy2 : (j : Int) < (n : Int) := by omega
        have yy3 : (j : Int) < 200 := by omega
        obtain ⟨Dx, hDx⟩ : ∃ F, x % 1048576 = F := ⟨_, rfl⟩
        have Dx0 : 0 ≤ Dx := by rw [← hDx]; exact Int.emod_nonneg _ (by decide)
        have Dx1 : Dx < 1048576 := by rw [← hDx]; exact Int.emod_lt_of_pos _ (by decide)
        have qx1 : Int.tmod x 1048576 = Dx := by rw [← hDx]; exact Int.tmod_eq_emod_of_nonneg hx.1
        obtain ⟨Dy, hDy⟩ : ∃ F, y % 1048576 = F := ⟨_, rfl⟩
        have Dy0 : 0 ≤ Dy := by rw [← hDy]; exact Int.emod_nonneg _ (by decide)
        have Dy1 : Dy < 1048576 := by rw [← hDy]; exact Int.emod_lt_of_pos _ (by decide)
        have qy1 : Int.tmod y 1048576 = Dy := by rw [← hDy]; exact Int.tmod_eq_emod_of_nonneg hy.1
        obtain ⟨M2, eM⟩ : ∃ q, M + Dx = q := ⟨_, rfl⟩
        obtain ⟨S2, eS⟩ : ∃ q, S + Dy = q := ⟨_, rfl⟩
        have bM : 0 ≤ M2 ∧ M2 ≤ 209715200 := by omega
        have bS : 0 ≤ S2 ∧ S2 ≤ 209715200 := by omega
        have bA : 0 ≤ a ∧ a ≤ 1000 := by omega
        have hadd : ∀ w, Calls Try.prog 12 #[.agg #[.int .i64 a, .int .i64 M, .int .i64 S], .int .i64 Dx, .int .i64 Dy] w (LoadIs w a M2 S2) := fun w => by
          have h := add_any a (m := M) (b := S) (c := Dx) (d := Dy) (by omega) (by omega) (by omega) (by omega) w
          rw [Meter.cap_le (by omega), Meter.cap_le (by omega), eM, eS] at h
          exact h
        have htick : ∀ w, Calls Try.prog 10 #[.agg #[.int .i64 a, .int .i64 M2, .int .i64 S2], .int .i64 k] w (if a + 1 < k then TickIs w (a + 1) M2 S2 0 0 false else TickIs w 0 0 0 M2 S2 true) := fun w => mttick_any a M2 S2 k w bA (by omega) (by omega)
        have hmod := Meter.Run.mod HI.out ⟨k0, k1⟩
        have hnext := Meter.Run.next HI.out (x := Dx) (y := Dy) ⟨k0, k1⟩ ⟨Dx0, Dx1⟩ ⟨Dy0, Dy1⟩ (by omega)
        rw [eM, eS] at hnext
        have e2 : Int.tmod ((j : Int) + 1) k = ((j : Int) + 1) % k := Int.tmod_eq_emod_of_nonneg (by omega)
        obtain ⟨R, hR⟩ : ∃ R, ((j : Int) + 1) % k = R := ⟨_, rfl⟩
        rw [hR] at e2 hmod
        have kz1 : decide (k = 0) = false := by simp; omega
        have kz2 : (k == 0) = false := by simp; omega
        have kz3 : ¬ k = 0 := by omega
        have WX : Hid (wrap64 (x) = x ∧ IntKind.i64.wrap (x) = x) := hidT ⟨by rw [IntWalk.wrap64_in _ (by omega)], by rw [IntWalk.i64_in _ (by omega)]⟩
        have WY : Hid (wrap64 (y) = y ∧ IntKind.i64.wrap (y) = y) := hidT ⟨by rw [IntWalk.wrap64_in _ (by omega)], by rw [IntWalk.i64_in _ (by omega)]⟩
        have WDX : Hid (wrap64 (Dx) = Dx ∧ IntKind.i64.wrap (Dx) = Dx) := hidT ⟨by rw [IntWalk.wrap64_in _ (by omega)], by rw [IntWalk.i64_in _ (by omega)]⟩
        have WDY : Hid (wrap64 (Dy) = Dy ∧ IntKind.i64.wrap (Dy) = Dy) := hidT ⟨by rw [IntWalk.wrap64_in _ (by omega)], by rw [IntWalk.i64_in _ (by omega)]⟩
        have WM : Hid (wrap64 (M + Dx) = M2 ∧ IntKind.i64.wrap (M + Dx) = M2) := hidT ⟨by rw [IntWalk.wrap64_in _ (by omega)]; exact eM, by rw [IntWalk.i64_in _ (by omega)]; exact eM⟩
        have WS : Hid (wrap64 (S + Dy) = S2 ∧ IntKind.i64.wrap (S + Dy) = S2) := hidT ⟨by rw [IntWalk.wrap64_in _ (by omega)]; exact eS, by rw [IntWalk.i64_in _ (by omega)]; exact eS⟩
        have WJ : Hid (wrap64 ((j : Int) + 1) = (j : Int) + 1 ∧ IntKind.i64.wrap ((j : Int) + 1) = (j : Int) + 1) := hidT ⟨by rw [IntWalk.wrap64_in _ (by omega)], by rw [IntWalk.i64_in _ (by omega)]⟩
        have WR : Hid (wrap64 (R) = R ∧ IntKind.i64.wrap (R) = R) := hidT ⟨by rw [IntWalk.wrap64_in _ (by have := hmod.2.1; have := hmod.2.2.1; omega)], by rw [IntWalk.i64_in _ (by have := hmod.2.1; have := hmod.2.2.1; omega)]⟩
        have HADD := hidT hadd
        have HTICK := hidT htick
        have HMOD := hidT hmod
        have HNEXT := hidT hnext
        have E2 := hidT e2
        clear hadd htick hmod hnext hR r1 r2 r3 r4 r5 r6 r7 hx hy hcx hcy eM eS bM bS bA hDx hDy Dx0 Dx1 Dy0 Dy1 e2
        obtain ⟨wx1, wx2⟩ := id WX.out
        obtain ⟨wy1, wy2⟩ := id WY.out
        obtain ⟨wdx1, wdx2⟩ := id WDX.out
        obtain ⟨wdy1, wdy2⟩ := id WDY.out
        obtain ⟨wm1, wm2⟩ := id WM.out
        obtain ⟨ws1, ws2⟩ := id WS.out
        by_cases hak : a + 1 < k
        ·
          have HK := hidT hak
          clear hak
          obtain ⟨x0, x1, x2⟩ := cells3 X_0.out
          have hp := HADD.out wr
          go_wp2_with fail
          with_reducible refine hp.mono ?_
          rintro e w2 ⟨rfl, hw2⟩
          have X_1 := hidT (keepH X_0.out hw2)
          have B_1 := hidT (bthen B_0.out hw2)
          clear X_0 B_0
          clear hw2 hp x0 x1 x2 ccx ccy wx1 wx2 wy1 wy2 wdx1 wdx2 wdy1 wdy2 wm1 wm2 ws1 ws2 qx1 qy1
          have hp := HTICK.out w2
          rw [if_pos HK.out] at hp
          go_wp2_with fail
          with_reducible refine hp.mono ?_
          rintro e w3 ⟨rfl, hw3⟩
          have X_2 := hidT (keepH X_1.out hw3)
          have B_2 := hidT (bthen B_1.out hw3)
          clear X_1 B_1
          clear hw3 hp
          have t1 := alloc_at w3 (.cells #[.int .i64 (a + 1), .int .i64 M2, .int .i64 S2] 23) _ rfl
          have t3 := nkeep w3 (.cells #[.int .i64 (a + 1), .int .i64 M2, .int .i64 S2] 23)
          obtain ⟨Vw3, hVw3⟩ : ∃ W, w3.alloc (.cells #[.int .i64 (a + 1), .int .i64 M2, .int .i64 S2] 23) = W := ⟨_, rfl⟩
          rw [hVw3] at t1 t3
          have HVw3 := hidT hVw3
          have X_3 := hidT (keepH X_2.out t3)
          have B_3 := hidT (bthen B_2.out t3)
          clear X_2 B_2
          obtain ⟨gw3, hgw3⟩ : ∃ p, w3.heap.size = p := ⟨_, rfl⟩
          rw [hgw3] at t1
          have Y_0 := hidT (t1)
          clear t1 t3 hVw3
          obtain ⟨y0, y1, y2⟩ := cells3 Y_0.out
          rw [← HVw3.out] at y0 y1 y2
          go_wp2_with fail
          rw [HVw3.out]
          clear hgw3 y0 y1 y2
          obtain ⟨y0, y1, y2⟩ := cells3 Y_0.out
          obtain ⟨m0, m1, m2, m3, m4⟩ := id HMOD.out
          have e2 := E2.out
          have mm := m3 HK.out
          have ma := m0
          have z0 : decide (R = 0) = false := by simp; omega
          have z1 : (R == 0) = false := by simp; omega
          have z2 : decide (a + 1 = R) = true := by simp; omega
          have z3 : (a + 1 != R) = false := by simp; omega
          have z4 : (a + 1 == R) = true := by simp; omega
          obtain ⟨wj1, wj2⟩ := id WJ.out
          obtain ⟨wr1, wr2⟩ := id WR.out
          clear m0 m1 m2 m3 m4 mm yy3 ma
          go_quiet (fail)
          have BX := drawn_below Vw3 nq
          have X_4 := hidT (keepH X_3.out BX)
          have B_4 := hidT (bthen B_3.out BX)
          have Y_1 := hidT (keepH Y_0.out BX)
          clear X_3 B_3 Y_0
          clear BX y0 y1 y2 e2 z0 z1 wr1 wr2 z2 z3 z4
          generalize Vw3.drewN nq = V5 at X_4 B_4 Y_1 ⊢
          obtain ⟨y0, y1, y2⟩ := cells3 Y_1.out
          have HI2 := hidT (HNEXT.out.1 HK.out)
          go_wp2_with (
            refine wpList_stI rfl 23 _ _ rfl gw1 #[.int .i64 (a + 1), .int .i64 M2, .int .i64 S2] rfl rfl _ _ X_4.out mtsize rfl (all3 rfl rfl rfl) ?_
            intro w7 hg7 hbut hbel)
          clear wj1 wj2 y0 y1 y2
          exact ⟨⟨j + 1, (a + 1), M2, S2, by go_num, rfl, rfl, by omega, by simpa using HI2, hidT hg7, hidT (hbel _ _ B_4.out HGW.out)⟩, by first | (simp [intOf]; done) | (simp [intOf]; omega)⟩
        ·
          have HK := hidT (Int.not_lt.1 hak)
          clear hak
          obtain ⟨x0, x1, x2⟩ := cells3 X_0.out
          have hp := HADD.out wr
          go_wp2_with fail
          with_reducible refine hp.mono ?_
          rintro e w2 ⟨rfl, hw2⟩
          have X_1 := hidT (keepH X_0.out hw2)
          have B_1 := hidT (bthen B_0.out hw2)
          clear X_0 B_0
          clear hw2 hp x0 x1 x2 ccx ccy wx1 wx2 wy1 wy2 wdx1 wdx2 wdy1 wdy2 wm1 wm2 ws1 ws2 qx1 qy1
          have hp := HTICK.out w2
          rw [if_neg (Int.not_lt.2 HK.out)] at hp
          go_wp2_with fail
          with_reducible refine hp.mono ?_
          rintro e w3 ⟨rfl, hw3⟩
          have X_2 := hidT (keepH X_1.out hw3)
          have B_2 := hidT (bthen B_1.out hw3)
          clear X_1 B_1
          clear hw3 hp
          have t1 := alloc_at w3 (.cells #[.int .i64 0, .int .i64 0, .int .i64 0] 23) _ rfl
          have t3 := nkeep w3 (.cells #[.int .i64 0, .int .i64 0, .int .i64 0] 23)
          obtain ⟨Vw3, hVw3⟩ : ∃ W, w3.alloc (.cells #[.int .i64 0, .int .i64 0, .int .i64 0] 23) = W := ⟨_, rfl⟩
          rw [hVw3] at t1 t3
          have HVw3 := hidT hVw3
          have X_3 := hidT (keepH X_2.out t3)
          have B_3 := hidT (bthen B_2.out t3)
          clear X_2 B_2
          obtain ⟨gw3, hgw3⟩ : ∃ p, w3.heap.size = p := ⟨_, rfl⟩
          rw [hgw3] at t1
          have Y_0 := hidT (t1)
          clear t1 t3 hVw3
          obtain ⟨y0, y1, y2⟩ := cells3 Y_0.out
          rw [← HVw3.out] at y0 y1 y2
          go_wp2_with fail
          rw [HVw3.out]
          clear hgw3 y0 y1 y2
          obtain ⟨y0, y1, y2⟩ := cells3 Y_0.out
          obtain ⟨m0, m1, m2, m3, m4⟩ := id HMOD.out
          have e2 := E2.out
          have mm := m4 HK.out
          have z0 : decide (R = 0) = true := by simp; omega
          have z1 : (R == 0) = true := by simp; omega
          obtain ⟨wj1, wj2⟩ := id WJ.out
          obtain ⟨wr1, wr2⟩ := id WR.out
          clear m0 m1 m2 m3 m4 mm yy3
          go_quiet (fail)
          have BX := drawn_below Vw3 nq
          have X_4 := hidT (keepH X_3.out BX)
          have B_4 := hidT (bthen B_3.out BX)
          have Y_1 := hidT (keepH Y_0.out BX)
          clear X_3 B_3 Y_0
          clear BX y0 y1 y2 e2 z0 z1 wr1 wr2
          generalize Vw3.drewN nq = V5 at X_4 B_4 Y_1 ⊢
          obtain ⟨y0, y1, y2⟩ := cells3 Y_1.out
          have HI2 := hidT (HNEXT.out.2 HK.out)
          go_wp2_with (
            refine wpList_stI rfl 23 _ _ rfl gw1 #[.int .i64 0, .int .i64 0, .int .i64 0] rfl rfl _ _ X_4.out mtsize rfl (all3 rfl rfl rfl) ?_
            intro w7 hg7 hbut hbel)
          clear wj1 wj2 y0 y1 y2
          exact ⟨⟨j + 1, 0, 0, 0, by go_num, rfl, rfl, by omega, by simpa using HI2, hidT hg7, hidT (hbel _ _ B_4.out HGW.out)⟩, by first | (simp [intOf]; done) | (simp [intOf]; omega)⟩
      ·
        have u1 : decide (j < n) = false := by simp; omega
        have u2 : decide ((j : Int) < (n : Int)) = false := by simp; omega
        go_wp2
        go_ret
        exact ⟨rfl, B_0.out⟩
  ·
    have t1 : decide (200 < n) = true := by simp; omega
    have t2 : decide ((200 : Int) < (n : Int)) = true := by simp; omega
    go_wp2
    go_ret
    exact ⟨rfl, B_1.out⟩
end Go.Proofs.Ytahcofejjfdbbaa
