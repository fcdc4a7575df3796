/- The law RateGrows, walked. -/
import Derived.Test.YtpobaecfmdpphaaRateShown
set_option maxRecDepth 100000
namespace Go.Proofs.Ytpobaecfmdpphaa
open Go.RowKit
set_option linter.unusedVariables false

namespace Rate
/-- Where the loop stands at its number j: its bucket is n, l. -/
def Grow (gaps : Bool) (lo hi b j n l : Int) : Prop := lo ≤ n ∧ n ≤ hi ∧ 0 ≤ l ∧ l ≤ b ∧ (l = b ∨ j ≤ l + 1) ∧ (if gaps = true then n = lo ∨ n + j ≤ 100 else n = hi ∨ lo + j ≤ n + 1)
theorem Grow.start_gap {lo hi b : Int} (h0 : lo ≤ hi) (h1 : hi ≤ lo + 69) (l0 : 1 ≤ lo) (l1 : lo ≤ 30) (b0 : 1 ≤ b) : Grow true lo hi b ((1 : Nat) : Int) hi 0 := by
  refine ⟨h0, Int.le_refl _, Int.le_refl _, by omega, .inr (by omega), ?_⟩
  rw [if_pos rfl]
  exact .inr (by omega)
theorem Grow.start_none {lo hi b : Int} (h0 : lo ≤ hi) (h1 : hi ≤ lo + 69) (l0 : 1 ≤ lo) (l1 : lo ≤ 30) (b0 : 1 ≤ b) : Grow false lo hi b ((1 : Nat) : Int) lo 0 := by
  refine ⟨Int.le_refl _, h0, Int.le_refl _, by omega, .inr (by omega), ?_⟩
  rw [if_neg (by simp)]
  exact .inr (by omega)
theorem Grow.left {l b m j : Int} (h0 : 0 ≤ l) (h : l ≤ b) (h2 : l = b ∨ j ≤ l + 1) (hm : 1 ≤ m) : 0 ≤ Rate.left l m b ∧ Rate.left l m b ≤ b ∧ (Rate.left l m b = b ∨ j + 1 ≤ Rate.left l m b + 1) := by
  unfold Rate.left
  split <;> refine ⟨by omega, by omega, by omega⟩
theorem Grow.next_gap {lo hi b j n l : Int} (h : Grow true lo hi b j n l) (j1 : j ≤ 120) (h0 : lo ≤ hi) (h1 : hi ≤ lo + 69) (l0 : 1 ≤ lo) (l1 : lo ≤ 30) (b1 : b ≤ 100) : Grow true lo hi b (j + 1) (Rate.more n lo hi 1) (Rate.left l (Rate.more n lo hi 1) b) := by
  obtain ⟨g1, g2, g3, g4, g5, g6⟩ := h
  rw [if_pos rfl] at g6
  obtain ⟨m1, m2⟩ := Rate.more_in (naks := 1) l0 g1 g2
  obtain ⟨k1, k2, k3⟩ := Grow.left (m := Rate.more n lo hi 1) g3 g4 g5 (by omega)
  refine ⟨m1, m2, k1, k2, k3, ?_⟩
  rw [if_pos rfl, Rate.more_gap n lo hi (show (0 : Int) < 1 by omega)]
  split <;> omega
theorem Grow.next_none {lo hi b j n l : Int} (h : Grow false lo hi b j n l) (j1 : j ≤ 120) (h0 : lo ≤ hi) (h1 : hi ≤ lo + 69) (l0 : 1 ≤ lo) (l1 : lo ≤ 30) (b1 : b ≤ 100) : Grow false lo hi b (j + 1) (Rate.more n lo hi 0) (Rate.left l (Rate.more n lo hi 0) b) := by
  obtain ⟨g1, g2, g3, g4, g5, g6⟩ := h
  rw [if_neg (by simp)] at g6
  obtain ⟨m1, m2⟩ := Rate.more_in (naks := 0) l0 g1 g2
  obtain ⟨k1, k2, k3⟩ := Grow.left (m := Rate.more n lo hi 0) g3 g4 g5 (by omega)
  refine ⟨m1, m2, k1, k2, k3, ?_⟩
  rw [if_neg (by simp), Rate.more_none n lo hi (show ¬ (0 : Int) < 0 by omega)]
  split <;> omega
theorem Grow.end_gap {lo hi b j n l : Int} (h : Grow true lo hi b j n l) (j1 : 120 < j) (h1 : hi ≤ lo + 69) (l0 : 1 ≤ lo) : n = lo := by
  obtain ⟨g1, g2, g3, g4, g5, g6⟩ := h
  rw [if_pos rfl] at g6
  omega
theorem Grow.end_none {lo hi b j n l : Int} (h : Grow false lo hi b j n l) (j1 : 120 < j) (h1 : hi ≤ lo + 69) (l0 : 1 ≤ lo) : n = hi := by
  obtain ⟨g1, g2, g3, g4, g5, g6⟩ := h
  rw [if_neg (by simp)] at g6
  omega
end Rate
theorem cells4 {w : World} {g : Nat} {a0 a1 a2 a3 : Value} {t : TypeId} (h : w.heap[g]? = some (.cells #[a0, a1, a2, a3] t (0, 0))) : w.cell? ⟨g, 0, none⟩ = some a0 ∧ w.cell? ⟨g, 1, none⟩ = some a1 ∧ w.cell? ⟨g, 2, none⟩ = some a2 ∧ w.cell? ⟨g, 3, none⟩ = some a3 :=
  ⟨cell_at h 0 rfl, cell_at h 1 rfl, cell_at h 2 rfl, cell_at h 3 rfl⟩
set_option maxHeartbeats 8000000 in
theorem rgrows_gap (a s c : Int) (w : World) (ha : 0 ≤ a ∧ a < 256) (hs : 0 ≤ s ∧ s < 256) (hc : 0 ≤ c ∧ c < 256) : Calls Try.prog 6 #[.agg #[.int .u8 a, .int .u8 s, .int .u8 c, .bool true]] w (Yes w) := by
  have ea : Int.tmod a 30 = a % 30 := Int.tmod_eq_emod_of_nonneg ha.1
  have pa : wrap64 a = a := IntWalk.wrap64_in _ (by omega)
  obtain ⟨Fa, hFa⟩ : ∃ N, a % 30 = N := ⟨_, rfl⟩
  have a0 : 0 ≤ Fa := by omega
  have a1 : Fa < 30 := by omega
  rw [hFa] at ea
  clear hFa
  have es : Int.tmod s 70 = s % 70 := Int.tmod_eq_emod_of_nonneg hs.1
  have ps : wrap64 s = s := IntWalk.wrap64_in _ (by omega)
  obtain ⟨Fs, hFs⟩ : ∃ N, s % 70 = N := ⟨_, rfl⟩
  have s0 : 0 ≤ Fs := by omega
  have s1 : Fs < 70 := by omega
  rw [hFs] at es
  clear hFs
  have ec : Int.tmod c 100 = c % 100 := Int.tmod_eq_emod_of_nonneg hc.1
  have pc : wrap64 c = c := IntWalk.wrap64_in _ (by omega)
  obtain ⟨Fc, hFc⟩ : ∃ N, c % 100 = N := ⟨_, rfl⟩
  have c0 : 0 ≤ Fc := by omega
  have c1 : Fc < 100 := by omega
  rw [hFc] at ec
  clear hFc
  obtain ⟨lo, al⟩ : ∃ q, 1 + Fa = q := ⟨_, rfl⟩
  have lo0 : 1 ≤ lo := by omega
  have lo1 : lo ≤ 30 := by omega
  obtain ⟨hi, ah⟩ : ∃ q, lo + Fs = q := ⟨_, rfl⟩
  have hi0 : lo ≤ hi := by omega
  have hi1 : hi ≤ lo + 69 := by omega
  obtain ⟨b, ab⟩ : ∃ q, 1 + Fc = q := ⟨_, rfl⟩
  have b0 : 1 ≤ b := by omega
  have b1 : b ≤ 100 := by omega
  clear a0 a1 s0 s1 c0 c1
  have t1 := alloc_at w (.cells #[.int .u8 a, .int .u8 s, .int .u8 c, .bool true] 41) _ rfl
  have t3 := nkeep w (.cells #[.int .u8 a, .int .u8 s, .int .u8 c, .bool true] 41)
  obtain ⟨i0, i1, i2, i3⟩ := cells4 t1
  obtain ⟨W, hW⟩ : ∃ W, w.alloc (.cells #[.int .u8 a, .int .u8 s, .int .u8 c, .bool true] 41) = W := ⟨_, rfl⟩
  rw [hW] at t3
  have HW := hidT hW
  clear t1 hW
  have B_0 := hidT (t3)
  clear t3
  go_enter Try.func6, Try.ntmps6
  go_wp2_with fail
  rw [HW.out]
  clear i0 i1 i2 i3
  have hp := rtshown_any W
  with_reducible refine hp.mono ?_
  rintro e w1 ⟨rfl, hw1⟩
  have B_1 := hidT (bthen B_0.out hw1)
  clear B_0
  clear hw1 hp
  have hp := rtstart_any hi b w1
  go_wp2_with fail
  with_reducible refine hp.mono ?_
  rintro e w2 ⟨rfl, hw2⟩
  have B_2 := hidT (bthen B_1.out hw2)
  clear B_1
  clear hw2 hp
  have t1 := alloc_at w2 (.cells #[.int .i64 hi, .int .i64 b] 23) _ rfl
  have t3 := nkeep w2 (.cells #[.int .i64 hi, .int .i64 b] 23)
  obtain ⟨Vw2, hVw2⟩ : ∃ W, w2.alloc (.cells #[.int .i64 hi, .int .i64 b] 23) = W := ⟨_, rfl⟩
  rw [hVw2] at t1 t3
  have HVw2 := hidT hVw2
  have B_3 := hidT (bthen B_2.out t3)
  clear B_2
  obtain ⟨gw2, hgw2⟩ : ∃ p, w2.heap.size = p := ⟨_, rfl⟩
  rw [hgw2] at t1
  have A_0 := hidT (t1)
  clear t1 t3 hVw2
  obtain ⟨x0, x1⟩ := cells2 A_0.out
  have hp := rtspend_any hi b b Vw2 (by omega) (by omega)
  rw [show Rate.spend b b = 0 from by unfold Rate.spend; rw [if_pos (Rate.yes_iff.2 ⟨by omega, by omega⟩)]; omega, show Rate.yes b b = true from Rate.yes_iff.2 ⟨by omega, by omega⟩] at hp
  rw [← HVw2.out] at x0 x1
  go_wp2_with fail
  rw [HVw2.out]
  clear hgw2
  with_reducible refine hp.mono ?_
  rintro e w3 ⟨rfl, hw3⟩
  have B_4 := hidT (bthen B_3.out hw3)
  have A_1 := hidT (keepH A_0.out hw3)
  clear B_3 A_0
  clear hw3 hp x0 x1
  clear A_1
  have HGW := hidT (show w.heap.size ≤ w3.heap.size from B_4.out.size)
  have t1 := alloc_at w3 (.cells #[.int .i64 hi, .int .i64 0] 23) _ rfl
  have t3 := nkeep w3 (.cells #[.int .i64 hi, .int .i64 0] 23)
  obtain ⟨Vw3, hVw3⟩ : ∃ W, w3.alloc (.cells #[.int .i64 hi, .int .i64 0] 23) = W := ⟨_, rfl⟩
  rw [hVw3] at t1 t3
  have HVw3 := hidT hVw3
  have B_5 := hidT (bthen B_4.out t3)
  clear B_4
  obtain ⟨gw3, hgw3⟩ : ∃ p, w3.heap.size = p := ⟨_, rfl⟩
  rw [hgw3] at t1
  have X_0 := hidT (t1)
  clear t1 t3 hVw3
  rw [hgw3] at HGW
  go_wp2_with fail
  rw [HVw3.out]
  clear hgw3 ea pa es ps ec pc al ah ab
  have HX0 := hidT (X_0.out)
  have HB0 := hidT (B_5.out)
  go_loopw [14] (fun i wr => ∃ (j : Nat) (N L : Int), i = .int .i64 j ∧ j ≤ 121 ∧ Hid (Rate.Grow true lo hi b j N L) ∧ Hid (wr.heap[gw3]? = some (.cells #[.int .i64 N, .int .i64 L] 23 (0, 0))) ∧ Hid (Below w.heap.size w wr)) (fun i _ => 121 - (intOf i).toNat)
  case atStart => exact ⟨1, hi, 0, rfl, by omega, hidT (Rate.Grow.start_gap hi0 hi1 lo0 lo1 b0), HX0.out, HB0.out⟩
  case round =>
    obtain ⟨j, N, L, rfl, hj, HI, X_0, B_0⟩ := hrel
    clear HX0 HB0
    obtain ⟨g1, g2, g3, g4, g5, g6⟩ := HI.out
    by_cases hj2 : j ≤ 120
    ·
      have u1 : decide ((j : Int) ≤ 120) = true := by simp; omega
      have et : Int.tdiv N 2 = N / 2 := Int.tdiv_eq_ediv_of_nonneg (by omega)
      obtain ⟨H, eH⟩ : ∃ q, N / 2 = q := ⟨_, rfl⟩
      rw [eH] at et
      have q0 : decide (hi < H) = false := by simp; omega
      have s0 : wrap64 (N + 1) = N + 1 := IntWalk.wrap64_in _ (by omega)
      have s1 : wrap64 H = H := IntWalk.wrap64_in _ (by omega)
      by_cases h : H < lo
      ·
        have hr : Rate.right N L lo hi b = true := Rate.right_iff.2 ⟨⟨lo0, hi0, by omega, b0, by omega⟩, g1, g2, g3, g4⟩
        have eN : Rate.more N lo hi 1 = lo := by rw [Rate.more_gap N lo hi (show (0 : Int) < 1 by omega), eH, if_pos h]
        have hp := rttick_any N L lo hi b 1 wr hr
        rw [eN] at hp
        have HI2 := hidT (Rate.Grow.next_gap HI.out (by omega) hi0 hi1 lo0 lo1 b1)
        rw [eN] at HI2
        obtain ⟨l1, l2⟩ := Rate.left_in (l := L) (m := lo) (burst := b) g3 g4 (by omega)
        obtain ⟨M, eM⟩ : ∃ q, Rate.left L lo b = q := ⟨_, rfl⟩
        rw [eM] at hp HI2 l1 l2
        have d0 : decide (b < M) = false := by simp; omega
        have d1 : decide (M < L) = false := by simp; omega
        have q1 : decide (H < lo) = true := by simp; omega
        clear eN eM l1 l2 hr HI
        obtain ⟨x0, x1⟩ := cells2 X_0.out
        go_wp2_with fail
        with_reducible refine hp.mono ?_
        rintro e w5 ⟨rfl, hw5⟩
        have X_1 := hidT (keepH X_0.out hw5)
        have B_1 := hidT (bthen B_0.out hw5)
        clear X_0 B_0
        clear hw5 hp x0 x1
        have t1 := alloc_at w5 (.cells #[.int .i64 lo, .int .i64 M] 23) _ rfl
        have t3 := nkeep w5 (.cells #[.int .i64 lo, .int .i64 M] 23)
        obtain ⟨Vw5, hVw5⟩ : ∃ W, w5.alloc (.cells #[.int .i64 lo, .int .i64 M] 23) = W := ⟨_, rfl⟩
        rw [hVw5] at t1 t3
        have HVw5 := hidT hVw5
        have X_2 := hidT (keepH X_1.out t3)
        have B_2 := hidT (bthen B_1.out t3)
        clear X_1 B_1
        obtain ⟨gw5, hgw5⟩ : ∃ p, w5.heap.size = p := ⟨_, rfl⟩
        rw [hgw5] at t1
        have Y_0 := hidT (t1)
        clear t1 t3 hVw5
        obtain ⟨x0, x1⟩ := cells2 X_2.out
        obtain ⟨y0, y1⟩ := cells2 Y_0.out
        have HB1 := hidT (B_2.out)
        have f0 := no_frozen X_2.out 0
        have f1 := no_frozen X_2.out 1
        have z := X_2.out
        rw [← HVw5.out] at x0 x1 y0 y1 z
        clear hgw5 f0 f1
        go_wp2_with (
          refine wpList_stI rfl 23 _ _ rfl gw3 #[.int .i64 lo, .int .i64 M] rfl rfl _ _ z rtsize rfl (all2 rfl rfl) ?_
          intro w7 hg7 hbut hbel)
        rw [HVw5.out] at hbel
        exact ⟨⟨j + 1, lo, M, by go_num, by omega, by simpa using HI2, hidT hg7, hidT (hbel _ _ HB1.out HGW.out)⟩, by first | (simp [intOf]; done) | (simp [intOf]; omega)⟩
      ·
        have hr : Rate.right N L lo hi b = true := Rate.right_iff.2 ⟨⟨lo0, hi0, by omega, b0, by omega⟩, g1, g2, g3, g4⟩
        have eN : Rate.more N lo hi 1 = H := by rw [Rate.more_gap N lo hi (show (0 : Int) < 1 by omega), eH, if_neg h]
        have hp := rttick_any N L lo hi b 1 wr hr
        rw [eN] at hp
        have HI2 := hidT (Rate.Grow.next_gap HI.out (by omega) hi0 hi1 lo0 lo1 b1)
        rw [eN] at HI2
        obtain ⟨l1, l2⟩ := Rate.left_in (l := L) (m := H) (burst := b) g3 g4 (by omega)
        obtain ⟨M, eM⟩ : ∃ q, Rate.left L H b = q := ⟨_, rfl⟩
        rw [eM] at hp HI2 l1 l2
        have d0 : decide (b < M) = false := by simp; omega
        have d1 : decide (M < L) = false := by simp; omega
        have q1 : decide (H < lo) = false := by simp; omega
        clear eN eM l1 l2 hr HI
        obtain ⟨x0, x1⟩ := cells2 X_0.out
        go_wp2_with fail
        with_reducible refine hp.mono ?_
        rintro e w5 ⟨rfl, hw5⟩
        have X_1 := hidT (keepH X_0.out hw5)
        have B_1 := hidT (bthen B_0.out hw5)
        clear X_0 B_0
        clear hw5 hp x0 x1
        have t1 := alloc_at w5 (.cells #[.int .i64 H, .int .i64 M] 23) _ rfl
        have t3 := nkeep w5 (.cells #[.int .i64 H, .int .i64 M] 23)
        obtain ⟨Vw5, hVw5⟩ : ∃ W, w5.alloc (.cells #[.int .i64 H, .int .i64 M] 23) = W := ⟨_, rfl⟩
        rw [hVw5] at t1 t3
        have HVw5 := hidT hVw5
        have X_2 := hidT (keepH X_1.out t3)
        have B_2 := hidT (bthen B_1.out t3)
        clear X_1 B_1
        obtain ⟨gw5, hgw5⟩ : ∃ p, w5.heap.size = p := ⟨_, rfl⟩
        rw [hgw5] at t1
        have Y_0 := hidT (t1)
        clear t1 t3 hVw5
        obtain ⟨x0, x1⟩ := cells2 X_2.out
        obtain ⟨y0, y1⟩ := cells2 Y_0.out
        have HB1 := hidT (B_2.out)
        have f0 := no_frozen X_2.out 0
        have f1 := no_frozen X_2.out 1
        have z := X_2.out
        rw [← HVw5.out] at x0 x1 y0 y1 z
        clear hgw5 f0 f1
        go_wp2_with (
          refine wpList_stI rfl 23 _ _ rfl gw3 #[.int .i64 H, .int .i64 M] rfl rfl _ _ z rtsize rfl (all2 rfl rfl) ?_
          intro w7 hg7 hbut hbel)
        rw [HVw5.out] at hbel
        exact ⟨⟨j + 1, H, M, by go_num, by omega, by simpa using HI2, hidT hg7, hidT (hbel _ _ HB1.out HGW.out)⟩, by first | (simp [intOf]; done) | (simp [intOf]; omega)⟩
    ·
      have u1 : decide ((j : Int) ≤ 120) = false := by simp; omega
      have hL : L = b := by omega
      have hN : N = lo := Rate.Grow.end_gap HI.out (by omega) hi1 lo0
      subst hL
      rw [hN] at X_0
      obtain ⟨x0, x1⟩ := cells2 X_0.out
      clear HI g1 g2 g3 g4 g5 g6
      go_wp2
      go_ret
      exact ⟨rfl, B_0.out⟩
set_option maxHeartbeats 8000000 in
theorem rgrows_none (a s c : Int) (w : World) (ha : 0 ≤ a ∧ a < 256) (hs : 0 ≤ s ∧ s < 256) (hc : 0 ≤ c ∧ c < 256) : Calls Try.prog 6 #[.agg #[.int .u8 a, .int .u8 s, .int .u8 c, .bool false]] w (Yes w) := by
  have ea : Int.tmod a 30 = a % 30 := Int.tmod_eq_emod_of_nonneg ha.1
  have pa : wrap64 a = a := IntWalk.wrap64_in _ (by omega)
  obtain ⟨Fa, hFa⟩ : ∃ N, a % 30 = N := ⟨_, rfl⟩
  have a0 : 0 ≤ Fa := by omega
  have a1 : Fa < 30 := by omega
  rw [hFa] at ea
  clear hFa
  have es : Int.tmod s 70 = s % 70 := Int.tmod_eq_emod_of_nonneg hs.1
  have ps : wrap64 s = s := IntWalk.wrap64_in _ (by omega)
  obtain ⟨Fs, hFs⟩ : ∃ N, s % 70 = N := ⟨_, rfl⟩
  have s0 : 0 ≤ Fs := by omega
  have s1 : Fs < 70 := by omega
  rw [hFs] at es
  clear hFs
  have ec : Int.tmod c 100 = c % 100 := Int.tmod_eq_emod_of_nonneg hc.1
  have pc : wrap64 c = c := IntWalk.wrap64_in _ (by omega)
  obtain ⟨Fc, hFc⟩ : ∃ N, c % 100 = N := ⟨_, rfl⟩
  have c0 : 0 ≤ Fc := by omega
  have c1 : Fc < 100 := by omega
  rw [hFc] at ec
  clear hFc
  obtain ⟨lo, al⟩ : ∃ q, 1 + Fa = q := ⟨_, rfl⟩
  have lo0 : 1 ≤ lo := by omega
  have lo1 : lo ≤ 30 := by omega
  obtain ⟨hi, ah⟩ : ∃ q, lo + Fs = q := ⟨_, rfl⟩
  have hi0 : lo ≤ hi := by omega
  have hi1 : hi ≤ lo + 69 := by omega
  obtain ⟨b, ab⟩ : ∃ q, 1 + Fc = q := ⟨_, rfl⟩
  have b0 : 1 ≤ b := by omega
  have b1 : b ≤ 100 := by omega
  clear a0 a1 s0 s1 c0 c1
  have t1 := alloc_at w (.cells #[.int .u8 a, .int .u8 s, .int .u8 c, .bool false] 41) _ rfl
  have t3 := nkeep w (.cells #[.int .u8 a, .int .u8 s, .int .u8 c, .bool false] 41)
  obtain ⟨i0, i1, i2, i3⟩ := cells4 t1
  obtain ⟨W, hW⟩ : ∃ W, w.alloc (.cells #[.int .u8 a, .int .u8 s, .int .u8 c, .bool false] 41) = W := ⟨_, rfl⟩
  rw [hW] at t3
  have HW := hidT hW
  clear t1 hW
  have B_0 := hidT (t3)
  clear t3
  go_enter Try.func6, Try.ntmps6
  go_wp2_with fail
  rw [HW.out]
  clear i0 i1 i2 i3
  have hp := rtshown_any W
  with_reducible refine hp.mono ?_
  rintro e w1 ⟨rfl, hw1⟩
  have B_1 := hidT (bthen B_0.out hw1)
  clear B_0
  clear hw1 hp
  have hp := rtstart_any hi b w1
  go_wp2_with fail
  with_reducible refine hp.mono ?_
  rintro e w2 ⟨rfl, hw2⟩
  have B_2 := hidT (bthen B_1.out hw2)
  clear B_1
  clear hw2 hp
  have t1 := alloc_at w2 (.cells #[.int .i64 hi, .int .i64 b] 23) _ rfl
  have t3 := nkeep w2 (.cells #[.int .i64 hi, .int .i64 b] 23)
  obtain ⟨Vw2, hVw2⟩ : ∃ W, w2.alloc (.cells #[.int .i64 hi, .int .i64 b] 23) = W := ⟨_, rfl⟩
  rw [hVw2] at t1 t3
  have HVw2 := hidT hVw2
  have B_3 := hidT (bthen B_2.out t3)
  clear B_2
  obtain ⟨gw2, hgw2⟩ : ∃ p, w2.heap.size = p := ⟨_, rfl⟩
  rw [hgw2] at t1
  have A_0 := hidT (t1)
  clear t1 t3 hVw2
  obtain ⟨x0, x1⟩ := cells2 A_0.out
  have hp := rtspend_any hi b b Vw2 (by omega) (by omega)
  rw [show Rate.spend b b = 0 from by unfold Rate.spend; rw [if_pos (Rate.yes_iff.2 ⟨by omega, by omega⟩)]; omega, show Rate.yes b b = true from Rate.yes_iff.2 ⟨by omega, by omega⟩] at hp
  rw [← HVw2.out] at x0 x1
  go_wp2_with fail
  rw [HVw2.out]
  clear hgw2
  with_reducible refine hp.mono ?_
  rintro e w3 ⟨rfl, hw3⟩
  have B_4 := hidT (bthen B_3.out hw3)
  have A_1 := hidT (keepH A_0.out hw3)
  clear B_3 A_0
  clear hw3 hp x0 x1
  clear A_1
  have HGW := hidT (show w.heap.size ≤ w3.heap.size from B_4.out.size)
  have t1 := alloc_at w3 (.cells #[.int .i64 lo, .int .i64 0] 23) _ rfl
  have t3 := nkeep w3 (.cells #[.int .i64 lo, .int .i64 0] 23)
  obtain ⟨Vw3, hVw3⟩ : ∃ W, w3.alloc (.cells #[.int .i64 lo, .int .i64 0] 23) = W := ⟨_, rfl⟩
  rw [hVw3] at t1 t3
  have HVw3 := hidT hVw3
  have B_5 := hidT (bthen B_4.out t3)
  clear B_4
  obtain ⟨gw3, hgw3⟩ : ∃ p, w3.heap.size = p := ⟨_, rfl⟩
  rw [hgw3] at t1
  have X_0 := hidT (t1)
  clear t1 t3 hVw3
  rw [hgw3] at HGW
  go_wp2_with fail
  rw [HVw3.out]
  clear hgw3 ea pa es ps ec pc al ah ab
  have HX0 := hidT (X_0.out)
  have HB0 := hidT (B_5.out)
  go_loopw [14] (fun i wr => ∃ (j : Nat) (N L : Int), i = .int .i64 j ∧ j ≤ 121 ∧ Hid (Rate.Grow false lo hi b j N L) ∧ Hid (wr.heap[gw3]? = some (.cells #[.int .i64 N, .int .i64 L] 23 (0, 0))) ∧ Hid (Below w.heap.size w wr)) (fun i _ => 121 - (intOf i).toNat)
  case atStart => exact ⟨1, lo, 0, rfl, by omega, hidT (Rate.Grow.start_none hi0 hi1 lo0 lo1 b0), HX0.out, HB0.out⟩
  case round =>
    obtain ⟨j, N, L, rfl, hj, HI, X_0, B_0⟩ := hrel
    clear HX0 HB0
    obtain ⟨g1, g2, g3, g4, g5, g6⟩ := HI.out
    by_cases hj2 : j ≤ 120
    ·
      have u1 : decide ((j : Int) ≤ 120) = true := by simp; omega
      have s0 : wrap64 (N + 1) = N + 1 := IntWalk.wrap64_in _ (by omega)
      by_cases h : hi < N + 1
      ·
        have hr : Rate.right N L lo hi b = true := Rate.right_iff.2 ⟨⟨lo0, hi0, by omega, b0, by omega⟩, g1, g2, g3, g4⟩
        have eN : Rate.more N lo hi 0 = hi := by rw [Rate.more_none N lo hi (show ¬ (0 : Int) < 0 by omega), if_pos h]
        have hp := rttick_any N L lo hi b 0 wr hr
        rw [eN] at hp
        have HI2 := hidT (Rate.Grow.next_none HI.out (by omega) hi0 hi1 lo0 lo1 b1)
        rw [eN] at HI2
        obtain ⟨l1, l2⟩ := Rate.left_in (l := L) (m := hi) (burst := b) g3 g4 (by omega)
        obtain ⟨M, eM⟩ : ∃ q, Rate.left L hi b = q := ⟨_, rfl⟩
        rw [eM] at hp HI2 l1 l2
        have d0 : decide (b < M) = false := by simp; omega
        have d1 : decide (M < L) = false := by simp; omega
        have q0 : decide (hi < N + 1) = true := by simp; omega
        have q1 : decide (hi < lo) = false := by simp; omega
        clear eN eM l1 l2 hr HI
        obtain ⟨x0, x1⟩ := cells2 X_0.out
        go_wp2_with fail
        with_reducible refine hp.mono ?_
        rintro e w5 ⟨rfl, hw5⟩
        have X_1 := hidT (keepH X_0.out hw5)
        have B_1 := hidT (bthen B_0.out hw5)
        clear X_0 B_0
        clear hw5 hp x0 x1
        have t1 := alloc_at w5 (.cells #[.int .i64 hi, .int .i64 M] 23) _ rfl
        have t3 := nkeep w5 (.cells #[.int .i64 hi, .int .i64 M] 23)
        obtain ⟨Vw5, hVw5⟩ : ∃ W, w5.alloc (.cells #[.int .i64 hi, .int .i64 M] 23) = W := ⟨_, rfl⟩
        rw [hVw5] at t1 t3
        have HVw5 := hidT hVw5
        have X_2 := hidT (keepH X_1.out t3)
        have B_2 := hidT (bthen B_1.out t3)
        clear X_1 B_1
        obtain ⟨gw5, hgw5⟩ : ∃ p, w5.heap.size = p := ⟨_, rfl⟩
        rw [hgw5] at t1
        have Y_0 := hidT (t1)
        clear t1 t3 hVw5
        obtain ⟨x0, x1⟩ := cells2 X_2.out
        obtain ⟨y0, y1⟩ := cells2 Y_0.out
        have HB1 := hidT (B_2.out)
        have f0 := no_frozen X_2.out 0
        have f1 := no_frozen X_2.out 1
        have z := X_2.out
        rw [← HVw5.out] at x0 x1 y0 y1 z
        clear hgw5 f0 f1
        go_wp2_with (
          refine wpList_stI rfl 23 _ _ rfl gw3 #[.int .i64 hi, .int .i64 M] rfl rfl _ _ z rtsize rfl (all2 rfl rfl) ?_
          intro w7 hg7 hbut hbel)
        rw [HVw5.out] at hbel
        exact ⟨⟨j + 1, hi, M, by go_num, by omega, by simpa using HI2, hidT hg7, hidT (hbel _ _ HB1.out HGW.out)⟩, by first | (simp [intOf]; done) | (simp [intOf]; omega)⟩
      ·
        have hr : Rate.right N L lo hi b = true := Rate.right_iff.2 ⟨⟨lo0, hi0, by omega, b0, by omega⟩, g1, g2, g3, g4⟩
        have eN : Rate.more N lo hi 0 = N + 1 := by rw [Rate.more_none N lo hi (show ¬ (0 : Int) < 0 by omega), if_neg h]
        have hp := rttick_any N L lo hi b 0 wr hr
        rw [eN] at hp
        have HI2 := hidT (Rate.Grow.next_none HI.out (by omega) hi0 hi1 lo0 lo1 b1)
        rw [eN] at HI2
        obtain ⟨l1, l2⟩ := Rate.left_in (l := L) (m := N + 1) (burst := b) g3 g4 (by omega)
        obtain ⟨M, eM⟩ : ∃ q, Rate.left L (N + 1) b = q := ⟨_, rfl⟩
        rw [eM] at hp HI2 l1 l2
        have d0 : decide (b < M) = false := by simp; omega
        have d1 : decide (M < L) = false := by simp; omega
        have q0 : decide (hi < N + 1) = false := by simp; omega
        have q1 : decide (N + 1 < lo) = false := by simp; omega
        clear eN eM l1 l2 hr HI
        obtain ⟨x0, x1⟩ := cells2 X_0.out
        go_wp2_with fail
        with_reducible refine hp.mono ?_
        rintro e w5 ⟨rfl, hw5⟩
        have X_1 := hidT (keepH X_0.out hw5)
        have B_1 := hidT (bthen B_0.out hw5)
        clear X_0 B_0
        clear hw5 hp x0 x1
        have t1 := alloc_at w5 (.cells #[.int .i64 (N + 1), .int .i64 M] 23) _ rfl
        have t3 := nkeep w5 (.cells #[.int .i64 (N + 1), .int .i64 M] 23)
        obtain ⟨Vw5, hVw5⟩ : ∃ W, w5.alloc (.cells #[.int .i64 (N + 1), .int .i64 M] 23) = W := ⟨_, rfl⟩
        rw [hVw5] at t1 t3
        have HVw5 := hidT hVw5
        have X_2 := hidT (keepH X_1.out t3)
        have B_2 := hidT (bthen B_1.out t3)
        clear X_1 B_1
        obtain ⟨gw5, hgw5⟩ : ∃ p, w5.heap.size = p := ⟨_, rfl⟩
        rw [hgw5] at t1
        have Y_0 := hidT (t1)
        clear t1 t3 hVw5
        obtain ⟨x0, x1⟩ := cells2 X_2.out
        obtain ⟨y0, y1⟩ := cells2 Y_0.out
        have HB1 := hidT (B_2.out)
        have f0 := no_frozen X_2.out 0
        have f1 := no_frozen X_2.out 1
        have z := X_2.out
        rw [← HVw5.out] at x0 x1 y0 y1 z
        clear hgw5 f0 f1
        go_wp2_with (
          refine wpList_stI rfl 23 _ _ rfl gw3 #[.int .i64 (N + 1), .int .i64 M] rfl rfl _ _ z rtsize rfl (all2 rfl rfl) ?_
          intro w7 hg7 hbut hbel)
        rw [HVw5.out] at hbel
        exact ⟨⟨j + 1, N + 1, M, by go_num, by omega, by simpa using HI2, hidT hg7, hidT (hbel _ _ HB1.out HGW.out)⟩, by first | (simp [intOf]; done) | (simp [intOf]; omega)⟩
    ·
      have u1 : decide ((j : Int) ≤ 120) = false := by simp; omega
      have hL : L = b := by omega
      have hN : N = hi := Rate.Grow.end_none HI.out (by omega) hi1 lo0
      subst hL
      rw [hN] at X_0
      obtain ⟨x0, x1⟩ := cells2 X_0.out
      clear HI g1 g2 g3 g4 g5 g6
      go_wp2
      go_ret
      exact ⟨rfl, B_0.out⟩
theorem rgrows_any (a s c : Int) (g : Bool) (w : World) (ha : 0 ≤ a ∧ a < 256) (hs : 0 ≤ s ∧ s < 256) (hc : 0 ≤ c ∧ c < 256) : Calls Try.prog 6 #[.agg #[.int .u8 a, .int .u8 s, .int .u8 c, .bool g]] w (Yes w) := by
  cases g with
  | true => exact rgrows_gap a s c w ha hs hc
  | false => exact rgrows_none a s c w ha hs hc
end Go.Proofs.Ytpobaecfmdpphaa
