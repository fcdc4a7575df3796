/- The law RateBounds, walked. -/
import Derived.Test.YtpobaecfmdpphaaRateShown
import Derived.Test.YtpobaecfmdpphaaSlices
import Derived.Deep.RegionHeldLaw
set_option maxRecDepth 100000
namespace Go.Proofs.Ytpobaecfmdpphaa
open Go.RowKit
set_option linter.unusedVariables false

namespace Rate
/-- Where the loop stands at its number j: its bucket is n, l, and s are spent. -/
def Held (lo hi b j n l s : Int) : Prop := Rate.right n l lo hi b = true ∧ 0 ≤ s ∧ s + l ≤ b + j * hi
theorem Held.start {lo hi b : Int} (h1 : 1 ≤ lo) (h2 : lo ≤ hi) (h3 : hi ≤ 1048576) (h4 : 1 ≤ b) (h5 : b ≤ 1048576) : Held lo hi b ((0 : Nat) : Int) hi b 0 :=
  ⟨Rate.right_start (Rate.may_iff.2 ⟨h1, h2, h3, h4, h5⟩), Int.le_refl _, by simp⟩
theorem Held.next {lo hi b j n l2 : Int} (m s2 : Int) (h : Rate.right n l2 lo hi b = true) (h0 : 0 ≤ s2) (hs : s2 + l2 ≤ b + j * hi) : Held lo hi b (j + 1) (Rate.more n lo hi m) (Rate.left l2 (Rate.more n lo hi m) b) s2 := by
  refine ⟨Rate.right_tick m h, h0, ?_⟩
  obtain ⟨⟨h1, h2, h3, h4, h5⟩, h6, h7, h8, h9⟩ := Rate.right_iff.1 h
  have a := (Rate.more_in (naks := m) h1 h6 h7).2
  rw [Int.add_mul, Int.one_mul]
  generalize j * hi = K at *
  generalize Rate.more n lo hi m = x at *
  unfold Rate.left
  split <;> omega
theorem spend_in {l k : Int} (h : 0 ≤ l) : (0 ≤ Rate.spend l k ∧ Rate.spend l k ≤ l) ∧ (Rate.yes l k = true → Rate.spend l k = l - k) ∧ (Rate.yes l k = false → Rate.spend l k = l) := by
  unfold Rate.spend
  cases e : Rate.yes l k with
  | true =>
    obtain ⟨h1, h2⟩ := Rate.yes_iff.1 e
    rw [if_pos rfl]
    exact ⟨⟨by omega, by omega⟩, fun _ => rfl, fun g => absurd g (by simp)⟩
  | false =>
    rw [if_neg (by simp)]
    exact ⟨⟨h, Int.le_refl _⟩, fun g => absurd g (by simp), fun _ => rfl⟩
theorem prod_in {j hi : Int} (h0 : 0 ≤ j) (h1 : j ≤ 100) (h2 : 0 ≤ hi) (h3 : hi ≤ 70) : 0 ≤ j * hi ∧ j * hi ≤ 7000 := by
  refine ⟨Int.mul_nonneg h0 h2, ?_⟩
  have := Int.mul_le_mul h1 h3 h2 (by omega)
  omega
theorem left_or {l m b lo : Int} (h : lo ≤ m) : Rate.left l m b = b ∨ l + lo ≤ Rate.left l m b := by
  unfold Rate.left
  split
  · exact .inl rfl
  · exact .inr (by omega)
end Rate
theorem cells3 {w : World} {g : Nat} {a0 a1 a2 : Value} {t : TypeId} (h : w.heap[g]? = some (.cells #[a0, a1, a2] t (0, 0))) : w.cell? ⟨g, 0, none⟩ = some a0 ∧ w.cell? ⟨g, 1, none⟩ = some a1 ∧ w.cell? ⟨g, 2, none⟩ = some a2 :=
  ⟨cell_at h 0 rfl, cell_at h 1 rfl, cell_at h 2 rfl⟩
theorem byte_at {w : World} {A : Option Addr} {n c i : Nat} {l : List UInt8} (h : Rd w A n c l) (hi : i < n) : ∃ b o x, A = some ⟨b, o, none⟩ ∧ ∀ w', Below w.heap.size w w' → w'.cell? ⟨b, o + i, none⟩ = some (.int .u8 ((x : UInt8).toNat : Int)) := by
  obtain ⟨b, o, hA, _⟩ := h.2.2.2.2 (by omega)
  have hl : i < l.length := by have := h.1; omega
  refine ⟨b, o, l[i], hA, fun w' hb => ?_⟩
  obtain ⟨b', o', hA', hc⟩ := (h.below hb).2.2.2.2 (by omega)
  rw [hA] at hA'
  injection hA' with hA'
  injection hA' with h1 h2
  subst h1 h2
  exact hc i _ (by simp [hl])
theorem bool_at {w : World} {A : Option Addr} {n c i : Nat} {l : List Bool} (h : RdV w A n c (bos l)) (hi : i < n) : ∃ b o x, A = some ⟨b, o, none⟩ ∧ ∀ w', Below w.heap.size w w' → w'.cell? ⟨b, o + i, none⟩ = some (.bool x) := by
  obtain ⟨b, o, hA, _⟩ := h.2.2.2.2 (by omega)
  have hl : i < l.length := by have := h.1; rw [bos_length] at this; omega
  refine ⟨b, o, l[i], hA, fun w' hb => ?_⟩
  obtain ⟨b', o', hA', hc⟩ := (RdV.below h hb).2.2.2.2 (by omega)
  rw [hA] at hA'
  injection hA' with hA'
  injection hA' with h1 h2
  subst h1 h2
  exact hc i _ (by simp [bos, hl])
set_option maxRecDepth 100000 in
set_option maxHeartbeats 16000000 in
theorem rbounds_any (a s c : Int) (A B : Option Addr) (n d m e : Nat) (fs : List UInt8) (bl : List Bool) (w : World) (ha : 0 ≤ a ∧ a < 256) (hs : 0 ≤ s ∧ s < 256) (hc : 0 ≤ c ∧ c < 256) (hA : Rd w A n d fs) (hN : RdV w B m e (bos bl)) :
    Calls Try.prog 5 #[.agg #[.int .u8 a, .int .u8 s, .int .u8 c], .slice A n d, .slice B m e] w (Yes w) := by
  have hn := hA.le
  have HA := hidT hA
  have HN := hidT hN
  have hm := hN.1
  rw [bos_length] at hm
  clear hA hN
  have ea : Int.tmod a 20 = a % 20 := Int.tmod_eq_emod_of_nonneg ha.1
  have pa : wrap64 a = a := IntWalk.wrap64_in _ (by omega)
  obtain ⟨Fa, hFa⟩ : ∃ N, a % 20 = N := ⟨_, rfl⟩
  have a0 : 0 ≤ Fa := by omega
  have a1 : Fa < 20 := by omega
  rw [hFa] at ea
  clear hFa
  have es : Int.tmod s 50 = s % 50 := Int.tmod_eq_emod_of_nonneg hs.1
  have ps : wrap64 s = s := IntWalk.wrap64_in _ (by omega)
  obtain ⟨Fs, hFs⟩ : ∃ N, s % 50 = N := ⟨_, rfl⟩
  have s0 : 0 ≤ Fs := by omega
  have s1 : Fs < 50 := by omega
  rw [hFs] at es
  clear hFs
  have ec : Int.tmod c 100 = c % 100 := Int.tmod_eq_emod_of_nonneg hc.1
  have pc : wrap64 c = c := IntWalk.wrap64_in _ (by omega)
  obtain ⟨Fc, hFc⟩ : ∃ N, c % 100 = N := ⟨_, rfl⟩
  have c0 : 0 ≤ Fc := by omega
  have c1 : Fc < 100 := by omega
  rw [hFc] at ec
  clear hFc
  obtain ⟨lo, al⟩ : ∃ q, 1 + Fa = q := ⟨_, rfl⟩
  have lo0 : 1 ≤ lo := by omega
  have lo1 : lo ≤ 20 := by omega
  obtain ⟨hi, ah⟩ : ∃ q, lo + Fs = q := ⟨_, rfl⟩
  have hi0 : lo ≤ hi := by omega
  have hi1 : hi ≤ 70 := by omega
  obtain ⟨b, ab⟩ : ∃ q, 1 + Fc = q := ⟨_, rfl⟩
  have b0 : 1 ≤ b := by omega
  have b1 : b ≤ 100 := by omega
  clear a0 a1 s0 s1 c0 c1
  have t1 := alloc_at w (.cells #[.int .u8 a, .int .u8 s, .int .u8 c] 36) _ rfl
  have t3 := nkeep w (.cells #[.int .u8 a, .int .u8 s, .int .u8 c] 36)
  obtain ⟨W, hW⟩ : ∃ W, w.alloc (.cells #[.int .u8 a, .int .u8 s, .int .u8 c] 36) = W := ⟨_, rfl⟩
  rw [hW] at t1 t3
  have HW := hidT hW
  clear hW
  have B_0 := hidT (t3)
  have V_0 := hidT (t1)
  clear t1 t3
  go_enter Try.func5, Try.ntmps5
  go_wp2_with fail
  rw [HW.out]
  have hp := rtshown_any W
  with_reducible refine hp.mono ?_
  rintro e w1 ⟨rfl, hw1⟩
  have B_1 := hidT (bthen B_0.out hw1)
  have V_1 := hidT (keepH V_0.out hw1)
  clear B_0 V_0
  clear hw1 hp
  obtain ⟨i0, i1, i2⟩ := cells3 V_1.out
  clear V_1
  by_cases h100 : n ≤ 100
  ·
    have t1 : decide (100 < n) = false := by simp; omega
    have t2 : decide ((100 : Int) < (n : Int)) = false := by simp; omega
    by_cases hmn : m = n
    ·
      subst hmn
      have hp := rtstart_any hi b w1
      go_wp2_with fail
      with_reducible refine hp.mono ?_
      rintro e w2 ⟨rfl, hw2⟩
      have B_2 := hidT (bthen B_1.out hw2)
      clear B_1
      clear hw2 hp
      have HGW := hidT (show w.heap.size ≤ w2.heap.size from B_2.out.size)
      have t1 := alloc_at w2 (.cells #[.int .i64 hi, .int .i64 b] 23) _ rfl
      have t3 := nkeep w2 (.cells #[.int .i64 hi, .int .i64 b] 23)
      obtain ⟨Vw2, hVw2⟩ : ∃ W, w2.alloc (.cells #[.int .i64 hi, .int .i64 b] 23) = W := ⟨_, rfl⟩
      rw [hVw2] at t1 t3
      have HVw2 := hidT hVw2
      have B_3 := hidT (bthen B_2.out t3)
      clear B_2
      obtain ⟨gw2, hgw2⟩ : ∃ p, w2.heap.size = p := ⟨_, rfl⟩
      rw [hgw2] at t1
      have X_0 := hidT (t1)
      clear t1 t3 hVw2
      rw [hgw2] at HGW
      go_wp2_with fail
      rw [HVw2.out]
      clear hgw2 ea pa es ps ec pc al ah ab i0 i1 i2 t1 t2
      have HX0 := hidT (X_0.out)
      have HB0 := hidT (B_3.out)
      go_loopw [12, 13] (fun v i wr => ∃ (j : Nat) (N L S : Int), i = .int .i64 j ∧ v = .int .i64 S ∧ j ≤ m ∧ Hid (Rate.Held lo hi b j N L S) ∧ Hid (wr.heap[gw2]? = some (.cells #[.int .i64 N, .int .i64 L] 23 (0, 0))) ∧ Hid (Below w.heap.size w wr)) (fun _ i _ => m - (intOf i).toNat)
      case atStart => exact ⟨0, hi, b, 0, rfl, rfl, Nat.zero_le _, hidT (Rate.Held.start lo0 hi0 (by omega) b0 (by omega)), HX0.out, HB0.out⟩
      case round =>
        obtain ⟨j, N, L, S, rfl, rfl, hj, HI, X_0, B_0⟩ := hrel
        clear HX0 HB0
        by_cases hjm : j < m
        ·
          obtain ⟨b1, o1, fb, rfl, hcell⟩ := byte_at HA.out hjm
          obtain ⟨b2, o2, x, rfl, hzell⟩ := bool_at HN.out hjm
          obtain ⟨hr, hS0, hS1⟩ := id HI.out
          obtain ⟨_, hg1, hg2, hg3, hg4⟩ := Rate.right_iff.1 hr
          have x1 : (0 : Int) ≤ (j : Int) := by omega
          have x2 : (j : Int) < (m : Int) := by omega
          have f0 : (0 : Int) ≤ (fb.toNat : Int) := by omega
          have f1 : (fb.toNat : Int) < 256 := by have := fb.toNat_lt; omega
          obtain ⟨k, hF⟩ : ∃ F, (fb.toNat : Int) % 30 = F := ⟨_, rfl⟩
          have k0 : 0 ≤ k := by rw [← hF]; exact Int.emod_nonneg _ (by decide)
          have k1 : k < 30 := by rw [← hF]; exact Int.emod_lt_of_pos _ (by decide)
          obtain ⟨K, eK⟩ : ∃ K, (j : Int) * hi = K := ⟨_, rfl⟩
          obtain ⟨K0, K1⟩ : 0 ≤ K ∧ K ≤ 7000 := by rw [← eK]; exact Rate.prod_in (by omega) (by omega) (by omega) hi1
          rw [eK] at hS1
          obtain ⟨L2, eL2⟩ : ∃ q, Rate.spend L k = q := ⟨_, rfl⟩
          obtain ⟨Y, eY⟩ : ∃ q, Rate.yes L k = q := ⟨_, rfl⟩
          have hsp := Rate.spend_in (l := L) (k := k) hg3
          rw [eL2, eY] at hsp
          obtain ⟨hs1, hs2, hs3⟩ := hsp
          have HSP : Hid (∀ w, Calls Try.prog 10 #[.agg #[.int .i64 N, .int .i64 L], .int .i64 k] w (SpentIs w N L2 Y)) := hidT fun w => by
            have h := rtspend_any N L k w (by omega) (by omega)
            rw [eL2, eY] at h
            exact h
          have hr2 := Rate.right_spend k hr
          rw [eL2] at hr2
          have kx0 := fun w' (hb : Below wr.heap.size wr w') => (cells2 (keepH X_0.out hb)).1
          have kx1 := fun w' (hb : Below wr.heap.size wr w') => (cells2 (keepH X_0.out hb)).2
          have kr := fun w' (hb : Below wr.heap.size wr w') => hcell w' (bthen B_0.out hb)
          have KZ : Hid (∀ w', Below wr.heap.size wr w' → w'.cell? ⟨b2, o2 + j, none⟩ = some (.bool x)) := hidT fun w' hb => hzell w' (bthen B_0.out hb)
          have KR : Hid (∀ w', Below wr.heap.size wr w' → w'.cell? ⟨b1, o1 + j, none⟩ = some (.int .u8 (fb.toNat : Int))) := hidT kr
          have D1 : Below wr.heap.size wr (wr.alloc (.cells #[.int .i64 0, .int .i64 0] 23)) := nkeep wr _
          have HR2 := hidT hr2
          have HS := hidT (show 0 ≤ S ∧ S + L ≤ b + K ∧ 0 ≤ L2 ∧ L2 ≤ L ∧ (Y = true → L2 = L - k) ∧ (Y = false → L2 = L) ∧ 0 ≤ K ∧ K ≤ 7000 ∧ 0 ≤ k ∧ k < 30 ∧ L ≤ b from ⟨hS0, hS1, by omega, by omega, hs2, hs3, K0, K1, k0, k1, hg4⟩)
          have HEK := hidT eK
          have e3 : Int.tmod (fb.toNat : Int) 30 = k := by rw [← hF]; exact Int.tmod_eq_emod_of_nonneg f0
          have HE5 : Hid (wrap64 k = k) := hidT (IntWalk.wrap64_in _ (by omega))
          have HE6 : Hid (IntKind.i64.wrap k = k) := hidT (IntWalk.i64_in _ (by omega))
          have HE4 : Hid (wrap64 (fb.toNat : Int) = (fb.toNat : Int)) := hidT (IntWalk.wrap64_in _ (by omega))
          have HE7 : Hid (IntKind.i64.wrap (fb.toNat : Int) = (fb.toNat : Int)) := hidT (IntWalk.i64_in _ (by omega))
          have e4 := HE4.out
          have e5 := HE5.out
          have e6 := HE6.out
          have e7 := HE7.out
          clear hr hr2 hS0 hS1 hg1 hg2 hg3 hg4 hs1 hs2 hs3 eL2 eY hF eK K0 K1 hcell hzell k0 k1
          go_wp2_with fail
          go_region_held_law (fun w' => Below wr.heap.size wr w')
            (first | exact (Below.refl _ _).drew | exact hbF | exact hb4 | exact D1.drew | exact D1 | exact bthen hb4 (nkeep _ _))
            (first
              | (go_at_call 10; ((with_reducible refine (HSP.out _).mono ?_); rintro e4 w4 ⟨rfl, hb4'⟩; have hb4 : Below wr.heap.size wr w4 := undrew hb4'))
              | (go_at_call 10; ((with_reducible refine (HSP.out _).mono ?_); rintro e4 w4 ⟨rfl, hb4'⟩; have hb4 : Below wr.heap.size wr w4 := bthen D1 (undrew hb4'); have y4 := keepH (alloc_at wr (.cells #[.int .i64 0, .int .i64 0] 23) _ rfl) (undrew hb4'); obtain ⟨i0, i1⟩ := cells2 y4; have f0 := no_frozen y4 0; have f1 := no_frozen y4 1; have hbF : Below wr.heap.size wr ((w4.setCell ⟨wr.heap.size, 0, none⟩ (.int .i64 N)).setCell ⟨wr.heap.size, 1, none⟩ (.int .i64 L2)) := (hb4.setCell (p := ⟨wr.heap.size, 0, none⟩) (Nat.le_refl _) _).setCell (p := ⟨wr.heap.size, 1, none⟩) (Nat.le_refl _) _))
              | fail)
          ·
            have y5 := alloc_at w4 (.cells #[.int .i64 N, .int .i64 L2] 23) _ rfl
            have hb5 := bthen hb4 (nkeep w4 (.cells #[.int .i64 N, .int .i64 L2] 23))
            clear hb4 hb4' kr kx0 kx1 D1
            generalize w4.alloc (.cells #[.int .i64 N, .int .i64 L2] 23) = W5 at y5 hb5 ⊢
            generalize w4.heap.size = gx at y5 ⊢
            have cb := KR.out W5 hb5
            have cz := KZ.out W5 hb5
            have X_1 := hidT (keepH X_0.out hb5)
            have B_1 := hidT (bthen B_0.out hb5)
            have Y_1 := hidT y5
            clear X_0 B_0 y5 hb5
            obtain ⟨s0, s1, s2, s3, s4, s5, s6, s7, s8, s9, s10⟩ := id HS.out
            have eK := HEK.out
            clear e4 e5 e6 e7
            have HW0 : Hid (wrap64 K = K) := hidT (IntWalk.wrap64_in _ (by omega))
            have HW1 : Hid (wrap64 (b + K) = b + K) := hidT (IntWalk.wrap64_in _ (by omega))
            have HW2 : Hid (wrap64 (S + k) = S + k) := hidT (IntWalk.wrap64_in _ (by omega))
            cases Y with
            | true =>
              have hL := s4 rfl
              have dS : decide (b + K < S + k) = false := by simp; omega
              cases x with
              | true =>
                have hp := rttick_any N L2 lo hi b 2 W5 HR2.out
                have HI2 := hidT (Rate.Held.next 2 (S + k) HR2.out (show 0 ≤ S + k by omega) (show S + k + L2 ≤ b + (j : Int) * hi by rw [HEK.out]; omega))
                have hll := Rate.left_or (l := L2) (b := b) (Rate.more_in (naks := 2) lo0 (Rate.right_iff.1 HR2.out).2.1 (Rate.right_iff.1 HR2.out).2.2.1).1
                obtain ⟨N3, eN⟩ : ∃ q, Rate.more N lo hi 2 = q := ⟨_, rfl⟩
                rw [eN] at hp HI2 hll
                obtain ⟨M, eM⟩ : ∃ q, Rate.left L2 N3 b = q := ⟨_, rfl⟩
                rw [eM] at hp HI2 hll
                have HLL := hidT hll
                have HSS := hidT (show 0 ≤ L2 ∧ L2 ≤ 100 from ⟨by omega, by omega⟩)
                clear hll s0 s1 s2 s3 s4 s5 s6 s7 s8 s9 s10 hL eN eM HS
                have e4 := HE4.out
                have e5 := HE5.out
                have e6 := HE6.out
                have e7 := HE7.out
                have wk0 := HW0.out
                have wk1 := HW1.out
                have wk2 := HW2.out
                obtain ⟨y0, y1⟩ := cells2 Y_1.out
                go_wp2_with fail
                with_reducible refine hp.mono ?_
                rintro e w6 ⟨rfl, hw6⟩
                have X_2 := hidT (keepH X_1.out hw6)
                have B_2 := hidT (bthen B_1.out hw6)
                have Y_2 := hidT (keepH Y_1.out hw6)
                clear X_1 B_1 Y_1
                clear hw6 hp y0 y1 cb cz e4 e5 e6 e7 wk0 wk1 wk2
                have t1 := alloc_at w6 (.cells #[.int .i64 N3, .int .i64 M] 23) _ rfl
                have t3 := nkeep w6 (.cells #[.int .i64 N3, .int .i64 M] 23)
                obtain ⟨Vw6, hVw6⟩ : ∃ W, w6.alloc (.cells #[.int .i64 N3, .int .i64 M] 23) = W := ⟨_, rfl⟩
                rw [hVw6] at t1 t3
                have HVw6 := hidT hVw6
                have X_3 := hidT (keepH X_2.out t3)
                have B_3 := hidT (bthen B_2.out t3)
                have Y_3 := hidT (keepH Y_2.out t3)
                clear X_2 B_2 Y_2
                obtain ⟨gw6, hgw6⟩ : ∃ p, w6.heap.size = p := ⟨_, rfl⟩
                rw [hgw6] at t1
                have Z_0 := hidT (t1)
                clear t1 t3 hVw6
                obtain ⟨l0, l1⟩ := HSS.out
                have HV0 : Hid (wrap64 (L2 + lo) = L2 + lo) := hidT (IntWalk.wrap64_in _ (by omega))
                by_cases z : M < L2 + lo
                ·
                  have zM : M = b := by rcases HLL.out with h | h <;> omega
                  have z1 : decide (M < L2 + lo) = true := by simpa using z
                  have z2 : decide (M = b) = true := by simpa using zM
                  have z3 : (M == b) = true := by simpa using zM
                  have z4 : (M != b) = false := by simpa using zM
                  clear zM
                  obtain ⟨x0, x1⟩ := cells2 X_3.out
                  obtain ⟨y0, y1⟩ := cells2 Y_3.out
                  obtain ⟨u0, u1⟩ := cells2 Z_0.out
                  have v0 := HV0.out
                  have HB7 := hidT (B_3.out)
                  have z7 := X_3.out
                  rw [← HVw6.out] at x0 x1 y0 y1 u0 u1 z7
                  clear hgw6 l0 l1 z
                  go_wp2_with (
                    refine wpList_stI rfl 23 _ _ rfl gw2 #[.int .i64 N3, .int .i64 M] rfl rfl _ _ z7 rtsize rfl (all2 rfl rfl) ?_
                    intro w7 hg7 hbut hbel)
                  rw [HVw6.out] at hbel
                  exact ⟨⟨j + 1, N3, M, S + k, by go_num, by first | rfl | rw [HW2.out], by omega, by simpa using HI2, hidT hg7, hidT (hbel _ _ HB7.out HGW.out)⟩, by first | (simp [intOf]; done) | (simp [intOf]; omega)⟩
                ·
                  have z1 : decide (M < L2 + lo) = false := by simpa using z
                  obtain ⟨x0, x1⟩ := cells2 X_3.out
                  obtain ⟨y0, y1⟩ := cells2 Y_3.out
                  obtain ⟨u0, u1⟩ := cells2 Z_0.out
                  have v0 := HV0.out
                  have HB7 := hidT (B_3.out)
                  have z7 := X_3.out
                  rw [← HVw6.out] at x0 x1 y0 y1 u0 u1 z7
                  clear hgw6 l0 l1 z
                  go_wp2_with (
                    refine wpList_stI rfl 23 _ _ rfl gw2 #[.int .i64 N3, .int .i64 M] rfl rfl _ _ z7 rtsize rfl (all2 rfl rfl) ?_
                    intro w7 hg7 hbut hbel)
                  rw [HVw6.out] at hbel
                  exact ⟨⟨j + 1, N3, M, S + k, by go_num, by first | rfl | rw [HW2.out], by omega, by simpa using HI2, hidT hg7, hidT (hbel _ _ HB7.out HGW.out)⟩, by first | (simp [intOf]; done) | (simp [intOf]; omega)⟩
              | false =>
                have hp := rttick_any N L2 lo hi b 0 W5 HR2.out
                have HI2 := hidT (Rate.Held.next 0 (S + k) HR2.out (show 0 ≤ S + k by omega) (show S + k + L2 ≤ b + (j : Int) * hi by rw [HEK.out]; omega))
                have hll := Rate.left_or (l := L2) (b := b) (Rate.more_in (naks := 0) lo0 (Rate.right_iff.1 HR2.out).2.1 (Rate.right_iff.1 HR2.out).2.2.1).1
                obtain ⟨N3, eN⟩ : ∃ q, Rate.more N lo hi 0 = q := ⟨_, rfl⟩
                rw [eN] at hp HI2 hll
                obtain ⟨M, eM⟩ : ∃ q, Rate.left L2 N3 b = q := ⟨_, rfl⟩
                rw [eM] at hp HI2 hll
                have HLL := hidT hll
                have HSS := hidT (show 0 ≤ L2 ∧ L2 ≤ 100 from ⟨by omega, by omega⟩)
                clear hll s0 s1 s2 s3 s4 s5 s6 s7 s8 s9 s10 hL eN eM HS
                have e4 := HE4.out
                have e5 := HE5.out
                have e6 := HE6.out
                have e7 := HE7.out
                have wk0 := HW0.out
                have wk1 := HW1.out
                have wk2 := HW2.out
                obtain ⟨y0, y1⟩ := cells2 Y_1.out
                go_wp2_with fail
                with_reducible refine hp.mono ?_
                rintro e w6 ⟨rfl, hw6⟩
                have X_2 := hidT (keepH X_1.out hw6)
                have B_2 := hidT (bthen B_1.out hw6)
                have Y_2 := hidT (keepH Y_1.out hw6)
                clear X_1 B_1 Y_1
                clear hw6 hp y0 y1 cb cz e4 e5 e6 e7 wk0 wk1 wk2
                have t1 := alloc_at w6 (.cells #[.int .i64 N3, .int .i64 M] 23) _ rfl
                have t3 := nkeep w6 (.cells #[.int .i64 N3, .int .i64 M] 23)
                obtain ⟨Vw6, hVw6⟩ : ∃ W, w6.alloc (.cells #[.int .i64 N3, .int .i64 M] 23) = W := ⟨_, rfl⟩
                rw [hVw6] at t1 t3
                have HVw6 := hidT hVw6
                have X_3 := hidT (keepH X_2.out t3)
                have B_3 := hidT (bthen B_2.out t3)
                have Y_3 := hidT (keepH Y_2.out t3)
                clear X_2 B_2 Y_2
                obtain ⟨gw6, hgw6⟩ : ∃ p, w6.heap.size = p := ⟨_, rfl⟩
                rw [hgw6] at t1
                have Z_0 := hidT (t1)
                clear t1 t3 hVw6
                obtain ⟨l0, l1⟩ := HSS.out
                have HV0 : Hid (wrap64 (L2 + lo) = L2 + lo) := hidT (IntWalk.wrap64_in _ (by omega))
                by_cases z : M < L2 + lo
                ·
                  have zM : M = b := by rcases HLL.out with h | h <;> omega
                  have z1 : decide (M < L2 + lo) = true := by simpa using z
                  have z2 : decide (M = b) = true := by simpa using zM
                  have z3 : (M == b) = true := by simpa using zM
                  have z4 : (M != b) = false := by simpa using zM
                  clear zM
                  obtain ⟨x0, x1⟩ := cells2 X_3.out
                  obtain ⟨y0, y1⟩ := cells2 Y_3.out
                  obtain ⟨u0, u1⟩ := cells2 Z_0.out
                  have v0 := HV0.out
                  have HB7 := hidT (B_3.out)
                  have z7 := X_3.out
                  rw [← HVw6.out] at x0 x1 y0 y1 u0 u1 z7
                  clear hgw6 l0 l1 z
                  go_wp2_with (
                    refine wpList_stI rfl 23 _ _ rfl gw2 #[.int .i64 N3, .int .i64 M] rfl rfl _ _ z7 rtsize rfl (all2 rfl rfl) ?_
                    intro w7 hg7 hbut hbel)
                  rw [HVw6.out] at hbel
                  exact ⟨⟨j + 1, N3, M, S + k, by go_num, by first | rfl | rw [HW2.out], by omega, by simpa using HI2, hidT hg7, hidT (hbel _ _ HB7.out HGW.out)⟩, by first | (simp [intOf]; done) | (simp [intOf]; omega)⟩
                ·
                  have z1 : decide (M < L2 + lo) = false := by simpa using z
                  obtain ⟨x0, x1⟩ := cells2 X_3.out
                  obtain ⟨y0, y1⟩ := cells2 Y_3.out
                  obtain ⟨u0, u1⟩ := cells2 Z_0.out
                  have v0 := HV0.out
                  have HB7 := hidT (B_3.out)
                  have z7 := X_3.out
                  rw [← HVw6.out] at x0 x1 y0 y1 u0 u1 z7
                  clear hgw6 l0 l1 z
                  go_wp2_with (
                    refine wpList_stI rfl 23 _ _ rfl gw2 #[.int .i64 N3, .int .i64 M] rfl rfl _ _ z7 rtsize rfl (all2 rfl rfl) ?_
                    intro w7 hg7 hbut hbel)
                  rw [HVw6.out] at hbel
                  exact ⟨⟨j + 1, N3, M, S + k, by go_num, by first | rfl | rw [HW2.out], by omega, by simpa using HI2, hidT hg7, hidT (hbel _ _ HB7.out HGW.out)⟩, by first | (simp [intOf]; done) | (simp [intOf]; omega)⟩
            | false =>
              have hL := s5 rfl
              have dS : decide (b + K < S) = false := by simp; omega
              cases x with
              | true =>
                have hp := rttick_any N L2 lo hi b 2 W5 HR2.out
                have HI2 := hidT (Rate.Held.next 2 (S) HR2.out (show 0 ≤ S by omega) (show S + L2 ≤ b + (j : Int) * hi by rw [HEK.out]; omega))
                have hll := Rate.left_or (l := L2) (b := b) (Rate.more_in (naks := 2) lo0 (Rate.right_iff.1 HR2.out).2.1 (Rate.right_iff.1 HR2.out).2.2.1).1
                obtain ⟨N3, eN⟩ : ∃ q, Rate.more N lo hi 2 = q := ⟨_, rfl⟩
                rw [eN] at hp HI2 hll
                obtain ⟨M, eM⟩ : ∃ q, Rate.left L2 N3 b = q := ⟨_, rfl⟩
                rw [eM] at hp HI2 hll
                have HLL := hidT hll
                have HSS := hidT (show 0 ≤ L2 ∧ L2 ≤ 100 from ⟨by omega, by omega⟩)
                clear hll s0 s1 s2 s3 s4 s5 s6 s7 s8 s9 s10 hL eN eM HS
                have e4 := HE4.out
                have e5 := HE5.out
                have e6 := HE6.out
                have e7 := HE7.out
                have wk0 := HW0.out
                have wk1 := HW1.out
                have wk2 := HW2.out
                obtain ⟨y0, y1⟩ := cells2 Y_1.out
                go_wp2_with fail
                with_reducible refine hp.mono ?_
                rintro e w6 ⟨rfl, hw6⟩
                have X_2 := hidT (keepH X_1.out hw6)
                have B_2 := hidT (bthen B_1.out hw6)
                have Y_2 := hidT (keepH Y_1.out hw6)
                clear X_1 B_1 Y_1
                clear hw6 hp y0 y1 cb cz e4 e5 e6 e7 wk0 wk1 wk2
                have t1 := alloc_at w6 (.cells #[.int .i64 N3, .int .i64 M] 23) _ rfl
                have t3 := nkeep w6 (.cells #[.int .i64 N3, .int .i64 M] 23)
                obtain ⟨Vw6, hVw6⟩ : ∃ W, w6.alloc (.cells #[.int .i64 N3, .int .i64 M] 23) = W := ⟨_, rfl⟩
                rw [hVw6] at t1 t3
                have HVw6 := hidT hVw6
                have X_3 := hidT (keepH X_2.out t3)
                have B_3 := hidT (bthen B_2.out t3)
                have Y_3 := hidT (keepH Y_2.out t3)
                clear X_2 B_2 Y_2
                obtain ⟨gw6, hgw6⟩ : ∃ p, w6.heap.size = p := ⟨_, rfl⟩
                rw [hgw6] at t1
                have Z_0 := hidT (t1)
                clear t1 t3 hVw6
                obtain ⟨l0, l1⟩ := HSS.out
                have HV0 : Hid (wrap64 (L2 + lo) = L2 + lo) := hidT (IntWalk.wrap64_in _ (by omega))
                by_cases z : M < L2 + lo
                ·
                  have zM : M = b := by rcases HLL.out with h | h <;> omega
                  have z1 : decide (M < L2 + lo) = true := by simpa using z
                  have z2 : decide (M = b) = true := by simpa using zM
                  have z3 : (M == b) = true := by simpa using zM
                  have z4 : (M != b) = false := by simpa using zM
                  clear zM
                  obtain ⟨x0, x1⟩ := cells2 X_3.out
                  obtain ⟨y0, y1⟩ := cells2 Y_3.out
                  obtain ⟨u0, u1⟩ := cells2 Z_0.out
                  have v0 := HV0.out
                  have HB7 := hidT (B_3.out)
                  have z7 := X_3.out
                  rw [← HVw6.out] at x0 x1 y0 y1 u0 u1 z7
                  clear hgw6 l0 l1 z
                  go_wp2_with (
                    refine wpList_stI rfl 23 _ _ rfl gw2 #[.int .i64 N3, .int .i64 M] rfl rfl _ _ z7 rtsize rfl (all2 rfl rfl) ?_
                    intro w7 hg7 hbut hbel)
                  rw [HVw6.out] at hbel
                  exact ⟨⟨j + 1, N3, M, S, by go_num, by first | rfl | rw [HW2.out], by omega, by simpa using HI2, hidT hg7, hidT (hbel _ _ HB7.out HGW.out)⟩, by first | (simp [intOf]; done) | (simp [intOf]; omega)⟩
                ·
                  have z1 : decide (M < L2 + lo) = false := by simpa using z
                  obtain ⟨x0, x1⟩ := cells2 X_3.out
                  obtain ⟨y0, y1⟩ := cells2 Y_3.out
                  obtain ⟨u0, u1⟩ := cells2 Z_0.out
                  have v0 := HV0.out
                  have HB7 := hidT (B_3.out)
                  have z7 := X_3.out
                  rw [← HVw6.out] at x0 x1 y0 y1 u0 u1 z7
                  clear hgw6 l0 l1 z
                  go_wp2_with (
                    refine wpList_stI rfl 23 _ _ rfl gw2 #[.int .i64 N3, .int .i64 M] rfl rfl _ _ z7 rtsize rfl (all2 rfl rfl) ?_
                    intro w7 hg7 hbut hbel)
                  rw [HVw6.out] at hbel
                  exact ⟨⟨j + 1, N3, M, S, by go_num, by first | rfl | rw [HW2.out], by omega, by simpa using HI2, hidT hg7, hidT (hbel _ _ HB7.out HGW.out)⟩, by first | (simp [intOf]; done) | (simp [intOf]; omega)⟩
              | false =>
                have hp := rttick_any N L2 lo hi b 0 W5 HR2.out
                have HI2 := hidT (Rate.Held.next 0 (S) HR2.out (show 0 ≤ S by omega) (show S + L2 ≤ b + (j : Int) * hi by rw [HEK.out]; omega))
                have hll := Rate.left_or (l := L2) (b := b) (Rate.more_in (naks := 0) lo0 (Rate.right_iff.1 HR2.out).2.1 (Rate.right_iff.1 HR2.out).2.2.1).1
                obtain ⟨N3, eN⟩ : ∃ q, Rate.more N lo hi 0 = q := ⟨_, rfl⟩
                rw [eN] at hp HI2 hll
                obtain ⟨M, eM⟩ : ∃ q, Rate.left L2 N3 b = q := ⟨_, rfl⟩
                rw [eM] at hp HI2 hll
                have HLL := hidT hll
                have HSS := hidT (show 0 ≤ L2 ∧ L2 ≤ 100 from ⟨by omega, by omega⟩)
                clear hll s0 s1 s2 s3 s4 s5 s6 s7 s8 s9 s10 hL eN eM HS
                have e4 := HE4.out
                have e5 := HE5.out
                have e6 := HE6.out
                have e7 := HE7.out
                have wk0 := HW0.out
                have wk1 := HW1.out
                have wk2 := HW2.out
                obtain ⟨y0, y1⟩ := cells2 Y_1.out
                go_wp2_with fail
                with_reducible refine hp.mono ?_
                rintro e w6 ⟨rfl, hw6⟩
                have X_2 := hidT (keepH X_1.out hw6)
                have B_2 := hidT (bthen B_1.out hw6)
                have Y_2 := hidT (keepH Y_1.out hw6)
                clear X_1 B_1 Y_1
                clear hw6 hp y0 y1 cb cz e4 e5 e6 e7 wk0 wk1 wk2
                have t1 := alloc_at w6 (.cells #[.int .i64 N3, .int .i64 M] 23) _ rfl
                have t3 := nkeep w6 (.cells #[.int .i64 N3, .int .i64 M] 23)
                obtain ⟨Vw6, hVw6⟩ : ∃ W, w6.alloc (.cells #[.int .i64 N3, .int .i64 M] 23) = W := ⟨_, rfl⟩
                rw [hVw6] at t1 t3
                have HVw6 := hidT hVw6
                have X_3 := hidT (keepH X_2.out t3)
                have B_3 := hidT (bthen B_2.out t3)
                have Y_3 := hidT (keepH Y_2.out t3)
                clear X_2 B_2 Y_2
                obtain ⟨gw6, hgw6⟩ : ∃ p, w6.heap.size = p := ⟨_, rfl⟩
                rw [hgw6] at t1
                have Z_0 := hidT (t1)
                clear t1 t3 hVw6
                obtain ⟨l0, l1⟩ := HSS.out
                have HV0 : Hid (wrap64 (L2 + lo) = L2 + lo) := hidT (IntWalk.wrap64_in _ (by omega))
                by_cases z : M < L2 + lo
                ·
                  have zM : M = b := by rcases HLL.out with h | h <;> omega
                  have z1 : decide (M < L2 + lo) = true := by simpa using z
                  have z2 : decide (M = b) = true := by simpa using zM
                  have z3 : (M == b) = true := by simpa using zM
                  have z4 : (M != b) = false := by simpa using zM
                  clear zM
                  obtain ⟨x0, x1⟩ := cells2 X_3.out
                  obtain ⟨y0, y1⟩ := cells2 Y_3.out
                  obtain ⟨u0, u1⟩ := cells2 Z_0.out
                  have v0 := HV0.out
                  have HB7 := hidT (B_3.out)
                  have z7 := X_3.out
                  rw [← HVw6.out] at x0 x1 y0 y1 u0 u1 z7
                  clear hgw6 l0 l1 z
                  go_wp2_with (
                    refine wpList_stI rfl 23 _ _ rfl gw2 #[.int .i64 N3, .int .i64 M] rfl rfl _ _ z7 rtsize rfl (all2 rfl rfl) ?_
                    intro w7 hg7 hbut hbel)
                  rw [HVw6.out] at hbel
                  exact ⟨⟨j + 1, N3, M, S, by go_num, by first | rfl | rw [HW2.out], by omega, by simpa using HI2, hidT hg7, hidT (hbel _ _ HB7.out HGW.out)⟩, by first | (simp [intOf]; done) | (simp [intOf]; omega)⟩
                ·
                  have z1 : decide (M < L2 + lo) = false := by simpa using z
                  obtain ⟨x0, x1⟩ := cells2 X_3.out
                  obtain ⟨y0, y1⟩ := cells2 Y_3.out
                  obtain ⟨u0, u1⟩ := cells2 Z_0.out
                  have v0 := HV0.out
                  have HB7 := hidT (B_3.out)
                  have z7 := X_3.out
                  rw [← HVw6.out] at x0 x1 y0 y1 u0 u1 z7
                  clear hgw6 l0 l1 z
                  go_wp2_with (
                    refine wpList_stI rfl 23 _ _ rfl gw2 #[.int .i64 N3, .int .i64 M] rfl rfl _ _ z7 rtsize rfl (all2 rfl rfl) ?_
                    intro w7 hg7 hbut hbel)
                  rw [HVw6.out] at hbel
                  exact ⟨⟨j + 1, N3, M, S, by go_num, by first | rfl | rw [HW2.out], by omega, by simpa using HI2, hidT hg7, hidT (hbel _ _ HB7.out HGW.out)⟩, by first | (simp [intOf]; done) | (simp [intOf]; omega)⟩
          ·
            have y5 := set2 y4 (.int .i64 N) (.int .i64 L2)
            have hb5 := hbF
            clear hb4 hb4' hbF y4 i0 i1 f0 f1 kr kx0 kx1 D1
            generalize (w4.setCell ⟨wr.heap.size, 0, none⟩ (.int .i64 N)).setCell ⟨wr.heap.size, 1, none⟩ (.int .i64 L2) = W5 at y5 hb5 ⊢
            obtain ⟨gx, hgx⟩ : ∃ q, wr.heap.size = q := ⟨_, rfl⟩
            have HB5 := hidT hb5
            clear hb5
            rw [hgx] at y5 ⊢
            have hb5 := HB5.out
            clear HB5 hgx
            have cb := KR.out W5 hb5
            have cz := KZ.out W5 hb5
            have X_1 := hidT (keepH X_0.out hb5)
            have B_1 := hidT (bthen B_0.out hb5)
            have Y_1 := hidT y5
            clear X_0 B_0 y5 hb5
            obtain ⟨s0, s1, s2, s3, s4, s5, s6, s7, s8, s9, s10⟩ := id HS.out
            have eK := HEK.out
            clear e4 e5 e6 e7
            have HW0 : Hid (wrap64 K = K) := hidT (IntWalk.wrap64_in _ (by omega))
            have HW1 : Hid (wrap64 (b + K) = b + K) := hidT (IntWalk.wrap64_in _ (by omega))
            have HW2 : Hid (wrap64 (S + k) = S + k) := hidT (IntWalk.wrap64_in _ (by omega))
            cases Y with
            | true =>
              have hL := s4 rfl
              have dS : decide (b + K < S + k) = false := by simp; omega
              cases x with
              | true =>
                have hp := rttick_any N L2 lo hi b 2 W5 HR2.out
                have HI2 := hidT (Rate.Held.next 2 (S + k) HR2.out (show 0 ≤ S + k by omega) (show S + k + L2 ≤ b + (j : Int) * hi by rw [HEK.out]; omega))
                have hll := Rate.left_or (l := L2) (b := b) (Rate.more_in (naks := 2) lo0 (Rate.right_iff.1 HR2.out).2.1 (Rate.right_iff.1 HR2.out).2.2.1).1
                obtain ⟨N3, eN⟩ : ∃ q, Rate.more N lo hi 2 = q := ⟨_, rfl⟩
                rw [eN] at hp HI2 hll
                obtain ⟨M, eM⟩ : ∃ q, Rate.left L2 N3 b = q := ⟨_, rfl⟩
                rw [eM] at hp HI2 hll
                have HLL := hidT hll
                have HSS := hidT (show 0 ≤ L2 ∧ L2 ≤ 100 from ⟨by omega, by omega⟩)
                clear hll s0 s1 s2 s3 s4 s5 s6 s7 s8 s9 s10 hL eN eM HS
                have e4 := HE4.out
                have e5 := HE5.out
                have e6 := HE6.out
                have e7 := HE7.out
                have wk0 := HW0.out
                have wk1 := HW1.out
                have wk2 := HW2.out
                obtain ⟨y0, y1⟩ := cells2 Y_1.out
                go_wp2_with fail
                with_reducible refine hp.mono ?_
                rintro e w6 ⟨rfl, hw6⟩
                have X_2 := hidT (keepH X_1.out hw6)
                have B_2 := hidT (bthen B_1.out hw6)
                have Y_2 := hidT (keepH Y_1.out hw6)
                clear X_1 B_1 Y_1
                clear hw6 hp y0 y1 cb cz e4 e5 e6 e7 wk0 wk1 wk2
                have t1 := alloc_at w6 (.cells #[.int .i64 N3, .int .i64 M] 23) _ rfl
                have t3 := nkeep w6 (.cells #[.int .i64 N3, .int .i64 M] 23)
                obtain ⟨Vw6, hVw6⟩ : ∃ W, w6.alloc (.cells #[.int .i64 N3, .int .i64 M] 23) = W := ⟨_, rfl⟩
                rw [hVw6] at t1 t3
                have HVw6 := hidT hVw6
                have X_3 := hidT (keepH X_2.out t3)
                have B_3 := hidT (bthen B_2.out t3)
                have Y_3 := hidT (keepH Y_2.out t3)
                clear X_2 B_2 Y_2
                obtain ⟨gw6, hgw6⟩ : ∃ p, w6.heap.size = p := ⟨_, rfl⟩
                rw [hgw6] at t1
                have Z_0 := hidT (t1)
                clear t1 t3 hVw6
                obtain ⟨l0, l1⟩ := HSS.out
                have HV0 : Hid (wrap64 (L2 + lo) = L2 + lo) := hidT (IntWalk.wrap64_in _ (by omega))
                by_cases z : M < L2 + lo
                ·
                  have zM : M = b := by rcases HLL.out with h | h <;> omega
                  have z1 : decide (M < L2 + lo) = true := by simpa using z
                  have z2 : decide (M = b) = true := by simpa using zM
                  have z3 : (M == b) = true := by simpa using zM
                  have z4 : (M != b) = false := by simpa using zM
                  clear zM
                  obtain ⟨x0, x1⟩ := cells2 X_3.out
                  obtain ⟨y0, y1⟩ := cells2 Y_3.out
                  obtain ⟨u0, u1⟩ := cells2 Z_0.out
                  have v0 := HV0.out
                  have HB7 := hidT (B_3.out)
                  have z7 := X_3.out
                  rw [← HVw6.out] at x0 x1 y0 y1 u0 u1 z7
                  clear hgw6 l0 l1 z
                  go_wp2_with (
                    refine wpList_stI rfl 23 _ _ rfl gw2 #[.int .i64 N3, .int .i64 M] rfl rfl _ _ z7 rtsize rfl (all2 rfl rfl) ?_
                    intro w7 hg7 hbut hbel)
                  rw [HVw6.out] at hbel
                  exact ⟨⟨j + 1, N3, M, S + k, by go_num, by first | rfl | rw [HW2.out], by omega, by simpa using HI2, hidT hg7, hidT (hbel _ _ HB7.out HGW.out)⟩, by first | (simp [intOf]; done) | (simp [intOf]; omega)⟩
                ·
                  have z1 : decide (M < L2 + lo) = false := by simpa using z
                  obtain ⟨x0, x1⟩ := cells2 X_3.out
                  obtain ⟨y0, y1⟩ := cells2 Y_3.out
                  obtain ⟨u0, u1⟩ := cells2 Z_0.out
                  have v0 := HV0.out
                  have HB7 := hidT (B_3.out)
                  have z7 := X_3.out
                  rw [← HVw6.out] at x0 x1 y0 y1 u0 u1 z7
                  clear hgw6 l0 l1 z
                  go_wp2_with (
                    refine wpList_stI rfl 23 _ _ rfl gw2 #[.int .i64 N3, .int .i64 M] rfl rfl _ _ z7 rtsize rfl (all2 rfl rfl) ?_
                    intro w7 hg7 hbut hbel)
                  rw [HVw6.out] at hbel
                  exact ⟨⟨j + 1, N3, M, S + k, by go_num, by first | rfl | rw [HW2.out], by omega, by simpa using HI2, hidT hg7, hidT (hbel _ _ HB7.out HGW.out)⟩, by first | (simp [intOf]; done) | (simp [intOf]; omega)⟩
              | false =>
                have hp := rttick_any N L2 lo hi b 0 W5 HR2.out
                have HI2 := hidT (Rate.Held.next 0 (S + k) HR2.out (show 0 ≤ S + k by omega) (show S + k + L2 ≤ b + (j : Int) * hi by rw [HEK.out]; omega))
                have hll := Rate.left_or (l := L2) (b := b) (Rate.more_in (naks := 0) lo0 (Rate.right_iff.1 HR2.out).2.1 (Rate.right_iff.1 HR2.out).2.2.1).1
                obtain ⟨N3, eN⟩ : ∃ q, Rate.more N lo hi 0 = q := ⟨_, rfl⟩
                rw [eN] at hp HI2 hll
                obtain ⟨M, eM⟩ : ∃ q, Rate.left L2 N3 b = q := ⟨_, rfl⟩
                rw [eM] at hp HI2 hll
                have HLL := hidT hll
                have HSS := hidT (show 0 ≤ L2 ∧ L2 ≤ 100 from ⟨by omega, by omega⟩)
                clear hll s0 s1 s2 s3 s4 s5 s6 s7 s8 s9 s10 hL eN eM HS
                have e4 := HE4.out
                have e5 := HE5.out
                have e6 := HE6.out
                have e7 := HE7.out
                have wk0 := HW0.out
                have wk1 := HW1.out
                have wk2 := HW2.out
                obtain ⟨y0, y1⟩ := cells2 Y_1.out
                go_wp2_with fail
                with_reducible refine hp.mono ?_
                rintro e w6 ⟨rfl, hw6⟩
                have X_2 := hidT (keepH X_1.out hw6)
                have B_2 := hidT (bthen B_1.out hw6)
                have Y_2 := hidT (keepH Y_1.out hw6)
                clear X_1 B_1 Y_1
                clear hw6 hp y0 y1 cb cz e4 e5 e6 e7 wk0 wk1 wk2
                have t1 := alloc_at w6 (.cells #[.int .i64 N3, .int .i64 M] 23) _ rfl
                have t3 := nkeep w6 (.cells #[.int .i64 N3, .int .i64 M] 23)
                obtain ⟨Vw6, hVw6⟩ : ∃ W, w6.alloc (.cells #[.int .i64 N3, .int .i64 M] 23) = W := ⟨_, rfl⟩
                rw [hVw6] at t1 t3
                have HVw6 := hidT hVw6
                have X_3 := hidT (keepH X_2.out t3)
                have B_3 := hidT (bthen B_2.out t3)
                have Y_3 := hidT (keepH Y_2.out t3)
                clear X_2 B_2 Y_2
                obtain ⟨gw6, hgw6⟩ : ∃ p, w6.heap.size = p := ⟨_, rfl⟩
                rw [hgw6] at t1
                have Z_0 := hidT (t1)
                clear t1 t3 hVw6
                obtain ⟨l0, l1⟩ := HSS.out
                have HV0 : Hid (wrap64 (L2 + lo) = L2 + lo) := hidT (IntWalk.wrap64_in _ (by omega))
                by_cases z : M < L2 + lo
                ·
                  have zM : M = b := by rcases HLL.out with h | h <;> omega
                  have z1 : decide (M < L2 + lo) = true := by simpa using z
                  have z2 : decide (M = b) = true := by simpa using zM
                  have z3 : (M == b) = true := by simpa using zM
                  have z4 : (M != b) = false := by simpa using zM
                  clear zM
                  obtain ⟨x0, x1⟩ := cells2 X_3.out
                  obtain ⟨y0, y1⟩ := cells2 Y_3.out
                  obtain ⟨u0, u1⟩ := cells2 Z_0.out
                  have v0 := HV0.out
                  have HB7 := hidT (B_3.out)
                  have z7 := X_3.out
                  rw [← HVw6.out] at x0 x1 y0 y1 u0 u1 z7
                  clear hgw6 l0 l1 z
                  go_wp2_with (
                    refine wpList_stI rfl 23 _ _ rfl gw2 #[.int .i64 N3, .int .i64 M] rfl rfl _ _ z7 rtsize rfl (all2 rfl rfl) ?_
                    intro w7 hg7 hbut hbel)
                  rw [HVw6.out] at hbel
                  exact ⟨⟨j + 1, N3, M, S + k, by go_num, by first | rfl | rw [HW2.out], by omega, by simpa using HI2, hidT hg7, hidT (hbel _ _ HB7.out HGW.out)⟩, by first | (simp [intOf]; done) | (simp [intOf]; omega)⟩
                ·
                  have z1 : decide (M < L2 + lo) = false := by simpa using z
                  obtain ⟨x0, x1⟩ := cells2 X_3.out
                  obtain ⟨y0, y1⟩ := cells2 Y_3.out
                  obtain ⟨u0, u1⟩ := cells2 Z_0.out
                  have v0 := HV0.out
                  have HB7 := hidT (B_3.out)
                  have z7 := X_3.out
                  rw [← HVw6.out] at x0 x1 y0 y1 u0 u1 z7
                  clear hgw6 l0 l1 z
                  go_wp2_with (
                    refine wpList_stI rfl 23 _ _ rfl gw2 #[.int .i64 N3, .int .i64 M] rfl rfl _ _ z7 rtsize rfl (all2 rfl rfl) ?_
                    intro w7 hg7 hbut hbel)
                  rw [HVw6.out] at hbel
                  exact ⟨⟨j + 1, N3, M, S + k, by go_num, by first | rfl | rw [HW2.out], by omega, by simpa using HI2, hidT hg7, hidT (hbel _ _ HB7.out HGW.out)⟩, by first | (simp [intOf]; done) | (simp [intOf]; omega)⟩
            | false =>
              have hL := s5 rfl
              have dS : decide (b + K < S) = false := by simp; omega
              cases x with
              | true =>
                have hp := rttick_any N L2 lo hi b 2 W5 HR2.out
                have HI2 := hidT (Rate.Held.next 2 (S) HR2.out (show 0 ≤ S by omega) (show S + L2 ≤ b + (j : Int) * hi by rw [HEK.out]; omega))
                have hll := Rate.left_or (l := L2) (b := b) (Rate.more_in (naks := 2) lo0 (Rate.right_iff.1 HR2.out).2.1 (Rate.right_iff.1 HR2.out).2.2.1).1
                obtain ⟨N3, eN⟩ : ∃ q, Rate.more N lo hi 2 = q := ⟨_, rfl⟩
                rw [eN] at hp HI2 hll
                obtain ⟨M, eM⟩ : ∃ q, Rate.left L2 N3 b = q := ⟨_, rfl⟩
                rw [eM] at hp HI2 hll
                have HLL := hidT hll
                have HSS := hidT (show 0 ≤ L2 ∧ L2 ≤ 100 from ⟨by omega, by omega⟩)
                clear hll s0 s1 s2 s3 s4 s5 s6 s7 s8 s9 s10 hL eN eM HS
                have e4 := HE4.out
                have e5 := HE5.out
                have e6 := HE6.out
                have e7 := HE7.out
                have wk0 := HW0.out
                have wk1 := HW1.out
                have wk2 := HW2.out
                obtain ⟨y0, y1⟩ := cells2 Y_1.out
                go_wp2_with fail
                with_reducible refine hp.mono ?_
                rintro e w6 ⟨rfl, hw6⟩
                have X_2 := hidT (keepH X_1.out hw6)
                have B_2 := hidT (bthen B_1.out hw6)
                have Y_2 := hidT (keepH Y_1.out hw6)
                clear X_1 B_1 Y_1
                clear hw6 hp y0 y1 cb cz e4 e5 e6 e7 wk0 wk1 wk2
                have t1 := alloc_at w6 (.cells #[.int .i64 N3, .int .i64 M] 23) _ rfl
                have t3 := nkeep w6 (.cells #[.int .i64 N3, .int .i64 M] 23)
                obtain ⟨Vw6, hVw6⟩ : ∃ W, w6.alloc (.cells #[.int .i64 N3, .int .i64 M] 23) = W := ⟨_, rfl⟩
                rw [hVw6] at t1 t3
                have HVw6 := hidT hVw6
                have X_3 := hidT (keepH X_2.out t3)
                have B_3 := hidT (bthen B_2.out t3)
                have Y_3 := hidT (keepH Y_2.out t3)
                clear X_2 B_2 Y_2
                obtain ⟨gw6, hgw6⟩ : ∃ p, w6.heap.size = p := ⟨_, rfl⟩
                rw [hgw6] at t1
                have Z_0 := hidT (t1)
                clear t1 t3 hVw6
                obtain ⟨l0, l1⟩ := HSS.out
                have HV0 : Hid (wrap64 (L2 + lo) = L2 + lo) := hidT (IntWalk.wrap64_in _ (by omega))
                by_cases z : M < L2 + lo
                ·
                  have zM : M = b := by rcases HLL.out with h | h <;> omega
                  have z1 : decide (M < L2 + lo) = true := by simpa using z
                  have z2 : decide (M = b) = true := by simpa using zM
                  have z3 : (M == b) = true := by simpa using zM
                  have z4 : (M != b) = false := by simpa using zM
                  clear zM
                  obtain ⟨x0, x1⟩ := cells2 X_3.out
                  obtain ⟨y0, y1⟩ := cells2 Y_3.out
                  obtain ⟨u0, u1⟩ := cells2 Z_0.out
                  have v0 := HV0.out
                  have HB7 := hidT (B_3.out)
                  have z7 := X_3.out
                  rw [← HVw6.out] at x0 x1 y0 y1 u0 u1 z7
                  clear hgw6 l0 l1 z
                  go_wp2_with (
                    refine wpList_stI rfl 23 _ _ rfl gw2 #[.int .i64 N3, .int .i64 M] rfl rfl _ _ z7 rtsize rfl (all2 rfl rfl) ?_
                    intro w7 hg7 hbut hbel)
                  rw [HVw6.out] at hbel
                  exact ⟨⟨j + 1, N3, M, S, by go_num, by first | rfl | rw [HW2.out], by omega, by simpa using HI2, hidT hg7, hidT (hbel _ _ HB7.out HGW.out)⟩, by first | (simp [intOf]; done) | (simp [intOf]; omega)⟩
                ·
                  have z1 : decide (M < L2 + lo) = false := by simpa using z
                  obtain ⟨x0, x1⟩ := cells2 X_3.out
                  obtain ⟨y0, y1⟩ := cells2 Y_3.out
                  obtain ⟨u0, u1⟩ := cells2 Z_0.out
                  have v0 := HV0.out
                  have HB7 := hidT (B_3.out)
                  have z7 := X_3.out
                  rw [← HVw6.out] at x0 x1 y0 y1 u0 u1 z7
                  clear hgw6 l0 l1 z
                  go_wp2_with (
                    refine wpList_stI rfl 23 _ _ rfl gw2 #[.int .i64 N3, .int .i64 M] rfl rfl _ _ z7 rtsize rfl (all2 rfl rfl) ?_
                    intro w7 hg7 hbut hbel)
                  rw [HVw6.out] at hbel
                  exact ⟨⟨j + 1, N3, M, S, by go_num, by first | rfl | rw [HW2.out], by omega, by simpa using HI2, hidT hg7, hidT (hbel _ _ HB7.out HGW.out)⟩, by first | (simp [intOf]; done) | (simp [intOf]; omega)⟩
              | false =>
                have hp := rttick_any N L2 lo hi b 0 W5 HR2.out
                have HI2 := hidT (Rate.Held.next 0 (S) HR2.out (show 0 ≤ S by omega) (show S + L2 ≤ b + (j : Int) * hi by rw [HEK.out]; omega))
                have hll := Rate.left_or (l := L2) (b := b) (Rate.more_in (naks := 0) lo0 (Rate.right_iff.1 HR2.out).2.1 (Rate.right_iff.1 HR2.out).2.2.1).1
                obtain ⟨N3, eN⟩ : ∃ q, Rate.more N lo hi 0 = q := ⟨_, rfl⟩
                rw [eN] at hp HI2 hll
                obtain ⟨M, eM⟩ : ∃ q, Rate.left L2 N3 b = q := ⟨_, rfl⟩
                rw [eM] at hp HI2 hll
                have HLL := hidT hll
                have HSS := hidT (show 0 ≤ L2 ∧ L2 ≤ 100 from ⟨by omega, by omega⟩)
                clear hll s0 s1 s2 s3 s4 s5 s6 s7 s8 s9 s10 hL eN eM HS
                have e4 := HE4.out
                have e5 := HE5.out
                have e6 := HE6.out
                have e7 := HE7.out
                have wk0 := HW0.out
                have wk1 := HW1.out
                have wk2 := HW2.out
                obtain ⟨y0, y1⟩ := cells2 Y_1.out
                go_wp2_with fail
                with_reducible refine hp.mono ?_
                rintro e w6 ⟨rfl, hw6⟩
                have X_2 := hidT (keepH X_1.out hw6)
                have B_2 := hidT (bthen B_1.out hw6)
                have Y_2 := hidT (keepH Y_1.out hw6)
                clear X_1 B_1 Y_1
                clear hw6 hp y0 y1 cb cz e4 e5 e6 e7 wk0 wk1 wk2
                have t1 := alloc_at w6 (.cells #[.int .i64 N3, .int .i64 M] 23) _ rfl
                have t3 := nkeep w6 (.cells #[.int .i64 N3, .int .i64 M] 23)
                obtain ⟨Vw6, hVw6⟩ : ∃ W, w6.alloc (.cells #[.int .i64 N3, .int .i64 M] 23) = W := ⟨_, rfl⟩
                rw [hVw6] at t1 t3
                have HVw6 := hidT hVw6
                have X_3 := hidT (keepH X_2.out t3)
                have B_3 := hidT (bthen B_2.out t3)
                have Y_3 := hidT (keepH Y_2.out t3)
                clear X_2 B_2 Y_2
                obtain ⟨gw6, hgw6⟩ : ∃ p, w6.heap.size = p := ⟨_, rfl⟩
                rw [hgw6] at t1
                have Z_0 := hidT (t1)
                clear t1 t3 hVw6
                obtain ⟨l0, l1⟩ := HSS.out
                have HV0 : Hid (wrap64 (L2 + lo) = L2 + lo) := hidT (IntWalk.wrap64_in _ (by omega))
                by_cases z : M < L2 + lo
                ·
                  have zM : M = b := by rcases HLL.out with h | h <;> omega
                  have z1 : decide (M < L2 + lo) = true := by simpa using z
                  have z2 : decide (M = b) = true := by simpa using zM
                  have z3 : (M == b) = true := by simpa using zM
                  have z4 : (M != b) = false := by simpa using zM
                  clear zM
                  obtain ⟨x0, x1⟩ := cells2 X_3.out
                  obtain ⟨y0, y1⟩ := cells2 Y_3.out
                  obtain ⟨u0, u1⟩ := cells2 Z_0.out
                  have v0 := HV0.out
                  have HB7 := hidT (B_3.out)
                  have z7 := X_3.out
                  rw [← HVw6.out] at x0 x1 y0 y1 u0 u1 z7
                  clear hgw6 l0 l1 z
                  go_wp2_with (
                    refine wpList_stI rfl 23 _ _ rfl gw2 #[.int .i64 N3, .int .i64 M] rfl rfl _ _ z7 rtsize rfl (all2 rfl rfl) ?_
                    intro w7 hg7 hbut hbel)
                  rw [HVw6.out] at hbel
                  exact ⟨⟨j + 1, N3, M, S, by go_num, by first | rfl | rw [HW2.out], by omega, by simpa using HI2, hidT hg7, hidT (hbel _ _ HB7.out HGW.out)⟩, by first | (simp [intOf]; done) | (simp [intOf]; omega)⟩
                ·
                  have z1 : decide (M < L2 + lo) = false := by simpa using z
                  obtain ⟨x0, x1⟩ := cells2 X_3.out
                  obtain ⟨y0, y1⟩ := cells2 Y_3.out
                  obtain ⟨u0, u1⟩ := cells2 Z_0.out
                  have v0 := HV0.out
                  have HB7 := hidT (B_3.out)
                  have z7 := X_3.out
                  rw [← HVw6.out] at x0 x1 y0 y1 u0 u1 z7
                  clear hgw6 l0 l1 z
                  go_wp2_with (
                    refine wpList_stI rfl 23 _ _ rfl gw2 #[.int .i64 N3, .int .i64 M] rfl rfl _ _ z7 rtsize rfl (all2 rfl rfl) ?_
                    intro w7 hg7 hbut hbel)
                  rw [HVw6.out] at hbel
                  exact ⟨⟨j + 1, N3, M, S, by go_num, by first | rfl | rw [HW2.out], by omega, by simpa using HI2, hidT hg7, hidT (hbel _ _ HB7.out HGW.out)⟩, by first | (simp [intOf]; done) | (simp [intOf]; omega)⟩
        ·
          have u1 : decide (j < m) = false := by simp; omega
          have u2 : decide ((j : Int) < (m : Int)) = false := by simp; omega
          go_wp2
          go_ret
          exact ⟨rfl, B_0.out⟩
    ·
      have t3 : decide (m = n) = false := by simpa using hmn
      have t4 : (m == n) = false := by simpa using hmn
      have t5 : (m != n) = true := by simpa using hmn
      have t6 : ((m : Int) != (n : Int)) = true := by simp; omega
      have t7 : ((m : Int) == (n : Int)) = false := by simp; omega
      have t8 : decide ((m : Int) = (n : Int)) = false := by simp; omega
      go_wp2
      go_ret
      exact ⟨rfl, B_1.out⟩
  ·
    have t1 : decide (100 < n) = true := by simp; omega
    have t2 : decide ((100 : Int) < (n : Int)) = true := by simp; omega
    go_wp2
    go_ret
    exact ⟨rfl, B_1.out⟩
end Go.Proofs.Ytpobaecfmdpphaa
