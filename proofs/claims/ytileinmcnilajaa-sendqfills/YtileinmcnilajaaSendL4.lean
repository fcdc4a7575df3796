/- The law SendqFills, walked. -/
import Derived.Test.YtileinmcnilajaaSendShown
set_option maxRecDepth 100000
namespace Go.Proofs.Ytileinmcnilajaa
open Go.RowKit
set_option linter.unusedVariables false

/-- The messages that the law offers. -/
def mg (bl : List UInt8) (i : Nat) : List UInt8 := bl ++ [UInt8.ofNat i]
def mgs (bl : List UInt8) (k : Nat) : List (List UInt8) := (List.range k).map (mg bl)
theorem mgs_length (bl : List UInt8) (k : Nat) : (mgs bl k).length = k := by simp [mgs]
theorem mgs_succ (bl : List UInt8) (k : Nat) : mgs bl (k + 1) = mgs bl k ++ [mg bl k] := by simp [mgs, List.range_succ]
theorem mgs_short (bl : List UInt8) (k : Nat) (h : bl.length ≤ 3000) : ∀ l ∈ mgs bl k, l.length ≤ 4000 := by
  intro l hl
  obtain ⟨i, _, rfl⟩ := List.mem_map.1 hl
  unfold mg
  rw [List.length_append]
  simp
  omega
theorem mgs_drop (bl : List UInt8) {k j : Nat} (h : j < k) : (mgs bl k).drop j = mg bl j :: (mgs bl k).drop (j + 1) := by
  rw [List.drop_eq_getElem_cons (by rw [mgs_length]; exact h)]
  simp [mgs]

set_option maxHeartbeats 8000000 in
theorem fills_a (a : Int) (h0 : 0 ≤ a) (h1 : a < 256) (D : Option Addr) (dn dc : Nat) (bl : List UInt8) (w : World) (hb : Rd w D dn dc bl) (h2 : 200 < dn) : Calls Try.prog 6 #[.int .u8 a, .slice D dn dc] w (Yes w) := by
  obtain ⟨N, hN, hN64⟩ : ∃ N : Nat, a % 65 = (N : Int) ∧ N ≤ 64 := ⟨(a % 65).toNat, by omega, by omega⟩
  have q1 : a.tmod 65 = (N : Int) := by rw [Int.tmod_eq_emod_of_nonneg h0]; exact hN
  have q2 : decide ((200 : Int) < (dn : Int)) = true := by simp; omega
  have q3 : decide (200 < dn) = true := by simp; omega
  clear h2 hN
  have D_0 := hidT (hb)
  have B_0 := hidT (Below.refl w.heap.size w)
  clear hb
  go_enter Try.func6, Try.ntmps6
  have hp := sshown_any w
  go_wp2_with fail
  with_reducible refine hp.mono ?_
  rintro e w1 ⟨rfl, hw⟩
  have D_1 := hidT (D_0.out.below hw)
  have B_1 := hidT (bthen B_0.out hw)
  clear D_0 B_0
  clear hp hw
  go_wp2
  go_ret
  exact ⟨rfl, B_1.out⟩
set_option maxHeartbeats 8000000 in
theorem fills_b (a : Int) (h0 : 0 ≤ a) (h1 : a < 256) (D : Option Addr) (dn dc : Nat) (bl : List UInt8) (w : World) (hb : Rd w D dn dc bl) (h2 : dn ≤ 200) : Calls Try.prog 6 #[.int .u8 a, .slice D dn dc] w (Yes w) := by
  obtain ⟨N, hN, hN64⟩ : ∃ N : Nat, a % 65 = (N : Int) ∧ N ≤ 64 := ⟨(a % 65).toNat, by omega, by omega⟩
  have q1 : a.tmod 65 = (N : Int) := by rw [Int.tmod_eq_emod_of_nonneg h0]; exact hN
  have q2 : decide ((200 : Int) < (dn : Int)) = false := by simp; omega
  have q3 : decide (200 < dn) = false := by simp; omega
  have HBL := hidT hb.1
  clear hN
  have D_0 := hidT (hb)
  have B_0 := hidT (Below.refl w.heap.size w)
  have HDD := hidT hb
  clear hb
  go_enter Try.func6, Try.ntmps6
  have hp := sshown_any w
  go_wp2_with fail
  with_reducible refine hp.mono ?_
  rintro e w1 ⟨rfl, hw⟩
  have D_1 := hidT (D_0.out.below hw)
  have B_1 := hidT (bthen B_0.out hw)
  clear D_0 B_0
  clear hp hw
  go_wp2
  go_loopw [7, 8] (fun v i wr => ∃ (j J : Nat) (A : Option Addr) (c : Nat) (xs : List Bw), j ≤ N + 1 ∧ i = .int .i64 j ∧ Hid (J = min j N) ∧ v = .slice A J c ∧ Hid (RdB wr A J c xs) ∧ Hid (xs.map Bw.b = mgs bl J) ∧ Hid (Below w.heap.size w wr)) (fun _ i _ => N + 1 - (intOf i).toNat)
  case atStart => exact ⟨0, 0, none, 0, [], Nat.zero_le _, rfl, hidT (by omega), rfl, hidT (RdB.nil_ _), hidT rfl, hidT B_1.out⟩
  case round =>
    obtain ⟨j, J, A, c, xs, hj, rfl, HJ, rfl, HR, HX, HBB⟩ := hrel
    have HD1 := HDD
    by_cases hjn : j < N + 1
    · skip
      obtain ⟨u, hu⟩ : ∃ u : UInt8, u.toNat = j := ⟨UInt8.ofNat j, by simp; omega⟩
      have HU := hidT hu
      have hul : UInt8.ofNat j = u := by rw [← hu]; simp
      have HUL := hidT hul
      clear hu hul
      have q4 : (j : Int) % 256 = (j : Int) := by omega
      have q5 : (0 : Int) ≤ (j : Int) := by omega
      have q6 : decide ((j : Int) ≤ (N : Int)) = true := by simp; omega
      have q7 : IntKind.u8.wrap (j : Int) = (j : Int) := by show (j : Int) % 256 = _; omega
      have HF : Hid (Few xs) := hidT (few_of HR.out (by have := HJ.out; omega) (by rw [HX.out]; exact mgs_short bl J (by have := HBL.out; omega)))
      have hj64 : j ≤ 64 := by omega
      go_wp2_with (first
        | (at_builtin
           refine wpList_app rfl (.tmp 33) (.tmp 34) 23 rfl wr.heap.size 5 info5 Try.underlying23 (.slice (some ⟨wr.heap.size, 0, none⟩) 0 0) 0 [] rfl ?own D dn dc bl rfl ?rd ?h63 ?hb ?_
           case own => exact World.ownsRow_made (base := wr.heap.size) (e := 5) (size := 1) wr #[] 0 (Nat.le_refl _) (Nat.zero_le _) rfl
           case rd => exact (HD1.out.below HBB.out).alloc _
           case h63 => omega
           case hb => simp
           intro v2 w2 hown hbel
           have hB2 : Below wr.heap.size wr w2 := (nkeep wr (.cells #[] 5)).trans hbel
           rw [Nat.zero_add, List.nil_append] at hown
           have HO2 := hidT hown
           have HB2 := hidT hB2
           clear hown hbel hB2)
        | (at_builtin
           refine wpList_app rfl (.tmp 35) (.tmp 38) 23 rfl wr.heap.size 5 info5 Try.underlying23 v2 dn bl rfl ?own (some ⟨w2.heap.size, 0, none⟩) 1 1 [u] rfl ?rd ?h63 ?hb ?_
           case own => exact HO2.out.later (nkeep _ _)
           case rd => exact Rd.lit _ _ _ _ [u] (by rw [← HU.out]; rfl) 1 rfl (by simp only [maxLen]; omega)
           case h63 => omega
           case hb => rw [size_alloc]; have := HB2.out.size; omega
           intro v3 w3 hown hbel
           have HB3 := hidT (Below.trans (bthen HB2.out (nkeep w2 (.cells #[.int .u8 (j : Int)] 5))) hbel)
           obtain ⟨A3, c3, rfl, hr3⟩ := hown.rd
           have HR3 := hidT hr3
           clear hown hbel hr3)
        | fail)
      by_cases hjf : j < N
      · skip
        have hj0 := HJ.out
        obtain rfl : j = J := by omega
        have hk : offC j (dn + 1) (N : Int) 300 = 0 := by unfold offC; rw [if_neg (by omega), if_neg (by omega)]
        have hp := offer_any A j c xs A3 (dn + 1) c3 (bl ++ [u]) (N : Int) 300 w3 (HR.out.below HB3.out) HF.out HR3.out (by omega) 0 hk (mgs bl (j + 1)) (by rw [HX.out, mgs_succ, mg, HUL.out]; first | done | rfl)
        clear hk hj0
        with_reducible refine hp.mono ?_
        intro e w4 hG
        obtain ⟨A4, c4, x4, rfl, hr, hl, hw⟩ := OfferR.open_ hG.r (j + 1) (mgs_length _ _)
        have HR4 := hidT hr
        have HX4 := hidT hl
        have HB4 := hidT (bthen HBB.out (bthen HB3.out hw))
        clear hG hp hr hl hw
        have g2 : decide ((j : Int) < (N : Int)) = true := by simp; omega
        have g3 : decide ((j : Int) = (N : Int)) = false := by simp; omega
        have g4 : ((j : Int) == (N : Int)) = false := by simp; omega
        go_wp2
        exact ⟨⟨j + 1, (j + 1), A4, c4, x4, by omega, by go_num, hidT (by omega), rfl, HR4, HX4, HB4⟩, by simp [intOf] <;> omega⟩
      · skip
        have hj0 := HJ.out
        obtain rfl : j = N := by omega
        obtain rfl : j = J := by omega
        have hk : offC j (dn + 1) (j : Int) 300 = 4 := by unfold offC; rw [if_neg (by omega), if_pos (by omega)]
        have hp := offer_any A j c xs A3 (dn + 1) c3 (bl ++ [u]) (j : Int) 300 w3 (HR.out.below HB3.out) HF.out HR3.out (by omega) 4 hk (mgs bl j) (by rw [HX.out]; rfl)
        clear hk hj0
        with_reducible refine hp.mono ?_
        intro e w4 hG
        obtain ⟨A4, c4, x4, rfl, hr, hl, hw⟩ := OfferR.open_ hG.r j (mgs_length _ _)
        have HR4 := hidT hr
        have HX4 := hidT hl
        have HB4 := hidT (bthen HBB.out (bthen HB3.out hw))
        clear hG hp hr hl hw
        have g1 : ((j : Int) < (j : Int)) = False := by simp
        have g2 : decide ((j : Int) < (j : Int)) = false := by simp
        go_wp2
        exact ⟨⟨j + 1, j, A4, c4, x4, by omega, by go_num, hidT (by omega), rfl, HR4, HX4, HB4⟩, by simp [intOf] <;> omega⟩
    · have q6 : decide ((j : Int) ≤ (N : Int)) = false := by simp; omega
      have q7 : decide (j ≤ N) = false := by simp; omega
      have hJ := HJ.out
      obtain rfl : J = N := by omega
      clear hJ HJ hj hjn
      go_wp2
      go_loopw [7, 11] (fun v i wr => ∃ (j p : Nat) (A : Option Addr) (c : Nat) (xs : List Bw), j ≤ J ∧ i = .int .i64 j ∧ Hid (p + j = J) ∧ v = .slice A p c ∧ Hid (RdB wr A p c xs) ∧ Hid (xs.map Bw.b = (mgs bl J).drop j) ∧ Hid (Below w.heap.size w wr)) (fun _ i _ => J - (intOf i).toNat)
      case atStart => exact ⟨0, J, A, c, xs, Nat.zero_le _, rfl, hidT rfl, rfl, HR, hidT HX.out, HBB⟩
      case round =>
        clear HR HX HBB
        obtain ⟨j, p, A, c, xs, hj, rfl, HP, rfl, HR, HX, HBB⟩ := hrel
        by_cases hjn : j < J
        · obtain ⟨k, hk⟩ : ∃ k, p = k + 1 := ⟨p - 1, by have := HP.out; omega⟩
          subst hk
          obtain ⟨u, hu⟩ : ∃ u : UInt8, u.toNat = j := ⟨UInt8.ofNat j, by simp; omega⟩
          have HU := hidT hu
          have hul : UInt8.ofNat j = u := by rw [← hu]; simp
          have HUL := hidT hul
          clear hu hul
          have hdr := mgs_drop bl hjn
          have HF : Hid (Few xs) := hidT (few_of HR.out (by have := HP.out; omega) (by rw [HX.out]; intro l hl; exact mgs_short bl J (by have := HBL.out; omega) l (List.mem_of_mem_drop hl)))
          have HH : Hid (hd xs = bl ++ [u]) := hidT (by rw [hd_of HX.out, hdr, mg, HUL.out]; rfl)
          have HT : Hid ((xs.drop 1).map Bw.b = (mgs bl J).drop (j + 1)) := hidT (by rw [drop_of HX.out, List.drop_drop])
          have HTL : Hid (((mgs bl J).drop (j + 1)).length = k) := hidT (by rw [List.length_drop, mgs_length]; have := HP.out; omega)
          have q5 : (0 : Int) ≤ (j : Int) := by omega
          have q6 : (j : Int) < (J : Int) := by omega
          clear hdr
          have hp := (head_any A (k + 1) c xs wr HR.out HF.out true (by simp)).1
          rw [HH.out] at hp
          go_wp2_with fail
          with_reducible refine hp.mono ?_
          intro e w2 hG
          obtain ⟨A2, c2, rfl, hr, hw⟩ := HeadIs.open_ hG (dn + 1) (by rw [List.length_append, HBL.out]; rfl)
          have HR2 := hidT hr
          have HW2 := hidT hw
          clear hG hp hr hw
          have hp := (pop_any A (k + 1) c xs w2 (HR.out.below HW2.out) HF.out true (by simp)).1
          rw [HT.out] at hp
          go_wp2_with fail
          with_reducible refine hp.mono ?_
          intro e w3 hG
          obtain ⟨A3, c3, x3, rfl, hr, hl, hw⟩ := PopIs.open_ hG k HTL.out
          have HR3 := hidT hr
          have HX3 := hidT hl
          have HW3 := hidT hw
          have HRR := hidT (HR2.out.below hw)
          have HB3 := hidT (bthen HBB.out (bthen HW2.out hw))
          clear hG hp hr hl hw
          obtain ⟨b, o, rfl, hcs⟩ := HRR.out.at_ (by omega)
          obtain ⟨y, hy, hc⟩ := hcs dn (by omega)
          have hyu : (y.toNat : Int) = (j : Int) := by
            rw [List.getElem?_append_right (by rw [HBL.out]; exact Nat.le_refl _), HBL.out, Nat.sub_self] at hy
            injection hy with hy
            rw [← hy, HU.out]
          rw [hyu] at hc
          clear hcs hy hyu
          have HF3 : Hid (Few x3) := hidT (few_of HR3.out (by have := HP.out; omega) (by rw [HX3.out]; intro l hl; exact mgs_short bl J (by have := HBL.out; omega) l (List.mem_of_mem_drop hl)))
          have hk : offC k 0 (J : Int) 300 = 0 := by unfold offC; rw [if_neg (by omega), if_neg (by have := HP.out; omega)]
          have hp := offer_any A3 k c3 x3 none 0 0 [] (J : Int) 300 w3 HR3.out HF3.out (Rd.nil_ w3) (by omega) 0 hk ((mgs bl J).drop (j + 1) ++ [[]]) (by rw [HX3.out]; rfl)
          have hlen : ((mgs bl J).drop (j + 1) ++ [[]]).length = k + 1 := by rw [List.length_append, HTL.out]; rfl
          have HLN := hidT hlen
          have g1 : (dn : Int) < (dn : Int) + 1 := by omega
          have g2 : (0 : Int) ≤ (dn : Int) := by omega
          have HPI : Hid ((k : Int) + 1 = (J : Int) - (j : Int)) := hidT (by have := HP.out; omega)
          have g3 : IntKind.i64.wrap (dn : Int) = (dn : Int) := IntWalk.i64_in _ (by omega)
          clear hk hlen
          go_wp2_with fail
          with_reducible refine hp.mono ?_
          intro e w4 hG
          obtain ⟨A4, c4, x4, rfl, hr, hl, hw⟩ := OfferR.open_ hG.r (k + 1) HLN.out
          have HB4 := hidT (bthen HB3.out hw)
          have HR4 := hidT (HR3.out.below hw)
          clear hG hp hr hl hw hc
          have g4 : ((k : Int) + 1 != (J : Int) - (j : Int)) = false := by rw [HPI.out]; simp
          have g5 : ((k : Int) + 1 == (J : Int) - (j : Int)) = true := by rw [HPI.out]; simp
          have g6 : decide ((k : Int) + 1 = (J : Int) - (j : Int)) = true := by rw [HPI.out]; simp
          have g7 : (k : Int) + 1 = (J : Int) - (j : Int) := HPI.out
          go_wp2
          exact ⟨⟨j + 1, k, A3, c3, x3, by omega, by go_num, hidT (by have := HP.out; omega), rfl, HR4, HX3, HB4⟩, by simp [intOf] <;> omega⟩
        · obtain rfl : j = J := by omega
          obtain rfl : p = 0 := by have := HP.out; omega
          go_wp2
          go_ret
          exact ⟨rfl, HBB.out⟩
theorem sfills_any (a : Int) (h0 : 0 ≤ a) (h1 : a < 256) (D : Option Addr) (dn dc : Nat) (bl : List UInt8) (w : World) (hb : Rd w D dn dc bl) : Calls Try.prog 6 #[.int .u8 a, .slice D dn dc] w (Yes w) := by
  by_cases h2 : 200 < dn
  · exact fills_a a h0 h1 D dn dc bl w hb h2
  · exact fills_b a h0 h1 D dn dc bl w hb (by omega)
end Go.Proofs.Ytileinmcnilajaa
