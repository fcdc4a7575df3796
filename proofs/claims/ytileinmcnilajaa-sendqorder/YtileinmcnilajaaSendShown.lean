/- The document's example. -/
import Derived.Test.YtileinmcnilajaaSend3
import Derived.Lib.SlBytesConst
set_option maxRecDepth 100000
namespace Go.Proofs.Ytileinmcnilajaa
open Go.RowKit
set_option linter.unusedVariables false

theorem OfferR.open_ {w w' : World} {ls : List (List UInt8)} {k : Int} {e : Ending} (h : OfferR w ls k e w') (n : Nat) (hn : ls.length = n) : ∃ A c rs, e = .returned (.tuple #[.slice A n c, .int .i64 k]) ∧ RdB w' A n c rs ∧ rs.map Bw.b = ls ∧ Below w.heap.size w w' := by
  obtain ⟨A, m, c, rs, rfl, hr, hl, hb⟩ := h
  have h1 := hr.size
  have h2 := congrArg List.length hl
  rw [List.length_map] at h2
  obtain rfl : m = n := by omega
  exact ⟨A, c, rs, rfl, hr, hl, hb⟩
theorem PopIs.open_ {w w' : World} {ls : List (List UInt8)} {t : Bool} {e : Ending} (h : PopIs w t ls e w') (n : Nat) (hn : ls.length = n) : ∃ A c rs, e = .returned (.tuple #[.slice A n c, .bool t]) ∧ RdB w' A n c rs ∧ rs.map Bw.b = ls ∧ Below w.heap.size w w' := by
  obtain ⟨A, m, c, rs, rfl, hr, hl, hb⟩ := h
  have h1 := hr.size
  have h2 := congrArg List.length hl
  rw [List.length_map] at h2
  obtain rfl : m = n := by omega
  exact ⟨A, c, rs, rfl, hr, hl, hb⟩
theorem HeadIs.open_ {w w' : World} {l : List UInt8} {t : Bool} {e : Ending} (h : HeadIs w t l e w') (n : Nat) (hn : l.length = n) : ∃ A c, e = .returned (.tuple #[.slice A n c, .bool t]) ∧ Rd w' A n c l ∧ Below w.heap.size w w' := by
  obtain ⟨A, m, c, rfl, hr, hb⟩ := h
  obtain rfl : m = n := by have := hr.1; omega
  exact ⟨A, c, rfl, hr, hb⟩
theorem few_nil : Few [] := ⟨by simp, fun r hr => by cases hr⟩
/-- A row is few and short if its messages are. -/
theorem few_of {w : World} {A : Option Addr} {n c : Nat} {rs : List Bw} (h : RdB w A n c rs) (hn : n ≤ 200) (hs : ∀ l ∈ rs.map Bw.b, l.length ≤ 4000) : Few rs :=
  ⟨by rw [h.size]; exact hn, fun r hr => by rw [← h.long hr]; exact hs _ (List.mem_map.2 ⟨r, hr, rfl⟩)⟩
theorem hd_of {rs : List Bw} {ls : List (List UInt8)} (h : rs.map Bw.b = ls) : hd rs = ls.headD [] := by
  subst h
  cases rs <;> rfl
theorem drop_of {rs : List Bw} {ls : List (List UInt8)} (h : rs.map Bw.b = ls) : (rs.drop 1).map Bw.b = ls.drop 1 := by
  subst h
  rw [List.map_drop]
theorem sstr_list (l : List UInt8) : (str l).toList = l := by rw [ByteArray.toList_eq]; rfl

set_option maxHeartbeats 4000000 in
theorem sshown_any (w : World) : Calls Try.prog 7 #[] w (Yes w) := by
  have kc := fun (w : World) (C : Array Value) (n c : Nat) => Lib.run_convert_bytes_const (P := Try.prog) w 23 5 C n c Try.underlying23 Try.underlying5
  have B_0 := hidT (Below.refl w.heap.size w)
  have lt := Rd.litAt w 5 (3, 4) #[.int .u8 97, .int .u8 98, .int .u8 99] [97, 98, 99] rfl 3 rfl (by simp only [maxLen]; omega) _ rfl
  have lb := nkeep w (.cells #[.int .u8 97, .int .u8 98, .int .u8 99] 5 (3, 4))
  obtain ⟨Lw, hLw⟩ : ∃ W, w.alloc (.cells #[.int .u8 97, .int .u8 98, .int .u8 99] 5 (3, 4)) = W := ⟨_, rfl⟩
  rw [hLw] at lt lb
  have HLw := hidT hLw
  have B_1 := hidT (bthen B_0.out lb)
  clear B_0
  have L1_0 := hidT (lt)
  clear lt lb hLw
  go_enter Try.func7, Try.ntmps7
  have N_0 := hidT (RdB.nil_ Lw)
  have hp := offer_any none 0 0 [] (some ⟨w.heap.size, 0, none⟩) 3 3 [97, 98, 99] 1 2 Lw N_0.out few_nil L1_0.out (by omega) (5) (rfl) ([]) (rfl)
  go_wp2_with fail
  rw [HLw.out]
  with_reducible refine hp.mono ?_
  intro e w1 hG
  obtain ⟨A1, c1, x1, rfl, hr, hl, hw⟩ := OfferR.open_ hG.r 0 (rfl)
  clear hG hp
  have B_2 := hidT (bthen B_1.out hw)
  have L1_1 := hidT (L1_0.out.below hw)
  have N_1 := hidT (N_0.out.below hw)
  clear B_1 L1_0 N_0
  have R1_0 := hidT (hr)
  have HX1 := hidT hl
  clear hr hl hw
  have lt := Rd.litAt w1 5 (2, 3) #[.int .u8 97, .int .u8 98] [97, 98] rfl 2 rfl (by simp only [maxLen]; omega) _ rfl
  have lb := nkeep w1 (.cells #[.int .u8 97, .int .u8 98] 5 (2, 3))
  obtain ⟨Lw1, hLw1⟩ : ∃ W, w1.alloc (.cells #[.int .u8 97, .int .u8 98] 5 (2, 3)) = W := ⟨_, rfl⟩
  rw [hLw1] at lt lb
  have HLw1 := hidT hLw1
  have B_3 := hidT (bthen B_2.out lb)
  have L1_2 := hidT (L1_1.out.below lb)
  have N_2 := hidT (N_1.out.below lb)
  have R1_1 := hidT (R1_0.out.below lb)
  clear B_2 L1_1 N_1 R1_0
  have L2_0 := hidT (lt)
  clear lt lb hLw1
  have hp := offer_any none 0 0 [] (some ⟨w1.heap.size, 0, none⟩) 2 2 [97, 98] 1 2 Lw1 N_2.out few_nil L2_0.out (by omega) (0) (rfl) ([[97, 98]]) (rfl)
  go_wp2_with fail
  rw [HLw1.out]
  with_reducible refine hp.mono ?_
  intro e w2 hG
  obtain ⟨A2, c2, x2, rfl, hr, hl, hw⟩ := OfferR.open_ hG.r 1 (rfl)
  clear hG hp
  have B_4 := hidT (bthen B_3.out hw)
  have L1_3 := hidT (L1_2.out.below hw)
  have N_3 := hidT (N_2.out.below hw)
  have R1_2 := hidT (R1_1.out.below hw)
  have L2_1 := hidT (L2_0.out.below hw)
  clear B_3 L1_2 N_2 R1_1 L2_0
  have R2_0 := hidT (hr)
  have HX2 := hidT hl
  clear hr hl hw
  have E_0 := hidT (Rd.nil_ w2)
  have hp := offer_any A2 1 c2 x2 none 0 0 [] 1 2 w2 R2_0.out (few_of R2_0.out (by omega) (by rw [HX2.out]; simp)) E_0.out (by omega) (4) (rfl) ([[97, 98]]) ((by rw [HX2.out]; rfl))
  go_wp2_with fail
  with_reducible refine hp.mono ?_
  intro e w3 hG
  obtain ⟨A3, c3, x3, rfl, hr, hl, hw⟩ := OfferR.open_ hG.r 1 (rfl)
  clear hG hp
  have B_5 := hidT (bthen B_4.out hw)
  have L1_4 := hidT (L1_3.out.below hw)
  have N_4 := hidT (N_3.out.below hw)
  have R1_3 := hidT (R1_2.out.below hw)
  have L2_2 := hidT (L2_1.out.below hw)
  have R2_1 := hidT (R2_0.out.below hw)
  have E_1 := hidT (E_0.out.below hw)
  clear B_4 L1_3 N_3 R1_2 L2_1 R2_0 E_0
  have R3_0 := hidT (hr)
  have HX3 := hidT hl
  clear hr hl hw
  have hp := (head_any A2 1 c2 x2 w3 R2_1.out (few_of R2_1.out (by omega) (by rw [HX2.out]; simp)) true (rfl)).1
  rw [hd_of HX2.out] at hp
  go_wp2_with fail
  with_reducible refine hp.mono ?_
  intro e w4 hG
  obtain ⟨A4, c4, rfl, hr, hw⟩ := HeadIs.open_ hG 2 (rfl)
  clear hG hp
  have B_6 := hidT (bthen B_5.out hw)
  have L1_5 := hidT (L1_4.out.below hw)
  have N_5 := hidT (N_4.out.below hw)
  have R1_4 := hidT (R1_3.out.below hw)
  have L2_3 := hidT (L2_2.out.below hw)
  have R2_2 := hidT (R2_1.out.below hw)
  have E_2 := hidT (E_1.out.below hw)
  have R3_1 := hidT (R3_0.out.below hw)
  clear B_5 L1_4 N_4 R1_3 L2_2 R2_1 E_1 R3_0
  have R4_0 := hidT (hr)
  clear hr hw
  have hp := (pop_any A2 1 c2 x2 w4 R2_2.out (few_of R2_2.out (by omega) (by rw [HX2.out]; simp)) true (rfl)).1
  rw [drop_of HX2.out] at hp
  go_wp2_with fail
  with_reducible refine hp.mono ?_
  intro e w5 hG
  obtain ⟨A5, c5, x5, rfl, hr, hl, hw⟩ := PopIs.open_ hG 0 (rfl)
  clear hG hp
  have B_7 := hidT (bthen B_6.out hw)
  have L1_6 := hidT (L1_5.out.below hw)
  have N_6 := hidT (N_5.out.below hw)
  have R1_5 := hidT (R1_4.out.below hw)
  have L2_4 := hidT (L2_3.out.below hw)
  have R2_3 := hidT (R2_2.out.below hw)
  have E_3 := hidT (E_2.out.below hw)
  have R3_2 := hidT (R3_1.out.below hw)
  have R4_1 := hidT (R4_0.out.below hw)
  clear B_6 L1_5 N_5 R1_4 L2_3 R2_2 E_2 R3_1 R4_0
  have R5_0 := hidT (hr)
  have HX5 := hidT hl
  clear hr hl hw
  have hp := (head_any A5 0 c5 x5 w5 R5_0.out (few_of R5_0.out (by omega) (by rw [HX5.out]; simp)) false (rfl)).1
  rw [hd_of HX5.out] at hp
  go_wp2_with fail
  with_reducible refine hp.mono ?_
  intro e w6 hG
  obtain ⟨A6, c6, rfl, hr, hw⟩ := HeadIs.open_ hG 0 (rfl)
  clear hG hp
  have B_8 := hidT (bthen B_7.out hw)
  have L1_7 := hidT (L1_6.out.below hw)
  have N_7 := hidT (N_6.out.below hw)
  have R1_6 := hidT (R1_5.out.below hw)
  have L2_5 := hidT (L2_4.out.below hw)
  have R2_4 := hidT (R2_3.out.below hw)
  have E_4 := hidT (E_3.out.below hw)
  have R3_3 := hidT (R3_2.out.below hw)
  have R4_2 := hidT (R4_1.out.below hw)
  have R5_1 := hidT (R5_0.out.below hw)
  clear B_7 L1_6 N_6 R1_5 L2_4 R2_3 E_3 R3_2 R4_1 R5_0
  have R6_0 := hidT (hr)
  clear hr hw
  have hp := (pop_any A5 0 c5 x5 w6 R5_1.out (few_of R5_1.out (by omega) (by rw [HX5.out]; simp)) false (rfl)).1
  rw [drop_of HX5.out] at hp
  go_wp2_with fail
  with_reducible refine hp.mono ?_
  intro e w7 hG
  obtain ⟨A7, c7, x7, rfl, hr, hl, hw⟩ := PopIs.open_ hG 0 (rfl)
  clear hG hp
  have B_9 := hidT (bthen B_8.out hw)
  have L1_8 := hidT (L1_7.out.below hw)
  have N_8 := hidT (N_7.out.below hw)
  have R1_7 := hidT (R1_6.out.below hw)
  have L2_6 := hidT (L2_5.out.below hw)
  have R2_5 := hidT (R2_4.out.below hw)
  have E_5 := hidT (E_4.out.below hw)
  have R3_4 := hidT (R3_3.out.below hw)
  have R4_3 := hidT (R4_2.out.below hw)
  have R5_2 := hidT (R5_1.out.below hw)
  have R6_1 := hidT (R6_0.out.below hw)
  clear B_8 L1_7 N_7 R1_6 L2_5 R2_4 E_4 R3_3 R4_2 R5_1 R6_0
  have R7_0 := hidT (hr)
  have HX7 := hidT hl
  clear hr hl hw
  have zz := sstr_list [97, 98]
  have st := strs R4_3.out w7 (Below.refl _ _)
  have hp := ssame_any A2 1 c2 x2 A2 1 c2 x2 w7 R2_5.out R2_5.out true (by simp)
  go_wp2_with fail
  with_reducible refine hp.mono ?_
  rintro e w9 ⟨rfl, hww⟩
  obtain rfl : w7 = w9 := hww.symm
  clear hp hww
  have hp := ssame_any A2 1 c2 x2 A5 0 c5 x5 w7 R2_5.out R5_2.out false (by rw [HX2.out, HX5.out]; rfl)
  go_wp2_with fail
  with_reducible refine hp.mono ?_
  rintro e w9 ⟨rfl, hww⟩
  obtain rfl : w7 = w9 := hww.symm
  clear hp hww
  go_wp2
  go_ret
  exact ⟨rfl, B_9.out⟩
end Go.Proofs.Ytileinmcnilajaa
