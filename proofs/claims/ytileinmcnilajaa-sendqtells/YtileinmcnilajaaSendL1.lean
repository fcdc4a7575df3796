/- The law SendqTells, walked. -/
import Derived.Test.YtileinmcnilajaaSendShown
set_option maxRecDepth 100000
namespace Go.Proofs.Ytileinmcnilajaa
open Go.RowKit
set_option linter.unusedVariables false

theorem cells5 {w : World} {g : Nat} {a0 a1 a2 a3 a4 : Value} {t : TypeId} (h : w.heap[g]? = some (.cells #[a0, a1, a2, a3, a4] t (0, 0))) : w.cell? ⟨g, 0, none⟩ = some a0 ∧ w.cell? ⟨g, 1, none⟩ = some a1 ∧ w.cell? ⟨g, 2, none⟩ = some a2 ∧ w.cell? ⟨g, 3, none⟩ = some a3 ∧ w.cell? ⟨g, 4, none⟩ = some a4 :=
  ⟨cell_at h 0 rfl, cell_at h 1 rfl, cell_at h 2 rfl, cell_at h 3 rfl, cell_at h 4 rfl⟩
set_option maxHeartbeats 4000000 in
theorem tells_a (A : Option Addr) (n c : Nat) (ra : List Bw) (B : Option Addr) (m d : Nat) (rb : List Bw) (D : Option Addr) (dn dc : Nat) (bl : List UInt8) (room most : Int) (w : World) (hq : RdB w A n c ra) (ho : RdB w B m d rb) (hb : Rd w D dn dc bl) (h1 : fewB ra 80 = false) : Calls Try.prog 3 #[.agg #[.slice A n c, .slice B m d, .slice D dn dc, .int .i64 room, .int .i64 most]] w (Yes w) := by
  obtain ⟨i0, i1, i2, i3, i4⟩ := cells5 (alloc_at w (.cells #[.slice A n c, .slice B m d, .slice D dn dc, .int .i64 room, .int .i64 most] 25) _ rfl)
  have t3 := nkeep w (.cells #[.slice A n c, .slice B m d, .slice D dn dc, .int .i64 room, .int .i64 most] 25)
  obtain ⟨W, hW⟩ : ∃ W, w.alloc (.cells #[.slice A n c, .slice B m d, .slice D dn dc, .int .i64 room, .int .i64 most] 25) = W := ⟨_, rfl⟩
  rw [hW] at t3
  have HW := hidT hW
  have Q_0 := hidT (hq)
  have O_0 := hidT (ho)
  have D_0 := hidT (hb)
  have B_0 := hidT (Below.refl w.heap.size w)
  have Q_1 := hidT (Q_0.out.below t3)
  have O_1 := hidT (O_0.out.below t3)
  have D_1 := hidT (D_0.out.below t3)
  have B_1 := hidT (bthen B_0.out t3)
  clear Q_0 O_0 D_0 B_0
  clear hq ho hb t3 hW
  go_enter Try.func3, Try.ntmps3
  have hp := sshown_any W
  go_wp2_with fail
  rw [HW.out]
  clear i0 i1 i2 i3 i4
  with_reducible refine hp.mono ?_
  rintro e w1 ⟨rfl, hw⟩
  have Q_2 := hidT (Q_1.out.below hw)
  have O_2 := hidT (O_1.out.below hw)
  have D_2 := hidT (D_1.out.below hw)
  have B_2 := hidT (bthen B_1.out hw)
  clear Q_1 O_1 D_1 B_1
  clear hp hw
  have hp := rfew_any A n c ra 80 w1 Q_2.out (by omega) false h1
  rw [show ((80 : Nat) : Int) = 80 from rfl] at hp
  go_wp2_with fail
  with_reducible refine hp.mono ?_
  rintro e w9 ⟨rfl, hww⟩
  obtain rfl : w1 = w9 := hww.symm
  clear hp hww
  go_wp2
  go_ret
  exact ⟨rfl, B_2.out⟩
set_option maxHeartbeats 4000000 in
theorem tells_b (A : Option Addr) (n c : Nat) (ra : List Bw) (B : Option Addr) (m d : Nat) (rb : List Bw) (D : Option Addr) (dn dc : Nat) (bl : List UInt8) (room most : Int) (w : World) (hq : RdB w A n c ra) (ho : RdB w B m d rb) (hb : Rd w D dn dc bl) (h1 : fewB ra 80 = true) (h2 : fewB rb 80 = false) : Calls Try.prog 3 #[.agg #[.slice A n c, .slice B m d, .slice D dn dc, .int .i64 room, .int .i64 most]] w (Yes w) := by
  obtain ⟨i0, i1, i2, i3, i4⟩ := cells5 (alloc_at w (.cells #[.slice A n c, .slice B m d, .slice D dn dc, .int .i64 room, .int .i64 most] 25) _ rfl)
  have t3 := nkeep w (.cells #[.slice A n c, .slice B m d, .slice D dn dc, .int .i64 room, .int .i64 most] 25)
  obtain ⟨W, hW⟩ : ∃ W, w.alloc (.cells #[.slice A n c, .slice B m d, .slice D dn dc, .int .i64 room, .int .i64 most] 25) = W := ⟨_, rfl⟩
  rw [hW] at t3
  have HW := hidT hW
  have Q_0 := hidT (hq)
  have O_0 := hidT (ho)
  have D_0 := hidT (hb)
  have B_0 := hidT (Below.refl w.heap.size w)
  have Q_1 := hidT (Q_0.out.below t3)
  have O_1 := hidT (O_0.out.below t3)
  have D_1 := hidT (D_0.out.below t3)
  have B_1 := hidT (bthen B_0.out t3)
  clear Q_0 O_0 D_0 B_0
  clear hq ho hb t3 hW
  go_enter Try.func3, Try.ntmps3
  have hp := sshown_any W
  go_wp2_with fail
  rw [HW.out]
  clear i0 i1 i2 i3 i4
  with_reducible refine hp.mono ?_
  rintro e w1 ⟨rfl, hw⟩
  have Q_2 := hidT (Q_1.out.below hw)
  have O_2 := hidT (O_1.out.below hw)
  have D_2 := hidT (D_1.out.below hw)
  have B_2 := hidT (bthen B_1.out hw)
  clear Q_1 O_1 D_1 B_1
  clear hp hw
  have hp := rfew_any A n c ra 80 w1 Q_2.out (by omega) true h1
  rw [show ((80 : Nat) : Int) = 80 from rfl] at hp
  go_wp2_with fail
  with_reducible refine hp.mono ?_
  rintro e w9 ⟨rfl, hww⟩
  obtain rfl : w1 = w9 := hww.symm
  clear hp hww
  have hp := rfew_any B m d rb 80 w1 O_2.out (by omega) false h2
  rw [show ((80 : Nat) : Int) = 80 from rfl] at hp
  go_wp2_with fail
  with_reducible refine hp.mono ?_
  rintro e w9 ⟨rfl, hww⟩
  obtain rfl : w1 = w9 := hww.symm
  clear hp hww
  go_wp2
  go_ret
  exact ⟨rfl, B_2.out⟩
set_option maxHeartbeats 4000000 in
theorem tells_c (A : Option Addr) (n c : Nat) (ra : List Bw) (B : Option Addr) (m d : Nat) (rb : List Bw) (D : Option Addr) (dn dc : Nat) (bl : List UInt8) (room most : Int) (w : World) (hq : RdB w A n c ra) (ho : RdB w B m d rb) (hb : Rd w D dn dc bl) (h1 : fewB ra 80 = true) (h2 : fewB rb 80 = true) (h3 : 2000 < dn) : Calls Try.prog 3 #[.agg #[.slice A n c, .slice B m d, .slice D dn dc, .int .i64 room, .int .i64 most]] w (Yes w) := by
  have q1 : decide ((2000 : Int) < (dn : Int)) = true := by simp; omega
  have q2 : decide (2000 < dn) = true := by simp; omega
  clear h3
  obtain ⟨i0, i1, i2, i3, i4⟩ := cells5 (alloc_at w (.cells #[.slice A n c, .slice B m d, .slice D dn dc, .int .i64 room, .int .i64 most] 25) _ rfl)
  have t3 := nkeep w (.cells #[.slice A n c, .slice B m d, .slice D dn dc, .int .i64 room, .int .i64 most] 25)
  obtain ⟨W, hW⟩ : ∃ W, w.alloc (.cells #[.slice A n c, .slice B m d, .slice D dn dc, .int .i64 room, .int .i64 most] 25) = W := ⟨_, rfl⟩
  rw [hW] at t3
  have HW := hidT hW
  have Q_0 := hidT (hq)
  have O_0 := hidT (ho)
  have D_0 := hidT (hb)
  have B_0 := hidT (Below.refl w.heap.size w)
  have Q_1 := hidT (Q_0.out.below t3)
  have O_1 := hidT (O_0.out.below t3)
  have D_1 := hidT (D_0.out.below t3)
  have B_1 := hidT (bthen B_0.out t3)
  clear Q_0 O_0 D_0 B_0
  clear hq ho hb t3 hW
  go_enter Try.func3, Try.ntmps3
  have hp := sshown_any W
  go_wp2_with fail
  rw [HW.out]
  clear i0 i1 i2 i3 i4
  with_reducible refine hp.mono ?_
  rintro e w1 ⟨rfl, hw⟩
  have Q_2 := hidT (Q_1.out.below hw)
  have O_2 := hidT (O_1.out.below hw)
  have D_2 := hidT (D_1.out.below hw)
  have B_2 := hidT (bthen B_1.out hw)
  clear Q_1 O_1 D_1 B_1
  clear hp hw
  have hp := rfew_any A n c ra 80 w1 Q_2.out (by omega) true h1
  rw [show ((80 : Nat) : Int) = 80 from rfl] at hp
  go_wp2_with fail
  with_reducible refine hp.mono ?_
  rintro e w9 ⟨rfl, hww⟩
  obtain rfl : w1 = w9 := hww.symm
  clear hp hww
  have hp := rfew_any B m d rb 80 w1 O_2.out (by omega) true h2
  rw [show ((80 : Nat) : Int) = 80 from rfl] at hp
  go_wp2_with fail
  with_reducible refine hp.mono ?_
  rintro e w9 ⟨rfl, hww⟩
  obtain rfl : w1 = w9 := hww.symm
  clear hp hww
  go_wp2
  go_ret
  exact ⟨rfl, B_2.out⟩
set_option maxHeartbeats 4000000 in
theorem tells_d (A : Option Addr) (n c : Nat) (ra : List Bw) (B : Option Addr) (m d : Nat) (rb : List Bw) (D : Option Addr) (dn dc : Nat) (bl : List UInt8) (room most : Int) (w : World) (hq : RdB w A n c ra) (ho : RdB w B m d rb) (hb : Rd w D dn dc bl) (h1 : fewB ra 80 = true) (h2 : fewB rb 80 = true) (h3 : dn ≤ 2000) : Calls Try.prog 3 #[.agg #[.slice A n c, .slice B m d, .slice D dn dc, .int .i64 room, .int .i64 most]] w (Yes w) := by
  have q1 : decide ((2000 : Int) < (dn : Int)) = false := by simp; omega
  have q2 : decide (2000 < dn) = false := by simp; omega
  have HF : Hid (Few ra) := hidT (fewB_few h1 (by omega))
  have hd6 : dn ≤ 65536 := by omega
  obtain ⟨k, HK⟩ : ∃ k, Hid (offC n dn room most = k) := ⟨_, hidT rfl⟩
  obtain ⟨ls, HLS⟩ : ∃ ls, Hid (offL (ra.map Bw.b) bl k = ls) := ⟨_, hidT rfl⟩
  obtain ⟨N, HN⟩ : ∃ N, Hid (ls.length = N) := ⟨_, hidT rfl⟩
  obtain ⟨t, HT⟩ : ∃ t, Hid (decide (0 < n) = t) := ⟨_, hidT rfl⟩
  obtain ⟨H, HH⟩ : ∃ H, Hid (hd ra = H) := ⟨_, hidT rfl⟩
  obtain ⟨M, HM⟩ : ∃ M, Hid (H.length = M) := ⟨_, hidT rfl⟩
  obtain ⟨ps, HP⟩ : ∃ ps, Hid ((ra.drop 1).map Bw.b = ps) := ⟨_, hidT rfl⟩
  obtain ⟨K, HKN⟩ : ∃ K, Hid (ps.length = K) := ⟨_, hidT rfl⟩
  obtain ⟨s, HS⟩ : ∃ s, Hid (decide (ra.map Bw.b = rb.map Bw.b) = s) := ⟨_, hidT rfl⟩
  obtain ⟨i0, i1, i2, i3, i4⟩ := cells5 (alloc_at w (.cells #[.slice A n c, .slice B m d, .slice D dn dc, .int .i64 room, .int .i64 most] 25) _ rfl)
  have t3 := nkeep w (.cells #[.slice A n c, .slice B m d, .slice D dn dc, .int .i64 room, .int .i64 most] 25)
  obtain ⟨W, hW⟩ : ∃ W, w.alloc (.cells #[.slice A n c, .slice B m d, .slice D dn dc, .int .i64 room, .int .i64 most] 25) = W := ⟨_, rfl⟩
  rw [hW] at t3
  have HW := hidT hW
  have Q_0 := hidT (hq)
  have O_0 := hidT (ho)
  have D_0 := hidT (hb)
  have B_0 := hidT (Below.refl w.heap.size w)
  have Q_1 := hidT (Q_0.out.below t3)
  have O_1 := hidT (O_0.out.below t3)
  have D_1 := hidT (D_0.out.below t3)
  have B_1 := hidT (bthen B_0.out t3)
  clear Q_0 O_0 D_0 B_0
  clear hq ho hb t3 hW
  go_enter Try.func3, Try.ntmps3
  have hp := sshown_any W
  go_wp2_with fail
  rw [HW.out]
  clear i0 i1 i2 i3 i4
  with_reducible refine hp.mono ?_
  rintro e w1 ⟨rfl, hw⟩
  have Q_2 := hidT (Q_1.out.below hw)
  have O_2 := hidT (O_1.out.below hw)
  have D_2 := hidT (D_1.out.below hw)
  have B_2 := hidT (bthen B_1.out hw)
  clear Q_1 O_1 D_1 B_1
  clear hp hw
  have hp := rfew_any A n c ra 80 w1 Q_2.out (by omega) true h1
  rw [show ((80 : Nat) : Int) = 80 from rfl] at hp
  go_wp2_with fail
  with_reducible refine hp.mono ?_
  rintro e w9 ⟨rfl, hww⟩
  obtain rfl : w1 = w9 := hww.symm
  clear hp hww
  have hp := rfew_any B m d rb 80 w1 O_2.out (by omega) true h2
  rw [show ((80 : Nat) : Int) = 80 from rfl] at hp
  go_wp2_with fail
  with_reducible refine hp.mono ?_
  rintro e w9 ⟨rfl, hww⟩
  obtain rfl : w1 = w9 := hww.symm
  clear hp hww
  clear h1 h2 h3
  have hp := offer_any A n c ra D dn dc bl room most w1 Q_2.out HF.out D_2.out hd6 (k) (HK.out) (ls) (HLS.out)
  go_wp2_with fail
  with_reducible refine hp.mono ?_
  intro e w2 hG
  obtain ⟨A1, c1, x1, rfl, hr, hl, hw⟩ := OfferR.open_ hG.r N (HN.out)
  clear hG hp
  have Q_3 := hidT (Q_2.out.below hw)
  have O_3 := hidT (O_2.out.below hw)
  have D_3 := hidT (D_2.out.below hw)
  have B_3 := hidT (bthen B_2.out hw)
  clear Q_2 O_2 D_2 B_2
  have R1_0 := hidT (hr)
  have HX1 := hidT hl
  clear hr hl hw
  have hp := roffer_any A n c ra D dn dc bl room most w2 Q_3.out HF.out D_3.out hd6 (k) (HK.out) (ls) (HLS.out)
  go_wp2_with fail
  with_reducible refine hp.mono ?_
  intro e w3 hG
  obtain ⟨A2, c2, x2, rfl, hr, hl, hw⟩ := OfferR.open_ hG N (HN.out)
  clear hG hp
  have Q_4 := hidT (Q_3.out.below hw)
  have O_4 := hidT (O_3.out.below hw)
  have D_4 := hidT (D_3.out.below hw)
  have B_4 := hidT (bthen B_3.out hw)
  have R1_1 := hidT (R1_0.out.below hw)
  clear Q_3 O_3 D_3 B_3 R1_0
  have R2_0 := hidT (hr)
  have HX2 := hidT hl
  clear hr hl hw
  have hp := (head_any A n c ra w3 Q_4.out HF.out t (HT.out)).1
  rw [HH.out] at hp
  go_wp2_with fail
  with_reducible refine hp.mono ?_
  intro e w4 hG
  obtain ⟨A3, c3, rfl, hr, hw⟩ := HeadIs.open_ hG M (HM.out)
  clear hG hp
  have Q_5 := hidT (Q_4.out.below hw)
  have O_5 := hidT (O_4.out.below hw)
  have D_5 := hidT (D_4.out.below hw)
  have B_5 := hidT (bthen B_4.out hw)
  have R1_2 := hidT (R1_1.out.below hw)
  have R2_1 := hidT (R2_0.out.below hw)
  clear Q_4 O_4 D_4 B_4 R1_1 R2_0
  have R3_0 := hidT (hr)
  clear hr hw
  have hp := (head_any A n c ra w4 Q_5.out HF.out t (HT.out)).2
  rw [HH.out] at hp
  go_wp2_with fail
  with_reducible refine hp.mono ?_
  intro e w5 hG
  obtain ⟨A4, c4, rfl, hr, hw⟩ := HeadIs.open_ hG M (HM.out)
  clear hG hp
  have Q_6 := hidT (Q_5.out.below hw)
  have O_6 := hidT (O_5.out.below hw)
  have D_6 := hidT (D_5.out.below hw)
  have B_6 := hidT (bthen B_5.out hw)
  have R1_3 := hidT (R1_2.out.below hw)
  have R2_2 := hidT (R2_1.out.below hw)
  have R3_1 := hidT (R3_0.out.below hw)
  clear Q_5 O_5 D_5 B_5 R1_2 R2_1 R3_0
  have R4_0 := hidT (hr)
  clear hr hw
  have hp := (pop_any A n c ra w5 Q_6.out HF.out t (HT.out)).1
  rw [HP.out] at hp
  go_wp2_with fail
  with_reducible refine hp.mono ?_
  intro e w6 hG
  obtain ⟨A5, c5, x5, rfl, hr, hl, hw⟩ := PopIs.open_ hG K (HKN.out)
  clear hG hp
  have Q_7 := hidT (Q_6.out.below hw)
  have O_7 := hidT (O_6.out.below hw)
  have D_7 := hidT (D_6.out.below hw)
  have B_7 := hidT (bthen B_6.out hw)
  have R1_4 := hidT (R1_3.out.below hw)
  have R2_3 := hidT (R2_2.out.below hw)
  have R3_2 := hidT (R3_1.out.below hw)
  have R4_1 := hidT (R4_0.out.below hw)
  clear Q_6 O_6 D_6 B_6 R1_3 R2_2 R3_1 R4_0
  have R5_0 := hidT (hr)
  have HX5 := hidT hl
  clear hr hl hw
  have hp := (pop_any A n c ra w6 Q_7.out HF.out t (HT.out)).2
  rw [HP.out] at hp
  go_wp2_with fail
  with_reducible refine hp.mono ?_
  intro e w7 hG
  obtain ⟨A6, c6, x6, rfl, hr, hl, hw⟩ := PopIs.open_ hG K (HKN.out)
  clear hG hp
  have Q_8 := hidT (Q_7.out.below hw)
  have O_8 := hidT (O_7.out.below hw)
  have D_8 := hidT (D_7.out.below hw)
  have B_8 := hidT (bthen B_7.out hw)
  have R1_5 := hidT (R1_4.out.below hw)
  have R2_4 := hidT (R2_3.out.below hw)
  have R3_3 := hidT (R3_2.out.below hw)
  have R4_2 := hidT (R4_1.out.below hw)
  have R5_1 := hidT (R5_0.out.below hw)
  clear Q_7 O_7 D_7 B_7 R1_4 R2_3 R3_2 R4_1 R5_0
  have R6_0 := hidT (hr)
  have HX6 := hidT hl
  clear hr hl hw
  have hp := ssame_any A n c ra B m d rb w7 Q_8.out O_8.out s (HS.out)
  go_wp2_with fail
  with_reducible refine hp.mono ?_
  rintro e w9 ⟨rfl, hww⟩
  obtain rfl : w7 = w9 := hww.symm
  clear hp hww
  have hp := rssame_any A n c ra B m d rb w7 Q_8.out O_8.out s (HS.out)
  go_wp2_with fail
  with_reducible refine hp.mono ?_
  rintro e w8 ⟨rfl, hw⟩
  have Q_9 := hidT (Q_8.out.below hw)
  have O_9 := hidT (O_8.out.below hw)
  have D_9 := hidT (D_8.out.below hw)
  have B_9 := hidT (bthen B_8.out hw)
  have R1_6 := hidT (R1_5.out.below hw)
  have R2_5 := hidT (R2_4.out.below hw)
  have R3_4 := hidT (R3_3.out.below hw)
  have R4_3 := hidT (R4_2.out.below hw)
  have R5_2 := hidT (R5_1.out.below hw)
  have R6_1 := hidT (R6_0.out.below hw)
  clear Q_8 O_8 D_8 B_8 R1_5 R2_4 R3_3 R4_2 R5_1 R6_0
  clear hp hw
  have hp := rssame_any A1 N c1 x1 A2 N c2 x2 w8 R1_6.out R2_5.out true (by rw [HX1.out, HX2.out]; simp)
  go_wp2_with fail
  with_reducible refine hp.mono ?_
  rintro e w10 ⟨rfl, hw⟩
  have Q_10 := hidT (Q_9.out.below hw)
  have O_10 := hidT (O_9.out.below hw)
  have D_10 := hidT (D_9.out.below hw)
  have B_10 := hidT (bthen B_9.out hw)
  have R1_7 := hidT (R1_6.out.below hw)
  have R2_6 := hidT (R2_5.out.below hw)
  have R3_5 := hidT (R3_4.out.below hw)
  have R4_4 := hidT (R4_3.out.below hw)
  have R5_3 := hidT (R5_2.out.below hw)
  have R6_2 := hidT (R6_1.out.below hw)
  clear Q_9 O_9 D_9 B_9 R1_6 R2_5 R3_4 R4_3 R5_2 R6_1
  clear hp hw
  have st1 := strs R3_5.out w10 (Below.refl _ _)
  have st2 := strs R4_4.out w10 (Below.refl _ _)
  have hp := rssame_any A5 K c5 x5 A6 K c6 x6 w10 R5_3.out R6_2.out true (by rw [HX5.out, HX6.out]; simp)
  go_wp2_with fail
  with_reducible refine hp.mono ?_
  rintro e w11 ⟨rfl, hw⟩
  have Q_11 := hidT (Q_10.out.below hw)
  have O_11 := hidT (O_10.out.below hw)
  have D_11 := hidT (D_10.out.below hw)
  have B_11 := hidT (bthen B_10.out hw)
  have R1_8 := hidT (R1_7.out.below hw)
  have R2_7 := hidT (R2_6.out.below hw)
  have R3_6 := hidT (R3_5.out.below hw)
  have R4_5 := hidT (R4_4.out.below hw)
  have R5_4 := hidT (R5_3.out.below hw)
  have R6_3 := hidT (R6_2.out.below hw)
  clear Q_10 O_10 D_10 B_10 R1_7 R2_6 R3_5 R4_4 R5_3 R6_2
  clear hp hw
  go_wp2
  go_ret
  exact ⟨rfl, B_11.out⟩
theorem stells_any (A : Option Addr) (n c : Nat) (ra : List Bw) (B : Option Addr) (m d : Nat) (rb : List Bw) (D : Option Addr) (dn dc : Nat) (bl : List UInt8) (room most : Int) (w : World) (hq : RdB w A n c ra) (ho : RdB w B m d rb) (hb : Rd w D dn dc bl) : Calls Try.prog 3 #[.agg #[.slice A n c, .slice B m d, .slice D dn dc, .int .i64 room, .int .i64 most]] w (Yes w) := by
  cases h1 : fewB ra 80 with
  | false => exact tells_a A n c ra B m d rb D dn dc bl room most w hq ho hb h1
  | true =>
    cases h2 : fewB rb 80 with
    | false => exact tells_b A n c ra B m d rb D dn dc bl room most w hq ho hb h1 h2
    | true =>
      by_cases h3 : 2000 < dn
      · exact tells_c A n c ra B m d rb D dn dc bl room most w hq ho hb h1 h2 h3
      · exact tells_d A n c ra B m d rb D dn dc bl room most w hq ho hb h1 h2 (by omega)
end Go.Proofs.Ytileinmcnilajaa
