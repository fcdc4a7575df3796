/- The law SendqKeeps, walked. -/
import Derived.Test.YtileinmcnilajaaSendShown
set_option maxRecDepth 100000
namespace Go.Proofs.Ytileinmcnilajaa
open Go.RowKit
set_option linter.unusedVariables false

theorem cells4 {w : World} {g : Nat} {a0 a1 a2 a3 : Value} {t : TypeId} (h : w.heap[g]? = some (.cells #[a0, a1, a2, a3] t (0, 0))) : w.cell? ⟨g, 0, none⟩ = some a0 ∧ w.cell? ⟨g, 1, none⟩ = some a1 ∧ w.cell? ⟨g, 2, none⟩ = some a2 ∧ w.cell? ⟨g, 3, none⟩ = some a3 :=
  ⟨cell_at h 0 rfl, cell_at h 1 rfl, cell_at h 2 rfl, cell_at h 3 rfl⟩
set_option maxHeartbeats 4000000 in
theorem keeps_a (A : Option Addr) (n c : Nat) (ra : List Bw) (D : Option Addr) (dn dc : Nat) (bl : List UInt8) (room most : Int) (w : World) (hq : RdB w A n c ra) (hb : Rd w D dn dc bl) (h1 : fewB ra 80 = false) : Calls Try.prog 5 #[.agg #[.slice A n c, .slice D dn dc, .int .i64 room, .int .i64 most]] w (Yes w) := by
  obtain ⟨i0, i1, i2, i3⟩ := cells4 (alloc_at w (.cells #[.slice A n c, .slice D dn dc, .int .i64 room, .int .i64 most] 44) _ rfl)
  have t3 := nkeep w (.cells #[.slice A n c, .slice D dn dc, .int .i64 room, .int .i64 most] 44)
  obtain ⟨W, hW⟩ : ∃ W, w.alloc (.cells #[.slice A n c, .slice D dn dc, .int .i64 room, .int .i64 most] 44) = W := ⟨_, rfl⟩
  rw [hW] at t3
  have HW := hidT hW
  have Q_0 := hidT (hq)
  have D_0 := hidT (hb)
  have B_0 := hidT (Below.refl w.heap.size w)
  have Q_1 := hidT (Q_0.out.below t3)
  have D_1 := hidT (D_0.out.below t3)
  have B_1 := hidT (bthen B_0.out t3)
  clear Q_0 D_0 B_0
  clear hq hb t3 hW
  go_enter Try.func5, Try.ntmps5
  have hp := sshown_any W
  go_wp2_with fail
  rw [HW.out]
  clear i0 i1 i2 i3
  with_reducible refine hp.mono ?_
  rintro e w1 ⟨rfl, hw⟩
  have Q_2 := hidT (Q_1.out.below hw)
  have D_2 := hidT (D_1.out.below hw)
  have B_2 := hidT (bthen B_1.out hw)
  clear Q_1 D_1 B_1
  clear hp hw
  have hp := rfew_any A n c ra 80 w1 Q_2.out (by omega) false h1
  rw [show ((80 : Nat) : Int) = 80 from rfl] at hp
  go_wp2_with fail
  with_reducible refine hp.mono ?_
  rintro e w9 ⟨rfl, hww⟩
  obtain rfl : w1 = w9 := hww.symm
  clear hp hww
  go_wp2
  go_ret
  exact ⟨rfl, B_2.out⟩
set_option maxHeartbeats 4000000 in
theorem keeps_b (A : Option Addr) (n c : Nat) (ra : List Bw) (D : Option Addr) (dn dc : Nat) (bl : List UInt8) (room most : Int) (w : World) (hq : RdB w A n c ra) (hb : Rd w D dn dc bl) (h1 : fewB ra 80 = true) (h3 : 2000 < dn) : Calls Try.prog 5 #[.agg #[.slice A n c, .slice D dn dc, .int .i64 room, .int .i64 most]] w (Yes w) := by
  have q1 : decide ((2000 : Int) < (dn : Int)) = true := by simp; omega
  have q2 : decide (2000 < dn) = true := by simp; omega
  clear h3
  obtain ⟨i0, i1, i2, i3⟩ := cells4 (alloc_at w (.cells #[.slice A n c, .slice D dn dc, .int .i64 room, .int .i64 most] 44) _ rfl)
  have t3 := nkeep w (.cells #[.slice A n c, .slice D dn dc, .int .i64 room, .int .i64 most] 44)
  obtain ⟨W, hW⟩ : ∃ W, w.alloc (.cells #[.slice A n c, .slice D dn dc, .int .i64 room, .int .i64 most] 44) = W := ⟨_, rfl⟩
  rw [hW] at t3
  have HW := hidT hW
  have Q_0 := hidT (hq)
  have D_0 := hidT (hb)
  have B_0 := hidT (Below.refl w.heap.size w)
  have Q_1 := hidT (Q_0.out.below t3)
  have D_1 := hidT (D_0.out.below t3)
  have B_1 := hidT (bthen B_0.out t3)
  clear Q_0 D_0 B_0
  clear hq hb t3 hW
  go_enter Try.func5, Try.ntmps5
  have hp := sshown_any W
  go_wp2_with fail
  rw [HW.out]
  clear i0 i1 i2 i3
  with_reducible refine hp.mono ?_
  rintro e w1 ⟨rfl, hw⟩
  have Q_2 := hidT (Q_1.out.below hw)
  have D_2 := hidT (D_1.out.below hw)
  have B_2 := hidT (bthen B_1.out hw)
  clear Q_1 D_1 B_1
  clear hp hw
  have hp := rfew_any A n c ra 80 w1 Q_2.out (by omega) true h1
  rw [show ((80 : Nat) : Int) = 80 from rfl] at hp
  go_wp2_with fail
  with_reducible refine hp.mono ?_
  rintro e w9 ⟨rfl, hww⟩
  obtain rfl : w1 = w9 := hww.symm
  clear hp hww
  go_wp2
  go_ret
  exact ⟨rfl, B_2.out⟩
set_option maxHeartbeats 4000000 in
theorem keeps_c (A : Option Addr) (n c : Nat) (ra : List Bw) (D : Option Addr) (dn dc : Nat) (bl : List UInt8) (room most : Int) (w : World) (hq : RdB w A n c ra) (hb : Rd w D dn dc bl) (h1 : fewB ra 80 = true) (h3 : dn ≤ 2000) (k : Int) (hk : offC n dn room most = k) (hk0 : k ≠ 0) : Calls Try.prog 5 #[.agg #[.slice A n c, .slice D dn dc, .int .i64 room, .int .i64 most]] w (Yes w) := by
  have q1 : decide ((2000 : Int) < (dn : Int)) = false := by simp; omega
  have q2 : decide (2000 < dn) = false := by simp; omega
  have HF : Hid (Few ra) := hidT (fewB_few h1 (by omega))
  have hd6 : dn ≤ 65536 := by omega
  have q3 : (k == 0) = false := by simpa using hk0
  have q4 : (k != 0) = true := by simpa using hk0
  have q5 : decide (k = 0) = false := by simpa using hk0
  have HK := hidT hk
  have HLS : Hid (offL (ra.map Bw.b) bl k = ra.map Bw.b) := hidT (if_neg hk0)
  clear hk hk0
  have HN : Hid ((ra.map Bw.b).length = n) := hidT (by rw [List.length_map]; exact hq.size)
  obtain ⟨i0, i1, i2, i3⟩ := cells4 (alloc_at w (.cells #[.slice A n c, .slice D dn dc, .int .i64 room, .int .i64 most] 44) _ rfl)
  have t3 := nkeep w (.cells #[.slice A n c, .slice D dn dc, .int .i64 room, .int .i64 most] 44)
  obtain ⟨W, hW⟩ : ∃ W, w.alloc (.cells #[.slice A n c, .slice D dn dc, .int .i64 room, .int .i64 most] 44) = W := ⟨_, rfl⟩
  rw [hW] at t3
  have HW := hidT hW
  have Q_0 := hidT (hq)
  have D_0 := hidT (hb)
  have B_0 := hidT (Below.refl w.heap.size w)
  have Q_1 := hidT (Q_0.out.below t3)
  have D_1 := hidT (D_0.out.below t3)
  have B_1 := hidT (bthen B_0.out t3)
  clear Q_0 D_0 B_0
  clear hq hb t3 hW
  go_enter Try.func5, Try.ntmps5
  have hp := sshown_any W
  go_wp2_with fail
  rw [HW.out]
  clear i0 i1 i2 i3
  with_reducible refine hp.mono ?_
  rintro e w1 ⟨rfl, hw⟩
  have Q_2 := hidT (Q_1.out.below hw)
  have D_2 := hidT (D_1.out.below hw)
  have B_2 := hidT (bthen B_1.out hw)
  clear Q_1 D_1 B_1
  clear hp hw
  have hp := rfew_any A n c ra 80 w1 Q_2.out (by omega) true h1
  rw [show ((80 : Nat) : Int) = 80 from rfl] at hp
  go_wp2_with fail
  with_reducible refine hp.mono ?_
  rintro e w9 ⟨rfl, hww⟩
  obtain rfl : w1 = w9 := hww.symm
  clear hp hww
  clear h1 h3
  have hp := offer_any A n c ra D dn dc bl room most w1 Q_2.out HF.out D_2.out hd6 (k) (HK.out) (ra.map Bw.b) (HLS.out)
  go_wp2_with fail
  with_reducible refine hp.mono ?_
  intro e w2 hG
  obtain ⟨A1, c1, x1, rfl, hr, hl, hw⟩ := OfferR.open_ hG.r (n) (HN.out)
  clear hG hp
  have Q_3 := hidT (Q_2.out.below hw)
  have D_3 := hidT (D_2.out.below hw)
  have B_3 := hidT (bthen B_2.out hw)
  clear Q_2 D_2 B_2
  have R1_0 := hidT (hr)
  have HX1 := hidT hl
  clear hr hl hw
  have hp := rssame_any A1 n c1 x1 A n c ra w2 R1_0.out Q_3.out true (by rw [HX1.out]; simp)
  go_wp2_with fail
  with_reducible refine hp.mono ?_
  rintro e w3 ⟨rfl, hw⟩
  have Q_4 := hidT (Q_3.out.below hw)
  have D_4 := hidT (D_3.out.below hw)
  have B_4 := hidT (bthen B_3.out hw)
  have R1_1 := hidT (R1_0.out.below hw)
  clear Q_3 D_3 B_3 R1_0
  clear hp hw
  go_wp2
  go_ret
  exact ⟨rfl, B_4.out⟩
set_option maxHeartbeats 4000000 in
theorem keeps_d (A : Option Addr) (n c : Nat) (ra : List Bw) (D : Option Addr) (dn dc : Nat) (bl : List UInt8) (room most : Int) (w : World) (hq : RdB w A n c ra) (hb : Rd w D dn dc bl) (h1 : fewB ra 80 = true) (h3 : dn ≤ 2000) (hk : offC n dn room most = 0) : Calls Try.prog 5 #[.agg #[.slice A n c, .slice D dn dc, .int .i64 room, .int .i64 most]] w (Yes w) := by
  have q1 : decide ((2000 : Int) < (dn : Int)) = false := by simp; omega
  have q2 : decide (2000 < dn) = false := by simp; omega
  have HF : Hid (Few ra) := hidT (fewB_few h1 (by omega))
  have hd6 : dn ≤ 65536 := by omega
  have HK := hidT hk
  have HLS : Hid (offL (ra.map Bw.b) bl 0 = ra.map Bw.b ++ [bl]) := hidT (if_pos rfl)
  clear hk
  have HN : Hid ((ra.map Bw.b ++ [bl]).length = n + 1) := hidT (by rw [List.length_append, List.length_map, hq.size]; rfl)
  have hn80 : n ≤ 80 := by
    unfold fewB at h1
    rw [decide_eq_true_eq] at h1
    have := hq.size
    omega
  have HFX : Hid (∀ l ∈ ra.map Bw.b ++ [bl], l.length ≤ 4000) := by
    refine hidT fun l hl => ?_
    rcases List.mem_append.1 hl with hl | hl
    · obtain ⟨r, hr, rfl⟩ := List.mem_map.1 hl
      rw [hq.long hr]
      exact HF.out.2 r hr
    · rw [List.mem_singleton] at hl
      subst hl
      have := hb.1
      omega
  have HSZ := hidT hq.size
  obtain ⟨i0, i1, i2, i3⟩ := cells4 (alloc_at w (.cells #[.slice A n c, .slice D dn dc, .int .i64 room, .int .i64 most] 44) _ rfl)
  have t3 := nkeep w (.cells #[.slice A n c, .slice D dn dc, .int .i64 room, .int .i64 most] 44)
  obtain ⟨W, hW⟩ : ∃ W, w.alloc (.cells #[.slice A n c, .slice D dn dc, .int .i64 room, .int .i64 most] 44) = W := ⟨_, rfl⟩
  rw [hW] at t3
  have HW := hidT hW
  have Q_0 := hidT (hq)
  have D_0 := hidT (hb)
  have B_0 := hidT (Below.refl w.heap.size w)
  have Q_1 := hidT (Q_0.out.below t3)
  have D_1 := hidT (D_0.out.below t3)
  have B_1 := hidT (bthen B_0.out t3)
  clear Q_0 D_0 B_0
  clear hq hb t3 hW
  go_enter Try.func5, Try.ntmps5
  have hp := sshown_any W
  go_wp2_with fail
  rw [HW.out]
  clear i0 i1 i2 i3
  with_reducible refine hp.mono ?_
  rintro e w1 ⟨rfl, hw⟩
  have Q_2 := hidT (Q_1.out.below hw)
  have D_2 := hidT (D_1.out.below hw)
  have B_2 := hidT (bthen B_1.out hw)
  clear Q_1 D_1 B_1
  clear hp hw
  have hp := rfew_any A n c ra 80 w1 Q_2.out (by omega) true h1
  rw [show ((80 : Nat) : Int) = 80 from rfl] at hp
  go_wp2_with fail
  with_reducible refine hp.mono ?_
  rintro e w9 ⟨rfl, hww⟩
  obtain rfl : w1 = w9 := hww.symm
  clear hp hww
  clear h1 h3
  have hp := offer_any A n c ra D dn dc bl room most w1 Q_2.out HF.out D_2.out hd6 (0) (HK.out) (ra.map Bw.b ++ [bl]) (HLS.out)
  go_wp2_with fail
  with_reducible refine hp.mono ?_
  intro e w2 hG
  obtain ⟨A1, c1, x1, rfl, hr, hl, hw⟩ := OfferR.open_ hG.r (n + 1) (HN.out)
  clear hG hp
  have Q_3 := hidT (Q_2.out.below hw)
  have D_3 := hidT (D_2.out.below hw)
  have B_3 := hidT (bthen B_2.out hw)
  clear Q_2 D_2 B_2
  have R1_0 := hidT (hr)
  have HX1 := hidT hl
  clear hr hl hw
  obtain ⟨g, o, r, rfl, hx, hr, hc⟩ := RdB.at_ (k := n) R1_0.out (by omega)
  have hrb : r.b = bl := by
    have h2 : (x1.map Bw.b)[n]? = some r.b := by rw [List.getElem?_map, hx]; rfl
    rw [HX1.out, List.getElem?_append_right (by rw [List.length_map, HSZ.out]; exact Nat.le_refl _), List.length_map, HSZ.out, Nat.sub_self] at h2
    injection h2 with h2
    exact h2.symm
  have HC : Hid (∀ w', Below w2.heap.size w2 w' → Calls Try.prog 16 #[.slice (some ⟨g, o, none⟩) n c1, .slice A n c] w' (Says w' true)) := hidT fun w' hb => rssame_any _ n c1 (x1.take n) _ n c ra w' ((RdB.take R1_0.out (Nat.le_succ n)).below hb) (RdB.below Q_3.out hb) true (by
    rw [List.map_take, HX1.out, List.take_left' (by rw [List.length_map]; exact HSZ.out)]
    simp)
  have s1 := fun w' hb => strs hr w' hb
  have s2 := fun w' hb => strs D_3.out w' hb
  have zz := str_same hrb
  have kc := hc
  have hcap := RdB.cap R1_0.out
  have hnc := (R1_0.out).1.2.1
  have q6 : (0 : Int) ≤ (n : Int) := by omega
  have q7 : (n : Int) ≤ (c1 : Int) := by omega
  have q8 : (n : Int) < (n : Int) + 1 := by omega
  have q9 : (n : Int) < ((n + 1 : Nat) : Int) := by omega
  have q3 : IntKind.i64.wrap (n : Int) = (n : Int) := IntWalk.i64_in _ (by omega)
  have HFX1 : Hid (Few x1) := hidT (few_of R1_0.out (by omega) (by rw [HX1.out]; exact HFX.out))
  have HDR : Hid (((x1.drop 1).map Bw.b).length = n) := hidT (by rw [List.length_map, List.length_drop, RdB.size R1_0.out]; rfl)
  have HCAP := hidT hcap
  have HNC := hidT hnc
  have q4 : IntKind.i64.wrap ((n : Int) + 1) = (n : Int) + 1 := IntWalk.i64_in _ (by omega)
  have q5 : wrap64 ((n : Int) + 1) = (n : Int) + 1 := IntWalk.wrap64_in _ (by omega)
  clear hx hr hc hrb hcap hnc
  go_wp2_with fail
  go_region_held (fun w' => Below w2.heap.size w2 w')
    (first | exact (Below.refl _ _).drew | exact Below.refl _ _ | exact hbC | assumption)
    (first
      | (go_at_call 16; ((with_reducible refine (HC.out _ (Below.refl _ _).drew).mono ?_); rintro e4 w4 ⟨rfl, hbC'⟩; have hbC : Below w2.heap.size w2 w4 := undrew hbC'))
      | fail)
  all_goals
    have Q_4 := hidT (Q_3.out.below hbC)
    have D_4 := hidT (D_3.out.below hbC)
    have B_4 := hidT (bthen B_3.out hbC)
    have R1_1 := hidT (R1_0.out.below hbC)
    clear Q_3 D_3 B_3 R1_0
    clear HC s1 s2 zz kc hbC
    clear q3 q4 q5
    skip
    have hp := (pop_any (some ⟨g, o, none⟩) (n + 1) c1 x1 w4 R1_1.out HFX1.out true (by simp)).1
    go_wp2_with fail
    with_reducible refine hp.mono ?_
    intro e w5 hG
    obtain ⟨A2, c2, x2, rfl, hr, hl, hw⟩ := PopIs.open_ hG (n) (HDR.out)
    clear hG hp
    have Q_5 := hidT (Q_4.out.below hw)
    have D_5 := hidT (D_4.out.below hw)
    have B_5 := hidT (bthen B_4.out hw)
    have R1_2 := hidT (R1_1.out.below hw)
    clear Q_4 D_4 B_4 R1_1
    have R2_0 := hidT (hr)
    have HX2 := hidT hl
    clear hr hl hw
    obtain ⟨Q, hQ⟩ : ∃ Q, (if c1 = 1 then some (⟨g, o, none⟩ : Addr) else some ⟨g, o + 1, none⟩) = Q := ⟨_, rfl⟩
    have ht : RdB w5 Q n (c1 - 1) (x1.drop 1) := RdB.tail R1_2.out (by omega) Q hQ
    have hcap := HCAP.out
    have hnc := HNC.out
    have p1 : (1 : Int) ≤ (n : Int) + 1 := by omega
    have p2 : (n : Int) + 1 ≤ (c1 : Int) := by omega
    have p3 : IntKind.i64.wrap 1 = 1 := rfl
    have T_0 := hidT (ht)
    clear ht
    have hp := rssame_any A2 n c2 x2 Q n (c1 - 1) (x1.drop 1) w5 R2_0.out T_0.out true (by rw [HX2.out]; simp)
    go_wp2_with fail
    with_reducible refine hp.mono ?_
    rintro e w6 ⟨rfl, hw⟩
    have Q_6 := hidT (Q_5.out.below hw)
    have D_6 := hidT (D_5.out.below hw)
    have B_6 := hidT (bthen B_5.out hw)
    have R1_3 := hidT (R1_2.out.below hw)
    have R2_1 := hidT (R2_0.out.below hw)
    have T_1 := hidT (T_0.out.below hw)
    clear Q_5 D_5 B_5 R1_2 R2_0 T_0
    clear hp hw
    go_wp2
    go_ret
    exact ⟨rfl, B_6.out⟩
theorem skeeps_any (A : Option Addr) (n c : Nat) (ra : List Bw) (D : Option Addr) (dn dc : Nat) (bl : List UInt8) (room most : Int) (w : World) (hq : RdB w A n c ra) (hb : Rd w D dn dc bl) : Calls Try.prog 5 #[.agg #[.slice A n c, .slice D dn dc, .int .i64 room, .int .i64 most]] w (Yes w) := by
  cases h1 : fewB ra 80 with
  | false => exact keeps_a A n c ra D dn dc bl room most w hq hb h1
  | true =>
    by_cases h3 : 2000 < dn
    · exact keeps_b A n c ra D dn dc bl room most w hq hb h1 h3
    · by_cases hk : offC n dn room most = 0
      · exact keeps_d A n c ra D dn dc bl room most w hq hb h1 (by omega) hk
      · exact keeps_c A n c ra D dn dc bl room most w hq hb h1 (by omega) _ rfl hk
end Go.Proofs.Ytileinmcnilajaa
