/- What the document's May of packets comes to: questions, stable ones, all. (Written by wip/gen/refpkt2.py.) -/
import Derived.Test.YtahkhideepncfaaDoorRefPkt2
set_option maxRecDepth 100000
namespace Go.Proofs.YtahkhideepncfaaDoor
open Go.RowKit
set_option linter.unusedVariables false

set_option maxHeartbeats 8000000 in
theorem rpmay_3 (f to lo many top : Int) (l : List Int) (ik iq ie ii it ic : Int) (il : List Int) (ib : List UInt8) (LA : Option Addr) (ln lc : Nat) (BA : Option Addr) (bn bc : Nat) (PA : Option Addr) (pn pc : Nat) (w : World) (hl : RdI w LA ln lc il) (hb : Rd w BA bn bc ib) (hp : RdI w PA pn pc l) (ans : Bool) (t1 t2 : Bool) (ht1 : decide ((⟨ik, iq, ie, ii, it, ic, il, ib⟩ : Item.It) = Item.It.zero) = t1) (ht2 : Item.may (⟨ik, iq, ie, ii, it, ic, il, ib⟩ : Item.It) = t2) (h1 : 0 ≤ f) (h2 : f ≤ 63) (HA : Hid (ans = true ↔ (t1 = true ∧ 0 ≤ to ∧ to ≤ 63 ∧ 1 ≤ lo ∧ lo ≤ 4611686018427387904 ∧ 1 ≤ many ∧ many ≤ 64 ∧ top = 0 ∧ pn = 0))) :
    Calls Tryd.prog 12 #[.agg #[.int .i64 3, .int .i64 f, .int .i64 ik, .int .i64 iq, .int .i64 ie, .int .i64 ii, .int .i64 it, .int .i64 ic, .slice LA ln lc, .slice BA bn bc, .int .i64 to, .int .i64 lo, .int .i64 many, .int .i64 top, .slice PA pn pc]] w (BoolIs w ans) := by
  have e1 := RdI.size hp
  have hg := alloc_at w (.cells #[.int .i64 3, .int .i64 f, .int .i64 ik, .int .i64 iq, .int .i64 ie, .int .i64 ii, .int .i64 it, .int .i64 ic, .slice LA ln lc, .slice BA bn bc, .int .i64 to, .int .i64 lo, .int .i64 many, .int .i64 top, .slice PA pn pc] 27) _ rfl
  have hb0 : Below w.heap.size w (w.alloc (.cells #[.int .i64 3, .int .i64 f, .int .i64 ik, .int .i64 iq, .int .i64 ie, .int .i64 ii, .int .i64 it, .int .i64 ic, .slice LA ln lc, .slice BA bn bc, .int .i64 to, .int .i64 lo, .int .i64 many, .int .i64 top, .slice PA pn pc] 27)) := (Below.refl _ _).alloc (Nat.le_refl _) _
  obtain ⟨⟨c0, c1⟩, ⟨c2, c3, c4, c5, c6, c7, c8, c9⟩, c10, c11, c12, c13, c14⟩ := cells15 hg
  have hs := rsameI_is (.agg #[.int .i64 ik, .int .i64 iq, .int .i64 ie, .int .i64 ii, .int .i64 it, .int .i64 ic, .slice LA ln lc, .slice BA bn bc]) (.agg zcells) (⟨ik, iq, ie, ii, it, ic, il, ib⟩ : Item.It) Item.It.zero _ ⟨LA, ln, lc, BA, bn, bc, rfl, RdV.below hl hb0, hb.below hb0⟩ (zero_item _) t1 ht1
  have hm := fun w' (hb' : Below w.heap.size w w') => rmay_any (.agg #[.int .i64 ik, .int .i64 iq, .int .i64 ie, .int .i64 ii, .int .i64 it, .int .i64 ic, .slice LA ln lc, .slice BA bn bc]) (⟨ik, iq, ie, ii, it, ic, il, ib⟩ : Item.It) w' ⟨LA, ln, lc, BA, bn, bc, rfl, RdV.below hl hb', hb.below hb'⟩
  rw [ht2] at hm
  clear hg ht1 ht2
  go_enter Tryd.func12, Tryd.ntmps12
  go_wp2_with fail
  with_reducible refine hs.mono ?_
  rintro e w1 ⟨rfl, hb1⟩
  have d0 := keepC hb1 c0
  have d1 := keepC hb1 c1
  have d2 := keepC hb1 c2
  have d3 := keepC hb1 c3
  have d4 := keepC hb1 c4
  have d5 := keepC hb1 c5
  have d6 := keepC hb1 c6
  have d7 := keepC hb1 c7
  have d8 := keepC hb1 c8
  have d9 := keepC hb1 c9
  have d10 := keepC hb1 c10
  have d11 := keepC hb1 c11
  have d12 := keepC hb1 c12
  have d13 := keepC hb1 c13
  have d14 := keepC hb1 c14
  have hb01 := bthen hb0 hb1
  have hm1 := hm w1 hb01
  clear hm hs hb1 hb0
  go_wp2_with fail
  with_reducible refine hm1.mono ?_
  rintro e w2 ⟨rfl, hb2⟩
  have e0_ := keepC hb2 d0
  have e1_ := keepC hb2 d1
  have e10_ := keepC hb2 d10
  have e11_ := keepC hb2 d11
  have e12_ := keepC hb2 d12
  have e13_ := keepC hb2 d13
  have e14_ := keepC hb2 d14
  have hb02 := bthen hb01 hb2
  clear hb2 hb01 hm1 c0 c1 c2 c3 c4 c5 c6 c7 c8 c9 c10 c11 c12 c13 c14 d0 d1 d2 d3 d4 d5 d6 d7 d8 d9 d10 d11 d12 d13 d14
  cases t1 with
  | false =>
    have hans : ans = false := by
      cases ans with
      | false => rfl
      | true => exact absurd (HA.out.1 rfl).1 (by simp)
    subst hans
    go_wp2
    go_ret
    exact ⟨rfl, hb02⟩
  | true =>
    have HB : Hid (ans = true ↔ (0 ≤ to ∧ to ≤ 63 ∧ 1 ≤ lo ∧ lo ≤ 4611686018427387904 ∧ 1 ≤ many ∧ many ≤ 64 ∧ top = 0 ∧ pn = 0)) := hidT (by have := HA.out; simpa using this)
    clear HA
    rcases (show pn ≠ 0 ∨ pn = 0 from by omega) with hz | rfl
    all_goals
      go_wp2
      all_goals
        go_ret
        refine BoolIs.of hb02 ?_
        first | exact ans_false HB.out (by first | omega | (simp; omega) | (simp; done) | (intro hh; simp_all; done) | (simp_all; done)) | exact ans_true HB.out (by first | omega | (simp; omega) | (simp; done) | (intro hh; simp_all; done) | (simp_all; done)) | exact ans_eq HB.out (by first | (rw [beq_iff_eq]; omega) | (rw [decide_eq_true_eq]; omega) | (simp; omega) | (simp; done))

set_option maxHeartbeats 8000000 in
theorem rpmay_4 (f to lo many top : Int) (l : List Int) (ik iq ie ii it ic : Int) (il : List Int) (ib : List UInt8) (LA : Option Addr) (ln lc : Nat) (BA : Option Addr) (bn bc : Nat) (PA : Option Addr) (pn pc : Nat) (w : World) (hl : RdI w LA ln lc il) (hb : Rd w BA bn bc ib) (hp : RdI w PA pn pc l) (ans : Bool) (t1 t2 : Bool) (ht1 : decide ((⟨ik, iq, ie, ii, it, ic, il, ib⟩ : Item.It) = Item.It.zero) = t1) (ht2 : Item.may (⟨ik, iq, ie, ii, it, ic, il, ib⟩ : Item.It) = t2) (h1 : 0 ≤ f) (h2 : f ≤ 63) (HA : Hid (ans = true ↔ (Item.allIn l 4611686018427387904 = true ∧ t1 = true ∧ to = 0 ∧ lo = 0 ∧ many = 0 ∧ 0 ≤ top ∧ top ≤ 4611686018427387904 ∧ 2 ≤ pn ∧ pn ≤ 64))) :
    Calls Tryd.prog 12 #[.agg #[.int .i64 4, .int .i64 f, .int .i64 ik, .int .i64 iq, .int .i64 ie, .int .i64 ii, .int .i64 it, .int .i64 ic, .slice LA ln lc, .slice BA bn bc, .int .i64 to, .int .i64 lo, .int .i64 many, .int .i64 top, .slice PA pn pc]] w (BoolIs w ans) := by
  have e1 := RdI.size hp
  have hg := alloc_at w (.cells #[.int .i64 4, .int .i64 f, .int .i64 ik, .int .i64 iq, .int .i64 ie, .int .i64 ii, .int .i64 it, .int .i64 ic, .slice LA ln lc, .slice BA bn bc, .int .i64 to, .int .i64 lo, .int .i64 many, .int .i64 top, .slice PA pn pc] 27) _ rfl
  have hb0 : Below w.heap.size w (w.alloc (.cells #[.int .i64 4, .int .i64 f, .int .i64 ik, .int .i64 iq, .int .i64 ie, .int .i64 ii, .int .i64 it, .int .i64 ic, .slice LA ln lc, .slice BA bn bc, .int .i64 to, .int .i64 lo, .int .i64 many, .int .i64 top, .slice PA pn pc] 27)) := (Below.refl _ _).alloc (Nat.le_refl _) _
  obtain ⟨⟨c0, c1⟩, ⟨c2, c3, c4, c5, c6, c7, c8, c9⟩, c10, c11, c12, c13, c14⟩ := cells15 hg
  have hs := rsameI_is (.agg #[.int .i64 ik, .int .i64 iq, .int .i64 ie, .int .i64 ii, .int .i64 it, .int .i64 ic, .slice LA ln lc, .slice BA bn bc]) (.agg zcells) (⟨ik, iq, ie, ii, it, ic, il, ib⟩ : Item.It) Item.It.zero _ ⟨LA, ln, lc, BA, bn, bc, rfl, RdV.below hl hb0, hb.below hb0⟩ (zero_item _) t1 ht1
  have hm := fun w' (hb' : Below w.heap.size w w') => rmay_any (.agg #[.int .i64 ik, .int .i64 iq, .int .i64 ie, .int .i64 ii, .int .i64 it, .int .i64 ic, .slice LA ln lc, .slice BA bn bc]) (⟨ik, iq, ie, ii, it, ic, il, ib⟩ : Item.It) w' ⟨LA, ln, lc, BA, bn, bc, rfl, RdV.below hl hb', hb.below hb'⟩
  rw [ht2] at hm
  clear hg ht1 ht2
  go_enter Tryd.func12, Tryd.ntmps12
  go_wp2_with fail
  with_reducible refine hs.mono ?_
  rintro e w1 ⟨rfl, hb1⟩
  have d0 := keepC hb1 c0
  have d1 := keepC hb1 c1
  have d2 := keepC hb1 c2
  have d3 := keepC hb1 c3
  have d4 := keepC hb1 c4
  have d5 := keepC hb1 c5
  have d6 := keepC hb1 c6
  have d7 := keepC hb1 c7
  have d8 := keepC hb1 c8
  have d9 := keepC hb1 c9
  have d10 := keepC hb1 c10
  have d11 := keepC hb1 c11
  have d12 := keepC hb1 c12
  have d13 := keepC hb1 c13
  have d14 := keepC hb1 c14
  have hb01 := bthen hb0 hb1
  have hm1 := hm w1 hb01
  clear hm hs hb1 hb0
  go_wp2_with fail
  with_reducible refine hm1.mono ?_
  rintro e w2 ⟨rfl, hb2⟩
  have e0_ := keepC hb2 d0
  have e1_ := keepC hb2 d1
  have e10_ := keepC hb2 d10
  have e11_ := keepC hb2 d11
  have e12_ := keepC hb2 d12
  have e13_ := keepC hb2 d13
  have e14_ := keepC hb2 d14
  have hb02 := bthen hb01 hb2
  clear hb2 hb01 hm1 c0 c1 c2 c3 c4 c5 c6 c7 c8 c9 c10 c11 c12 c13 c14 d0 d1 d2 d3 d4 d5 d6 d7 d8 d9 d10 d11 d12 d13 d14
  have hp2 := RdV.below hp hb02
  have HL := hidT e1
  have hn := RdV.le hp
  clear hp hl hb e1
  go_wp2
  go_loop [5] (fun i => ∃ j : Nat, j ≤ pn ∧ i = .int .i64 j ∧ Item.allIn (l.take j) 4611686018427387904 = true) (fun i => pn - (intOf i).toNat)
  case atStart => exact ⟨0, Nat.zero_le _, rfl, rfl⟩
  case round =>
    obtain ⟨j, hj, rfl, ha⟩ := hrel
    have HAJ := hidT ha
    clear ha
    by_cases hjn : j < pn
    · obtain ⟨b, o, x, rfl, hx, hc⟩ := RdI.at_ hp2 hjn
      have HX := hidT hx
      clear hx
      by_cases h0 : x < 0
      · have HW : Hid (Item.win x 0 4611686018427387904 = false) := hidT (by simp [Item.win]; omega)
        go_wp2
        go_ret
        refine BoolIs.of hb02 ?_
        have hfa := allIn_not HX.out HW.out
        cases ans with
        | false => rfl
        | true =>
          have := (HA.out.1 rfl).1
          rw [hfa] at this
          cases this
      · by_cases h1 : 4611686018427387904 < x
        · have HW : Hid (Item.win x 0 4611686018427387904 = false) := hidT (by simp [Item.win]; omega)
          go_wp2
          go_ret
          refine BoolIs.of hb02 ?_
          have hfa := allIn_not HX.out HW.out
          cases ans with
          | false => rfl
          | true =>
            have := (HA.out.1 rfl).1
            rw [hfa] at this
            cases this
        · have HW : Hid (Item.win x 0 4611686018427387904 = true) := hidT (by simp [Item.win]; omega)
          go_wp2
          go_round
          case rel => exact ⟨j + 1, by omega, by go_num, allIn_succ HX.out HAJ.out HW.out⟩
          case measure => simp [intOf]; omega
    · obtain rfl : j = pn := by omega
      have ha := HAJ.out
      rw [List.take_of_length_le (by rw [HL.out]; omega)] at ha
      have HA2 : Hid (ans = true ↔ (t1 = true ∧ to = 0 ∧ lo = 0 ∧ many = 0 ∧ 0 ≤ top ∧ top ≤ 4611686018427387904 ∧ 2 ≤ j ∧ j ≤ 64)) := by
        have := HA.out
        rw [ha] at this
        refine hidT ?_
        simpa using this
      clear ha HAJ HA
      have HA := HA2
      clear HA2
      cases t1 with
      | false =>
        have hans : ans = false := by
          cases ans with
          | false => rfl
          | true => exact absurd (HA.out.1 rfl).1 (by simp)
        subst hans
        go_wp2
        go_ret
        exact ⟨rfl, hb02⟩
      | true =>
        have HB : Hid (ans = true ↔ (to = 0 ∧ lo = 0 ∧ many = 0 ∧ 0 ≤ top ∧ top ≤ 4611686018427387904 ∧ 2 ≤ j ∧ j ≤ 64)) := hidT (by have := HA.out; simpa using this)
        clear HA
        go_wp2
        all_goals
          go_ret
          refine BoolIs.of hb02 ?_
          first | exact ans_false HB.out (by first | omega | (simp; omega) | (simp; done) | (intro hh; simp_all; done) | (simp_all; done)) | exact ans_true HB.out (by first | omega | (simp; omega) | (simp; done) | (intro hh; simp_all; done) | (simp_all; done)) | exact ans_eq HB.out (by first | (rw [beq_iff_eq]; omega) | (rw [decide_eq_true_eq]; omega) | (simp; omega) | (simp; done))

theorem rpmay_any (v : Value) (p : Pkt.Pk) (w : World) (h : IsPkt w v p) : Calls Tryd.prog 12 #[v] w (BoolIs w (Pkt.may p)) := by
  obtain ⟨LA, ln, lc, BA, bn, bc, PA, pn, pc, rfl, hl, hb, hp⟩ := h
  obtain ⟨k, f, ⟨ik, iq, ie, ii, it, ic, il, ib⟩, to, lo, many, top, l⟩ := p
  dsimp only at hl hb hp ⊢
  have e1 := RdI.size hp
  by_cases hf : f < 0 ∨ 63 < f
  · exact rpmay_f k f to lo many top l ik iq ie ii it ic il ib LA ln lc BA bn bc PA pn pc w hl hb hp _ _ _ rfl rfl hf (pmay_f hf)
  have h1 : 0 ≤ f := by omega
  have h2 : f ≤ 63 := by omega
  by_cases k1 : k = 1
  · subst k1
    exact rpmay_1 f to lo many top l ik iq ie ii it ic il ib LA ln lc BA bn bc PA pn pc w hl hb hp _ _ _ rfl rfl h1 h2 (hidT (by rw [pmay_12 (.inl rfl) h1 h2, e1]))
  by_cases k2 : k = 2
  · subst k2
    exact rpmay_2 f to lo many top l ik iq ie ii it ic il ib LA ln lc BA bn bc PA pn pc w hl hb hp _ _ _ rfl rfl h1 h2 (hidT (by rw [pmay_12 (.inr rfl) h1 h2, e1]))
  by_cases k3 : k = 3
  · subst k3
    exact rpmay_3 f to lo many top l ik iq ie ii it ic il ib LA ln lc BA bn bc PA pn pc w hl hb hp _ _ _ rfl rfl h1 h2 (hidT (by rw [pmay_3i h1 h2, e1, decide_eq_true_eq]))
  by_cases k4 : k = 4
  · subst k4
    exact rpmay_4 f to lo many top l ik iq ie ii it ic il ib LA ln lc BA bn bc PA pn pc w hl hb hp _ _ _ rfl rfl h1 h2 (hidT (by rw [pmay_4i h1 h2, e1, decide_eq_true_eq]))
  · exact rpmay_n k f to lo many top l ik iq ie ii it ic il ib LA ln lc BA bn bc PA pn pc w hl hb hp _ _ _ rfl rfl h1 h2 k1 k2 k3 k4 (pmay_n k1 k2 k3 k4)
end Go.Proofs.YtahkhideepncfaaDoor
