/- The law WinOrder, walked. -/
import Derived.Test.YtkkkfaelpmmffaaWinL4
set_option maxRecDepth 100000
namespace Go.Proofs.Ytkkkfaelpmmffaa
open Go.RowKit
set_option linter.unusedVariables false

theorem size31 : (Try.prog.info? 48).map (·.size) = some 31 := by kernel_rfl
theorem arr_cell {w : World} {ga : Nat} {f : List Int} {t : TypeId} (h : w.heap[ga]? = some (.cells (is f).toArray t (0, 0))) (hl : f.length = 31) {s : Nat} (hs : s ≤ 30) : w.cell? ⟨ga, s, none⟩ = some (.int .i64 (f.getD s 0)) := by
  refine cell_at h s ?_
  have : s < f.length := by omega
  rw [List.getElem?_toArray, is_of (List.getElem?_eq_getElem this), List.getD_eq_getElem?_getD, List.getElem?_eq_getElem this]
  rfl
theorem arr_set {w : World} {ga : Nat} {f : List Int} {t : TypeId} (h : w.heap[ga]? = some (.cells (is f).toArray t (0, 0))) (s : Nat) (v : Int) : (w.setCell ⟨ga, s, none⟩ (.int .i64 v)).heap[ga]? = some (.cells (is (f.set s v)).toArray t (0, 0)) := by
  rw [is_set]
  have := heap_setCell_same w ga s _ t (.int .i64 v) h
  simpa using this
theorem getD_set (f : List Int) (s n : Nat) (v : Int) (hs : s < f.length) : (f.set s v).getD n 0 = if s = n then v else f.getD n 0 := by
  rw [List.getD_eq_getElem?_getD, List.getElem?_set]
  by_cases h : s = n
  · subst h
    simp [hs]
  · rw [if_neg h, if_neg h, List.getD_eq_getElem?_getD]
/-- What waits is what came first of each number. -/
def Ord (K : List Item.It) (f : List Int) : Prop := Nice 30 K ∧ f.length = 31 ∧ (∀ x ∈ K, ∃ n : Nat, x = ack n (f.getD n 0 - 1)) ∧ (∀ n : Nat, 1 ≤ n → n ≤ 30 → (Win.waits K n = true ↔ f.getD n 0 ≠ 0)) ∧ (∀ n : Nat, 0 ≤ f.getD n 0 ∧ f.getD n 0 ≤ 100)
theorem Ord.start : Ord [] (List.replicate 31 0) := by
  have hz : ∀ n : Nat, (List.replicate 31 (0 : Int)).getD n 0 = 0 := fun n => by
    rw [List.getD_eq_getElem?_getD, List.getElem?_replicate]
    split <;> rfl
  exact ⟨Nice.nil_ _, by simp, fun x hx => (by cases hx), fun n h1 h2 => ⟨fun h => (by cases h), fun h => absurd (hz n) h⟩, fun n => by rw [hz n]; omega⟩
theorem Ord.takes {K : List Item.It} {f : List Int} (h : Ord K f) {s j : Nat} (h1 : 1 ≤ s) (h2 : s ≤ 30) (hj : j < 100) : Win.takes ⟨1, K⟩ (ack s j) 64 = decide (f.getD s 0 = 0) := by
  rw [h.1.takes (by omega) (may_ack (q := (s : Int)) (c := (j : Int)) (by omega) (by omega) (by omega) (by omega)) (show (s : Int) ≤ 64 by omega) (by omega)]
  show (!Win.waits K (s : Int)) = _
  have := h.2.2.2.1 s h1 h2
  cases hw : Win.waits K (s : Int) with
  | true =>
    have := this.1 hw
    rw [show decide (f.getD s 0 = 0) = false from by simpa using this]; rfl
  | false =>
    have : f.getD s 0 = 0 := Decidable.byContradiction fun hh => by rw [this.2 hh] at hw; cases hw
    rw [show decide (f.getD s 0 = 0) = true from by simpa using this]; rfl
theorem Ord.no {K : List Item.It} {f : List Int} (h : Ord K f) {s j : Nat} (h1 : 1 ≤ s) (h2 : s ≤ 30) (hj : j < 100) (hf : f.getD s 0 ≠ 0) : Win.takes ⟨1, K⟩ (ack s j) 64 = false ∧ Win.put ⟨1, K⟩ (ack s j) 64 = ⟨1, K⟩ := by
  have e : Win.takes ⟨1, K⟩ (ack s j) 64 = false := by rw [h.takes h1 h2 hj]; simpa using hf
  exact ⟨e, Win.put_no e⟩
theorem Ord.yes {K : List Item.It} {f : List Int} (h : Ord K f) {s j : Nat} (h1 : 1 ≤ s) (h2 : s ≤ 30) (hj : j < 100) (hf : f.getD s 0 = 0) : ∃ L, Win.takes ⟨1, K⟩ (ack s j) 64 = true ∧ Win.put ⟨1, K⟩ (ack s j) 64 = ⟨1, L⟩ ∧ Ord L (f.set s ((j : Int) + 1)) := by
  have e : Win.takes ⟨1, K⟩ (ack s j) 64 = true := by rw [h.takes h1 h2 hj]; simpa using hf
  have hs : s < f.length := by rw [h.2.1]; omega
  have hq : (ack s j).q = (s : Int) := rfl
  have hwk : Win.waits K (s : Int) = false := (Win.takes_iff.1 e).2.2
  refine ⟨Win.ins K (ack s j), e, Win.put_yes e, ⟨Win.right_ins h.1.1 e, fun y hy => ?_⟩, by rw [List.length_set]; exact h.2.1, fun y hy => ?_, fun n hn1 hn2 => ?_, fun n => ?_⟩
  · rcases Win.mem_ins.1 hy with rfl | hy
    · rw [hq]; omega
    · exact h.1.2 y hy
  · rcases Win.mem_ins.1 hy with rfl | hy
    · refine ⟨s, ?_⟩
      rw [getD_set _ _ _ _ hs, if_pos rfl, show (j : Int) + 1 - 1 = j from by omega]
    · obtain ⟨n, hn⟩ := h.2.2.1 y hy
      have hne : s ≠ n := by
        rintro rfl
        have := Win.waits_not.1 hwk y hy
        rw [hn] at this
        exact this rfl
      exact ⟨n, by rw [getD_set _ _ _ _ hs, if_neg hne]; exact hn⟩
  · rw [Win.waits_ins, hq, getD_set _ _ _ _ hs]
    by_cases hsn : s = n
    · subst hsn
      rw [if_pos rfl]
      simp; omega
    · rw [if_neg hsn, show decide ((s : Int) = (n : Int)) = false from by simp; omega, Bool.false_or]
      exact h.2.2.2.1 n hn1 hn2
  · rw [getD_set _ _ _ _ hs]
    split
    · omega
    · exact h.2.2.2.2 n
set_option maxRecDepth 100000 in
set_option maxHeartbeats 16000000 in
theorem worder_any (A : Option Addr) (m c : Nat) (fs : List UInt8) (q : Int) (w : World) (hA : Rd w A m c fs) (hq : 0 ≤ q ∧ q < 256) :
    Calls Try.prog 5 #[.slice A m c, .int .u8 q] w (Yes w) := by
  have hm := hA.le
  have HA := hidT hA
  obtain ⟨hq0, hq1⟩ := hq
  have HQ := hidT (And.intro hq0 hq1)
  clear hA hq0 hq1
  go_enter Try.func5, Try.ntmps5
  go_wp2_with fail
  with_reducible refine (wshown_any _).mono ?_
  rintro e w1 ⟨rfl, hb1⟩
  by_cases h100 : m ≤ 100
  · have t1 : decide (100 < m) = false := by simpa using h100
    have t2 : decide ((100 : Int) < (m : Int)) = false := by simp; omega
    go_wp2_with fail
    with_reducible refine (wnew_any _).mono ?_
    rintro e w2 ⟨rfl, hb2⟩
    have z1 := alloc_at w2 (.cells #[.int .i64 1, .slice none 0 0] 24) _ rfl
    have z3 := nkeep w2 (.cells #[.int .i64 1, .slice none 0 0] 24)
    have hbw := bthen hb1 (bthen hb2 z3)
    have hsz := size_alloc w2 (.cells #[.int .i64 1, .slice none 0 0] 24)
    obtain ⟨g, hg⟩ : ∃ g, w2.heap.size = g := ⟨_, rfl⟩
    rw [hg] at z1 hsz
    have hgw : w.heap.size ≤ g := by have := (bthen hb1 hb2).size; omega
    obtain ⟨W, hW⟩ : ∃ W, w2.alloc (.cells #[.int .i64 1, .slice none 0 0] 24) = W := ⟨_, rfl⟩
    rw [hW] at z1 hbw hsz
    have HW := hidT hW
    have HGW := hidT hgw
    clear hW z3 hb1 hb2 hgw
    go_upto_region 5 with fail
    rw [HW.out]
    clear hg t1 t2
    have y1 := alloc_at W (.cells #[.int .i64 0, .int .i64 0, .int .i64 0, .int .i64 0, .int .i64 0, .int .i64 0, .int .i64 0, .int .i64 0, .int .i64 0, .int .i64 0, .int .i64 0, .int .i64 0, .int .i64 0, .int .i64 0, .int .i64 0, .int .i64 0, .int .i64 0, .int .i64 0, .int .i64 0, .int .i64 0, .int .i64 0, .int .i64 0, .int .i64 0, .int .i64 0, .int .i64 0, .int .i64 0, .int .i64 0, .int .i64 0, .int .i64 0, .int .i64 0, .int .i64 0] 48) _ rfl
    have y3 := nkeep W (.cells #[.int .i64 0, .int .i64 0, .int .i64 0, .int .i64 0, .int .i64 0, .int .i64 0, .int .i64 0, .int .i64 0, .int .i64 0, .int .i64 0, .int .i64 0, .int .i64 0, .int .i64 0, .int .i64 0, .int .i64 0, .int .i64 0, .int .i64 0, .int .i64 0, .int .i64 0, .int .i64 0, .int .i64 0, .int .i64 0, .int .i64 0, .int .i64 0, .int .i64 0, .int .i64 0, .int .i64 0, .int .i64 0, .int .i64 0, .int .i64 0, .int .i64 0] 48)
    rw [hsz] at y1
    have ySZ := size_alloc W (.cells #[.int .i64 0, .int .i64 0, .int .i64 0, .int .i64 0, .int .i64 0, .int .i64 0, .int .i64 0, .int .i64 0, .int .i64 0, .int .i64 0, .int .i64 0, .int .i64 0, .int .i64 0, .int .i64 0, .int .i64 0, .int .i64 0, .int .i64 0, .int .i64 0, .int .i64 0, .int .i64 0, .int .i64 0, .int .i64 0, .int .i64 0, .int .i64 0, .int .i64 0, .int .i64 0, .int .i64 0, .int .i64 0, .int .i64 0, .int .i64 0, .int .i64 0] 48)
    have hg1 := keepH z1 y3
    have hb2 := bthen hbw y3
    clear z1 y3 hbw
    have hws := hidT hsz
    have hz : (#[.int .i64 0, .int .i64 0, .int .i64 0, .int .i64 0, .int .i64 0, .int .i64 0, .int .i64 0, .int .i64 0, .int .i64 0, .int .i64 0, .int .i64 0, .int .i64 0, .int .i64 0, .int .i64 0, .int .i64 0, .int .i64 0, .int .i64 0, .int .i64 0, .int .i64 0, .int .i64 0, .int .i64 0, .int .i64 0, .int .i64 0, .int .i64 0, .int .i64 0, .int .i64 0, .int .i64 0, .int .i64 0, .int .i64 0, .int .i64 0, .int .i64 0] : Array Value) = (is (List.replicate 31 0)).toArray := by rfl
    have hz1 : (#[.int .i64 0, .int .i64 0, .int .i64 0, .int .i64 0, .int .i64 0, .int .i64 0, .int .i64 0, .int .i64 0, .int .i64 0, .int .i64 0, .int .i64 0, .int .i64 0, .int .i64 0, .int .i64 0, .int .i64 0, .int .i64 0, .int .i64 0, .int .i64 0, .int .i64 0, .int .i64 0, .int .i64 0, .int .i64 0, .int .i64 0, .int .i64 0, .int .i64 0, .int .i64 0, .int .i64 0, .int .i64 0, .int .i64 0, .int .i64 0, .int .i64 0] : Array Value).all (·.oneCell') = true := by kernel_rfl
    have hzs : (Try.prog.info? 48).map (·.size) = some (#[.int .i64 0, .int .i64 0, .int .i64 0, .int .i64 0, .int .i64 0, .int .i64 0, .int .i64 0, .int .i64 0, .int .i64 0, .int .i64 0, .int .i64 0, .int .i64 0, .int .i64 0, .int .i64 0, .int .i64 0, .int .i64 0, .int .i64 0, .int .i64 0, .int .i64 0, .int .i64 0, .int .i64 0, .int .i64 0, .int .i64 0, .int .i64 0, .int .i64 0, .int .i64 0, .int .i64 0, .int .i64 0, .int .i64 0, .int .i64 0, .int .i64 0] : Array Value).size := size31
    go_wp2_with (
      refine wpList_stI rfl 48 (.tmp 7) (.tmp 29) rfl (g + 1) #[.int .i64 0, .int .i64 0, .int .i64 0, .int .i64 0, .int .i64 0, .int .i64 0, .int .i64 0, .int .i64 0, .int .i64 0, .int .i64 0, .int .i64 0, .int .i64 0, .int .i64 0, .int .i64 0, .int .i64 0, .int .i64 0, .int .i64 0, .int .i64 0, .int .i64 0, .int .i64 0, .int .i64 0, .int .i64 0, .int .i64 0, .int .i64 0, .int .i64 0, .int .i64 0, .int .i64 0, .int .i64 0, .int .i64 0, .int .i64 0, .int .i64 0] rfl rfl 48 #[.int .i64 0, .int .i64 0, .int .i64 0, .int .i64 0, .int .i64 0, .int .i64 0, .int .i64 0, .int .i64 0, .int .i64 0, .int .i64 0, .int .i64 0, .int .i64 0, .int .i64 0, .int .i64 0, .int .i64 0, .int .i64 0, .int .i64 0, .int .i64 0, .int .i64 0, .int .i64 0, .int .i64 0, .int .i64 0, .int .i64 0, .int .i64 0, .int .i64 0, .int .i64 0, .int .i64 0, .int .i64 0, .int .i64 0, .int .i64 0, .int .i64 0] y1 hzs rfl hz1 ?_
      intro w3 hg3 hbut3 hbel3)
    generalize Value.agg #[.int .i64 0, .int .i64 0, .int .i64 0, .int .i64 0, .int .i64 0, .int .i64 0, .int .i64 0, .int .i64 0, .int .i64 0, .int .i64 0, .int .i64 0, .int .i64 0, .int .i64 0, .int .i64 0, .int .i64 0, .int .i64 0, .int .i64 0, .int .i64 0, .int .i64 0, .int .i64 0, .int .i64 0, .int .i64 0, .int .i64 0, .int .i64 0, .int .i64 0, .int .i64 0, .int .i64 0, .int .i64 0, .int .i64 0, .int .i64 0, .int .i64 0] = y29
    rw [hz] at hg3
    have XA0 := hidT hg3
    have XG0 := hidT ((hbut3.2 g (by omega)).trans hg1)
    have XB0 := hidT (hbel3 _ _ hb2 (Nat.le_succ_of_le HGW.out))
    clear hz hz1 hzs hg3 hbut3 hbel3 hg1 hb2 y1 ySZ hsz hws HW
    go_loopw [8] (fun i wr => ∃ (j : Nat) (K : List Item.It) (f : List Int) (B : Option Addr) (nl d : Nat), i = .int .i64 j ∧ j ≤ m ∧ Hid (Ord K f) ∧
        Hid (wr.heap[g]? = some (.cells #[.int .i64 1, .slice B nl d] 24 (0, 0))) ∧ Hid (wr.heap[g + 1]? = some (.cells (is f).toArray 48 (0, 0))) ∧ Hid (FrK wr (g + 2) (.agg #[.int .i64 1, .slice B nl d]) ⟨1, K⟩) ∧ Hid (Below w.heap.size w wr)) (fun i _ => m - (intOf i).toNat)
    case atStart => exact ⟨0, [], List.replicate 31 0, none, 0, 0, rfl, Nat.zero_le _, hidT Ord.start, XG0, XA0, hidT (FrK.empty _ _ _), XB0⟩
    case round =>
      clear XG0 XA0 XB0
      obtain ⟨j, K, f, B, nl, d, rfl, hj, HO, XG, XA, XK, XB⟩ := hrel
      have hgs := blk_lt XA.out
      by_cases hjm : j < m
      · obtain ⟨b, o, fb, rfl, hfb, hcell⟩ := HA.out.byte hjm
        have hc := hcell wr XB.out
        have x1 : (0 : Int) ≤ (j : Int) := by omega
        have x2 : (j : Int) < (m : Int) := by omega
        have f0 : (0 : Int) ≤ (fb.toNat : Int) := by omega
        have f1 : (fb.toNat : Int) < 256 := by have := fb.toNat_lt; omega
        have e3 : Int.tmod (fb.toNat : Int) 30 = (fb.toNat : Int) % 30 := Int.tmod_eq_emod_of_nonneg f0
        have e4 : wrap64 (fb.toNat : Int) = (fb.toNat : Int) := IntWalk.wrap64_in _ (by omega)
        obtain ⟨F, hF⟩ : ∃ F, (fb.toNat : Int) % 30 = F := ⟨_, rfl⟩
        have F0 : 0 ≤ F := by omega
        have F1 : F < 30 := by omega
        rw [hF] at e3
        obtain ⟨s, es⟩ : ∃ s : Nat, 1 + F = (s : Int) := ⟨(1 + F).toNat, by omega⟩
        have s0 : 1 ≤ s := by omega
        have s1 : s ≤ 30 := by omega
        clear F0 F1 hF f0 f1 hcell hfb
        go_upto_region 10 with fail
        clear e3 e4 es hc
        obtain ⟨i0, i1⟩ := cells2 XG.out
        have y0 : (0 : Int) ≤ (s : Int) := by omega
        have y1 : (s : Int) < 31 := by omega
        have y2 : s < 31 := by omega
        have hpu := wput_right (.agg #[.int .i64 1, .slice B nl d]) (.agg #[.int .i64 5, .int .i64 (s : Int), .int .i64 0, .int .i64 0, .int .i64 0, .int .i64 (j : Int), .slice none 0 0, .slice none 0 0]) ⟨1, K⟩ (ack s j) 64 wr XK.out.is (IsItem.ackq wr s j) HO.out.1.1 (by simp [ack])
        obtain ⟨v, hv⟩ : ∃ v, f.getD s 0 = v := ⟨_, rfl⟩
        by_cases hf : f.getD s 0 = 0
        · obtain ⟨PL, ht, hP, hO'⟩ := HO.out.yes s0 s1 (by omega : j < 100) hf
          rw [ht, hP] at hpu
          have HO' := hidT hO'
          have v1 : (v == 0) = true := by rw [← hv, hf]; rfl
          have HV := hidT hv
          clear ht hP hO' hf hv
          go_wp2_with fail
          with_reducible refine hpu.mono ?_
          rintro e w5 ⟨v5, rfl, hK5, hb5⟩
          obtain ⟨A5, n5, c5, us5, ev5, hr5, ha5, hf5⟩ := id hK5
          have ev5' : v5 = .agg #[.int .i64 1, .slice A5 n5 c5] := ev5
          clear ev5 hr5 ha5 hf5
          subst ev5'
          have t1 := alloc_at w5 (.cells #[.int .i64 1, .slice A5 n5 c5] 24) _ rfl
          have t3 := nkeep w5 (.cells #[.int .i64 1, .slice A5 n5 c5] 24)
          have hgv5 := hb5.size
          obtain ⟨V5, hV5⟩ : ∃ V, w5.alloc (.cells #[.int .i64 1, .slice A5 n5 c5] 24) = V := ⟨_, rfl⟩
          have hb57 := bthen hb5 t3
          have hk7 := (hK5.below t3).mono (show g + 2 ≤ wr.heap.size by omega)
          rw [hV5] at t1 hb57 hk7
          have HV5 := hidT hV5
          have YG := hidT (keepH XG.out hb57)
          have YA := hidT (keepH XA.out hb57)
          have B5 := hidT (bthen XB.out hb57)
          have K5 := hidT hk7
          obtain ⟨gv, hgv⟩ : ∃ gv, w5.heap.size = gv := ⟨_, rfl⟩
          rw [hgv] at t1 hgv5
          have YX := hidT t1
          clear t1 t3 hb57 hk7 hV5 hb5 hK5 hpu i0 i1
          have c1 := arr_cell YA.out HO.out.2.1 s1
          rw [HV.out] at c1
          have f1 := no_frozen YA.out s
          have X1 := hidT (arr_set YA.out s ((j : Int) + 1))
          have xb : But (g + 1) V5 (V5.setCell ⟨g + 1, s, none⟩ (.int .i64 ((j : Int) + 1))) := But.setCell V5 (g + 1) s _
          have X2 := hidT ((xb.2 g (by omega)).trans YG.out)
          have X3 := hidT ((xb.2 gv (by have := hgs; omega)).trans YX.out)
          have X4 := hidT (FrK.but K5.out (by omega) xb)
          have X5 := hidT (B5.out.setCell (p := ⟨g + 1, s, none⟩) (show w.heap.size ≤ g + 1 by have := HGW.out; omega) (.int .i64 ((j : Int) + 1)))
          clear xb
          rw [← HV5.out] at c1 f1
          go_upto_region 15 with fail
          rw [HV5.out]
          clear hgv c1 f1 YA YG YX K5 B5 HV5
          generalize V5.setCell ⟨g + 1, s, none⟩ (.int .i64 ((j : Int) + 1)) = X at *
          obtain ⟨yc0, yc1⟩ := cells2 X3.out
          have yg := X2.out
          go_wp2_with (
            refine wpList_stI rfl 24 _ _ rfl g #[.int .i64 1, .slice A5 n5 c5] rfl rfl _ _ yg wsize2 rfl (by simp [Value.oneCell']) ?_
            intro w8 hg8 hbut hbel)
          exact ⟨⟨j + 1, PL, f.set s ((j : Int) + 1), A5, n5, c5, by go_num, by omega, HO', hidT hg8, hidT ((hbut.2 (g + 1) (by omega)).trans X1.out), hidT (X4.out.but (by omega) hbut), hidT (hbel _ _ X5.out HGW.out)⟩, by first | (simp [intOf]; done) | (simp [intOf]; omega)⟩
        · obtain ⟨ht, hP⟩ := HO.out.no s0 s1 (by omega : j < 100) hf
          rw [ht, hP] at hpu
          have v1 : (v == 0) = false := by rw [← hv]; simpa using hf
          have HV := hidT hv
          clear ht hP hf hv
          go_wp2_with fail
          with_reducible refine hpu.mono ?_
          rintro e w5 ⟨v5, rfl, hK5, hb5⟩
          obtain ⟨A5, n5, c5, us5, ev5, hr5, ha5, hf5⟩ := id hK5
          have ev5' : v5 = .agg #[.int .i64 1, .slice A5 n5 c5] := ev5
          clear ev5 hr5 ha5 hf5
          subst ev5'
          have t1 := alloc_at w5 (.cells #[.int .i64 1, .slice A5 n5 c5] 24) _ rfl
          have t3 := nkeep w5 (.cells #[.int .i64 1, .slice A5 n5 c5] 24)
          have hgv5 := hb5.size
          obtain ⟨V5, hV5⟩ : ∃ V, w5.alloc (.cells #[.int .i64 1, .slice A5 n5 c5] 24) = V := ⟨_, rfl⟩
          have hb57 := bthen hb5 t3
          have hk7 := (hK5.below t3).mono (show g + 2 ≤ wr.heap.size by omega)
          rw [hV5] at t1 hb57 hk7
          have HV5 := hidT hV5
          have YG := hidT (keepH XG.out hb57)
          have YA := hidT (keepH XA.out hb57)
          have B5 := hidT (bthen XB.out hb57)
          have K5 := hidT hk7
          obtain ⟨gv, hgv⟩ : ∃ gv, w5.heap.size = gv := ⟨_, rfl⟩
          rw [hgv] at t1 hgv5
          have YX := hidT t1
          clear t1 t3 hb57 hk7 hV5 hb5 hK5 hpu i0 i1
          have c1 := arr_cell YA.out HO.out.2.1 s1
          rw [HV.out] at c1
          rw [← HV5.out] at c1
          go_upto_region 15 with fail
          rw [HV5.out]
          clear hgv c1
          obtain ⟨yc0, yc1⟩ := cells2 YX.out
          have yg := YG.out
          go_wp2_with (
            refine wpList_stI rfl 24 _ _ rfl g #[.int .i64 1, .slice A5 n5 c5] rfl rfl _ _ yg wsize2 rfl (by simp [Value.oneCell']) ?_
            intro w8 hg8 hbut hbel)
          exact ⟨⟨j + 1, K, f, A5, n5, c5, by go_num, by omega, HO, hidT hg8, hidT ((hbut.2 (g + 1) (by omega)).trans YA.out), hidT (K5.out.but (by omega) hbut), hidT (hbel _ _ B5.out HGW.out)⟩, by first | (simp [intOf]; done) | (simp [intOf]; omega)⟩
      · have hjm2 : j = m := by omega
        subst hjm2
        obtain ⟨hq0, hq1⟩ := HQ.out
        have e1 : Int.tmod q 40 = q % 40 := Int.tmod_eq_emod_of_nonneg hq0
        have e2 : wrap64 q = q := IntWalk.wrap64_in _ (by omega)
        obtain ⟨t, ht⟩ : ∃ t, q % 40 = t := ⟨_, rfl⟩
        have t0 : 0 ≤ t := by omega
        have t40 : t < 40 := by omega
        rw [ht] at e1
        have hto : Win.topOf t = t := by unfold Win.topOf; rw [if_neg (by omega)]
        obtain ⟨i0, i1⟩ := cells2 XG.out
        have hga := wgap_any (.agg #[.int .i64 1, .slice B nl d]) ⟨1, K⟩ t wr XK.out.is HO.out.1.1
        have hri := (Win.right_iff.1 HO.out.1.1).2.2
        have HLE : Hid (∀ s : Nat, Win.waits K s = true → s ≤ 30) := hidT fun s h => by
          obtain ⟨x, hx, hxq⟩ := Win.waits_iff.1 h
          have := HO.out.1.2 x hx
          omega
        have hf1 := (Win.fst_low HO.out.1.1).1
        obtain ⟨fi, hfi⟩ : ∃ fi : Nat, Win.fst ⟨1, K⟩ = (fi : Int) := ⟨(Win.fst ⟨1, K⟩).toNat, by omega⟩
        have HBE : Hid (∀ s : Nat, 1 ≤ s → s < fi → Win.waits K s = true) := hidT fun s h1 h2 => Win.waits_run (s := 1) (by omega) (by have : Win.fst ⟨1, K⟩ = 1 + (Win.run 1 K : Int) := rfl; omega)
        have HFF : Hid (Win.waits K fi = false) := hidT (by have := Win.fst_free hri; rw [hfi] at this; exact this)
        rw [hfi] at hf1
        clear ht hq0 hq1 hjm
        by_cases hlf : Win.lst ⟨1, K⟩ t < Win.fst ⟨1, K⟩
        · have hft : t < (fi : Int) := by
            have h3 := (Win.lst_far hri t).1 hlf
            rw [hto, hfi] at h3
            exact h3
          rw [Win.gap_none hlf] at hga
          have hga' : Calls Try.prog 23 #[.agg #[.int .i64 1, .slice B nl d], .int .i64 t] wr (fun e w' => e = .returned (.tuple #[.int .i64 0, .int .i64 0]) ∧ Below wr.heap.size wr w') := hga
          clear hga hlf hri hto hfi
          go_wp2_with fail
          clear e1 e2
          with_reducible refine hga'.mono ?_
          rintro e w4 ⟨rfl, hb4⟩
          have YG := hidT (keepH XG.out hb4)
          have YA := hidT (keepH XA.out hb4)
          have YK := hidT (XK.out.below hb4)
          have YB := hidT (bthen XB.out hb4)
          clear hb4 hga' i0 i1 XG XA XK XB
          go_wp2_with fail
          go_loopw [15, 16] (fun mi nn wr => ∃ n : Nat, 1 ≤ n ∧ nn = .int .i64 n ∧ mi = .int .i64 0 ∧ (n : Int) ≤ t + 1 ∧ w4 = wr) (fun _ nn _ => (t + 2 - intOf nn).toNat)
          case atStart => exact ⟨1, Nat.le_refl _, rfl, rfl, by omega, rfl⟩
          case round =>
            obtain ⟨n, hn1, rfl, rfl, hnt, rfl⟩ := hrel
            by_cases hn : (n : Int) ≤ t
            · have u1 : decide ((n : Int) ≤ t) = true := by simpa using hn
              have hw := HBE.out n hn1 (by omega)
              have hn30 := HLE.out n hw
              have hfn := (HO.out.2.2.2.1 n hn1 hn30).1 hw
              have c1 := arr_cell YA.out HO.out.2.1 hn30
              obtain ⟨v, hv⟩ : ∃ v, f.getD n 0 = v := ⟨_, rfl⟩
              rw [hv] at c1 hfn
              have v1 : (v == 0) = false := by simpa using hfn
              have u2 : decide (30 < n) = false := by rw [decide_eq_false_iff_not]; omega
              have u3 : decide ((30 : Int) < (n : Int)) = false := by rw [decide_eq_false_iff_not]; omega
              have y0 : (0 : Int) ≤ (n : Int) := by omega
              have y1 : (n : Int) < 31 := by omega
              have y2 : n < 31 := by omega
              clear hw hfn hv
              go_wp2
              exact ⟨⟨n + 1, by omega, by go_num, rfl, by push_cast; omega, trivial⟩, by simp [intOf]; omega⟩
            · have u1 : decide ((n : Int) ≤ t) = false := by simpa using hn
              go_wp2_with fail
              go_loopw [17] (fun nn wr => nn = .int .i64 0 ∧ w4 = wr) (fun _ _ => 0)
              case atStart => exact ⟨rfl, rfl⟩
              case round =>
                obtain ⟨rfl, rfl⟩ := hrel
                go_wp2_with fail
                clear u1
                go_loopw [18] (fun nn wr => ∃ (n : Nat) (K : List Item.It) (B : Option Addr) (nl d : Nat), nn = .int .i64 (n : Int) ∧ 1 ≤ n ∧ n ≤ 32 ∧ Hid (Win.right ⟨(n : Int), K⟩ = true ∧ (∀ x ∈ K, x.q ≤ 30) ∧ (∀ x ∈ K, ∃ s : Nat, x = ack s (f.getD s 0 - 1)) ∧ (∀ s : Nat, n ≤ s → s ≤ 30 → (Win.waits K s = true ↔ f.getD s 0 ≠ 0))) ∧
                    Hid (wr.heap[g]? = some (.cells #[.int .i64 (n : Int), .slice B nl d] 24 (0, 0))) ∧ Hid (wr.heap[g + 1]? = some (.cells (is f).toArray 48 (0, 0))) ∧ Hid (FrK wr (g + 2) (.agg #[.int .i64 (n : Int), .slice B nl d]) ⟨(n : Int), K⟩) ∧ Hid (Below w.heap.size w wr)) (fun nn _ => 33 - (intOf nn).toNat)
                case atStart => exact ⟨1, K, B, nl, d, rfl, by omega, by omega, hidT ⟨HO.out.1.1, HO.out.1.2, HO.out.2.2.1, fun s h1 h2 => HO.out.2.2.2.1 s h1 h2⟩, YG, YA, YK, YB⟩
                case round =>
                  have HFL := hidT HO.out.2.1
                  have HFB := hidT HO.out.2.2.2.2
                  clear HO YG YA YK YB hgs HLE HBE HFF
                  obtain ⟨n, K, B, nl, d, rfl, hn1, hn32, HR, XG, XA, XK, XB⟩ := hrel
                  have hgs := blk_lt XA.out
                  obtain ⟨i0, i1⟩ := cells2 XG.out
                  by_cases hn31 : n ≤ 31
                  · have u1 : decide (n ≤ 31) = true := by simpa using hn31
                    have u2 : decide ((n : Int) ≤ 31) = true := by rw [decide_eq_true_eq]; omega
                    obtain ⟨R1, R2, R3, R4⟩ := HR.out
                    have hri := (Win.right_iff.1 R1).2.2
                    have hwn : Win.waits K n = (Win.peek ⟨(n : Int), K⟩).isSome := Win.waits_next hri
                    have htk := wtake_any (.agg #[.int .i64 (n : Int), .slice B nl d]) ⟨(n : Int), K⟩ wr XK.out.is R1 (right_small R1)
                    have hrt := Win.right_take R1
                    rcases Option.eq_none_or_eq_some (Win.peek ⟨(n : Int), K⟩) with hp | ⟨y, hp⟩
                    · rw [hp] at hwn
                      have hwf : Win.waits K n = false := hwn
                      rw [hp, (Win.peek_none hp).1] at htk
                      have HZ : Hid (n ≤ 30 → f.getD n 0 = 0) := hidT fun h => Decidable.byContradiction fun h2 => by
                        have := (R4 n (Nat.le_refl _) h).2 h2
                        rw [hwf] at this
                        cases this
                      clear hp hwn hwf hri hrt R1 R2 R3 R4
                      go_wp2_with fail
                      with_reducible refine htk.mono ?_
                      rintro e w5 ⟨u5, v5, rfl, hI5, hK5, hb5⟩
                      obtain ⟨LA5, ln5, lc5, BA5, bn5, bc5, eu5, hl5, hbb5, hla5, hba5⟩ := id hI5
                      have eu5' : u5 = .agg #[.int .i64 0, .int .i64 0, .int .i64 0, .int .i64 0, .int .i64 0, .int .i64 0, .slice LA5 ln5 lc5, .slice BA5 bn5 bc5] := eu5
                      clear eu5 hl5 hbb5 hla5 hba5
                      subst eu5'
                      obtain ⟨A5, n5, c5, us5, ev5, hr5, ha5, hf5⟩ := id hK5
                      have ev5' : v5 = .agg #[.int .i64 (n : Int), .slice A5 n5 c5] := ev5
                      clear ev5 hr5 ha5 hf5
                      subst ev5'
                      obtain ⟨t1, t2, t3⟩ := two_alloc w5 (.cells #[.int .i64 0, .int .i64 0, .int .i64 0, .int .i64 0, .int .i64 0, .int .i64 0, .slice LA5 ln5 lc5, .slice BA5 bn5 bc5] 28) (.cells #[.int .i64 (n : Int), .slice A5 n5 c5] 24)
                      have hb57 := bthen hb5 t3
                      have ya := keepH XA.out hb57
                      have B5 := hidT (bthen XB.out hb57)
                      have y0 : (0 : Int) ≤ (n : Int) := by omega
                      clear t1 t2 t3 hb57 hb5 hK5 hI5 htk i0 i1
                      by_cases hn30 : n ≤ 30
                      · have c1 := arr_cell ya HFL.out hn30
                        rw [HZ.out hn30] at c1
                        have u3 : decide (n ≤ 30) = true := by simpa using hn30
                        have u4 : decide ((n : Int) ≤ 30) = true := by rw [decide_eq_true_eq]; omega
                        have y1 : (n : Int) < 31 := by omega
                        have y2 : n < 31 := by omega
                        clear ya
                        go_wp2
                        go_ret
                        exact ⟨rfl, B5.out⟩
                      · have u3 : decide (n ≤ 30) = false := by simpa using hn30
                        have u4 : decide ((n : Int) ≤ 30) = false := by rw [decide_eq_false_iff_not]; omega
                        clear ya
                        go_wp2
                        go_ret
                        exact ⟨rfl, B5.out⟩
                    · obtain ⟨r, el, eq, etk⟩ := Win.peek_some hp
                      have el' : K = y :: r := el
                      have eq' : y.q = (n : Int) := eq
                      have etk' : Win.take ⟨(n : Int), K⟩ = ⟨(n : Int) + 1, r⟩ := etk
                      rw [hp, etk'] at htk
                      rw [etk'] at hrt
                      obtain ⟨s, hys⟩ := R3 y (by rw [el']; exact List.mem_cons_self)
                      have hsn : s = n := by rw [hys] at eq'; have h : (s : Int) = (n : Int) := eq'; omega
                      subst hsn
                      obtain ⟨v, hv⟩ : ∃ v, f.getD s 0 = v := ⟨_, rfl⟩
                      rw [hv] at hys
                      subst hys
                      have hn30 : s ≤ 30 := by have h := R2 _ (by rw [el']; exact List.mem_cons_self); have h2 : (s : Int) ≤ 30 := h; omega
                      have hvn : v ≠ 0 := by
                        rw [← hv]
                        refine (R4 s (Nat.le_refl _) hn30).1 ?_
                        rw [hwn, hp]; rfl
                      have hvb := HFB.out s
                      rw [hv] at hvb
                      obtain ⟨hv0, hv100⟩ := hvb
                      have HR' : Hid (Win.right ⟨((s + 1 : Nat) : Int), r⟩ = true ∧ (∀ x ∈ r, x.q ≤ 30) ∧ (∀ x ∈ r, ∃ s : Nat, x = ack s (f.getD s 0 - 1)) ∧ (∀ s' : Nat, s + 1 ≤ s' → s' ≤ 30 → (Win.waits r s' = true ↔ f.getD s' 0 ≠ 0))) := hidT ⟨hrt, fun x hx => R2 x (by rw [el']; exact List.mem_cons_of_mem _ hx), fun x hx => R3 x (by rw [el']; exact List.mem_cons_of_mem _ hx), fun s' h1 h2 => by
                        rw [← R4 s' (by omega) h2, el']
                        constructor
                        · intro h
                          obtain ⟨z, hz, hq⟩ := Win.waits_iff.1 h
                          exact Win.waits_iff.2 ⟨z, List.mem_cons_of_mem _ hz, hq⟩
                        · intro h
                          obtain ⟨z, hz, hq⟩ := Win.waits_iff.1 h
                          rcases List.mem_cons.1 hz with rfl | hz
                          · have h3 : (s : Int) = (s' : Int) := hq
                            omega
                          · exact Win.waits_iff.2 ⟨z, hz, hq⟩⟩
                      have HV := hidT hv
                      have v1 : (v != 0) = true := by simpa using hvn
                      have v2 : ((s : Int) != (s : Int)) = false := by simp
                      have v2' : (s != s) = false := by simp
                      have v3 : (v - 1 != v - 1) = false := by simp
                      have w3' : IntKind.i64.wrap (v - 1) = v - 1 := IntWalk.i64_in _ (by omega)
                      have w4' : wrap64 (v - 1) = v - 1 := IntWalk.wrap64_in _ (by omega)
                      clear hp hwn hri el eq etk el' eq' etk' hrt R1 R2 R3 R4 hv hvn
                      go_wp2_with fail
                      with_reducible refine htk.mono ?_
                      rintro e w5 ⟨u5, v5, rfl, hI5, hK5, hb5⟩
                      obtain ⟨LA5, ln5, lc5, BA5, bn5, bc5, eu5, hl5, hbb5, hla5, hba5⟩ := id hI5
                      have eu5' : u5 = .agg #[.int .i64 5, .int .i64 (s : Int), .int .i64 0, .int .i64 0, .int .i64 0, .int .i64 (v - 1), .slice LA5 ln5 lc5, .slice BA5 bn5 bc5] := eu5
                      clear eu5 hl5 hbb5 hla5 hba5
                      subst eu5'
                      obtain ⟨A5, n5, c5, us5, ev5, hr5, ha5, hf5⟩ := id hK5
                      have ev5' : v5 = .agg #[.int .i64 ((s : Int) + 1), .slice A5 n5 c5] := ev5
                      clear ev5 hr5 ha5 hf5
                      subst ev5'
                      obtain ⟨t1, t2, t3⟩ := two_alloc w5 (.cells #[.int .i64 5, .int .i64 (s : Int), .int .i64 0, .int .i64 0, .int .i64 0, .int .i64 (v - 1), .slice LA5 ln5 lc5, .slice BA5 bn5 bc5] 28) (.cells #[.int .i64 ((s : Int) + 1), .slice A5 n5 c5] 24)
                      obtain ⟨V5, hV5⟩ : ∃ V, (w5.alloc (.cells #[.int .i64 5, .int .i64 (s : Int), .int .i64 0, .int .i64 0, .int .i64 0, .int .i64 (v - 1), .slice LA5 ln5 lc5, .slice BA5 bn5 bc5] 28)).alloc (.cells #[.int .i64 ((s : Int) + 1), .slice A5 n5 c5] 24) = V := ⟨_, rfl⟩
                      have hb57 := bthen hb5 t3
                      have hk7 := (hK5.below t3).mono (show g + 2 ≤ wr.heap.size by omega)
                      rw [hV5] at t1 t2 hb57 hk7
                      have HV5 := hidT hV5
                      have YG := hidT (keepH XG.out hb57)
                      have YA := hidT (keepH XA.out hb57)
                      have K5 := hidT hk7
                      have B5 := hidT (bthen XB.out hb57)
                      obtain ⟨gv, hgv⟩ : ∃ gv, w5.heap.size = gv := ⟨_, rfl⟩
                      rw [hgv] at t1 t2
                      have T1 := hidT t1
                      have T2 := hidT t2
                      have c1 := arr_cell YA.out HFL.out hn30
                      rw [HV.out] at c1
                      have l1 := (cells8 t1).2.1
                      have l5 := (cells8 t1).2.2.2.2.2.1
                      rw [← HV5.out] at c1 l1 l5
                      have u3 : decide (s ≤ 30) = true := by simpa using hn30
                      have u4 : decide ((s : Int) ≤ 30) = true := by rw [decide_eq_true_eq]; omega
                      have y0 : (0 : Int) ≤ (s : Int) := by omega
                      have y1 : (s : Int) < 31 := by omega
                      have y2 : s < 31 := by omega
                      clear t1 t2 t3 hb57 hk7 hV5 hb5 hK5 hI5 htk i0 i1
                      go_upto_region 40 with fail
                      rw [HV5.out]
                      rw [HV5.out] at c1 l1 l5
                      clear hgv
                      go_quiet (fail)
                      have BX := hidT (drawn_below V5 nq)
                      have T2' := hidT (keepH T2.out BX.out)
                      have YG' := hidT (keepH YG.out BX.out)
                      have YA' := hidT (keepH YA.out BX.out)
                      have K5' := hidT (K5.out.below BX.out)
                      have B5' := hidT (bthen B5.out BX.out)
                      clear c1 l1 l5 BX T1 T2 YG YA K5 B5 HV5
                      generalize V5.drewN nq = X at *
                      obtain ⟨yc0, yc1⟩ := cells2 T2'.out
                      have yg := YG'.out
                      go_wp2_with (
                        refine wpList_stI rfl 24 _ _ rfl g #[.int .i64 ((s : Int) + 1), .slice A5 n5 c5] rfl rfl _ _ yg wsize2 rfl (by simp [Value.oneCell']) ?_
                        intro w8 hg8 hbut hbel)
                      exact ⟨⟨s + 1, r, A5, n5, c5, by go_num, by omega, by omega, HR', hidT hg8, hidT ((hbut.2 (g + 1) (by omega)).trans YA'.out), hidT (K5'.out.but (by omega) hbut), hidT (hbel _ _ B5'.out HGW.out)⟩, by simp [intOf]; omega⟩
                  · have u1 : decide (n ≤ 31) = false := by simpa using hn31
                    have u2 : decide ((n : Int) ≤ 31) = false := by rw [decide_eq_false_iff_not]; omega
                    go_wp2
                    go_ret
                    exact ⟨rfl, XB.out⟩
        · have hfl : Win.fst ⟨1, K⟩ ≤ Win.lst ⟨1, K⟩ t := by omega
          rw [Win.gap_some hfl] at hga
          have hmp := Win.many_pos hfl
          have hfr : ∀ n : Nat, fi ≤ n → (n : Int) < fi + Win.many ⟨1, K⟩ t → (n : Int) ≤ t ∧ Win.waits K n = false := fun n h0 hi => by
            have h1 := (Win.many_more hri hfl (n := n - fi) (by omega)).1 (by omega)
            rw [hto, hfi, show (fi : Int) + ((n - fi : Nat) : Int) = (n : Int) from by omega] at h1
            exact ⟨h1.2.1, h1.2.2⟩
          obtain ⟨mn, hmn⟩ : ∃ mn, Win.many ⟨1, K⟩ t = mn := ⟨_, rfl⟩
          rw [hfi] at hga
          rw [hmn] at hmp hfr hga
          obtain ⟨hm1, hm64⟩ := hmp
          have hft := (hfr fi (Nat.le_refl _) (by omega)).1
          have hga' : Calls Try.prog 23 #[.agg #[.int .i64 1, .slice B nl d], .int .i64 t] wr (fun e w' => e = .returned (.tuple #[.int .i64 fi, .int .i64 mn]) ∧ Below wr.heap.size wr w') := hga
          have HFR := hidT hfr
          have f0' : 1 ≤ fi := by omega
          clear hga hlf hri hto hfi hfl hfr hmn
          go_wp2_with fail
          clear e1 e2
          with_reducible refine hga'.mono ?_
          rintro e w4 ⟨rfl, hb4⟩
          have YG := hidT (keepH XG.out hb4)
          have YA := hidT (keepH XA.out hb4)
          have YK := hidT (XK.out.below hb4)
          have YB := hidT (bthen XB.out hb4)
          clear hb4 hga' i0 i1 XG XA XK XB
          go_wp2_with fail
          go_loopw [15, 16] (fun mi nn wr => ∃ n : Nat, 1 ≤ n ∧ nn = .int .i64 n ∧ ((mi = .int .i64 0 ∧ n ≤ fi) ∨ (mi = .int .i64 (fi : Int) ∧ n = fi + 1)) ∧ w4 = wr) (fun _ nn _ => (t + 2 - intOf nn).toNat)
          case atStart => exact ⟨1, Nat.le_refl _, rfl, .inl ⟨rfl, f0'⟩, rfl⟩
          case round =>
            obtain ⟨n, hn1, rfl, hor, rfl⟩ := hrel
            rcases hor with ⟨rfl, hnf⟩ | ⟨rfl, hnf⟩
            · have u1 : decide ((n : Int) ≤ t) = true := by rw [decide_eq_true_eq]; omega
              have y0 : (0 : Int) ≤ (n : Int) := by omega
              by_cases hne : n = fi
              · subst hne
                by_cases hn30 : n ≤ 30
                · have hfn : f.getD n 0 = 0 := Decidable.byContradiction fun h => by
                    have := (HO.out.2.2.2.1 n hn1 hn30).2 h
                    rw [HFF.out] at this
                    cases this
                  have c1 := arr_cell YA.out HO.out.2.1 hn30
                  rw [hfn] at c1
                  have u2 : decide (30 < n) = false := by rw [decide_eq_false_iff_not]; omega
                  have u3 : decide ((30 : Int) < (n : Int)) = false := by rw [decide_eq_false_iff_not]; omega
                  have y1 : (n : Int) < 31 := by omega
                  have y2 : n < 31 := by omega
                  clear hfn
                  go_wp2
                  exact ⟨⟨n + 1, by omega, by go_num, .inr ⟨rfl, rfl⟩, trivial⟩, by simp [intOf]; omega⟩
                · have u2 : decide (30 < n) = true := by rw [decide_eq_true_eq]; omega
                  have u3 : decide ((30 : Int) < (n : Int)) = true := by rw [decide_eq_true_eq]; omega
                  go_wp2
                  exact ⟨⟨n + 1, by omega, by go_num, .inr ⟨rfl, rfl⟩, trivial⟩, by simp [intOf]; omega⟩
              · have hw := HBE.out n hn1 (by omega)
                have hn30 := HLE.out n hw
                have hfn := (HO.out.2.2.2.1 n hn1 hn30).1 hw
                have c1 := arr_cell YA.out HO.out.2.1 hn30
                obtain ⟨v, hv⟩ : ∃ v, f.getD n 0 = v := ⟨_, rfl⟩
                rw [hv] at c1 hfn
                have v1 : (v == 0) = false := by simpa using hfn
                have u2 : decide (30 < n) = false := by rw [decide_eq_false_iff_not]; omega
                have u3 : decide ((30 : Int) < (n : Int)) = false := by rw [decide_eq_false_iff_not]; omega
                have y1 : (n : Int) < 31 := by omega
                have y2 : n < 31 := by omega
                clear hw hfn hv
                go_wp2
                exact ⟨⟨n + 1, by omega, by go_num, .inl ⟨rfl, by omega⟩, trivial⟩, by simp [intOf]; omega⟩
            · have v0 : ((fi : Int) == 0) = false := by simp; omega
              have v0' : (fi == 0) = false := by simp; omega
              have v2 : ((fi : Int) != (fi : Int)) = false := by simp
              have v2' : (fi != fi) = false := by simp
              have v3 : (mn == 0) = false := by simp; omega
              obtain ⟨uu, hu⟩ : ∃ uu, decide ((n : Int) ≤ t) = uu := ⟨_, rfl⟩
              cases uu with
              | true =>
                clear hnf
                go_wp2_with fail
                clear hu v0 v0' v2 v2' v3
                go_loopw [17] (fun nn wr => ∃ n : Nat, fi ≤ n ∧ (n : Int) ≤ fi + mn ∧ nn = .int .i64 (n : Int) ∧ w4 = wr) (fun nn _ => ((fi : Int) + mn + 1 - intOf nn).toNat)
                case atStart => exact ⟨fi, Nat.le_refl _, by omega, rfl, rfl⟩
                case round =>
                  obtain ⟨n', hn'1, hn'2, rfl, rfl⟩ := hrel
                  have w1' : wrap64 ((fi : Int) + mn) = (fi : Int) + mn := IntWalk.wrap64_in _ (by omega)
                  have w2' : IntKind.i64.wrap ((fi : Int) + mn) = (fi : Int) + mn := IntWalk.i64_in _ (by omega)
                  by_cases hlt : (n' : Int) < (fi : Int) + mn
                  · have u1 : decide ((n' : Int) < (fi : Int) + mn) = true := by simpa using hlt
                    obtain ⟨h1, h2⟩ := HFR.out n' hn'1 hlt
                    have u2 : decide ((n' : Int) < 1) = false := by rw [decide_eq_false_iff_not]; omega
                    have u2a : decide (n' < 1) = false := by rw [decide_eq_false_iff_not]; omega
                    have u2b : (n' == 0) = false := by simp; omega
                    have u2c : decide (n' = 0) = false := by simp; omega
                    have u3 : decide (t < (n' : Int)) = false := by rw [decide_eq_false_iff_not]; omega
                    have y0 : (0 : Int) ≤ (n' : Int) := by omega
                    by_cases hn30 : n' ≤ 30
                    · have hfn : f.getD n' 0 = 0 := Decidable.byContradiction fun h => by
                        have := (HO.out.2.2.2.1 n' (by omega) hn30).2 h
                        rw [h2] at this
                        cases this
                      have c1 := arr_cell YA.out HO.out.2.1 hn30
                      rw [hfn] at c1
                      have u4 : decide (n' ≤ 30) = true := by simpa using hn30
                      have u5 : decide ((n' : Int) ≤ 30) = true := by rw [decide_eq_true_eq]; omega
                      have y1 : (n' : Int) < 31 := by omega
                      have y2 : n' < 31 := by omega
                      clear hfn h2
                      go_wp2
                      exact ⟨⟨n' + 1, by omega, by push_cast; omega, by go_num, trivial⟩, by simp [intOf]; omega⟩
                    · have u4 : decide (n' ≤ 30) = false := by simpa using hn30
                      have u5 : decide ((n' : Int) ≤ 30) = false := by rw [decide_eq_false_iff_not]; omega
                      clear h2
                      go_wp2
                      exact ⟨⟨n' + 1, by omega, by push_cast; omega, by go_num, trivial⟩, by simp [intOf]; omega⟩
                  · have u1 : decide ((n' : Int) < (fi : Int) + mn) = false := by simpa using hlt
                    go_wp2_with fail
                    clear u1 w1' w2'
                    go_loopw [18] (fun nn wr => ∃ (n : Nat) (K : List Item.It) (B : Option Addr) (nl d : Nat), nn = .int .i64 (n : Int) ∧ 1 ≤ n ∧ n ≤ 32 ∧ Hid (Win.right ⟨(n : Int), K⟩ = true ∧ (∀ x ∈ K, x.q ≤ 30) ∧ (∀ x ∈ K, ∃ s : Nat, x = ack s (f.getD s 0 - 1)) ∧ (∀ s : Nat, n ≤ s → s ≤ 30 → (Win.waits K s = true ↔ f.getD s 0 ≠ 0))) ∧
                        Hid (wr.heap[g]? = some (.cells #[.int .i64 (n : Int), .slice B nl d] 24 (0, 0))) ∧ Hid (wr.heap[g + 1]? = some (.cells (is f).toArray 48 (0, 0))) ∧ Hid (FrK wr (g + 2) (.agg #[.int .i64 (n : Int), .slice B nl d]) ⟨(n : Int), K⟩) ∧ Hid (Below w.heap.size w wr)) (fun nn _ => 33 - (intOf nn).toNat)
                    case atStart => exact ⟨1, K, B, nl, d, rfl, by omega, by omega, hidT ⟨HO.out.1.1, HO.out.1.2, HO.out.2.2.1, fun s h1 h2 => HO.out.2.2.2.1 s h1 h2⟩, YG, YA, YK, YB⟩
                    case round =>
                      have HFL := hidT HO.out.2.1
                      have HFB := hidT HO.out.2.2.2.2
                      clear HO YG YA YK YB hgs HLE HBE HFF
                      obtain ⟨n, K, B, nl, d, rfl, hn1, hn32, HR, XG, XA, XK, XB⟩ := hrel
                      have hgs := blk_lt XA.out
                      obtain ⟨i0, i1⟩ := cells2 XG.out
                      by_cases hn31 : n ≤ 31
                      · have u1 : decide (n ≤ 31) = true := by simpa using hn31
                        have u2 : decide ((n : Int) ≤ 31) = true := by rw [decide_eq_true_eq]; omega
                        obtain ⟨R1, R2, R3, R4⟩ := HR.out
                        have hri := (Win.right_iff.1 R1).2.2
                        have hwn : Win.waits K n = (Win.peek ⟨(n : Int), K⟩).isSome := Win.waits_next hri
                        have htk := wtake_any (.agg #[.int .i64 (n : Int), .slice B nl d]) ⟨(n : Int), K⟩ wr XK.out.is R1 (right_small R1)
                        have hrt := Win.right_take R1
                        rcases Option.eq_none_or_eq_some (Win.peek ⟨(n : Int), K⟩) with hp | ⟨y, hp⟩
                        · rw [hp] at hwn
                          have hwf : Win.waits K n = false := hwn
                          rw [hp, (Win.peek_none hp).1] at htk
                          have HZ : Hid (n ≤ 30 → f.getD n 0 = 0) := hidT fun h => Decidable.byContradiction fun h2 => by
                            have := (R4 n (Nat.le_refl _) h).2 h2
                            rw [hwf] at this
                            cases this
                          clear hp hwn hwf hri hrt R1 R2 R3 R4
                          go_wp2_with fail
                          with_reducible refine htk.mono ?_
                          rintro e w5 ⟨u5, v5, rfl, hI5, hK5, hb5⟩
                          obtain ⟨LA5, ln5, lc5, BA5, bn5, bc5, eu5, hl5, hbb5, hla5, hba5⟩ := id hI5
                          have eu5' : u5 = .agg #[.int .i64 0, .int .i64 0, .int .i64 0, .int .i64 0, .int .i64 0, .int .i64 0, .slice LA5 ln5 lc5, .slice BA5 bn5 bc5] := eu5
                          clear eu5 hl5 hbb5 hla5 hba5
                          subst eu5'
                          obtain ⟨A5, n5, c5, us5, ev5, hr5, ha5, hf5⟩ := id hK5
                          have ev5' : v5 = .agg #[.int .i64 (n : Int), .slice A5 n5 c5] := ev5
                          clear ev5 hr5 ha5 hf5
                          subst ev5'
                          obtain ⟨t1, t2, t3⟩ := two_alloc w5 (.cells #[.int .i64 0, .int .i64 0, .int .i64 0, .int .i64 0, .int .i64 0, .int .i64 0, .slice LA5 ln5 lc5, .slice BA5 bn5 bc5] 28) (.cells #[.int .i64 (n : Int), .slice A5 n5 c5] 24)
                          have hb57 := bthen hb5 t3
                          have ya := keepH XA.out hb57
                          have B5 := hidT (bthen XB.out hb57)
                          have y0 : (0 : Int) ≤ (n : Int) := by omega
                          clear t1 t2 t3 hb57 hb5 hK5 hI5 htk i0 i1
                          by_cases hn30 : n ≤ 30
                          · have c1 := arr_cell ya HFL.out hn30
                            rw [HZ.out hn30] at c1
                            have u3 : decide (n ≤ 30) = true := by simpa using hn30
                            have u4 : decide ((n : Int) ≤ 30) = true := by rw [decide_eq_true_eq]; omega
                            have y1 : (n : Int) < 31 := by omega
                            have y2 : n < 31 := by omega
                            clear ya
                            go_wp2
                            go_ret
                            exact ⟨rfl, B5.out⟩
                          · have u3 : decide (n ≤ 30) = false := by simpa using hn30
                            have u4 : decide ((n : Int) ≤ 30) = false := by rw [decide_eq_false_iff_not]; omega
                            clear ya
                            go_wp2
                            go_ret
                            exact ⟨rfl, B5.out⟩
                        · obtain ⟨r, el, eq, etk⟩ := Win.peek_some hp
                          have el' : K = y :: r := el
                          have eq' : y.q = (n : Int) := eq
                          have etk' : Win.take ⟨(n : Int), K⟩ = ⟨(n : Int) + 1, r⟩ := etk
                          rw [hp, etk'] at htk
                          rw [etk'] at hrt
                          obtain ⟨s, hys⟩ := R3 y (by rw [el']; exact List.mem_cons_self)
                          have hsn : s = n := by rw [hys] at eq'; have h : (s : Int) = (n : Int) := eq'; omega
                          subst hsn
                          obtain ⟨v, hv⟩ : ∃ v, f.getD s 0 = v := ⟨_, rfl⟩
                          rw [hv] at hys
                          subst hys
                          have hn30 : s ≤ 30 := by have h := R2 _ (by rw [el']; exact List.mem_cons_self); have h2 : (s : Int) ≤ 30 := h; omega
                          have hvn : v ≠ 0 := by
                            rw [← hv]
                            refine (R4 s (Nat.le_refl _) hn30).1 ?_
                            rw [hwn, hp]; rfl
                          have hvb := HFB.out s
                          rw [hv] at hvb
                          obtain ⟨hv0, hv100⟩ := hvb
                          have HR' : Hid (Win.right ⟨((s + 1 : Nat) : Int), r⟩ = true ∧ (∀ x ∈ r, x.q ≤ 30) ∧ (∀ x ∈ r, ∃ s : Nat, x = ack s (f.getD s 0 - 1)) ∧ (∀ s' : Nat, s + 1 ≤ s' → s' ≤ 30 → (Win.waits r s' = true ↔ f.getD s' 0 ≠ 0))) := hidT ⟨hrt, fun x hx => R2 x (by rw [el']; exact List.mem_cons_of_mem _ hx), fun x hx => R3 x (by rw [el']; exact List.mem_cons_of_mem _ hx), fun s' h1 h2 => by
                            rw [← R4 s' (by omega) h2, el']
                            constructor
                            · intro h
                              obtain ⟨z, hz, hq⟩ := Win.waits_iff.1 h
                              exact Win.waits_iff.2 ⟨z, List.mem_cons_of_mem _ hz, hq⟩
                            · intro h
                              obtain ⟨z, hz, hq⟩ := Win.waits_iff.1 h
                              rcases List.mem_cons.1 hz with rfl | hz
                              · have h3 : (s : Int) = (s' : Int) := hq
                                omega
                              · exact Win.waits_iff.2 ⟨z, hz, hq⟩⟩
                          have HV := hidT hv
                          have v1 : (v != 0) = true := by simpa using hvn
                          have v2 : ((s : Int) != (s : Int)) = false := by simp
                          have v2' : (s != s) = false := by simp
                          have v3 : (v - 1 != v - 1) = false := by simp
                          have w3' : IntKind.i64.wrap (v - 1) = v - 1 := IntWalk.i64_in _ (by omega)
                          have w4' : wrap64 (v - 1) = v - 1 := IntWalk.wrap64_in _ (by omega)
                          clear hp hwn hri el eq etk el' eq' etk' hrt R1 R2 R3 R4 hv hvn
                          go_wp2_with fail
                          with_reducible refine htk.mono ?_
                          rintro e w5 ⟨u5, v5, rfl, hI5, hK5, hb5⟩
                          obtain ⟨LA5, ln5, lc5, BA5, bn5, bc5, eu5, hl5, hbb5, hla5, hba5⟩ := id hI5
                          have eu5' : u5 = .agg #[.int .i64 5, .int .i64 (s : Int), .int .i64 0, .int .i64 0, .int .i64 0, .int .i64 (v - 1), .slice LA5 ln5 lc5, .slice BA5 bn5 bc5] := eu5
                          clear eu5 hl5 hbb5 hla5 hba5
                          subst eu5'
                          obtain ⟨A5, n5, c5, us5, ev5, hr5, ha5, hf5⟩ := id hK5
                          have ev5' : v5 = .agg #[.int .i64 ((s : Int) + 1), .slice A5 n5 c5] := ev5
                          clear ev5 hr5 ha5 hf5
                          subst ev5'
                          obtain ⟨t1, t2, t3⟩ := two_alloc w5 (.cells #[.int .i64 5, .int .i64 (s : Int), .int .i64 0, .int .i64 0, .int .i64 0, .int .i64 (v - 1), .slice LA5 ln5 lc5, .slice BA5 bn5 bc5] 28) (.cells #[.int .i64 ((s : Int) + 1), .slice A5 n5 c5] 24)
                          obtain ⟨V5, hV5⟩ : ∃ V, (w5.alloc (.cells #[.int .i64 5, .int .i64 (s : Int), .int .i64 0, .int .i64 0, .int .i64 0, .int .i64 (v - 1), .slice LA5 ln5 lc5, .slice BA5 bn5 bc5] 28)).alloc (.cells #[.int .i64 ((s : Int) + 1), .slice A5 n5 c5] 24) = V := ⟨_, rfl⟩
                          have hb57 := bthen hb5 t3
                          have hk7 := (hK5.below t3).mono (show g + 2 ≤ wr.heap.size by omega)
                          rw [hV5] at t1 t2 hb57 hk7
                          have HV5 := hidT hV5
                          have YG := hidT (keepH XG.out hb57)
                          have YA := hidT (keepH XA.out hb57)
                          have K5 := hidT hk7
                          have B5 := hidT (bthen XB.out hb57)
                          obtain ⟨gv, hgv⟩ : ∃ gv, w5.heap.size = gv := ⟨_, rfl⟩
                          rw [hgv] at t1 t2
                          have T1 := hidT t1
                          have T2 := hidT t2
                          have c1 := arr_cell YA.out HFL.out hn30
                          rw [HV.out] at c1
                          have l1 := (cells8 t1).2.1
                          have l5 := (cells8 t1).2.2.2.2.2.1
                          rw [← HV5.out] at c1 l1 l5
                          have u3 : decide (s ≤ 30) = true := by simpa using hn30
                          have u4 : decide ((s : Int) ≤ 30) = true := by rw [decide_eq_true_eq]; omega
                          have y0 : (0 : Int) ≤ (s : Int) := by omega
                          have y1 : (s : Int) < 31 := by omega
                          have y2 : s < 31 := by omega
                          clear t1 t2 t3 hb57 hk7 hV5 hb5 hK5 hI5 htk i0 i1
                          go_upto_region 40 with fail
                          rw [HV5.out]
                          rw [HV5.out] at c1 l1 l5
                          clear hgv
                          go_quiet (fail)
                          have BX := hidT (drawn_below V5 nq)
                          have T2' := hidT (keepH T2.out BX.out)
                          have YG' := hidT (keepH YG.out BX.out)
                          have YA' := hidT (keepH YA.out BX.out)
                          have K5' := hidT (K5.out.below BX.out)
                          have B5' := hidT (bthen B5.out BX.out)
                          clear c1 l1 l5 BX T1 T2 YG YA K5 B5 HV5
                          generalize V5.drewN nq = X at *
                          obtain ⟨yc0, yc1⟩ := cells2 T2'.out
                          have yg := YG'.out
                          go_wp2_with (
                            refine wpList_stI rfl 24 _ _ rfl g #[.int .i64 ((s : Int) + 1), .slice A5 n5 c5] rfl rfl _ _ yg wsize2 rfl (by simp [Value.oneCell']) ?_
                            intro w8 hg8 hbut hbel)
                          exact ⟨⟨s + 1, r, A5, n5, c5, by go_num, by omega, by omega, HR', hidT hg8, hidT ((hbut.2 (g + 1) (by omega)).trans YA'.out), hidT (K5'.out.but (by omega) hbut), hidT (hbel _ _ B5'.out HGW.out)⟩, by simp [intOf]; omega⟩
                      · have u1 : decide (n ≤ 31) = false := by simpa using hn31
                        have u2 : decide ((n : Int) ≤ 31) = false := by rw [decide_eq_false_iff_not]; omega
                        go_wp2
                        go_ret
                        exact ⟨rfl, XB.out⟩
              | false =>
                clear hnf
                go_wp2_with fail
                clear hu v0 v0' v2 v2' v3
                go_loopw [17] (fun nn wr => ∃ n : Nat, fi ≤ n ∧ (n : Int) ≤ fi + mn ∧ nn = .int .i64 (n : Int) ∧ w4 = wr) (fun nn _ => ((fi : Int) + mn + 1 - intOf nn).toNat)
                case atStart => exact ⟨fi, Nat.le_refl _, by omega, rfl, rfl⟩
                case round =>
                  obtain ⟨n', hn'1, hn'2, rfl, rfl⟩ := hrel
                  have w1' : wrap64 ((fi : Int) + mn) = (fi : Int) + mn := IntWalk.wrap64_in _ (by omega)
                  have w2' : IntKind.i64.wrap ((fi : Int) + mn) = (fi : Int) + mn := IntWalk.i64_in _ (by omega)
                  by_cases hlt : (n' : Int) < (fi : Int) + mn
                  · have u1 : decide ((n' : Int) < (fi : Int) + mn) = true := by simpa using hlt
                    obtain ⟨h1, h2⟩ := HFR.out n' hn'1 hlt
                    have u2 : decide ((n' : Int) < 1) = false := by rw [decide_eq_false_iff_not]; omega
                    have u2a : decide (n' < 1) = false := by rw [decide_eq_false_iff_not]; omega
                    have u2b : (n' == 0) = false := by simp; omega
                    have u2c : decide (n' = 0) = false := by simp; omega
                    have u3 : decide (t < (n' : Int)) = false := by rw [decide_eq_false_iff_not]; omega
                    have y0 : (0 : Int) ≤ (n' : Int) := by omega
                    by_cases hn30 : n' ≤ 30
                    · have hfn : f.getD n' 0 = 0 := Decidable.byContradiction fun h => by
                        have := (HO.out.2.2.2.1 n' (by omega) hn30).2 h
                        rw [h2] at this
                        cases this
                      have c1 := arr_cell YA.out HO.out.2.1 hn30
                      rw [hfn] at c1
                      have u4 : decide (n' ≤ 30) = true := by simpa using hn30
                      have u5 : decide ((n' : Int) ≤ 30) = true := by rw [decide_eq_true_eq]; omega
                      have y1 : (n' : Int) < 31 := by omega
                      have y2 : n' < 31 := by omega
                      clear hfn h2
                      go_wp2
                      exact ⟨⟨n' + 1, by omega, by push_cast; omega, by go_num, trivial⟩, by simp [intOf]; omega⟩
                    · have u4 : decide (n' ≤ 30) = false := by simpa using hn30
                      have u5 : decide ((n' : Int) ≤ 30) = false := by rw [decide_eq_false_iff_not]; omega
                      clear h2
                      go_wp2
                      exact ⟨⟨n' + 1, by omega, by push_cast; omega, by go_num, trivial⟩, by simp [intOf]; omega⟩
                  · have u1 : decide ((n' : Int) < (fi : Int) + mn) = false := by simpa using hlt
                    go_wp2_with fail
                    clear u1 w1' w2'
                    go_loopw [18] (fun nn wr => ∃ (n : Nat) (K : List Item.It) (B : Option Addr) (nl d : Nat), nn = .int .i64 (n : Int) ∧ 1 ≤ n ∧ n ≤ 32 ∧ Hid (Win.right ⟨(n : Int), K⟩ = true ∧ (∀ x ∈ K, x.q ≤ 30) ∧ (∀ x ∈ K, ∃ s : Nat, x = ack s (f.getD s 0 - 1)) ∧ (∀ s : Nat, n ≤ s → s ≤ 30 → (Win.waits K s = true ↔ f.getD s 0 ≠ 0))) ∧
                        Hid (wr.heap[g]? = some (.cells #[.int .i64 (n : Int), .slice B nl d] 24 (0, 0))) ∧ Hid (wr.heap[g + 1]? = some (.cells (is f).toArray 48 (0, 0))) ∧ Hid (FrK wr (g + 2) (.agg #[.int .i64 (n : Int), .slice B nl d]) ⟨(n : Int), K⟩) ∧ Hid (Below w.heap.size w wr)) (fun nn _ => 33 - (intOf nn).toNat)
                    case atStart => exact ⟨1, K, B, nl, d, rfl, by omega, by omega, hidT ⟨HO.out.1.1, HO.out.1.2, HO.out.2.2.1, fun s h1 h2 => HO.out.2.2.2.1 s h1 h2⟩, YG, YA, YK, YB⟩
                    case round =>
                      have HFL := hidT HO.out.2.1
                      have HFB := hidT HO.out.2.2.2.2
                      clear HO YG YA YK YB hgs HLE HBE HFF
                      obtain ⟨n, K, B, nl, d, rfl, hn1, hn32, HR, XG, XA, XK, XB⟩ := hrel
                      have hgs := blk_lt XA.out
                      obtain ⟨i0, i1⟩ := cells2 XG.out
                      by_cases hn31 : n ≤ 31
                      · have u1 : decide (n ≤ 31) = true := by simpa using hn31
                        have u2 : decide ((n : Int) ≤ 31) = true := by rw [decide_eq_true_eq]; omega
                        obtain ⟨R1, R2, R3, R4⟩ := HR.out
                        have hri := (Win.right_iff.1 R1).2.2
                        have hwn : Win.waits K n = (Win.peek ⟨(n : Int), K⟩).isSome := Win.waits_next hri
                        have htk := wtake_any (.agg #[.int .i64 (n : Int), .slice B nl d]) ⟨(n : Int), K⟩ wr XK.out.is R1 (right_small R1)
                        have hrt := Win.right_take R1
                        rcases Option.eq_none_or_eq_some (Win.peek ⟨(n : Int), K⟩) with hp | ⟨y, hp⟩
                        · rw [hp] at hwn
                          have hwf : Win.waits K n = false := hwn
                          rw [hp, (Win.peek_none hp).1] at htk
                          have HZ : Hid (n ≤ 30 → f.getD n 0 = 0) := hidT fun h => Decidable.byContradiction fun h2 => by
                            have := (R4 n (Nat.le_refl _) h).2 h2
                            rw [hwf] at this
                            cases this
                          clear hp hwn hwf hri hrt R1 R2 R3 R4
                          go_wp2_with fail
                          with_reducible refine htk.mono ?_
                          rintro e w5 ⟨u5, v5, rfl, hI5, hK5, hb5⟩
                          obtain ⟨LA5, ln5, lc5, BA5, bn5, bc5, eu5, hl5, hbb5, hla5, hba5⟩ := id hI5
                          have eu5' : u5 = .agg #[.int .i64 0, .int .i64 0, .int .i64 0, .int .i64 0, .int .i64 0, .int .i64 0, .slice LA5 ln5 lc5, .slice BA5 bn5 bc5] := eu5
                          clear eu5 hl5 hbb5 hla5 hba5
                          subst eu5'
                          obtain ⟨A5, n5, c5, us5, ev5, hr5, ha5, hf5⟩ := id hK5
                          have ev5' : v5 = .agg #[.int .i64 (n : Int), .slice A5 n5 c5] := ev5
                          clear ev5 hr5 ha5 hf5
                          subst ev5'
                          obtain ⟨t1, t2, t3⟩ := two_alloc w5 (.cells #[.int .i64 0, .int .i64 0, .int .i64 0, .int .i64 0, .int .i64 0, .int .i64 0, .slice LA5 ln5 lc5, .slice BA5 bn5 bc5] 28) (.cells #[.int .i64 (n : Int), .slice A5 n5 c5] 24)
                          have hb57 := bthen hb5 t3
                          have ya := keepH XA.out hb57
                          have B5 := hidT (bthen XB.out hb57)
                          have y0 : (0 : Int) ≤ (n : Int) := by omega
                          clear t1 t2 t3 hb57 hb5 hK5 hI5 htk i0 i1
                          by_cases hn30 : n ≤ 30
                          · have c1 := arr_cell ya HFL.out hn30
                            rw [HZ.out hn30] at c1
                            have u3 : decide (n ≤ 30) = true := by simpa using hn30
                            have u4 : decide ((n : Int) ≤ 30) = true := by rw [decide_eq_true_eq]; omega
                            have y1 : (n : Int) < 31 := by omega
                            have y2 : n < 31 := by omega
                            clear ya
                            go_wp2
                            go_ret
                            exact ⟨rfl, B5.out⟩
                          · have u3 : decide (n ≤ 30) = false := by simpa using hn30
                            have u4 : decide ((n : Int) ≤ 30) = false := by rw [decide_eq_false_iff_not]; omega
                            clear ya
                            go_wp2
                            go_ret
                            exact ⟨rfl, B5.out⟩
                        · obtain ⟨r, el, eq, etk⟩ := Win.peek_some hp
                          have el' : K = y :: r := el
                          have eq' : y.q = (n : Int) := eq
                          have etk' : Win.take ⟨(n : Int), K⟩ = ⟨(n : Int) + 1, r⟩ := etk
                          rw [hp, etk'] at htk
                          rw [etk'] at hrt
                          obtain ⟨s, hys⟩ := R3 y (by rw [el']; exact List.mem_cons_self)
                          have hsn : s = n := by rw [hys] at eq'; have h : (s : Int) = (n : Int) := eq'; omega
                          subst hsn
                          obtain ⟨v, hv⟩ : ∃ v, f.getD s 0 = v := ⟨_, rfl⟩
                          rw [hv] at hys
                          subst hys
                          have hn30 : s ≤ 30 := by have h := R2 _ (by rw [el']; exact List.mem_cons_self); have h2 : (s : Int) ≤ 30 := h; omega
                          have hvn : v ≠ 0 := by
                            rw [← hv]
                            refine (R4 s (Nat.le_refl _) hn30).1 ?_
                            rw [hwn, hp]; rfl
                          have hvb := HFB.out s
                          rw [hv] at hvb
                          obtain ⟨hv0, hv100⟩ := hvb
                          have HR' : Hid (Win.right ⟨((s + 1 : Nat) : Int), r⟩ = true ∧ (∀ x ∈ r, x.q ≤ 30) ∧ (∀ x ∈ r, ∃ s : Nat, x = ack s (f.getD s 0 - 1)) ∧ (∀ s' : Nat, s + 1 ≤ s' → s' ≤ 30 → (Win.waits r s' = true ↔ f.getD s' 0 ≠ 0))) := hidT ⟨hrt, fun x hx => R2 x (by rw [el']; exact List.mem_cons_of_mem _ hx), fun x hx => R3 x (by rw [el']; exact List.mem_cons_of_mem _ hx), fun s' h1 h2 => by
                            rw [← R4 s' (by omega) h2, el']
                            constructor
                            · intro h
                              obtain ⟨z, hz, hq⟩ := Win.waits_iff.1 h
                              exact Win.waits_iff.2 ⟨z, List.mem_cons_of_mem _ hz, hq⟩
                            · intro h
                              obtain ⟨z, hz, hq⟩ := Win.waits_iff.1 h
                              rcases List.mem_cons.1 hz with rfl | hz
                              · have h3 : (s : Int) = (s' : Int) := hq
                                omega
                              · exact Win.waits_iff.2 ⟨z, hz, hq⟩⟩
                          have HV := hidT hv
                          have v1 : (v != 0) = true := by simpa using hvn
                          have v2 : ((s : Int) != (s : Int)) = false := by simp
                          have v2' : (s != s) = false := by simp
                          have v3 : (v - 1 != v - 1) = false := by simp
                          have w3' : IntKind.i64.wrap (v - 1) = v - 1 := IntWalk.i64_in _ (by omega)
                          have w4' : wrap64 (v - 1) = v - 1 := IntWalk.wrap64_in _ (by omega)
                          clear hp hwn hri el eq etk el' eq' etk' hrt R1 R2 R3 R4 hv hvn
                          go_wp2_with fail
                          with_reducible refine htk.mono ?_
                          rintro e w5 ⟨u5, v5, rfl, hI5, hK5, hb5⟩
                          obtain ⟨LA5, ln5, lc5, BA5, bn5, bc5, eu5, hl5, hbb5, hla5, hba5⟩ := id hI5
                          have eu5' : u5 = .agg #[.int .i64 5, .int .i64 (s : Int), .int .i64 0, .int .i64 0, .int .i64 0, .int .i64 (v - 1), .slice LA5 ln5 lc5, .slice BA5 bn5 bc5] := eu5
                          clear eu5 hl5 hbb5 hla5 hba5
                          subst eu5'
                          obtain ⟨A5, n5, c5, us5, ev5, hr5, ha5, hf5⟩ := id hK5
                          have ev5' : v5 = .agg #[.int .i64 ((s : Int) + 1), .slice A5 n5 c5] := ev5
                          clear ev5 hr5 ha5 hf5
                          subst ev5'
                          obtain ⟨t1, t2, t3⟩ := two_alloc w5 (.cells #[.int .i64 5, .int .i64 (s : Int), .int .i64 0, .int .i64 0, .int .i64 0, .int .i64 (v - 1), .slice LA5 ln5 lc5, .slice BA5 bn5 bc5] 28) (.cells #[.int .i64 ((s : Int) + 1), .slice A5 n5 c5] 24)
                          obtain ⟨V5, hV5⟩ : ∃ V, (w5.alloc (.cells #[.int .i64 5, .int .i64 (s : Int), .int .i64 0, .int .i64 0, .int .i64 0, .int .i64 (v - 1), .slice LA5 ln5 lc5, .slice BA5 bn5 bc5] 28)).alloc (.cells #[.int .i64 ((s : Int) + 1), .slice A5 n5 c5] 24) = V := ⟨_, rfl⟩
                          have hb57 := bthen hb5 t3
                          have hk7 := (hK5.below t3).mono (show g + 2 ≤ wr.heap.size by omega)
                          rw [hV5] at t1 t2 hb57 hk7
                          have HV5 := hidT hV5
                          have YG := hidT (keepH XG.out hb57)
                          have YA := hidT (keepH XA.out hb57)
                          have K5 := hidT hk7
                          have B5 := hidT (bthen XB.out hb57)
                          obtain ⟨gv, hgv⟩ : ∃ gv, w5.heap.size = gv := ⟨_, rfl⟩
                          rw [hgv] at t1 t2
                          have T1 := hidT t1
                          have T2 := hidT t2
                          have c1 := arr_cell YA.out HFL.out hn30
                          rw [HV.out] at c1
                          have l1 := (cells8 t1).2.1
                          have l5 := (cells8 t1).2.2.2.2.2.1
                          rw [← HV5.out] at c1 l1 l5
                          have u3 : decide (s ≤ 30) = true := by simpa using hn30
                          have u4 : decide ((s : Int) ≤ 30) = true := by rw [decide_eq_true_eq]; omega
                          have y0 : (0 : Int) ≤ (s : Int) := by omega
                          have y1 : (s : Int) < 31 := by omega
                          have y2 : s < 31 := by omega
                          clear t1 t2 t3 hb57 hk7 hV5 hb5 hK5 hI5 htk i0 i1
                          go_upto_region 40 with fail
                          rw [HV5.out]
                          rw [HV5.out] at c1 l1 l5
                          clear hgv
                          go_quiet (fail)
                          have BX := hidT (drawn_below V5 nq)
                          have T2' := hidT (keepH T2.out BX.out)
                          have YG' := hidT (keepH YG.out BX.out)
                          have YA' := hidT (keepH YA.out BX.out)
                          have K5' := hidT (K5.out.below BX.out)
                          have B5' := hidT (bthen B5.out BX.out)
                          clear c1 l1 l5 BX T1 T2 YG YA K5 B5 HV5
                          generalize V5.drewN nq = X at *
                          obtain ⟨yc0, yc1⟩ := cells2 T2'.out
                          have yg := YG'.out
                          go_wp2_with (
                            refine wpList_stI rfl 24 _ _ rfl g #[.int .i64 ((s : Int) + 1), .slice A5 n5 c5] rfl rfl _ _ yg wsize2 rfl (by simp [Value.oneCell']) ?_
                            intro w8 hg8 hbut hbel)
                          exact ⟨⟨s + 1, r, A5, n5, c5, by go_num, by omega, by omega, HR', hidT hg8, hidT ((hbut.2 (g + 1) (by omega)).trans YA'.out), hidT (K5'.out.but (by omega) hbut), hidT (hbel _ _ B5'.out HGW.out)⟩, by simp [intOf]; omega⟩
                      · have u1 : decide (n ≤ 31) = false := by simpa using hn31
                        have u2 : decide ((n : Int) ≤ 31) = false := by rw [decide_eq_false_iff_not]; omega
                        go_wp2
                        go_ret
                        exact ⟨rfl, XB.out⟩
  · have t1 : decide (100 < m) = true := by simp; omega
    have t2 : decide ((100 : Int) < (m : Int)) = true := by simp; omega
    go_wp2
    go_ret
    exact ⟨rfl, hb1⟩
end Go.Proofs.Ytkkkfaelpmmffaa
