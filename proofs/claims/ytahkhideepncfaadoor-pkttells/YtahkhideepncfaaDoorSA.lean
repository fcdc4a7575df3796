import Derived.Test.YtahkhideepncfaaDoorRG
set_option maxRecDepth 100000
/- What the document's Take comes to, kind by kind. (Written by wip/gen/refitem6.py.) -/
namespace Go.Proofs.YtahkhideepncfaaDoor
open Go.RowKit
set_option linter.unusedVariables false

set_option maxRecDepth 100000 in
set_option maxHeartbeats 8000000 in
theorem rt0_in (b o n c : Nat) (l : List UInt8) (w : World) (h : Rd w (some ⟨b, o, none⟩) n c l) (hn : 17 ≤ n) (hn2 : n ≤ 65536) (hcap : 17 < c) (k : Int) (q e : Int) (rr : List UInt8) (hk : Num.rowOf ((l.drop 1).take 16) 2 8 = ([q, e], rr, 0)) (hK : Item.at_ l 0 = k) (k1 : k ≠ 1) (k2 : k ≠ 2) (k4 : k ≠ 4) (k5 : k ≠ 5) (k6 : k ≠ 6) (R : List UInt8) (hR : l.drop 17 = R) :
    Calls Tryd.prog 23 #[.slice (some ⟨b, o, none⟩) n c] w (TakeF w (Item.tried ⟨k, q, e, 0, 0, 0, [], []⟩ l)) := by
  obtain ⟨ans, HANS⟩ : ∃ ans, Hid (Item.tried ⟨k, q, e, 0, 0, 0, [], []⟩ l = ans) := ⟨_, hidT rfl⟩
  rw [HANS.out]
  have hb0 : Below w.heap.size w (w.alloc (.cells #[.int .i64 0, .int .i64 0, .int .i64 0, .int .i64 0, .int .i64 0, .int .i64 0, .slice none 0 0, .slice none 0 0] 25)) := (Below.refl _ _).alloc (Nat.le_refl _) _
  have hg0 := alloc_at w (.cells #[.int .i64 0, .int .i64 0, .int .i64 0, .int .i64 0, .int .i64 0, .int .i64 0, .slice none 0 0, .slice none 0 0] 25) _ rfl
  have hgs : w.heap.size < (w.alloc (.cells #[.int .i64 0, .int .i64 0, .int .i64 0, .int .i64 0, .int .i64 0, .int .i64 0, .slice none 0 0, .slice none 0 0] 25)).heap.size := by rw [size_alloc]; omega
  have hnc := h.2.1
  have hRd := h.drop (k := 17) (by omega)
  rw [hR] at hRd
  have hRl := hRd.1
  have q1 : decide ((n : Int) < 17) = false := by simp; omega
  have hd := ((h.below hb0).drop (k := 1) (by omega)).take (k := 16) (by omega)
  have hr := rtakeRow_any _ _ _ _ 2 8 _ hd (by omega)
  rw [hk] at hr
  obtain ⟨b', o', hA, hcell⟩ := h.at_ (by omega)
  injection hA with hA
  injection hA with e1 e2
  subst e1
  subst e2
  obtain ⟨z0, hz0, hc0⟩ := hcell 0 (by omega)
  rw [Nat.add_zero] at hc0
  have hzk : (z0.toNat : Int) = k := by rw [← hK, Item.at_, List.getD_eq_getElem?_getD, hz0]; rfl
  rw [hzk] at hc0
  have hzb := Num.byte_lt z0
  have hkb : (0 : Int) ≤ k ∧ (k : Int) < 256 := by rw [← hzk]; omega
  clear hk hK hcell hz0 hd hzk
  go_enter Tryd.func23, Tryd.ntmps23
  go_wp2_with fail
  with_reducible refine hr.mono ?_
  rintro en w1 ⟨A1, c1, B1, d1, rfl, hi1, ho1, hb1⟩
  have hg1 := (hb1.block _ hgs).trans hg0
  have hgw1 := Nat.lt_of_lt_of_le hgs hb1.size
  have hb01 := bthen hb0 hb1
  have hi2 : OwnV w1 (w.alloc (.cells #[.int .i64 0, .int .i64 0, .int .i64 0, .int .i64 0, .int .i64 0, .int .i64 0, .slice none 0 0, .slice none 0 0] 25)).heap.size 3 (.slice A1 2 c1) 2 (is [q, e]) := hi1
  obtain ⟨g2, cap2, hv2, hgb2, hgl2, hn2', hm2⟩ := OwnV.form hi2 (by omega)
  injection hv2 with hA2 _ hc2
  subst hA2
  subst hc2
  have rI : RdI w1 (some ⟨g2, 0, none⟩) 2 c1 [q, e] := OwnV.same hi2
  have x0 := rI.cells_later (k := 0) rfl w1 (Below.refl _ _)
  have x1 := rI.cells_later (k := 1) rfl w1 (Below.refl _ _)
  rw [Nat.zero_add] at x0 x1
  have z1 := keepC hb01 hc0
  have hlb := World.block_lt_of_cell? _ _ z1
  dsimp only at hlb
  clear hr hi1 hi2 rI ho1 hb0 hb1 hg0 hgs
  go_wp2
  go_region
  go_wp2_with fail
  have hbU : Below w.heap.size w (w1.alloc (.cells #[.int .i64 k, .int .i64 q, .int .i64 e, .int .i64 0, .int .i64 0, .int .i64 0, .slice none 0 0, .slice none 0 0] 25)).drew := (hb01.alloc hb01.size _).drew
  have gi : (w1.alloc (.cells #[.int .i64 k, .int .i64 q, .int .i64 e, .int .i64 0, .int .i64 0, .int .i64 0, .slice none 0 0, .slice none 0 0] 25)).drew.heap[w1.heap.size]? = some (.cells #[.int .i64 k, .int .i64 q, .int .i64 e, .int .i64 0, .int .i64 0, .int .i64 0, .slice none 0 0, .slice none 0 0] 25 (0, 0)) := alloc_at w1 _ _ rfl
  have gs : (w1.alloc (.cells #[.int .i64 k, .int .i64 q, .int .i64 e, .int .i64 0, .int .i64 0, .int .i64 0, .slice none 0 0, .slice none 0 0] 25)).drew.heap[w.heap.size]? = some (.cells #[.int .i64 0, .int .i64 0, .int .i64 0, .int .i64 0, .int .i64 0, .int .i64 0, .slice none 0 0, .slice none 0 0] 25 (0, 0)) := (alloc_old w1 _ _ hgw1).trans hg1
  have ix : IsItem (w1.alloc (.cells #[.int .i64 k, .int .i64 q, .int .i64 e, .int .i64 0, .int .i64 0, .int .i64 0, .slice none 0 0, .slice none 0 0] 25)).drew (.agg #[.int .i64 k, .int .i64 q, .int .i64 e, .int .i64 0, .int .i64 0, .int .i64 0, .slice none 0 0, .slice none 0 0]) ⟨k, q, e, 0, 0, 0, [], []⟩ := ⟨none, 0, 0, none, 0, 0, rfl, RdV.nil_ _, Rd.nil_ _⟩
  generalize (w1.alloc (.cells #[.int .i64 k, .int .i64 q, .int .i64 e, .int .i64 0, .int .i64 0, .int .i64 0, .slice none 0 0, .slice none 0 0] 25)).drew = u at hbU gi gs ix  ⊢
  have hgiu := lt_of_block gi
  have hgsu := lt_of_block gs
  have hM := rmay_any (.agg #[.int .i64 k, .int .i64 q, .int .i64 e, .int .i64 0, .int .i64 0, .int .i64 0, .slice none 0 0, .slice none 0 0]) ⟨k, q, e, 0, 0, 0, [], []⟩ u ix
  with_reducible refine hM.mono ?_
  rintro en w5 ⟨rfl, hb5⟩
  have gi5 := (hb5.block _ hgiu).trans gi
  have gs5 := (hb5.block _ hgsu).trans gs
  have hb05 := bthen hbU hb5
  obtain ⟨i0, i1, i2, i3, i4, i5, i6, i7⟩ := cells8 gi5
  have ix5 := ix.below hb5
  clear hM
  cases hm : Item.may ⟨k, q, e, 0, 0, 0, [], []⟩ with
  | false =>
    have HT : Hid (Item.tried ⟨k, q, e, 0, 0, 0, [], []⟩ l = none) := hidT (by rw [Item.tried, if_neg (by rw [hm]; simp)])
    go_wp2
    go_quiet (fail)
    go_wp2_with (
      refine wpList_stI rfl 25 (.tmp 2) (.tmp 144) rfl w.heap.size zcells rfl rfl _ _ gs5 info25 rfl (all8 rfl rfl rfl rfl rfl rfl rfl rfl) ?_
      intro w9 hg9 hbut9 hbel9)
    obtain ⟨y0, y1, y2, y3, y4, y5, y6, y7⟩ := cells8 hg9
    exact bodyPost_ret (v := .tuple #[.agg zcells, .int .i64 2]) (by simp [results, Tryd.results23, go_sem, y0, y1, y2, y3, y4, y5, y6, y7]) rfl (by rw [show ans = none from HANS.out.symm.trans HT.out]; exact ⟨rfl, hbel9 _ _ (bthen hb05 (drawn_below w5 _)) (Nat.le_refl _)⟩)
  | true =>
    obtain ⟨BX, HBX⟩ : ∃ BX, Hid (Item.bytes ⟨k, q, e, 0, 0, 0, [], []⟩ = BX) := ⟨_, hidT rfl⟩
    have hBy := rbytes_any (.agg #[.int .i64 k, .int .i64 q, .int .i64 e, .int .i64 0, .int .i64 0, .int .i64 0, .slice none 0 0, .slice none 0 0]) ⟨k, q, e, 0, 0, 0, [], []⟩ w5.drew ix5
    rw [HBX.out] at hBy
    have sl := strs (h.below hb05)
    have qb := str_beq BX l
    have KS : Hid (∀ w', Below w5.heap.size w5 w' → w'.cell? ⟨w1.heap.size, 0, none⟩ = some (.int .i64 k) ∧ w'.cell? ⟨w1.heap.size, 1, none⟩ = some (.int .i64 q) ∧ w'.cell? ⟨w1.heap.size, 2, none⟩ = some (.int .i64 e) ∧ w'.cell? ⟨w1.heap.size, 3, none⟩ = some (.int .i64 0) ∧ w'.cell? ⟨w1.heap.size, 4, none⟩ = some (.int .i64 0) ∧ w'.cell? ⟨w1.heap.size, 5, none⟩ = some (.int .i64 0) ∧ w'.cell? ⟨w1.heap.size, 6, none⟩ = some (.slice none 0 0) ∧ w'.cell? ⟨w1.heap.size, 7, none⟩ = some (.slice none 0 0) ∧ Below w5.heap.size w5 w') := hidT fun w' h => ⟨keepC h i0, keepC h i1, keepC h i2, keepC h i3, keepC h i4, keepC h i5, keepC h i6, keepC h i7, h⟩
    have hgi5 := lt_of_block gi5
    have hgs5 := lt_of_block gs5
    by_cases hbx : BX = l
    · have HT : Hid (Item.tried ⟨k, q, e, 0, 0, 0, [], []⟩ l = some ⟨k, q, e, 0, 0, 0, [], []⟩) := hidT (by rw [Item.tried, if_pos ⟨hm, HBX.out.trans hbx⟩])
      rw [decide_eq_true hbx] at qb
      clear hbx
      have qn : ((str BX).toList != (str l).toList) = false := by simp only [bne, qb]; rfl
      go_wp2
      go_region_held (fun w' => w'.cell? ⟨w1.heap.size, 0, none⟩ = some (.int .i64 k) ∧ w'.cell? ⟨w1.heap.size, 1, none⟩ = some (.int .i64 q) ∧ w'.cell? ⟨w1.heap.size, 2, none⟩ = some (.int .i64 e) ∧ w'.cell? ⟨w1.heap.size, 3, none⟩ = some (.int .i64 0) ∧ w'.cell? ⟨w1.heap.size, 4, none⟩ = some (.int .i64 0) ∧ w'.cell? ⟨w1.heap.size, 5, none⟩ = some (.int .i64 0) ∧ w'.cell? ⟨w1.heap.size, 6, none⟩ = some (.slice none 0 0) ∧ w'.cell? ⟨w1.heap.size, 7, none⟩ = some (.slice none 0 0) ∧ Below w5.heap.size w5 w')
        (first | exact KS.out _ (Below.refl _ _).drew | exact KS.out _ h6' | assumption)
        (first | (go_at_call 38; ((with_reducible refine hBy.mono ?_); rintro en w6 ⟨A6, n6, rfl, o6, h6⟩; have h6' : Below w5.heap.size w5 w6 := undrew h6; have s6 := strs o6.same w6 (Below.refl _ _); have s7 := sl w6 h6')))
      have gi6 := (h6'.block _ hgi5).trans gi5
      have gs6 := (h6'.block _ hgs5).trans gs5
      have hb06 := bthen hb05 h6'
      have ix6 := ix5.below h6'
      obtain ⟨j0, j1, j2, j3, j4, j5, j6, j7⟩ := cells8 gi6
      go_wp2_with (
        refine wpList_stI rfl 25 (.tmp 2) (.tmp 145) rfl w.heap.size #[.int .i64 k, .int .i64 q, .int .i64 e, .int .i64 0, .int .i64 0, .int .i64 0, .slice none 0 0, .slice none 0 0] rfl rfl _ _ gs6 info25 rfl (all8 rfl rfl rfl rfl rfl rfl rfl rfl) ?_
        intro w9 hg9 hbut9 hbel9)
      obtain ⟨y0, y1, y2, y3, y4, y5, y6, y7⟩ := cells8 hg9
      exact bodyPost_ret (v := .tuple #[.agg #[.int .i64 k, .int .i64 q, .int .i64 e, .int .i64 0, .int .i64 0, .int .i64 0, .slice none 0 0, .slice none 0 0], .int .i64 0]) (by simp [results, Tryd.results23, go_sem, y0, y1, y2, y3, y4, y5, y6, y7]) rfl (by rw [show ans = some ⟨k, q, e, 0, 0, 0, [], []⟩ from HANS.out.symm.trans HT.out]; exact ⟨none, 0, 0, none, 0, 0, rfl, RdV.nil_ _, Rd.nil_ _, no_addr, no_addr, hbel9 _ _ hb06 (Nat.le_refl _)⟩)
    · have HT : Hid (Item.tried ⟨k, q, e, 0, 0, 0, [], []⟩ l = none) := hidT (by rw [Item.tried, if_neg (fun hh => hbx (HBX.out.symm.trans hh.2))])
      rw [decide_eq_false hbx] at qb
      clear hbx
      have qn : ((str BX).toList != (str l).toList) = true := by simp only [bne, qb]; rfl
      go_wp2
      go_region_held (fun w' => w'.cell? ⟨w1.heap.size, 0, none⟩ = some (.int .i64 k) ∧ w'.cell? ⟨w1.heap.size, 1, none⟩ = some (.int .i64 q) ∧ w'.cell? ⟨w1.heap.size, 2, none⟩ = some (.int .i64 e) ∧ w'.cell? ⟨w1.heap.size, 3, none⟩ = some (.int .i64 0) ∧ w'.cell? ⟨w1.heap.size, 4, none⟩ = some (.int .i64 0) ∧ w'.cell? ⟨w1.heap.size, 5, none⟩ = some (.int .i64 0) ∧ w'.cell? ⟨w1.heap.size, 6, none⟩ = some (.slice none 0 0) ∧ w'.cell? ⟨w1.heap.size, 7, none⟩ = some (.slice none 0 0) ∧ Below w5.heap.size w5 w')
        (first | exact KS.out _ (Below.refl _ _).drew | exact KS.out _ h6' | assumption)
        (first | (go_at_call 38; ((with_reducible refine hBy.mono ?_); rintro en w6 ⟨A6, n6, rfl, o6, h6⟩; have h6' : Below w5.heap.size w5 w6 := undrew h6; have s6 := strs o6.same w6 (Below.refl _ _); have s7 := sl w6 h6')))
      have gs6 := (h6'.block _ hgs5).trans gs5
      have hb06 := bthen hb05 h6'
      go_wp2_with (
        refine wpList_stI rfl 25 (.tmp 2) (.tmp 144) rfl w.heap.size zcells rfl rfl _ _ gs6 info25 rfl (all8 rfl rfl rfl rfl rfl rfl rfl rfl) ?_
        intro w9 hg9 hbut9 hbel9)
      obtain ⟨y0, y1, y2, y3, y4, y5, y6, y7⟩ := cells8 hg9
      exact bodyPost_ret (v := .tuple #[.agg zcells, .int .i64 2]) (by simp [results, Tryd.results23, go_sem, y0, y1, y2, y3, y4, y5, y6, y7]) rfl (by rw [show ans = none from HANS.out.symm.trans HT.out]; exact ⟨rfl, hbel9 _ _ hb06 (Nat.le_refl _)⟩)

end Go.Proofs.YtahkhideepncfaaDoor
/- What the document's Take comes to, kind by kind. (Written by wip/gen/refitem6.py.) -/
namespace Go.Proofs.YtahkhideepncfaaDoor
open Go.RowKit
set_option linter.unusedVariables false

set_option maxRecDepth 100000 in
set_option maxHeartbeats 8000000 in
theorem rt0_eq (b o n c : Nat) (l : List UInt8) (w : World) (h : Rd w (some ⟨b, o, none⟩) n c l) (hn : 17 ≤ n) (hn2 : n ≤ 65536) (hcap : c = 17) (k : Int) (q e : Int) (rr : List UInt8) (hk : Num.rowOf ((l.drop 1).take 16) 2 8 = ([q, e], rr, 0)) (hK : Item.at_ l 0 = k) (k1 : k ≠ 1) (k2 : k ≠ 2) (k4 : k ≠ 4) (k5 : k ≠ 5) (k6 : k ≠ 6) (R : List UInt8) (hR : l.drop 17 = R) :
    Calls Tryd.prog 23 #[.slice (some ⟨b, o, none⟩) n c] w (TakeF w (Item.tried ⟨k, q, e, 0, 0, 0, [], []⟩ l)) := by
  have hn17 : n = 17 := by have := h.2.1; omega
  subst hn17
  subst hcap
  obtain ⟨ans, HANS⟩ : ∃ ans, Hid (Item.tried ⟨k, q, e, 0, 0, 0, [], []⟩ l = ans) := ⟨_, hidT rfl⟩
  rw [HANS.out]
  have hb0 : Below w.heap.size w (w.alloc (.cells #[.int .i64 0, .int .i64 0, .int .i64 0, .int .i64 0, .int .i64 0, .int .i64 0, .slice none 0 0, .slice none 0 0] 25)) := (Below.refl _ _).alloc (Nat.le_refl _) _
  have hg0 := alloc_at w (.cells #[.int .i64 0, .int .i64 0, .int .i64 0, .int .i64 0, .int .i64 0, .int .i64 0, .slice none 0 0, .slice none 0 0] 25) _ rfl
  have hgs : w.heap.size < (w.alloc (.cells #[.int .i64 0, .int .i64 0, .int .i64 0, .int .i64 0, .int .i64 0, .int .i64 0, .slice none 0 0, .slice none 0 0] 25)).heap.size := by rw [size_alloc]; omega
  have hnc := h.2.1
  have hRd := h.drop (k := 17) (by omega)
  rw [hR] at hRd
  have hRl := hRd.1
  have q1 : decide ((17 : Int) < 17) = false := by simp
  have hd := ((h.below hb0).drop (k := 1) (by omega)).take (k := 16) (by omega)
  have hr := rtakeRow_any _ _ _ _ 2 8 _ hd (by omega)
  rw [hk] at hr
  obtain ⟨b', o', hA, hcell⟩ := h.at_ (by omega)
  injection hA with hA
  injection hA with e1 e2
  subst e1
  subst e2
  obtain ⟨z0, hz0, hc0⟩ := hcell 0 (by omega)
  rw [Nat.add_zero] at hc0
  have hzk : (z0.toNat : Int) = k := by rw [← hK, Item.at_, List.getD_eq_getElem?_getD, hz0]; rfl
  rw [hzk] at hc0
  have hzb := Num.byte_lt z0
  have hkb : (0 : Int) ≤ k ∧ (k : Int) < 256 := by rw [← hzk]; omega
  clear hk hK hcell hz0 hd hzk
  go_enter Tryd.func23, Tryd.ntmps23
  go_wp2_with fail
  with_reducible refine hr.mono ?_
  rintro en w1 ⟨A1, c1, B1, d1, rfl, hi1, ho1, hb1⟩
  have hg1 := (hb1.block _ hgs).trans hg0
  have hgw1 := Nat.lt_of_lt_of_le hgs hb1.size
  have hb01 := bthen hb0 hb1
  have hi2 : OwnV w1 (w.alloc (.cells #[.int .i64 0, .int .i64 0, .int .i64 0, .int .i64 0, .int .i64 0, .int .i64 0, .slice none 0 0, .slice none 0 0] 25)).heap.size 3 (.slice A1 2 c1) 2 (is [q, e]) := hi1
  obtain ⟨g2, cap2, hv2, hgb2, hgl2, hn2', hm2⟩ := OwnV.form hi2 (by omega)
  injection hv2 with hA2 _ hc2
  subst hA2
  subst hc2
  have rI : RdI w1 (some ⟨g2, 0, none⟩) 2 c1 [q, e] := OwnV.same hi2
  have x0 := rI.cells_later (k := 0) rfl w1 (Below.refl _ _)
  have x1 := rI.cells_later (k := 1) rfl w1 (Below.refl _ _)
  rw [Nat.zero_add] at x0 x1
  have z1 := keepC hb01 hc0
  have hlb := World.block_lt_of_cell? _ _ z1
  dsimp only at hlb
  clear hr hi1 hi2 rI ho1 hb0 hb1 hg0 hgs
  go_wp2
  go_region
  go_wp2_with fail
  have hbU : Below w.heap.size w (w1.alloc (.cells #[.int .i64 k, .int .i64 q, .int .i64 e, .int .i64 0, .int .i64 0, .int .i64 0, .slice none 0 0, .slice none 0 0] 25)).drew := (hb01.alloc hb01.size _).drew
  have gi : (w1.alloc (.cells #[.int .i64 k, .int .i64 q, .int .i64 e, .int .i64 0, .int .i64 0, .int .i64 0, .slice none 0 0, .slice none 0 0] 25)).drew.heap[w1.heap.size]? = some (.cells #[.int .i64 k, .int .i64 q, .int .i64 e, .int .i64 0, .int .i64 0, .int .i64 0, .slice none 0 0, .slice none 0 0] 25 (0, 0)) := alloc_at w1 _ _ rfl
  have gs : (w1.alloc (.cells #[.int .i64 k, .int .i64 q, .int .i64 e, .int .i64 0, .int .i64 0, .int .i64 0, .slice none 0 0, .slice none 0 0] 25)).drew.heap[w.heap.size]? = some (.cells #[.int .i64 0, .int .i64 0, .int .i64 0, .int .i64 0, .int .i64 0, .int .i64 0, .slice none 0 0, .slice none 0 0] 25 (0, 0)) := (alloc_old w1 _ _ hgw1).trans hg1
  have ix : IsItem (w1.alloc (.cells #[.int .i64 k, .int .i64 q, .int .i64 e, .int .i64 0, .int .i64 0, .int .i64 0, .slice none 0 0, .slice none 0 0] 25)).drew (.agg #[.int .i64 k, .int .i64 q, .int .i64 e, .int .i64 0, .int .i64 0, .int .i64 0, .slice none 0 0, .slice none 0 0]) ⟨k, q, e, 0, 0, 0, [], []⟩ := ⟨none, 0, 0, none, 0, 0, rfl, RdV.nil_ _, Rd.nil_ _⟩
  generalize (w1.alloc (.cells #[.int .i64 k, .int .i64 q, .int .i64 e, .int .i64 0, .int .i64 0, .int .i64 0, .slice none 0 0, .slice none 0 0] 25)).drew = u at hbU gi gs ix  ⊢
  have hgiu := lt_of_block gi
  have hgsu := lt_of_block gs
  have hM := rmay_any (.agg #[.int .i64 k, .int .i64 q, .int .i64 e, .int .i64 0, .int .i64 0, .int .i64 0, .slice none 0 0, .slice none 0 0]) ⟨k, q, e, 0, 0, 0, [], []⟩ u ix
  with_reducible refine hM.mono ?_
  rintro en w5 ⟨rfl, hb5⟩
  have gi5 := (hb5.block _ hgiu).trans gi
  have gs5 := (hb5.block _ hgsu).trans gs
  have hb05 := bthen hbU hb5
  obtain ⟨i0, i1, i2, i3, i4, i5, i6, i7⟩ := cells8 gi5
  have ix5 := ix.below hb5
  clear hM
  cases hm : Item.may ⟨k, q, e, 0, 0, 0, [], []⟩ with
  | false =>
    have HT : Hid (Item.tried ⟨k, q, e, 0, 0, 0, [], []⟩ l = none) := hidT (by rw [Item.tried, if_neg (by rw [hm]; simp)])
    go_wp2
    go_quiet (fail)
    go_wp2_with (
      refine wpList_stI rfl 25 (.tmp 2) (.tmp 144) rfl w.heap.size zcells rfl rfl _ _ gs5 info25 rfl (all8 rfl rfl rfl rfl rfl rfl rfl rfl) ?_
      intro w9 hg9 hbut9 hbel9)
    obtain ⟨y0, y1, y2, y3, y4, y5, y6, y7⟩ := cells8 hg9
    exact bodyPost_ret (v := .tuple #[.agg zcells, .int .i64 2]) (by simp [results, Tryd.results23, go_sem, y0, y1, y2, y3, y4, y5, y6, y7]) rfl (by rw [show ans = none from HANS.out.symm.trans HT.out]; exact ⟨rfl, hbel9 _ _ (bthen hb05 (drawn_below w5 _)) (Nat.le_refl _)⟩)
  | true =>
    obtain ⟨BX, HBX⟩ : ∃ BX, Hid (Item.bytes ⟨k, q, e, 0, 0, 0, [], []⟩ = BX) := ⟨_, hidT rfl⟩
    have hBy := rbytes_any (.agg #[.int .i64 k, .int .i64 q, .int .i64 e, .int .i64 0, .int .i64 0, .int .i64 0, .slice none 0 0, .slice none 0 0]) ⟨k, q, e, 0, 0, 0, [], []⟩ w5.drew ix5
    rw [HBX.out] at hBy
    have sl := strs (h.below hb05)
    have qb := str_beq BX l
    have KS : Hid (∀ w', Below w5.heap.size w5 w' → w'.cell? ⟨w1.heap.size, 0, none⟩ = some (.int .i64 k) ∧ w'.cell? ⟨w1.heap.size, 1, none⟩ = some (.int .i64 q) ∧ w'.cell? ⟨w1.heap.size, 2, none⟩ = some (.int .i64 e) ∧ w'.cell? ⟨w1.heap.size, 3, none⟩ = some (.int .i64 0) ∧ w'.cell? ⟨w1.heap.size, 4, none⟩ = some (.int .i64 0) ∧ w'.cell? ⟨w1.heap.size, 5, none⟩ = some (.int .i64 0) ∧ w'.cell? ⟨w1.heap.size, 6, none⟩ = some (.slice none 0 0) ∧ w'.cell? ⟨w1.heap.size, 7, none⟩ = some (.slice none 0 0) ∧ Below w5.heap.size w5 w') := hidT fun w' h => ⟨keepC h i0, keepC h i1, keepC h i2, keepC h i3, keepC h i4, keepC h i5, keepC h i6, keepC h i7, h⟩
    have hgi5 := lt_of_block gi5
    have hgs5 := lt_of_block gs5
    by_cases hbx : BX = l
    · have HT : Hid (Item.tried ⟨k, q, e, 0, 0, 0, [], []⟩ l = some ⟨k, q, e, 0, 0, 0, [], []⟩) := hidT (by rw [Item.tried, if_pos ⟨hm, HBX.out.trans hbx⟩])
      rw [decide_eq_true hbx] at qb
      clear hbx
      have qn : ((str BX).toList != (str l).toList) = false := by simp only [bne, qb]; rfl
      go_wp2
      go_region_held (fun w' => w'.cell? ⟨w1.heap.size, 0, none⟩ = some (.int .i64 k) ∧ w'.cell? ⟨w1.heap.size, 1, none⟩ = some (.int .i64 q) ∧ w'.cell? ⟨w1.heap.size, 2, none⟩ = some (.int .i64 e) ∧ w'.cell? ⟨w1.heap.size, 3, none⟩ = some (.int .i64 0) ∧ w'.cell? ⟨w1.heap.size, 4, none⟩ = some (.int .i64 0) ∧ w'.cell? ⟨w1.heap.size, 5, none⟩ = some (.int .i64 0) ∧ w'.cell? ⟨w1.heap.size, 6, none⟩ = some (.slice none 0 0) ∧ w'.cell? ⟨w1.heap.size, 7, none⟩ = some (.slice none 0 0) ∧ Below w5.heap.size w5 w')
        (first | exact KS.out _ (Below.refl _ _).drew | exact KS.out _ h6' | assumption)
        (first | (go_at_call 38; ((with_reducible refine hBy.mono ?_); rintro en w6 ⟨A6, n6, rfl, o6, h6⟩; have h6' : Below w5.heap.size w5 w6 := undrew h6; have s6 := strs o6.same w6 (Below.refl _ _); have s7 := sl w6 h6')))
      have gi6 := (h6'.block _ hgi5).trans gi5
      have gs6 := (h6'.block _ hgs5).trans gs5
      have hb06 := bthen hb05 h6'
      have ix6 := ix5.below h6'
      obtain ⟨j0, j1, j2, j3, j4, j5, j6, j7⟩ := cells8 gi6
      go_wp2_with (
        refine wpList_stI rfl 25 (.tmp 2) (.tmp 145) rfl w.heap.size #[.int .i64 k, .int .i64 q, .int .i64 e, .int .i64 0, .int .i64 0, .int .i64 0, .slice none 0 0, .slice none 0 0] rfl rfl _ _ gs6 info25 rfl (all8 rfl rfl rfl rfl rfl rfl rfl rfl) ?_
        intro w9 hg9 hbut9 hbel9)
      obtain ⟨y0, y1, y2, y3, y4, y5, y6, y7⟩ := cells8 hg9
      exact bodyPost_ret (v := .tuple #[.agg #[.int .i64 k, .int .i64 q, .int .i64 e, .int .i64 0, .int .i64 0, .int .i64 0, .slice none 0 0, .slice none 0 0], .int .i64 0]) (by simp [results, Tryd.results23, go_sem, y0, y1, y2, y3, y4, y5, y6, y7]) rfl (by rw [show ans = some ⟨k, q, e, 0, 0, 0, [], []⟩ from HANS.out.symm.trans HT.out]; exact ⟨none, 0, 0, none, 0, 0, rfl, RdV.nil_ _, Rd.nil_ _, no_addr, no_addr, hbel9 _ _ hb06 (Nat.le_refl _)⟩)
    · have HT : Hid (Item.tried ⟨k, q, e, 0, 0, 0, [], []⟩ l = none) := hidT (by rw [Item.tried, if_neg (fun hh => hbx (HBX.out.symm.trans hh.2))])
      rw [decide_eq_false hbx] at qb
      clear hbx
      have qn : ((str BX).toList != (str l).toList) = true := by simp only [bne, qb]; rfl
      go_wp2
      go_region_held (fun w' => w'.cell? ⟨w1.heap.size, 0, none⟩ = some (.int .i64 k) ∧ w'.cell? ⟨w1.heap.size, 1, none⟩ = some (.int .i64 q) ∧ w'.cell? ⟨w1.heap.size, 2, none⟩ = some (.int .i64 e) ∧ w'.cell? ⟨w1.heap.size, 3, none⟩ = some (.int .i64 0) ∧ w'.cell? ⟨w1.heap.size, 4, none⟩ = some (.int .i64 0) ∧ w'.cell? ⟨w1.heap.size, 5, none⟩ = some (.int .i64 0) ∧ w'.cell? ⟨w1.heap.size, 6, none⟩ = some (.slice none 0 0) ∧ w'.cell? ⟨w1.heap.size, 7, none⟩ = some (.slice none 0 0) ∧ Below w5.heap.size w5 w')
        (first | exact KS.out _ (Below.refl _ _).drew | exact KS.out _ h6' | assumption)
        (first | (go_at_call 38; ((with_reducible refine hBy.mono ?_); rintro en w6 ⟨A6, n6, rfl, o6, h6⟩; have h6' : Below w5.heap.size w5 w6 := undrew h6; have s6 := strs o6.same w6 (Below.refl _ _); have s7 := sl w6 h6')))
      have gs6 := (h6'.block _ hgs5).trans gs5
      have hb06 := bthen hb05 h6'
      go_wp2_with (
        refine wpList_stI rfl 25 (.tmp 2) (.tmp 144) rfl w.heap.size zcells rfl rfl _ _ gs6 info25 rfl (all8 rfl rfl rfl rfl rfl rfl rfl rfl) ?_
        intro w9 hg9 hbut9 hbel9)
      obtain ⟨y0, y1, y2, y3, y4, y5, y6, y7⟩ := cells8 hg9
      exact bodyPost_ret (v := .tuple #[.agg zcells, .int .i64 2]) (by simp [results, Tryd.results23, go_sem, y0, y1, y2, y3, y4, y5, y6, y7]) rfl (by rw [show ans = none from HANS.out.symm.trans HT.out]; exact ⟨rfl, hbel9 _ _ hb06 (Nat.le_refl _)⟩)

end Go.Proofs.YtahkhideepncfaaDoor
/- What the document's Take comes to, kind by kind. (Written by wip/gen/refitem6.py.) -/
namespace Go.Proofs.YtahkhideepncfaaDoor
open Go.RowKit
set_option linter.unusedVariables false

set_option maxRecDepth 100000 in
set_option maxHeartbeats 8000000 in
theorem rt4l (b o n c : Nat) (l : List UInt8) (w : World) (h : Rd w (some ⟨b, o, none⟩) n c l) (hn : 17 ≤ n) (hn2 : n ≤ 65536) (hcap : 17 < c) (q e : Int) (rr : List UInt8) (hk : Num.rowOf ((l.drop 1).take 16) 2 8 = ([q, e], rr, 0)) (hK : Item.at_ l 0 = 4) (hlen : 18 ≤ n) (i : Int) (R : List UInt8) (hR : l.drop 17 = R) (hi : Item.at_ R 0 = i) :
    Calls Tryd.prog 23 #[.slice (some ⟨b, o, none⟩) n c] w (TakeF w (Item.tried ⟨4, q, e, i, 0, 0, [], []⟩ l)) := by
  obtain ⟨ans, HANS⟩ : ∃ ans, Hid (Item.tried ⟨4, q, e, i, 0, 0, [], []⟩ l = ans) := ⟨_, hidT rfl⟩
  rw [HANS.out]
  have hb0 : Below w.heap.size w (w.alloc (.cells #[.int .i64 0, .int .i64 0, .int .i64 0, .int .i64 0, .int .i64 0, .int .i64 0, .slice none 0 0, .slice none 0 0] 25)) := (Below.refl _ _).alloc (Nat.le_refl _) _
  have hg0 := alloc_at w (.cells #[.int .i64 0, .int .i64 0, .int .i64 0, .int .i64 0, .int .i64 0, .int .i64 0, .slice none 0 0, .slice none 0 0] 25) _ rfl
  have hgs : w.heap.size < (w.alloc (.cells #[.int .i64 0, .int .i64 0, .int .i64 0, .int .i64 0, .int .i64 0, .int .i64 0, .slice none 0 0, .slice none 0 0] 25)).heap.size := by rw [size_alloc]; omega
  have hnc := h.2.1
  have hRd := h.drop (k := 17) (by omega)
  rw [hR] at hRd
  have hRl := hRd.1
  have q1 : decide ((n : Int) < 17) = false := by simp; omega
  have hd := ((h.below hb0).drop (k := 1) (by omega)).take (k := 16) (by omega)
  have hr := rtakeRow_any _ _ _ _ 2 8 _ hd (by omega)
  rw [hk] at hr
  obtain ⟨b', o', hA, hcell⟩ := h.at_ (by omega)
  injection hA with hA
  injection hA with e1 e2
  subst e1
  subst e2
  obtain ⟨z0, hz0, hc0⟩ := hcell 0 (by omega)
  rw [Nat.add_zero] at hc0
  have hzk : (z0.toNat : Int) = 4 := by rw [← hK, Item.at_, List.getD_eq_getElem?_getD, hz0]; rfl
  rw [hzk] at hc0
  have hzb := Num.byte_lt z0
  have hkb : (0 : Int) ≤ 4 ∧ (4 : Int) < 256 := by rw [← hzk]; omega
  obtain ⟨p0, hp0, hcp0⟩ := hcell 17 (by omega)
  have hpb := Num.byte_lt p0
  have hi0 : (p0.toNat : Int) = i := by rw [← hi, Item.at_, ← hR, List.getD_eq_getElem?_getD, List.getElem?_drop, hp0]; rfl
  rw [hi0] at hcp0
  have hib : 0 ≤ i ∧ i < 256 := by rw [← hi0]; omega
  clear hk hK hcell hz0 hd hzk
  go_enter Tryd.func23, Tryd.ntmps23
  go_wp2_with fail
  with_reducible refine hr.mono ?_
  rintro en w1 ⟨A1, c1, B1, d1, rfl, hi1, ho1, hb1⟩
  have hg1 := (hb1.block _ hgs).trans hg0
  have hgw1 := Nat.lt_of_lt_of_le hgs hb1.size
  have hb01 := bthen hb0 hb1
  have hi2 : OwnV w1 (w.alloc (.cells #[.int .i64 0, .int .i64 0, .int .i64 0, .int .i64 0, .int .i64 0, .int .i64 0, .slice none 0 0, .slice none 0 0] 25)).heap.size 3 (.slice A1 2 c1) 2 (is [q, e]) := hi1
  obtain ⟨g2, cap2, hv2, hgb2, hgl2, hn2', hm2⟩ := OwnV.form hi2 (by omega)
  injection hv2 with hA2 _ hc2
  subst hA2
  subst hc2
  have rI : RdI w1 (some ⟨g2, 0, none⟩) 2 c1 [q, e] := OwnV.same hi2
  have x0 := rI.cells_later (k := 0) rfl w1 (Below.refl _ _)
  have x1 := rI.cells_later (k := 1) rfl w1 (Below.refl _ _)
  rw [Nat.zero_add] at x0 x1
  have z1 := keepC hb01 hc0
  have hlb := World.block_lt_of_cell? _ _ z1
  dsimp only at hlb
  clear hr hi1 hi2 rI ho1 hb0 hb1 hg0 hgs
  go_wp2
  go_region
  have zc := keepC hb01 hcp0
  go_wp2_with fail
  have hbU : Below w.heap.size w (w1.alloc (.cells #[.int .i64 4, .int .i64 q, .int .i64 e, .int .i64 i, .int .i64 0, .int .i64 0, .slice none 0 0, .slice none 0 0] 25)).drew := (hb01.alloc hb01.size _).drew
  have gi : (w1.alloc (.cells #[.int .i64 4, .int .i64 q, .int .i64 e, .int .i64 i, .int .i64 0, .int .i64 0, .slice none 0 0, .slice none 0 0] 25)).drew.heap[w1.heap.size]? = some (.cells #[.int .i64 4, .int .i64 q, .int .i64 e, .int .i64 i, .int .i64 0, .int .i64 0, .slice none 0 0, .slice none 0 0] 25 (0, 0)) := alloc_at w1 _ _ rfl
  have gs : (w1.alloc (.cells #[.int .i64 4, .int .i64 q, .int .i64 e, .int .i64 i, .int .i64 0, .int .i64 0, .slice none 0 0, .slice none 0 0] 25)).drew.heap[w.heap.size]? = some (.cells #[.int .i64 0, .int .i64 0, .int .i64 0, .int .i64 0, .int .i64 0, .int .i64 0, .slice none 0 0, .slice none 0 0] 25 (0, 0)) := (alloc_old w1 _ _ hgw1).trans hg1
  have ix : IsItem (w1.alloc (.cells #[.int .i64 4, .int .i64 q, .int .i64 e, .int .i64 i, .int .i64 0, .int .i64 0, .slice none 0 0, .slice none 0 0] 25)).drew (.agg #[.int .i64 4, .int .i64 q, .int .i64 e, .int .i64 i, .int .i64 0, .int .i64 0, .slice none 0 0, .slice none 0 0]) ⟨4, q, e, i, 0, 0, [], []⟩ := ⟨none, 0, 0, none, 0, 0, rfl, RdV.nil_ _, Rd.nil_ _⟩
  generalize (w1.alloc (.cells #[.int .i64 4, .int .i64 q, .int .i64 e, .int .i64 i, .int .i64 0, .int .i64 0, .slice none 0 0, .slice none 0 0] 25)).drew = u at hbU gi gs ix  ⊢
  have hgiu := lt_of_block gi
  have hgsu := lt_of_block gs
  have hM := rmay_any (.agg #[.int .i64 4, .int .i64 q, .int .i64 e, .int .i64 i, .int .i64 0, .int .i64 0, .slice none 0 0, .slice none 0 0]) ⟨4, q, e, i, 0, 0, [], []⟩ u ix
  with_reducible refine hM.mono ?_
  rintro en w5 ⟨rfl, hb5⟩
  have gi5 := (hb5.block _ hgiu).trans gi
  have gs5 := (hb5.block _ hgsu).trans gs
  have hb05 := bthen hbU hb5
  obtain ⟨i0, i1, i2, i3, i4, i5, i6, i7⟩ := cells8 gi5
  have ix5 := ix.below hb5
  clear hM
  cases hm : Item.may ⟨4, q, e, i, 0, 0, [], []⟩ with
  | false =>
    have HT : Hid (Item.tried ⟨4, q, e, i, 0, 0, [], []⟩ l = none) := hidT (by rw [Item.tried, if_neg (by rw [hm]; simp)])
    go_wp2
    go_quiet (fail)
    go_wp2_with (
      refine wpList_stI rfl 25 (.tmp 2) (.tmp 144) rfl w.heap.size zcells rfl rfl _ _ gs5 info25 rfl (all8 rfl rfl rfl rfl rfl rfl rfl rfl) ?_
      intro w9 hg9 hbut9 hbel9)
    obtain ⟨y0, y1, y2, y3, y4, y5, y6, y7⟩ := cells8 hg9
    exact bodyPost_ret (v := .tuple #[.agg zcells, .int .i64 2]) (by simp [results, Tryd.results23, go_sem, y0, y1, y2, y3, y4, y5, y6, y7]) rfl (by rw [show ans = none from HANS.out.symm.trans HT.out]; exact ⟨rfl, hbel9 _ _ (bthen hb05 (drawn_below w5 _)) (Nat.le_refl _)⟩)
  | true =>
    obtain ⟨BX, HBX⟩ : ∃ BX, Hid (Item.bytes ⟨4, q, e, i, 0, 0, [], []⟩ = BX) := ⟨_, hidT rfl⟩
    have hBy := rbytes_any (.agg #[.int .i64 4, .int .i64 q, .int .i64 e, .int .i64 i, .int .i64 0, .int .i64 0, .slice none 0 0, .slice none 0 0]) ⟨4, q, e, i, 0, 0, [], []⟩ w5.drew ix5
    rw [HBX.out] at hBy
    have sl := strs (h.below hb05)
    have qb := str_beq BX l
    have KS : Hid (∀ w', Below w5.heap.size w5 w' → w'.cell? ⟨w1.heap.size, 0, none⟩ = some (.int .i64 4) ∧ w'.cell? ⟨w1.heap.size, 1, none⟩ = some (.int .i64 q) ∧ w'.cell? ⟨w1.heap.size, 2, none⟩ = some (.int .i64 e) ∧ w'.cell? ⟨w1.heap.size, 3, none⟩ = some (.int .i64 i) ∧ w'.cell? ⟨w1.heap.size, 4, none⟩ = some (.int .i64 0) ∧ w'.cell? ⟨w1.heap.size, 5, none⟩ = some (.int .i64 0) ∧ w'.cell? ⟨w1.heap.size, 6, none⟩ = some (.slice none 0 0) ∧ w'.cell? ⟨w1.heap.size, 7, none⟩ = some (.slice none 0 0) ∧ Below w5.heap.size w5 w') := hidT fun w' h => ⟨keepC h i0, keepC h i1, keepC h i2, keepC h i3, keepC h i4, keepC h i5, keepC h i6, keepC h i7, h⟩
    have hgi5 := lt_of_block gi5
    have hgs5 := lt_of_block gs5
    by_cases hbx : BX = l
    · have HT : Hid (Item.tried ⟨4, q, e, i, 0, 0, [], []⟩ l = some ⟨4, q, e, i, 0, 0, [], []⟩) := hidT (by rw [Item.tried, if_pos ⟨hm, HBX.out.trans hbx⟩])
      rw [decide_eq_true hbx] at qb
      clear hbx
      have qn : ((str BX).toList != (str l).toList) = false := by simp only [bne, qb]; rfl
      go_wp2
      go_region_held (fun w' => w'.cell? ⟨w1.heap.size, 0, none⟩ = some (.int .i64 4) ∧ w'.cell? ⟨w1.heap.size, 1, none⟩ = some (.int .i64 q) ∧ w'.cell? ⟨w1.heap.size, 2, none⟩ = some (.int .i64 e) ∧ w'.cell? ⟨w1.heap.size, 3, none⟩ = some (.int .i64 i) ∧ w'.cell? ⟨w1.heap.size, 4, none⟩ = some (.int .i64 0) ∧ w'.cell? ⟨w1.heap.size, 5, none⟩ = some (.int .i64 0) ∧ w'.cell? ⟨w1.heap.size, 6, none⟩ = some (.slice none 0 0) ∧ w'.cell? ⟨w1.heap.size, 7, none⟩ = some (.slice none 0 0) ∧ Below w5.heap.size w5 w')
        (first | exact KS.out _ (Below.refl _ _).drew | exact KS.out _ h6' | assumption)
        (first | (go_at_call 38; ((with_reducible refine hBy.mono ?_); rintro en w6 ⟨A6, n6, rfl, o6, h6⟩; have h6' : Below w5.heap.size w5 w6 := undrew h6; have s6 := strs o6.same w6 (Below.refl _ _); have s7 := sl w6 h6')))
      have gi6 := (h6'.block _ hgi5).trans gi5
      have gs6 := (h6'.block _ hgs5).trans gs5
      have hb06 := bthen hb05 h6'
      have ix6 := ix5.below h6'
      obtain ⟨j0, j1, j2, j3, j4, j5, j6, j7⟩ := cells8 gi6
      go_wp2_with (
        refine wpList_stI rfl 25 (.tmp 2) (.tmp 145) rfl w.heap.size #[.int .i64 4, .int .i64 q, .int .i64 e, .int .i64 i, .int .i64 0, .int .i64 0, .slice none 0 0, .slice none 0 0] rfl rfl _ _ gs6 info25 rfl (all8 rfl rfl rfl rfl rfl rfl rfl rfl) ?_
        intro w9 hg9 hbut9 hbel9)
      obtain ⟨y0, y1, y2, y3, y4, y5, y6, y7⟩ := cells8 hg9
      exact bodyPost_ret (v := .tuple #[.agg #[.int .i64 4, .int .i64 q, .int .i64 e, .int .i64 i, .int .i64 0, .int .i64 0, .slice none 0 0, .slice none 0 0], .int .i64 0]) (by simp [results, Tryd.results23, go_sem, y0, y1, y2, y3, y4, y5, y6, y7]) rfl (by rw [show ans = some ⟨4, q, e, i, 0, 0, [], []⟩ from HANS.out.symm.trans HT.out]; exact ⟨none, 0, 0, none, 0, 0, rfl, RdV.nil_ _, Rd.nil_ _, no_addr, no_addr, hbel9 _ _ hb06 (Nat.le_refl _)⟩)
    · have HT : Hid (Item.tried ⟨4, q, e, i, 0, 0, [], []⟩ l = none) := hidT (by rw [Item.tried, if_neg (fun hh => hbx (HBX.out.symm.trans hh.2))])
      rw [decide_eq_false hbx] at qb
      clear hbx
      have qn : ((str BX).toList != (str l).toList) = true := by simp only [bne, qb]; rfl
      go_wp2
      go_region_held (fun w' => w'.cell? ⟨w1.heap.size, 0, none⟩ = some (.int .i64 4) ∧ w'.cell? ⟨w1.heap.size, 1, none⟩ = some (.int .i64 q) ∧ w'.cell? ⟨w1.heap.size, 2, none⟩ = some (.int .i64 e) ∧ w'.cell? ⟨w1.heap.size, 3, none⟩ = some (.int .i64 i) ∧ w'.cell? ⟨w1.heap.size, 4, none⟩ = some (.int .i64 0) ∧ w'.cell? ⟨w1.heap.size, 5, none⟩ = some (.int .i64 0) ∧ w'.cell? ⟨w1.heap.size, 6, none⟩ = some (.slice none 0 0) ∧ w'.cell? ⟨w1.heap.size, 7, none⟩ = some (.slice none 0 0) ∧ Below w5.heap.size w5 w')
        (first | exact KS.out _ (Below.refl _ _).drew | exact KS.out _ h6' | assumption)
        (first | (go_at_call 38; ((with_reducible refine hBy.mono ?_); rintro en w6 ⟨A6, n6, rfl, o6, h6⟩; have h6' : Below w5.heap.size w5 w6 := undrew h6; have s6 := strs o6.same w6 (Below.refl _ _); have s7 := sl w6 h6')))
      have gs6 := (h6'.block _ hgs5).trans gs5
      have hb06 := bthen hb05 h6'
      go_wp2_with (
        refine wpList_stI rfl 25 (.tmp 2) (.tmp 144) rfl w.heap.size zcells rfl rfl _ _ gs6 info25 rfl (all8 rfl rfl rfl rfl rfl rfl rfl rfl) ?_
        intro w9 hg9 hbut9 hbel9)
      obtain ⟨y0, y1, y2, y3, y4, y5, y6, y7⟩ := cells8 hg9
      exact bodyPost_ret (v := .tuple #[.agg zcells, .int .i64 2]) (by simp [results, Tryd.results23, go_sem, y0, y1, y2, y3, y4, y5, y6, y7]) rfl (by rw [show ans = none from HANS.out.symm.trans HT.out]; exact ⟨rfl, hbel9 _ _ hb06 (Nat.le_refl _)⟩)

end Go.Proofs.YtahkhideepncfaaDoor
/- What the document's Take comes to, kind by kind. (Written by wip/gen/refitem6.py.) -/
namespace Go.Proofs.YtahkhideepncfaaDoor
open Go.RowKit
set_option linter.unusedVariables false

set_option maxRecDepth 100000 in
set_option maxHeartbeats 8000000 in
theorem rt5_in (b o n c : Nat) (l : List UInt8) (w : World) (h : Rd w (some ⟨b, o, none⟩) n c l) (hn : 17 ≤ n) (hn2 : n ≤ 65536) (hcap : 17 < c) (q e : Int) (rr : List UInt8) (hk : Num.rowOf ((l.drop 1).take 16) 2 8 = ([q, e], rr, 0)) (hK : Item.at_ l 0 = 5) (N : Int) (R : List UInt8) (hR : l.drop 17 = R) (HN : Hid ((Num.num R 8 : Int) = N)) :
    Calls Tryd.prog 23 #[.slice (some ⟨b, o, none⟩) n c] w (TakeF w (Item.tried ⟨5, q, e, 0, 0, N, [], []⟩ l)) := by
  obtain ⟨m, rfl⟩ : ∃ m, n = m + 17 := ⟨n - 17, by omega⟩
  obtain ⟨d, rfl⟩ : ∃ d, c = d + 17 := ⟨c - 17, by have := h.2.1; omega⟩
  obtain ⟨ans, HANS⟩ : ∃ ans, Hid (Item.tried ⟨5, q, e, 0, 0, N, [], []⟩ l = ans) := ⟨_, hidT rfl⟩
  rw [HANS.out]
  have hb0 : Below w.heap.size w (w.alloc (.cells #[.int .i64 0, .int .i64 0, .int .i64 0, .int .i64 0, .int .i64 0, .int .i64 0, .slice none 0 0, .slice none 0 0] 25)) := (Below.refl _ _).alloc (Nat.le_refl _) _
  have hg0 := alloc_at w (.cells #[.int .i64 0, .int .i64 0, .int .i64 0, .int .i64 0, .int .i64 0, .int .i64 0, .slice none 0 0, .slice none 0 0] 25) _ rfl
  have hgs : w.heap.size < (w.alloc (.cells #[.int .i64 0, .int .i64 0, .int .i64 0, .int .i64 0, .int .i64 0, .int .i64 0, .slice none 0 0, .slice none 0 0] 25)).heap.size := by rw [size_alloc]; omega
  have hnc := h.2.1
  have hRd := h.drop (k := 17) (by omega)
  rw [hR] at hRd
  have hRl := hRd.1
  have q1 : decide (((m + 17 : Nat) : Int) < 17) = false := by simp; omega
  have hd := ((h.below hb0).drop (k := 1) (by omega)).take (k := 16) (by omega)
  have hr := rtakeRow_any _ _ _ _ 2 8 _ hd (by omega)
  rw [hk] at hr
  rw [show d + 17 - 1 = d + 16 from by omega] at hr
  obtain ⟨b', o', hA, hcell⟩ := h.at_ (by omega)
  injection hA with hA
  injection hA with e1 e2
  subst e1
  subst e2
  obtain ⟨z0, hz0, hc0⟩ := hcell 0 (by omega)
  rw [Nat.add_zero] at hc0
  have hzk : (z0.toNat : Int) = 5 := by rw [← hK, Item.at_, List.getD_eq_getElem?_getD, hz0]; rfl
  rw [hzk] at hc0
  have hzb := Num.byte_lt z0
  have hkb : (0 : Int) ≤ 5 ∧ (5 : Int) < 256 := by rw [← hzk]; omega
  clear hk hK hcell hz0 hd hzk
  go_enter Tryd.func23, Tryd.ntmps23
  go_wp2_with fail
  with_reducible refine hr.mono ?_
  rintro en w1 ⟨A1, c1, B1, d1, rfl, hi1, ho1, hb1⟩
  have hg1 := (hb1.block _ hgs).trans hg0
  have hgw1 := Nat.lt_of_lt_of_le hgs hb1.size
  have hb01 := bthen hb0 hb1
  have hi2 : OwnV w1 (w.alloc (.cells #[.int .i64 0, .int .i64 0, .int .i64 0, .int .i64 0, .int .i64 0, .int .i64 0, .slice none 0 0, .slice none 0 0] 25)).heap.size 3 (.slice A1 2 c1) 2 (is [q, e]) := hi1
  obtain ⟨g2, cap2, hv2, hgb2, hgl2, hn2', hm2⟩ := OwnV.form hi2 (by omega)
  injection hv2 with hA2 _ hc2
  subst hA2
  subst hc2
  have rI : RdI w1 (some ⟨g2, 0, none⟩) 2 c1 [q, e] := OwnV.same hi2
  have x0 := rI.cells_later (k := 0) rfl w1 (Below.refl _ _)
  have x1 := rI.cells_later (k := 1) rfl w1 (Below.refl _ _)
  rw [Nat.zero_add] at x0 x1
  have z1 := keepC hb01 hc0
  have hlb := World.block_lt_of_cell? _ _ z1
  dsimp only at hlb
  clear hr hi1 hi2 rI ho1 hb0 hb1 hg0 hgs
  go_wp2
  go_region
  have gi0 : (w1.alloc (.cells #[.int .i64 5, .int .i64 q, .int .i64 e, .int .i64 0, .int .i64 0, .int .i64 0, .slice none 0 0, .slice none 0 0] 25)).drew.heap[w1.heap.size]? = some (.cells #[.int .i64 5, .int .i64 q, .int .i64 e, .int .i64 0, .int .i64 0, .int .i64 0, .slice none 0 0, .slice none 0 0] 25 (0, 0)) := alloc_at w1 _ _ rfl
  have gs0 : (w1.alloc (.cells #[.int .i64 5, .int .i64 q, .int .i64 e, .int .i64 0, .int .i64 0, .int .i64 0, .slice none 0 0, .slice none 0 0] 25)).drew.heap[w.heap.size]? = some (.cells #[.int .i64 0, .int .i64 0, .int .i64 0, .int .i64 0, .int .i64 0, .int .i64 0, .slice none 0 0, .slice none 0 0] 25 (0, 0)) := (alloc_old w1 _ _ hgw1).trans hg1
  have bU0 : Below w.heap.size w (w1.alloc (.cells #[.int .i64 5, .int .i64 q, .int .i64 e, .int .i64 0, .int .i64 0, .int .i64 0, .slice none 0 0, .slice none 0 0] 25)).drew := (hb01.alloc hb01.size _).drew
  have hrl := hRl
  have ht := rtake_any (some ⟨b, o + 17, none⟩) m d R 8 (w1.alloc (.cells #[.int .i64 5, .int .i64 q, .int .i64 e, .int .i64 0, .int .i64 0, .int .i64 0, .slice none 0 0, .slice none 0 0] 25)).drew ((hRd.below hb01).alloc _).drew (by omega)
  rw [HN.out] at ht
  generalize Num.rest R 8 = rst at ht
  generalize Num.code R 8 = cod at ht
  go_wp2_with fail
  with_reducible refine ht.mono ?_
  rintro en w2 ⟨A2, c2, rfl, ho2, hb2⟩
  have gi2 := (hb2.block _ (lt_of_block gi0)).trans gi0
  have gs2 := (hb2.block _ (lt_of_block gs0)).trans gs0
  have bw2 := bthen bU0 hb2
  obtain ⟨k0, k1, k2, k3, k4, k5, k6, k7⟩ := cells8 gi2
  have fz := no_frozen gi2
  clear ht gi0 gs0 bU0
  go_wp2_with fail
  have hbU : Below w.heap.size w (w2.setCell ⟨w1.heap.size, 5, none⟩ (.int .i64 N)) := bw2.setCell (p := ⟨w1.heap.size, 5, none⟩) hb01.size _
  have gi : (w2.setCell ⟨w1.heap.size, 5, none⟩ (.int .i64 N)).heap[w1.heap.size]? = some (.cells #[.int .i64 5, .int .i64 q, .int .i64 e, .int .i64 0, .int .i64 0, .int .i64 N, .slice none 0 0, .slice none 0 0] 25 (0, 0)) := heap_setCell_same w2 _ 5 _ _ _ gi2
  have gs : (w2.setCell ⟨w1.heap.size, 5, none⟩ (.int .i64 N)).heap[w.heap.size]? = some (.cells #[.int .i64 0, .int .i64 0, .int .i64 0, .int .i64 0, .int .i64 0, .int .i64 0, .slice none 0 0, .slice none 0 0] 25 (0, 0)) := ((But.setCell w2 w1.heap.size 5 (.int .i64 N)).2 w.heap.size (by omega)).trans gs2
  have ix : IsItem (w2.setCell ⟨w1.heap.size, 5, none⟩ (.int .i64 N)) (.agg #[.int .i64 5, .int .i64 q, .int .i64 e, .int .i64 0, .int .i64 0, .int .i64 N, .slice none 0 0, .slice none 0 0]) ⟨5, q, e, 0, 0, N, [], []⟩ := ⟨none, 0, 0, none, 0, 0, rfl, RdV.nil_ _, Rd.nil_ _⟩
  generalize (w2.setCell ⟨w1.heap.size, 5, none⟩ (.int .i64 N)) = u at hbU gi gs ix  ⊢
  have hgiu := lt_of_block gi
  have hgsu := lt_of_block gs
  have hM := rmay_any (.agg #[.int .i64 5, .int .i64 q, .int .i64 e, .int .i64 0, .int .i64 0, .int .i64 N, .slice none 0 0, .slice none 0 0]) ⟨5, q, e, 0, 0, N, [], []⟩ u ix
  with_reducible refine hM.mono ?_
  rintro en w5 ⟨rfl, hb5⟩
  have gi5 := (hb5.block _ hgiu).trans gi
  have gs5 := (hb5.block _ hgsu).trans gs
  have hb05 := bthen hbU hb5
  obtain ⟨i0, i1, i2, i3, i4, i5, i6, i7⟩ := cells8 gi5
  have ix5 := ix.below hb5
  clear hM
  cases hm : Item.may ⟨5, q, e, 0, 0, N, [], []⟩ with
  | false =>
    have HT : Hid (Item.tried ⟨5, q, e, 0, 0, N, [], []⟩ l = none) := hidT (by rw [Item.tried, if_neg (by rw [hm]; simp)])
    go_wp2
    go_quiet (fail)
    go_wp2_with (
      refine wpList_stI rfl 25 (.tmp 2) (.tmp 144) rfl w.heap.size zcells rfl rfl _ _ gs5 info25 rfl (all8 rfl rfl rfl rfl rfl rfl rfl rfl) ?_
      intro w9 hg9 hbut9 hbel9)
    obtain ⟨y0, y1, y2, y3, y4, y5, y6, y7⟩ := cells8 hg9
    exact bodyPost_ret (v := .tuple #[.agg zcells, .int .i64 2]) (by simp [results, Tryd.results23, go_sem, y0, y1, y2, y3, y4, y5, y6, y7]) rfl (by rw [show ans = none from HANS.out.symm.trans HT.out]; exact ⟨rfl, hbel9 _ _ (bthen hb05 (drawn_below w5 _)) (Nat.le_refl _)⟩)
  | true =>
    obtain ⟨BX, HBX⟩ : ∃ BX, Hid (Item.bytes ⟨5, q, e, 0, 0, N, [], []⟩ = BX) := ⟨_, hidT rfl⟩
    have hBy := rbytes_any (.agg #[.int .i64 5, .int .i64 q, .int .i64 e, .int .i64 0, .int .i64 0, .int .i64 N, .slice none 0 0, .slice none 0 0]) ⟨5, q, e, 0, 0, N, [], []⟩ w5.drew ix5
    rw [HBX.out] at hBy
    have sl := strs (h.below hb05)
    have qb := str_beq BX l
    have KS : Hid (∀ w', Below w5.heap.size w5 w' → w'.cell? ⟨w1.heap.size, 0, none⟩ = some (.int .i64 5) ∧ w'.cell? ⟨w1.heap.size, 1, none⟩ = some (.int .i64 q) ∧ w'.cell? ⟨w1.heap.size, 2, none⟩ = some (.int .i64 e) ∧ w'.cell? ⟨w1.heap.size, 3, none⟩ = some (.int .i64 0) ∧ w'.cell? ⟨w1.heap.size, 4, none⟩ = some (.int .i64 0) ∧ w'.cell? ⟨w1.heap.size, 5, none⟩ = some (.int .i64 N) ∧ w'.cell? ⟨w1.heap.size, 6, none⟩ = some (.slice none 0 0) ∧ w'.cell? ⟨w1.heap.size, 7, none⟩ = some (.slice none 0 0) ∧ Below w5.heap.size w5 w') := hidT fun w' h => ⟨keepC h i0, keepC h i1, keepC h i2, keepC h i3, keepC h i4, keepC h i5, keepC h i6, keepC h i7, h⟩
    have hgi5 := lt_of_block gi5
    have hgs5 := lt_of_block gs5
    by_cases hbx : BX = l
    · have HT : Hid (Item.tried ⟨5, q, e, 0, 0, N, [], []⟩ l = some ⟨5, q, e, 0, 0, N, [], []⟩) := hidT (by rw [Item.tried, if_pos ⟨hm, HBX.out.trans hbx⟩])
      rw [decide_eq_true hbx] at qb
      clear hbx
      have qn : ((str BX).toList != (str l).toList) = false := by simp only [bne, qb]; rfl
      go_wp2
      go_region_held (fun w' => w'.cell? ⟨w1.heap.size, 0, none⟩ = some (.int .i64 5) ∧ w'.cell? ⟨w1.heap.size, 1, none⟩ = some (.int .i64 q) ∧ w'.cell? ⟨w1.heap.size, 2, none⟩ = some (.int .i64 e) ∧ w'.cell? ⟨w1.heap.size, 3, none⟩ = some (.int .i64 0) ∧ w'.cell? ⟨w1.heap.size, 4, none⟩ = some (.int .i64 0) ∧ w'.cell? ⟨w1.heap.size, 5, none⟩ = some (.int .i64 N) ∧ w'.cell? ⟨w1.heap.size, 6, none⟩ = some (.slice none 0 0) ∧ w'.cell? ⟨w1.heap.size, 7, none⟩ = some (.slice none 0 0) ∧ Below w5.heap.size w5 w')
        (first | exact KS.out _ (Below.refl _ _).drew | exact KS.out _ h6' | assumption)
        (first | (go_at_call 38; ((with_reducible refine hBy.mono ?_); rintro en w6 ⟨A6, n6, rfl, o6, h6⟩; have h6' : Below w5.heap.size w5 w6 := undrew h6; have s6 := strs o6.same w6 (Below.refl _ _); have s7 := sl w6 h6')))
      have gi6 := (h6'.block _ hgi5).trans gi5
      have gs6 := (h6'.block _ hgs5).trans gs5
      have hb06 := bthen hb05 h6'
      have ix6 := ix5.below h6'
      obtain ⟨j0, j1, j2, j3, j4, j5, j6, j7⟩ := cells8 gi6
      go_wp2_with (
        refine wpList_stI rfl 25 (.tmp 2) (.tmp 145) rfl w.heap.size #[.int .i64 5, .int .i64 q, .int .i64 e, .int .i64 0, .int .i64 0, .int .i64 N, .slice none 0 0, .slice none 0 0] rfl rfl _ _ gs6 info25 rfl (all8 rfl rfl rfl rfl rfl rfl rfl rfl) ?_
        intro w9 hg9 hbut9 hbel9)
      obtain ⟨y0, y1, y2, y3, y4, y5, y6, y7⟩ := cells8 hg9
      exact bodyPost_ret (v := .tuple #[.agg #[.int .i64 5, .int .i64 q, .int .i64 e, .int .i64 0, .int .i64 0, .int .i64 N, .slice none 0 0, .slice none 0 0], .int .i64 0]) (by simp [results, Tryd.results23, go_sem, y0, y1, y2, y3, y4, y5, y6, y7]) rfl (by rw [show ans = some ⟨5, q, e, 0, 0, N, [], []⟩ from HANS.out.symm.trans HT.out]; exact ⟨none, 0, 0, none, 0, 0, rfl, RdV.nil_ _, Rd.nil_ _, no_addr, no_addr, hbel9 _ _ hb06 (Nat.le_refl _)⟩)
    · have HT : Hid (Item.tried ⟨5, q, e, 0, 0, N, [], []⟩ l = none) := hidT (by rw [Item.tried, if_neg (fun hh => hbx (HBX.out.symm.trans hh.2))])
      rw [decide_eq_false hbx] at qb
      clear hbx
      have qn : ((str BX).toList != (str l).toList) = true := by simp only [bne, qb]; rfl
      go_wp2
      go_region_held (fun w' => w'.cell? ⟨w1.heap.size, 0, none⟩ = some (.int .i64 5) ∧ w'.cell? ⟨w1.heap.size, 1, none⟩ = some (.int .i64 q) ∧ w'.cell? ⟨w1.heap.size, 2, none⟩ = some (.int .i64 e) ∧ w'.cell? ⟨w1.heap.size, 3, none⟩ = some (.int .i64 0) ∧ w'.cell? ⟨w1.heap.size, 4, none⟩ = some (.int .i64 0) ∧ w'.cell? ⟨w1.heap.size, 5, none⟩ = some (.int .i64 N) ∧ w'.cell? ⟨w1.heap.size, 6, none⟩ = some (.slice none 0 0) ∧ w'.cell? ⟨w1.heap.size, 7, none⟩ = some (.slice none 0 0) ∧ Below w5.heap.size w5 w')
        (first | exact KS.out _ (Below.refl _ _).drew | exact KS.out _ h6' | assumption)
        (first | (go_at_call 38; ((with_reducible refine hBy.mono ?_); rintro en w6 ⟨A6, n6, rfl, o6, h6⟩; have h6' : Below w5.heap.size w5 w6 := undrew h6; have s6 := strs o6.same w6 (Below.refl _ _); have s7 := sl w6 h6')))
      have gs6 := (h6'.block _ hgs5).trans gs5
      have hb06 := bthen hb05 h6'
      go_wp2_with (
        refine wpList_stI rfl 25 (.tmp 2) (.tmp 144) rfl w.heap.size zcells rfl rfl _ _ gs6 info25 rfl (all8 rfl rfl rfl rfl rfl rfl rfl rfl) ?_
        intro w9 hg9 hbut9 hbel9)
      obtain ⟨y0, y1, y2, y3, y4, y5, y6, y7⟩ := cells8 hg9
      exact bodyPost_ret (v := .tuple #[.agg zcells, .int .i64 2]) (by simp [results, Tryd.results23, go_sem, y0, y1, y2, y3, y4, y5, y6, y7]) rfl (by rw [show ans = none from HANS.out.symm.trans HT.out]; exact ⟨rfl, hbel9 _ _ hb06 (Nat.le_refl _)⟩)

end Go.Proofs.YtahkhideepncfaaDoor
