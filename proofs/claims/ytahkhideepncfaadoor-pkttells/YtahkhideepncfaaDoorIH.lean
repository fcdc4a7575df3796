import Derived.Test.YtahkhideepncfaaDoorIG
import Derived.Test.YtahkhideepncfaaDoorMA
set_option maxRecDepth 100000
/- What item.takeTail comes to at the kinds 1 and 2. (Written by wip/gen/item13.py.) -/
namespace Go.Proofs.YtahkhideepncfaaDoor
open Go.RowKit
set_option linter.unusedVariables false

set_option maxHeartbeats 2000000 in
theorem tt2a (q e : Int) (A : Option Addr) (n c : Nat) (r : List UInt8) (w : World) (hw : Wd w) (h : Rd w A n c r) (hn : n ≤ 65536) (hk : Num.code r 1 ≠ 0) :
    Calls Tryd.prog 63 #[.agg #[.int .i64 2, .int .i64 q, .int .i64 e, .int .i64 0, .int .i64 0, .int .i64 0, .slice none 0 0, .slice none 0 0], .slice A n c] w (TailIs w ⟨2, q, e, Num.num r 1, 0, 0, [], []⟩ (Num.rest r 1) (Num.code r 1)) := by
  obtain ⟨g0, g1, hb0⟩ := two_alloc w (.cells #[.int .i64 2, .int .i64 q, .int .i64 e, .int .i64 0, .int .i64 0, .int .i64 0, .slice none 0 0, .slice none 0 0] 25) (.cells #[.int .i64 0, .int .i64 0, .int .i64 0, .int .i64 0, .int .i64 0, .int .i64 0, .slice none 0 0, .slice none 0 0] 25)
  have hs0 : w.heap.size < ((w.alloc (.cells #[.int .i64 2, .int .i64 q, .int .i64 e, .int .i64 0, .int .i64 0, .int .i64 0, .slice none 0 0, .slice none 0 0] 25)).alloc (.cells #[.int .i64 0, .int .i64 0, .int .i64 0, .int .i64 0, .int .i64 0, .int .i64 0, .slice none 0 0, .slice none 0 0] 25)).heap.size := by simp only [size_alloc]; omega
  have hs1 : w.heap.size + 1 < ((w.alloc (.cells #[.int .i64 2, .int .i64 q, .int .i64 e, .int .i64 0, .int .i64 0, .int .i64 0, .slice none 0 0, .slice none 0 0] 25)).alloc (.cells #[.int .i64 0, .int .i64 0, .int .i64 0, .int .i64 0, .int .i64 0, .int .i64 0, .slice none 0 0, .slice none 0 0] 25)).heap.size := by simp only [size_alloc]; omega
  have c0 := (cells8 g0).1
  have hw0 := hw.below hb0
  have h0 := h.below hb0
  have ht := take_any A n c r 1 _ hw0 h0 hn
  generalize (Num.num r 1 : Int) = m at ht ⊢
  generalize Num.rest r 1 = rr at ht ⊢
  generalize Num.code r 1 = kk at ht hk ⊢
  have q1 : (kk == 0) = false := by simpa using hk
  have q2 : (kk != 0) = true := by simpa using hk
  clear hk
  go_enter Tryd.func63, Tryd.ntmps63
  go_wp2_with fail
  with_reducible refine ht.mono ?_
  rintro en w1 ⟨A1, c1, rfl, ho1, hb1⟩
  have g0' := (hb1.block _ hs0).trans g0
  have g1' := (hb1.block _ hs1).trans g1
  have HG := ((But.setCell w1 w.heap.size 3 (.int .i64 m)).2 (w.heap.size + 1) (by omega)).trans g1'
  have ho2 := (ho1.but hs0 (But.setCell w1 w.heap.size 3 (.int .i64 m)))
  have hb2 := (bthen hb0 hb1).setCell (p := ⟨w.heap.size, 3, none⟩) (Nat.le_refl _) (.int .i64 m)
  obtain ⟨e0, e1, e2, e3, e4, e5, e6, e7⟩ := cells8 g0'
  have fz := no_frozen g0'
  clear ht g0 g1 c0 g0' g1'
  go_wp2_with (
    refine wpList_stI rfl 25 (.tmp 4) (.tmp 82) rfl (w.heap.size + 1) #[.int .i64 2, .int .i64 q, .int .i64 e, .int .i64 m, .int .i64 0, .int .i64 0, .slice none 0 0, .slice none 0 0] rfl rfl _ _ HG info25 rfl (all8 rfl rfl rfl rfl rfl rfl rfl rfl) ?_
    intro w9 hg9 hbut9 hbel9)
  obtain ⟨y0, y1, y2, y3, y4, y5, y6, y7⟩ := cells8 hg9
  exact bodyPost_ret (v := .tuple #[.agg #[.int .i64 2, .int .i64 q, .int .i64 e, .int .i64 m, .int .i64 0, .int .i64 0, .slice none 0 0, .slice none 0 0], .slice A1 rr.length c1, .int .i64 kk]) (by simp [results, Tryd.results63, go_sem, y0, y1, y2, y3, y4, y5, y6, y7]) rfl ⟨_, _, _, rfl, ⟨none, 0, 0, none, 0, 0, rfl, RdV.nil_ _, Rd.nil_ _, no_addr, no_addr⟩, ((ho2.but hs1 hbut9)).same, hbel9 _ _ hb2 (Nat.le_succ _)⟩

set_option maxHeartbeats 2000000 in
theorem tt2b (q e : Int) (A : Option Addr) (n c : Nat) (r : List UInt8) (w : World) (hw : Wd w) (h : Rd w A n c r) (hn : n ≤ 65536) (hk : Num.code r 1 = 0) (rr : List UInt8) (hrr : Num.rest r 1 = rr) :
    Calls Tryd.prog 63 #[.agg #[.int .i64 2, .int .i64 q, .int .i64 e, .int .i64 0, .int .i64 0, .int .i64 0, .slice none 0 0, .slice none 0 0], .slice A n c] w (TailIs w ⟨2, q, e, Num.num r 1, 0, 0, (Num.rowOf rr rr.length 1).1, []⟩ ((Num.rowOf rr rr.length 1).2.1) ((Num.rowOf rr rr.length 1).2.2)) := by
  obtain ⟨g0, g1, hb0⟩ := two_alloc w (.cells #[.int .i64 2, .int .i64 q, .int .i64 e, .int .i64 0, .int .i64 0, .int .i64 0, .slice none 0 0, .slice none 0 0] 25) (.cells #[.int .i64 0, .int .i64 0, .int .i64 0, .int .i64 0, .int .i64 0, .int .i64 0, .slice none 0 0, .slice none 0 0] 25)
  have hs0 : w.heap.size < ((w.alloc (.cells #[.int .i64 2, .int .i64 q, .int .i64 e, .int .i64 0, .int .i64 0, .int .i64 0, .slice none 0 0, .slice none 0 0] 25)).alloc (.cells #[.int .i64 0, .int .i64 0, .int .i64 0, .int .i64 0, .int .i64 0, .int .i64 0, .slice none 0 0, .slice none 0 0] 25)).heap.size := by simp only [size_alloc]; omega
  have hs1 : w.heap.size + 1 < ((w.alloc (.cells #[.int .i64 2, .int .i64 q, .int .i64 e, .int .i64 0, .int .i64 0, .int .i64 0, .slice none 0 0, .slice none 0 0] 25)).alloc (.cells #[.int .i64 0, .int .i64 0, .int .i64 0, .int .i64 0, .int .i64 0, .int .i64 0, .slice none 0 0, .slice none 0 0] 25)).heap.size := by simp only [size_alloc]; omega
  have c0 := (cells8 g0).1
  have hw0 := hw.below hb0
  have h0 := h.below hb0
  have ht := take_any A n c r 1 _ hw0 h0 hn
  have hrl : rr.length ≤ 65536 := by rw [← hrr, Num.rest_length hk, h.1]; omega
  rw [hrr, hk] at ht
  generalize (Num.num r 1 : Int) = m at ht ⊢
  have htr := fun (B : Option Addr) (d : Nat) (w' : World) (hw' : Wd w') (hb' : Rd w' B rr.length d rr) => takeRow_any B rr.length d rr rr.length 1 w' hw' hb' hrl
  generalize Num.rowOf rr rr.length 1 = p at htr ⊢
  clear hk hrr
  go_enter Tryd.func63, Tryd.ntmps63
  go_wp2_with fail
  with_reducible refine ht.mono ?_
  rintro en w1 ⟨A1, c1, rfl, ho1, hb1⟩
  have g0' := (hb1.block _ hs0).trans g0
  have g1' := (hb1.block _ hs1).trans g1
  have HG := ((But.setCell w1 w.heap.size 3 (.int .i64 m)).2 (w.heap.size + 1) (by omega)).trans g1'
  have ho2 := (ho1.but hs0 (But.setCell w1 w.heap.size 3 (.int .i64 m)))
  have hb2 := (bthen hb0 hb1).setCell (p := ⟨w.heap.size, 3, none⟩) (Nat.le_refl _) (.int .i64 m)
  obtain ⟨e0, e1, e2, e3, e4, e5, e6, e7⟩ := cells8 g0'
  have fz := no_frozen g0'
  have g0s : (w1.setCell ⟨w.heap.size, 3, none⟩ (.int .i64 m)).heap[w.heap.size]? = some (.cells #[.int .i64 2, .int .i64 q, .int .i64 e, .int .i64 m, .int .i64 0, .int .i64 0, .slice none 0 0, .slice none 0 0] 25 (0, 0)) := heap_setCell_same w1 w.heap.size 3 _ _ (.int .i64 m) g0'
  have hszs : (w1.setCell ⟨w.heap.size, 3, none⟩ (.int .i64 m)).heap.size = w1.heap.size := (But.setCell w1 w.heap.size 3 (.int .i64 m)).1
  have ht3 := htr A1 c1 _ (hw.below hb2) ho2.same
  have h1s := hb1.size
  clear ht g0 g1 c0 g0' g1' htr
  go_wp2_with fail
  with_reducible refine ht3.mono ?_
  clear e0 e1 e2 e3 e4 e5 e6 e7 fz ht3
  rintro en w3 ⟨A3, c3, B3, d3, rfl, hi3, ho3, hb3⟩
  have k0 := (hb3.block _ (by rw [hszs]; omega)).trans g0s
  have k1 := (hb3.block _ (by rw [hszs]; omega)).trans HG
  rw [hszs] at hi3 ho3
  have HG3 := ((But.setCell w3 w.heap.size 6 (.slice A3 p.1.length c3)).2 (w.heap.size + 1) (by omega)).trans k1
  have ho4 := (ho3.but (by omega) (But.setCell w3 w.heap.size 6 (.slice A3 p.1.length c3)))
  have hi4 := (OwnV.but hi3 (by omega) (But.setCell w3 w.heap.size 6 (.slice A3 p.1.length c3)))
  have hb4 := (bthen hb2 hb3).setCell (p := ⟨w.heap.size, 6, none⟩) (Nat.le_refl _) (.slice A3 p.1.length c3)
  obtain ⟨e0, e1, e2, e3, e4, e5, e6, e7⟩ := cells8 k0
  have fz := no_frozen k0
  clear k0 k1 HG g0s hszs
  go_wp2_with (
    refine wpList_stI rfl 25 (.tmp 4) (.tmp 82) rfl (w.heap.size + 1) #[.int .i64 2, .int .i64 q, .int .i64 e, .int .i64 m, .int .i64 0, .int .i64 0, .slice A3 p.1.length c3, .slice none 0 0] rfl rfl _ _ HG3 info25 rfl (all8 rfl rfl rfl rfl rfl rfl rfl rfl) ?_
    intro w9 hg9 hbut9 hbel9)
  obtain ⟨y0, y1, y2, y3, y4, y5, y6, y7⟩ := cells8 hg9
  exact bodyPost_ret (v := .tuple #[.agg #[.int .i64 2, .int .i64 q, .int .i64 e, .int .i64 m, .int .i64 0, .int .i64 0, .slice A3 p.1.length c3, .slice none 0 0], .slice B3 p.2.1.length d3, .int .i64 p.2.2]) (by simp [results, Tryd.results63, go_sem, y0, y1, y2, y3, y4, y5, y6, y7]) rfl ⟨_, _, _, rfl, ⟨A3, _, c3, none, 0, 0, rfl, OwnV.same (OwnV.but hi4 (by omega) hbut9), Rd.nil_ _, addrV hi4 (Nat.le_trans hb0.size h1s), no_addr⟩, ((ho4.but (by omega) hbut9)).same, hbel9 _ _ hb4 (Nat.le_succ _)⟩

set_option maxHeartbeats 2000000 in
theorem tt1a (q e : Int) (A : Option Addr) (n c : Nat) (r : List UInt8) (w : World) (hw : Wd w) (h : Rd w A n c r) (hn : n ≤ 65536) (kk : Int) (bb : List UInt8) (hk : Num.rowOf r 2 1 = ([], bb, kk)) (hk0 : kk ≠ 0) :
    Calls Tryd.prog 63 #[.agg #[.int .i64 1, .int .i64 q, .int .i64 e, .int .i64 0, .int .i64 0, .int .i64 0, .slice none 0 0, .slice none 0 0], .slice A n c] w (TailIs w ⟨1, q, e, 0, 0, 0, [], bb⟩ ([]) (kk)) := by
  obtain ⟨g0, g1, hb0⟩ := two_alloc w (.cells #[.int .i64 1, .int .i64 q, .int .i64 e, .int .i64 0, .int .i64 0, .int .i64 0, .slice none 0 0, .slice none 0 0] 25) (.cells #[.int .i64 0, .int .i64 0, .int .i64 0, .int .i64 0, .int .i64 0, .int .i64 0, .slice none 0 0, .slice none 0 0] 25)
  have hs0 : w.heap.size < ((w.alloc (.cells #[.int .i64 1, .int .i64 q, .int .i64 e, .int .i64 0, .int .i64 0, .int .i64 0, .slice none 0 0, .slice none 0 0] 25)).alloc (.cells #[.int .i64 0, .int .i64 0, .int .i64 0, .int .i64 0, .int .i64 0, .int .i64 0, .slice none 0 0, .slice none 0 0] 25)).heap.size := by simp only [size_alloc]; omega
  have hs1 : w.heap.size + 1 < ((w.alloc (.cells #[.int .i64 1, .int .i64 q, .int .i64 e, .int .i64 0, .int .i64 0, .int .i64 0, .slice none 0 0, .slice none 0 0] 25)).alloc (.cells #[.int .i64 0, .int .i64 0, .int .i64 0, .int .i64 0, .int .i64 0, .int .i64 0, .slice none 0 0, .slice none 0 0] 25)).heap.size := by simp only [size_alloc]; omega
  have c0 := (cells8 g0).1
  have hw0 := hw.below hb0
  have h0 := h.below hb0
  have ht := takeRow_any A n c r 2 1 _ hw0 h0 hn
  rw [hk] at ht
  have q1 : (kk == 0) = false := by simpa using hk0
  have q2 : (kk != 0) = true := by simpa using hk0
  clear hk hk0
  go_enter Tryd.func63, Tryd.ntmps63
  go_wp2_with fail
  with_reducible refine ht.mono ?_
  rintro en w1 ⟨A1, c1, B1, d1, rfl, hi1, ho1, hb1⟩
  have g0' := (hb1.block _ hs0).trans g0
  have g1' := (hb1.block _ hs1).trans g1
  have HG := ((But.setCell w1 w.heap.size 7 (.slice B1 bb.length d1)).2 (w.heap.size + 1) (by omega)).trans g1'
  have ho2 := (ho1.but hs0 (But.setCell w1 w.heap.size 7 (.slice B1 bb.length d1)))
  have hi2 := (OwnV.but hi1 hs0 (But.setCell w1 w.heap.size 7 (.slice B1 bb.length d1)))
  have hb2 := (bthen hb0 hb1).setCell (p := ⟨w.heap.size, 7, none⟩) (Nat.le_refl _) (.slice B1 bb.length d1)
  obtain ⟨e0, e1, e2, e3, e4, e5, e6, e7⟩ := cells8 g0'
  have fz := no_frozen g0'
  clear ht g0 g1 c0 g0' g1'
  go_wp2_with (
    refine wpList_stI rfl 25 (.tmp 4) (.tmp 30) rfl (w.heap.size + 1) #[.int .i64 1, .int .i64 q, .int .i64 e, .int .i64 0, .int .i64 0, .int .i64 0, .slice none 0 0, .slice B1 bb.length d1] rfl rfl _ _ HG info25 rfl (all8 rfl rfl rfl rfl rfl rfl rfl rfl) ?_
    intro w9 hg9 hbut9 hbel9)
  obtain ⟨y0, y1, y2, y3, y4, y5, y6, y7⟩ := cells8 hg9
  exact bodyPost_ret (v := .tuple #[.agg #[.int .i64 1, .int .i64 q, .int .i64 e, .int .i64 0, .int .i64 0, .int .i64 0, .slice none 0 0, .slice B1 bb.length d1], .slice none 0 0, .int .i64 kk]) (by simp [results, Tryd.results63, go_sem, y0, y1, y2, y3, y4, y5, y6, y7]) rfl ⟨_, _, _, rfl, ⟨none, 0, 0, B1, _, d1, rfl, RdV.nil_ _, (ho2.but hs1 hbut9).same, no_addr, addrB ho2 hb0.size⟩, Rd.nil_ _, hbel9 _ _ hb2 (Nat.le_succ _)⟩

set_option maxHeartbeats 2000000 in
theorem tt1b (q e : Int) (A : Option Addr) (n c : Nat) (r : List UInt8) (w : World) (hw : Wd w) (h : Rd w A n c r) (hn : n ≤ 65536) (i t : Int) (bb : List UInt8) (hk : Num.rowOf r 2 1 = ([i, t], bb, 0)) :
    Calls Tryd.prog 63 #[.agg #[.int .i64 1, .int .i64 q, .int .i64 e, .int .i64 0, .int .i64 0, .int .i64 0, .slice none 0 0, .slice none 0 0], .slice A n c] w (TailIs w ⟨1, q, e, i, t, 0, [], bb⟩ ([]) (0)) := by
  obtain ⟨g0, g1, hb0⟩ := two_alloc w (.cells #[.int .i64 1, .int .i64 q, .int .i64 e, .int .i64 0, .int .i64 0, .int .i64 0, .slice none 0 0, .slice none 0 0] 25) (.cells #[.int .i64 0, .int .i64 0, .int .i64 0, .int .i64 0, .int .i64 0, .int .i64 0, .slice none 0 0, .slice none 0 0] 25)
  have hs0 : w.heap.size < ((w.alloc (.cells #[.int .i64 1, .int .i64 q, .int .i64 e, .int .i64 0, .int .i64 0, .int .i64 0, .slice none 0 0, .slice none 0 0] 25)).alloc (.cells #[.int .i64 0, .int .i64 0, .int .i64 0, .int .i64 0, .int .i64 0, .int .i64 0, .slice none 0 0, .slice none 0 0] 25)).heap.size := by simp only [size_alloc]; omega
  have hs1 : w.heap.size + 1 < ((w.alloc (.cells #[.int .i64 1, .int .i64 q, .int .i64 e, .int .i64 0, .int .i64 0, .int .i64 0, .slice none 0 0, .slice none 0 0] 25)).alloc (.cells #[.int .i64 0, .int .i64 0, .int .i64 0, .int .i64 0, .int .i64 0, .int .i64 0, .slice none 0 0, .slice none 0 0] 25)).heap.size := by simp only [size_alloc]; omega
  have c0 := (cells8 g0).1
  have hw0 := hw.below hb0
  have h0 := h.below hb0
  have ht := takeRow_any A n c r 2 1 _ hw0 h0 hn
  rw [hk] at ht
  clear hk
  go_enter Tryd.func63, Tryd.ntmps63
  go_wp2_with fail
  with_reducible refine ht.mono ?_
  rintro en w1 ⟨A1, c1, B1, d1, rfl, hi1, ho1, hb1⟩
  have g0' := (hb1.block _ hs0).trans g0
  have g1' := (hb1.block _ hs1).trans g1
  have HG := ((But.setCell w1 w.heap.size 7 (.slice B1 bb.length d1)).2 (w.heap.size + 1) (by omega)).trans g1'
  have ho2 := (ho1.but hs0 (But.setCell w1 w.heap.size 7 (.slice B1 bb.length d1)))
  have hi2 := (OwnV.but hi1 hs0 (But.setCell w1 w.heap.size 7 (.slice B1 bb.length d1)))
  have hb2 := (bthen hb0 hb1).setCell (p := ⟨w.heap.size, 7, none⟩) (Nat.le_refl _) (.slice B1 bb.length d1)
  obtain ⟨e0, e1, e2, e3, e4, e5, e6, e7⟩ := cells8 g0'
  have fz := no_frozen g0'
  have g0s : (w1.setCell ⟨w.heap.size, 7, none⟩ (.slice B1 bb.length d1)).heap[w.heap.size]? = some (.cells #[.int .i64 1, .int .i64 q, .int .i64 e, .int .i64 0, .int .i64 0, .int .i64 0, .slice none 0 0, .slice B1 bb.length d1] 25 (0, 0)) := heap_setCell_same w1 w.heap.size 7 _ _ (.slice B1 bb.length d1) g0'
  have hi2' : OwnV (w1.setCell ⟨w.heap.size, 7, none⟩ (.slice B1 bb.length d1)) ((w.alloc (.cells #[.int .i64 1, .int .i64 q, .int .i64 e, .int .i64 0, .int .i64 0, .int .i64 0, .slice none 0 0, .slice none 0 0] 25)).alloc (.cells #[.int .i64 0, .int .i64 0, .int .i64 0, .int .i64 0, .int .i64 0, .int .i64 0, .slice none 0 0, .slice none 0 0] 25)).heap.size 3 (.slice A1 2 c1) 2 (is [i, t]) := hi2
  obtain ⟨g2, cap2, hv2, hgb2, hgl2, hn2, hm2⟩ := OwnV.form hi2' (by omega)
  injection hv2 with hA2 _ hc2
  subst hA2
  subst hc2
  have rI : RdI _ (some ⟨g2, 0, none⟩) 2 c1 [i, t] := OwnV.same hi2'
  have x0 := rI.cells_later (k := 0) rfl _ (Below.refl _ _)
  have x1 := rI.cells_later (k := 1) rfl _ (Below.refl _ _)
  rw [Nat.zero_add] at x0 x1
  have hne : g2 ≠ w.heap.size := by omega
  clear ht g0 g1 c0 g0' g1' hi1 hi2 hi2' rI
  go_wp2
  generalize w1.setCell ⟨w.heap.size, 7, none⟩ (.slice B1 bb.length d1) = v1 at x0 x1 g0s ho2 hb2 HG ⊢
  clear e0 e1 e2 e3 e4 e5 e6 e7 fz
  obtain ⟨e0, e1, e2, e3, e4, e5, e6, e7⟩ := cells8 g0s
  have fz := no_frozen g0s
  go_region
  have s3 : (v1.setCell ⟨w.heap.size, 3, none⟩ (.int .i64 i)).heap[w.heap.size]? = some (.cells #[.int .i64 1, .int .i64 q, .int .i64 e, .int .i64 i, .int .i64 0, .int .i64 0, .slice none 0 0, .slice B1 bb.length d1] 25 (0, 0)) := heap_setCell_same v1 w.heap.size 3 _ _ (.int .i64 i) g0s
  have s4 : ((v1.setCell ⟨w.heap.size, 3, none⟩ (.int .i64 i)).setCell ⟨w.heap.size, 4, none⟩ (.int .i64 t)).drew.heap[w.heap.size]? = some (.cells #[.int .i64 1, .int .i64 q, .int .i64 e, .int .i64 i, .int .i64 t, .int .i64 0, .slice none 0 0, .slice B1 bb.length d1] 25 (0, 0)) := heap_setCell_same _ w.heap.size 4 _ _ (.int .i64 t) s3
  have bu := ((But.setCell v1 w.heap.size 3 (.int .i64 i)).trans (But.setCell _ w.heap.size 4 (.int .i64 t))).drew
  have hb3 := ((hb2.setCell (p := ⟨w.heap.size, 3, none⟩) (Nat.le_refl _) (.int .i64 i)).setCell (p := ⟨w.heap.size, 4, none⟩) (Nat.le_refl _) (.int .i64 t)).drew
  clear s3
  generalize ((v1.setCell ⟨w.heap.size, 3, none⟩ (.int .i64 i)).setCell ⟨w.heap.size, 4, none⟩ (.int .i64 t)).drew = v2 at s4 bu hb3 ⊢
  have HG2 := (bu.2 (w.heap.size + 1) (by omega)).trans HG
  have ho3 := ho2.but hs0 bu
  clear e0 e1 e2 e3 e4 e5 e6 e7 fz x0 x1 g0s HG ho2 bu
  obtain ⟨e0, e1, e2, e3, e4, e5, e6, e7⟩ := cells8 s4
  go_wp2_with (
    refine wpList_stI rfl 25 (.tmp 4) (.tmp 30) rfl (w.heap.size + 1) #[.int .i64 1, .int .i64 q, .int .i64 e, .int .i64 i, .int .i64 t, .int .i64 0, .slice none 0 0, .slice B1 bb.length d1] rfl rfl _ _ HG2 info25 rfl (all8 rfl rfl rfl rfl rfl rfl rfl rfl) ?_
    intro w9 hg9 hbut9 hbel9)
  obtain ⟨y0, y1, y2, y3, y4, y5, y6, y7⟩ := cells8 hg9
  exact bodyPost_ret (v := .tuple #[.agg #[.int .i64 1, .int .i64 q, .int .i64 e, .int .i64 i, .int .i64 t, .int .i64 0, .slice none 0 0, .slice B1 bb.length d1], .slice none 0 0, .int .i64 0]) (by simp [results, Tryd.results63, go_sem, y0, y1, y2, y3, y4, y5, y6, y7]) rfl ⟨_, _, _, rfl, ⟨none, 0, 0, B1, _, d1, rfl, RdV.nil_ _, (ho3.but hs1 hbut9).same, no_addr, addrB ho3 hb0.size⟩, Rd.nil_ _, hbel9 _ _ hb3 (Nat.le_succ _)⟩

end Go.Proofs.YtahkhideepncfaaDoor
/- What item.takeHead and item.takeTail come to, in one word each. -/
namespace Go.Proofs.YtahkhideepncfaaDoor
open Go.RowKit
set_option linter.unusedVariables false

def HeadO (w : World) (o : Option (Int × Int × Int × List UInt8)) (en : Ending) (w' : World) : Prop :=
  match o with
  | some (k, q, e, r) => HeadIs w k q e r 0 en w'
  | none => ∃ kk, kk ≠ 0 ∧ HeadIs w 0 0 0 [] kk en w'
def TailO (w : World) (o : Option (Item.It × List UInt8)) (en : Ending) (w' : World) : Prop :=
  match o with
  | some (x, r) => TailIs w x r 0 en w'
  | none => ∃ x r kk, kk ≠ 0 ∧ TailIs w x r kk en w'

theorem most8 : ¬ Num.most 8 < 0 := by decide
theorem most1 : ¬ Num.most 1 < 0 := by decide

theorem head_any (A : Option Addr) (n c : Nat) (l : List UInt8) (w : World) (hw : Wd w) (h : Rd w A n c l) (hn : n ≤ 65536) :
    Calls Tryd.prog 62 #[.slice A n c] w (HeadO w (Item.headC l)) := by
  by_cases hc : Num.code l 1 = 0
  · unfold Item.headC
    rw [if_pos hc]
    cases ht : Num.takes 8 2 (Num.rest l 1) with
    | none =>
      refine (head_row A n c l w hw h hn hc _ rfl 2 (Num.rowOf_none (m := 2) most8 ht) (by omega)).mono ?_
      intro en w' hh
      exact ⟨2, by omega, hh⟩
    | some p =>
      obtain ⟨a, b, r, rfl⟩ := Item.takes_two ht
      exact head_ok A n c l w hw h hn hc _ rfl a b r (Num.rowOf_some (m := 2) most8 ht)
  · unfold Item.headC
    rw [if_neg hc]
    refine (head_none A n c l w hw h hn hc).mono ?_
    intro en w' hh
    exact ⟨_, hc, hh⟩

theorem tail_take (k q e : Int) (A : Option Addr) (n c : Nat) (r : List UInt8) (w : World) (hw : Wd w) (h : Rd w A n c r) (hn : n ≤ 65536) :
    Calls Tryd.prog 63 #[.agg #[.int .i64 k, .int .i64 q, .int .i64 e, .int .i64 0, .int .i64 0, .int .i64 0, .slice none 0 0, .slice none 0 0], .slice A n c] w (TailO w (Item.tailC k q e r)) := by
  unfold Item.tailC
  by_cases k1 : k = 1
  · subst k1
    rw [if_pos rfl]
    cases ht : Num.takes 1 2 r with
    | none =>
      refine (tt1a q e A n c r w hw h hn 2 [] (Num.rowOf_none (m := 2) most1 ht) (by omega)).mono ?_
      intro en w' hh
      exact ⟨_, _, 2, by omega, hh⟩
    | some p =>
      obtain ⟨a, b, r2, rfl⟩ := Item.takes_two ht
      exact tt1b q e A n c r w hw h hn a b r2 (Num.rowOf_some (m := 2) most1 ht)
  rw [if_neg k1]
  by_cases k2 : k = 2
  · subst k2
    rw [if_pos rfl]
    by_cases hc : Num.code r 1 = 0
    · rw [if_pos hc]
      have hb := tt2b q e A n c r w hw h hn hc _ rfl
      cases ht : Num.takes 1 (Num.rest r 1).length (Num.rest r 1) with
      | none =>
        rw [Num.rowOf_none most1 ht] at hb
        refine hb.mono ?_
        intro en w' hh
        exact ⟨_, _, 2, by omega, hh⟩
      | some p =>
        obtain ⟨a, b⟩ := p
        rw [Num.rowOf_some most1 ht] at hb
        exact hb
    · rw [if_neg hc]
      refine (tt2a q e A n c r w hw h hn hc).mono ?_
      intro en w' hh
      exact ⟨_, _, _, hc, hh⟩
  rw [if_neg k2]
  by_cases k4 : k = 4
  · subst k4
    rw [if_pos rfl]
    have hb := tt4 q e A n c r w hw h hn
    by_cases hc : Num.code r 1 = 0
    · rw [if_pos hc]
      rw [hc] at hb
      exact hb
    · rw [if_neg hc]
      refine hb.mono ?_
      intro en w' hh
      exact ⟨_, _, _, hc, hh⟩
  rw [if_neg k4]
  by_cases k5 : k = 5
  · subst k5
    rw [if_pos rfl]
    have hb := tt5 q e A n c r w hw h hn
    by_cases hc : Num.code r 8 = 0
    · rw [if_pos hc]
      rw [hc] at hb
      exact hb
    · rw [if_neg hc]
      refine hb.mono ?_
      intro en w' hh
      exact ⟨_, _, _, hc, hh⟩
  rw [if_neg k5]
  by_cases k6 : k = 6
  · subst k6
    rw [if_pos rfl]
    have hb := tt6 q e A n c r w hw h hn
    cases ht : Num.takes 8 (r.length / 8) r with
    | none =>
      rw [Num.rowOf_none most8 ht] at hb
      refine hb.mono ?_
      intro en w' hh
      exact ⟨_, _, 2, by omega, hh⟩
    | some p =>
      obtain ⟨a, b⟩ := p
      rw [Num.rowOf_some most8 ht] at hb
      exact hb
  rw [if_neg k6]
  exact tt0 k q e A n c r w hw h hn k1 k2 k4 k5 k6
end Go.Proofs.YtahkhideepncfaaDoor
