import Derived.Test.YtahkhideepncfaaDoorID
import Derived.Test.YtahkhideepncfaaDoorBA
import Derived.Test.YtahkhideepncfaaDoorIE
set_option maxRecDepth 100000
/- What item.takeHead comes to. -/
namespace Go.Proofs.YtahkhideepncfaaDoor
open Go.RowKit
set_option linter.unusedVariables false

abbrev zcells : Array Value := #[.int .i64 0, .int .i64 0, .int .i64 0, .int .i64 0, .int .i64 0, .int .i64 0, .slice none 0 0, .slice none 0 0]
theorem info25 : (Tryd.prog.info? 25).map (·.size) = some 8 := by kernel_rfl
theorem cells8 {w : World} {g : Nat} {a0 a1 a2 a3 a4 a5 a6 a7 : Value} {t : TypeId} (h : w.heap[g]? = some (.cells #[a0, a1, a2, a3, a4, a5, a6, a7] t (0, 0))) :
    w.cell? ⟨g, 0, none⟩ = some a0 ∧ w.cell? ⟨g, 1, none⟩ = some a1 ∧ w.cell? ⟨g, 2, none⟩ = some a2 ∧ w.cell? ⟨g, 3, none⟩ = some a3 ∧ w.cell? ⟨g, 4, none⟩ = some a4 ∧ w.cell? ⟨g, 5, none⟩ = some a5 ∧ w.cell? ⟨g, 6, none⟩ = some a6 ∧ w.cell? ⟨g, 7, none⟩ = some a7 :=
  ⟨cell_at h 0 rfl, cell_at h 1 rfl, cell_at h 2 rfl, cell_at h 3 rfl, cell_at h 4 rfl, cell_at h 5 rfl, cell_at h 6 rfl, cell_at h 7 rfl⟩
/-- An item of three numbers, bytes, and a code. -/
def HeadIs (w : World) (k q e : Int) (r : List UInt8) (code : Int) (en : Ending) (w' : World) : Prop :=
  ∃ A c, en = .returned (.tuple #[.agg #[.int .i64 k, .int .i64 q, .int .i64 e, .int .i64 0, .int .i64 0, .int .i64 0, .slice none 0 0, .slice none 0 0], .slice A r.length c, .int .i64 code]) ∧ Rd w' A r.length c r ∧ Below w.heap.size w w'

set_option maxHeartbeats 1000000 in
theorem head_none (A : Option Addr) (n c : Nat) (l : List UInt8) (w : World) (hw : Wd w) (h : Rd w A n c l) (hn : n ≤ 65536) (hc : Num.code l 1 ≠ 0) :
    Calls Tryd.prog 62 #[.slice A n c] w (HeadIs w 0 0 0 [] (Num.code l 1)) := by
  have hb0 : Below w.heap.size w (w.alloc (.cells #[.int .i64 0, .int .i64 0, .int .i64 0, .int .i64 0, .int .i64 0, .int .i64 0, .slice none 0 0, .slice none 0 0] 25)) := (Below.refl _ _).alloc (Nat.le_refl _) _
  have hg0 := alloc_at w (.cells #[.int .i64 0, .int .i64 0, .int .i64 0, .int .i64 0, .int .i64 0, .int .i64 0, .slice none 0 0, .slice none 0 0] 25) _ rfl
  have hgs : w.heap.size < (w.alloc (.cells #[.int .i64 0, .int .i64 0, .int .i64 0, .int .i64 0, .int .i64 0, .int .i64 0, .slice none 0 0, .slice none 0 0] 25)).heap.size := by rw [size_alloc]; omega
  have ht := take_any A n c l 1 _ (hw.below hb0) (h.below hb0) hn
  obtain ⟨h1, h2⟩ := Num.code_bad hc
  rw [h1, h2] at ht
  have q1 : (Num.code l 1 != 0) = true := by simpa using hc
  have q2 : (Num.code l 1 == 0) = false := by simpa using hc
  clear hc h1 h2
  generalize Num.code l 1 = k at ht q1 q2 ⊢
  go_enter Tryd.func62, Tryd.ntmps62
  go_wp2_with fail
  with_reducible refine ht.mono ?_
  rintro e w1 ⟨A1, c1, rfl, ho1, hb1⟩
  have hg1 := (hb1.block _ hgs).trans hg0
  have hb01 := bthen hb0 hb1
  clear hg0 hgs hb0 ho1 hb1 ht
  go_wp2_with (
    refine wpList_stI rfl 25 _ _ rfl w.heap.size zcells rfl rfl _ _ hg1 info25 rfl (by kernel_rfl) ?_
    intro w2 hg2 hbut hbel)
  obtain ⟨e0, e1, e2, e3, e4, e5, e6, e7⟩ := cells8 hg2
  exact bodyPost_ret (v := .tuple #[.agg zcells, .slice none 0 0, .int .i64 k]) (by simp [results, Tryd.results62, go_sem, e0, e1, e2, e3, e4, e5, e6, e7]) rfl ⟨none, 0, rfl, Rd.nil_ _, hbel _ _ hb01 (Nat.le_refl _)⟩

set_option maxHeartbeats 1000000 in
theorem head_row (A : Option Addr) (n c : Nat) (l : List UInt8) (w : World) (hw : Wd w) (h : Rd w A n c l) (hn : n ≤ 65536) (hc : Num.code l 1 = 0) (r : List UInt8) (hr : Num.rest l 1 = r) (k : Int) (hk : Num.rowOf r 2 8 = ([], [], k)) (hk0 : k ≠ 0) :
    Calls Tryd.prog 62 #[.slice A n c] w (HeadIs w 0 0 0 [] k) := by
  have hb0 : Below w.heap.size w (w.alloc (.cells #[.int .i64 0, .int .i64 0, .int .i64 0, .int .i64 0, .int .i64 0, .int .i64 0, .slice none 0 0, .slice none 0 0] 25)) := (Below.refl _ _).alloc (Nat.le_refl _) _
  have hg0 := alloc_at w (.cells #[.int .i64 0, .int .i64 0, .int .i64 0, .int .i64 0, .int .i64 0, .int .i64 0, .slice none 0 0, .slice none 0 0] 25) _ rfl
  have hgs : w.heap.size < (w.alloc (.cells #[.int .i64 0, .int .i64 0, .int .i64 0, .int .i64 0, .int .i64 0, .int .i64 0, .slice none 0 0, .slice none 0 0] 25)).heap.size := by rw [size_alloc]; omega
  have ht := take_any A n c l 1 _ (hw.below hb0) (h.below hb0) hn
  have hrl : r.length ≤ 65536 := by rw [← hr, Num.rest_length hc, h.1]; omega
  rw [hc, hr] at ht
  generalize Num.num l 1 = kind at ht
  have q1 : (k != 0) = true := by simpa using hk0
  have q2 : (k == 0) = false := by simpa using hk0
  have htr := fun (B : Option Addr) (d : Nat) (w' : World) (hw' : Wd w') (hb' : Rd w' B r.length d r) => takeRow_any B r.length d r 2 8 w' hw' hb' hrl
  rw [hk] at htr
  clear hc hr hk hk0
  go_enter Tryd.func62, Tryd.ntmps62
  go_wp2_with fail
  with_reducible refine ht.mono ?_
  rintro e w1 ⟨A1, c1, rfl, ho1, hb1⟩
  go_wp2_with fail
  with_reducible refine (htr A1 c1 w1 ((hw.below hb0).below hb1) ho1.same).mono ?_
  rintro e w2 ⟨A2, c2, B2, d2, rfl, hi2, ho2, hb2⟩
  have hg1 := (hb2.block _ (Nat.lt_of_lt_of_le hgs hb1.size)).trans ((hb1.block _ hgs).trans hg0)
  have hb01 := bthen hb0 (bthen hb1 hb2)
  clear hg0 hgs hb0 ho1 hb1 ht htr ho2 hi2 hb2
  go_wp2_with (
    refine wpList_stI rfl 25 _ _ rfl w.heap.size zcells rfl rfl _ _ hg1 info25 rfl (by kernel_rfl) ?_
    intro w3 hg2 hbut hbel)
  obtain ⟨e0, e1, e2, e3, e4, e5, e6, e7⟩ := cells8 hg2
  exact bodyPost_ret (v := .tuple #[.agg zcells, .slice none 0 0, .int .i64 k]) (by simp [results, Tryd.results62, go_sem, e0, e1, e2, e3, e4, e5, e6, e7]) rfl ⟨none, 0, rfl, Rd.nil_ _, hbel _ _ hb01 (Nat.le_refl _)⟩

set_option maxHeartbeats 2000000 in
theorem head_ok (A : Option Addr) (n c : Nat) (l : List UInt8) (w : World) (hw : Wd w) (h : Rd w A n c l) (hn : n ≤ 65536) (hc : Num.code l 1 = 0) (r : List UInt8) (hr : Num.rest l 1 = r) (q e : Int) (r2 : List UInt8) (hk : Num.rowOf r 2 8 = ([q, e], r2, 0)) :
    Calls Tryd.prog 62 #[.slice A n c] w (HeadIs w (Num.num l 1) q e r2 0) := by
  have hb0 : Below w.heap.size w (w.alloc (.cells #[.int .i64 0, .int .i64 0, .int .i64 0, .int .i64 0, .int .i64 0, .int .i64 0, .slice none 0 0, .slice none 0 0] 25)) := (Below.refl _ _).alloc (Nat.le_refl _) _
  have hg0 := alloc_at w (.cells #[.int .i64 0, .int .i64 0, .int .i64 0, .int .i64 0, .int .i64 0, .int .i64 0, .slice none 0 0, .slice none 0 0] 25) _ rfl
  have hgs : w.heap.size < (w.alloc (.cells #[.int .i64 0, .int .i64 0, .int .i64 0, .int .i64 0, .int .i64 0, .int .i64 0, .slice none 0 0, .slice none 0 0] 25)).heap.size := by rw [size_alloc]; omega
  have ht := take_any A n c l 1 _ (hw.below hb0) (h.below hb0) hn
  have hrl : r.length ≤ 65536 := by rw [← hr, Num.rest_length hc, h.1]; omega
  rw [hc, hr] at ht
  generalize (Num.num l 1 : Int) = kind at ht ⊢
  have htr := fun (B : Option Addr) (d : Nat) (w' : World) (hw' : Wd w') (hb' : Rd w' B r.length d r) => takeRow_any B r.length d r 2 8 w' hw' hb' hrl
  rw [hk] at htr
  clear hc hr hk
  go_enter Tryd.func62, Tryd.ntmps62
  go_wp2_with fail
  with_reducible refine ht.mono ?_
  rintro e w1 ⟨A1, c1, rfl, ho1, hb1⟩
  go_wp2_with fail
  with_reducible refine (htr A1 c1 w1 ((hw.below hb0).below hb1) ho1.same).mono ?_
  rintro en w2 ⟨A2, c2, B2, d2, rfl, hi2, ho2, hb2⟩
  have hg1 := (hb2.block _ (Nat.lt_of_lt_of_le hgs hb1.size)).trans ((hb1.block _ hgs).trans hg0)
  have hb01 := bthen hb0 (bthen hb1 hb2)
  have hgw1 := Nat.lt_of_lt_of_le hgs hb1.size
  have hi2' : OwnV w2 w1.heap.size 3 (.slice A2 2 c2) 2 (is [q, e]) := hi2
  obtain ⟨g2, cap2, hv2, hgb2, hgl2, hn2, hm2⟩ := OwnV.form hi2' (by omega)
  injection hv2 with hA2 _ hc2
  subst hA2
  subst hc2
  have rI : RdI w2 (some ⟨g2, 0, none⟩) 2 c2 [q, e] := OwnV.same hi2'
  have x0 := rI.cells_later (k := 0) rfl w2 (Below.refl _ _)
  have x1 := rI.cells_later (k := 1) rfl w2 (Below.refl _ _)
  rw [Nat.zero_add] at x0 x1
  clear hg0 hgs hb0 ho1 hb1 ht htr hi2 hi2' rI
  obtain ⟨e0, e1, e2, e3, e4, e5, e6, e7⟩ := cells8 hg1
  have fz : ∀ i, w2.frozen? ⟨w.heap.size, i, none⟩ = false := fun i => by simp [World.frozen?, hg1]
  go_wp2
  go_region
  obtain ⟨hg2, hbut, hbel⟩ := set8 hg1 (.int .i64 kind) (.int .i64 q) (.int .i64 e) (.int .i64 0) (.int .i64 0) (.int .i64 0) (.slice none 0 0) (.slice none 0 0)
  revert hg2 hbut hbel
  generalize (World.drew _) = w3
  intro hg2 hbut hbel
  have ho3 := ho2.but hgw1 hbut
  have hb3 := hbel _ _ hb01 (Nat.le_refl _)
  clear e0 e1 e2 e3 e4 e5 e6 e7 fz hg1 hbut hbel ho2
  obtain ⟨e0, e1, e2, e3, e4, e5, e6, e7⟩ := cells8 hg2
  go_wp2
  exact bodyPost_ret (v := .tuple #[.agg #[.int .i64 kind, .int .i64 q, .int .i64 e, .int .i64 0, .int .i64 0, .int .i64 0, .slice none 0 0, .slice none 0 0], .slice B2 r2.length d2, .int .i64 0]) (by simp [results, Tryd.results62, go_sem, e0, e1, e2, e3, e4, e5, e6, e7]) rfl ⟨B2, d2, rfl, ho3.same, hb3⟩
end Go.Proofs.YtahkhideepncfaaDoor
/- What item.takeTail comes to. (Written by wip/gen/item12.py.) -/
namespace Go.Proofs.YtahkhideepncfaaDoor
open Go.RowKit
set_option linter.unusedVariables false

/-- An item whose parts lie in memory from a block on. -/
def IsItemF (base : Nat) (w : World) (v : Value) (x : Item.It) : Prop :=
  ∃ LA ln lc BA bn bc, v = .agg #[.int .i64 x.k, .int .i64 x.q, .int .i64 x.e, .int .i64 x.i, .int .i64 x.t, .int .i64 x.c, .slice LA ln lc, .slice BA bn bc] ∧ RdI w LA ln lc x.l ∧ Rd w BA bn bc x.b ∧
    (∀ b o, LA = some ⟨b, o, none⟩ → base ≤ b) ∧ (∀ b o, BA = some ⟨b, o, none⟩ → base ≤ b)
/-- An item, bytes, and a code. -/
def TailIs (w : World) (x : Item.It) (r : List UInt8) (code : Int) (en : Ending) (w' : World) : Prop :=
  ∃ v A c, en = .returned (.tuple #[v, .slice A r.length c, .int .i64 code]) ∧ IsItemF w.heap.size w' v x ∧ Rd w' A r.length c r ∧ Below w.heap.size w w'
theorem no_frozen {w : World} {g : Nat} {cs : Array Value} {t : TypeId} (h : w.heap[g]? = some (.cells cs t (0, 0))) (i : Nat) : w.frozen? ⟨g, i, none⟩ = false := by simp [World.frozen?, h]

set_option maxHeartbeats 2000000 in
theorem tt4 (q e : Int) (A : Option Addr) (n c : Nat) (r : List UInt8) (w : World) (hw : Wd w) (h : Rd w A n c r) (hn : n ≤ 65536) :
    Calls Tryd.prog 63 #[.agg #[.int .i64 4, .int .i64 q, .int .i64 e, .int .i64 0, .int .i64 0, .int .i64 0, .slice none 0 0, .slice none 0 0], .slice A n c] w (TailIs w ⟨4, q, e, Num.num r 1, 0, 0, [], []⟩ (Num.rest r 1) (Num.code r 1)) := by
  obtain ⟨g0, g1, hb0⟩ := two_alloc w (.cells #[.int .i64 4, .int .i64 q, .int .i64 e, .int .i64 0, .int .i64 0, .int .i64 0, .slice none 0 0, .slice none 0 0] 25) (.cells #[.int .i64 0, .int .i64 0, .int .i64 0, .int .i64 0, .int .i64 0, .int .i64 0, .slice none 0 0, .slice none 0 0] 25)
  have hs0 : w.heap.size < ((w.alloc (.cells #[.int .i64 4, .int .i64 q, .int .i64 e, .int .i64 0, .int .i64 0, .int .i64 0, .slice none 0 0, .slice none 0 0] 25)).alloc (.cells #[.int .i64 0, .int .i64 0, .int .i64 0, .int .i64 0, .int .i64 0, .int .i64 0, .slice none 0 0, .slice none 0 0] 25)).heap.size := by simp only [size_alloc]; omega
  have hs1 : w.heap.size + 1 < ((w.alloc (.cells #[.int .i64 4, .int .i64 q, .int .i64 e, .int .i64 0, .int .i64 0, .int .i64 0, .slice none 0 0, .slice none 0 0] 25)).alloc (.cells #[.int .i64 0, .int .i64 0, .int .i64 0, .int .i64 0, .int .i64 0, .int .i64 0, .slice none 0 0, .slice none 0 0] 25)).heap.size := by simp only [size_alloc]; omega
  have c0 := (cells8 g0).1
  have hw0 := hw.below hb0
  have h0 := h.below hb0
  have ht := take_any A n c r 1 _ hw0 h0 hn
  generalize (Num.num r 1 : Int) = m at ht ⊢
  generalize Num.rest r 1 = rr at ht ⊢
  generalize Num.code r 1 = kk at ht ⊢
  go_enter Tryd.func63, Tryd.ntmps63
  go_wp2_with fail
  with_reducible refine ht.mono ?_
  rintro en w1 ⟨A1, c1, rfl, ho1, hb1⟩
  have g0' := (hb1.block _ hs0).trans g0
  have g1' := (hb1.block _ hs1).trans g1
  have HG := ((But.setCell w1 w.heap.size 3 (.int .i64 m)).2 (w.heap.size + 1) (by omega)).trans g1'
  have ho2 := (ho1.but hs0 (But.setCell w1 w.heap.size 3 (.int .i64 m)))
  have hb2 := (bthen hb0 hb1).setCell (p := ⟨w.heap.size, 3, none⟩) (Nat.le_refl _) (.int .i64 m)
  obtain ⟨e0, e1, e2, e3, e4, e5, e6, e7⟩ := cells8 g0'
  have fz := no_frozen g0'
  clear ht g0 g1 c0 g0' g1'
  go_wp2_with (
    refine wpList_stI rfl 25 (.tmp 4) (.tmp 82) rfl (w.heap.size + 1) #[.int .i64 4, .int .i64 q, .int .i64 e, .int .i64 m, .int .i64 0, .int .i64 0, .slice none 0 0, .slice none 0 0] rfl rfl _ _ HG info25 rfl (all8 rfl rfl rfl rfl rfl rfl rfl rfl) ?_
    intro w9 hg9 hbut9 hbel9)
  obtain ⟨y0, y1, y2, y3, y4, y5, y6, y7⟩ := cells8 hg9
  exact bodyPost_ret (v := .tuple #[.agg #[.int .i64 4, .int .i64 q, .int .i64 e, .int .i64 m, .int .i64 0, .int .i64 0, .slice none 0 0, .slice none 0 0], .slice A1 rr.length c1, .int .i64 kk]) (by simp [results, Tryd.results63, go_sem, y0, y1, y2, y3, y4, y5, y6, y7]) rfl ⟨_, _, _, rfl, ⟨none, 0, 0, none, 0, 0, rfl, RdV.nil_ _, Rd.nil_ _, no_addr, no_addr⟩, ((ho2.but hs1 hbut9)).same, hbel9 _ _ hb2 (Nat.le_succ _)⟩

set_option maxHeartbeats 2000000 in
theorem tt5 (q e : Int) (A : Option Addr) (n c : Nat) (r : List UInt8) (w : World) (hw : Wd w) (h : Rd w A n c r) (hn : n ≤ 65536) :
    Calls Tryd.prog 63 #[.agg #[.int .i64 5, .int .i64 q, .int .i64 e, .int .i64 0, .int .i64 0, .int .i64 0, .slice none 0 0, .slice none 0 0], .slice A n c] w (TailIs w ⟨5, q, e, 0, 0, Num.num r 8, [], []⟩ (Num.rest r 8) (Num.code r 8)) := by
  obtain ⟨g0, g1, hb0⟩ := two_alloc w (.cells #[.int .i64 5, .int .i64 q, .int .i64 e, .int .i64 0, .int .i64 0, .int .i64 0, .slice none 0 0, .slice none 0 0] 25) (.cells #[.int .i64 0, .int .i64 0, .int .i64 0, .int .i64 0, .int .i64 0, .int .i64 0, .slice none 0 0, .slice none 0 0] 25)
  have hs0 : w.heap.size < ((w.alloc (.cells #[.int .i64 5, .int .i64 q, .int .i64 e, .int .i64 0, .int .i64 0, .int .i64 0, .slice none 0 0, .slice none 0 0] 25)).alloc (.cells #[.int .i64 0, .int .i64 0, .int .i64 0, .int .i64 0, .int .i64 0, .int .i64 0, .slice none 0 0, .slice none 0 0] 25)).heap.size := by simp only [size_alloc]; omega
  have hs1 : w.heap.size + 1 < ((w.alloc (.cells #[.int .i64 5, .int .i64 q, .int .i64 e, .int .i64 0, .int .i64 0, .int .i64 0, .slice none 0 0, .slice none 0 0] 25)).alloc (.cells #[.int .i64 0, .int .i64 0, .int .i64 0, .int .i64 0, .int .i64 0, .int .i64 0, .slice none 0 0, .slice none 0 0] 25)).heap.size := by simp only [size_alloc]; omega
  have c0 := (cells8 g0).1
  have hw0 := hw.below hb0
  have h0 := h.below hb0
  have ht := take_any A n c r 8 _ hw0 h0 hn
  generalize (Num.num r 8 : Int) = m at ht ⊢
  generalize Num.rest r 8 = rr at ht ⊢
  generalize Num.code r 8 = kk at ht ⊢
  go_enter Tryd.func63, Tryd.ntmps63
  go_wp2_with fail
  with_reducible refine ht.mono ?_
  rintro en w1 ⟨A1, c1, rfl, ho1, hb1⟩
  have g0' := (hb1.block _ hs0).trans g0
  have g1' := (hb1.block _ hs1).trans g1
  have HG := ((But.setCell w1 w.heap.size 5 (.int .i64 m)).2 (w.heap.size + 1) (by omega)).trans g1'
  have ho2 := (ho1.but hs0 (But.setCell w1 w.heap.size 5 (.int .i64 m)))
  have hb2 := (bthen hb0 hb1).setCell (p := ⟨w.heap.size, 5, none⟩) (Nat.le_refl _) (.int .i64 m)
  obtain ⟨e0, e1, e2, e3, e4, e5, e6, e7⟩ := cells8 g0'
  have fz := no_frozen g0'
  clear ht g0 g1 c0 g0' g1'
  go_wp2_with (
    refine wpList_stI rfl 25 (.tmp 4) (.tmp 82) rfl (w.heap.size + 1) #[.int .i64 5, .int .i64 q, .int .i64 e, .int .i64 0, .int .i64 0, .int .i64 m, .slice none 0 0, .slice none 0 0] rfl rfl _ _ HG info25 rfl (all8 rfl rfl rfl rfl rfl rfl rfl rfl) ?_
    intro w9 hg9 hbut9 hbel9)
  obtain ⟨y0, y1, y2, y3, y4, y5, y6, y7⟩ := cells8 hg9
  exact bodyPost_ret (v := .tuple #[.agg #[.int .i64 5, .int .i64 q, .int .i64 e, .int .i64 0, .int .i64 0, .int .i64 m, .slice none 0 0, .slice none 0 0], .slice A1 rr.length c1, .int .i64 kk]) (by simp [results, Tryd.results63, go_sem, y0, y1, y2, y3, y4, y5, y6, y7]) rfl ⟨_, _, _, rfl, ⟨none, 0, 0, none, 0, 0, rfl, RdV.nil_ _, Rd.nil_ _, no_addr, no_addr⟩, ((ho2.but hs1 hbut9)).same, hbel9 _ _ hb2 (Nat.le_succ _)⟩

set_option maxHeartbeats 2000000 in
theorem tt6 (q e : Int) (A : Option Addr) (n c : Nat) (r : List UInt8) (w : World) (hw : Wd w) (h : Rd w A n c r) (hn : n ≤ 65536) :
    Calls Tryd.prog 63 #[.agg #[.int .i64 6, .int .i64 q, .int .i64 e, .int .i64 0, .int .i64 0, .int .i64 0, .slice none 0 0, .slice none 0 0], .slice A n c] w (TailIs w ⟨6, q, e, 0, 0, 0, (Num.rowOf r (r.length / 8 : Nat) 8).1, []⟩ ((Num.rowOf r (r.length / 8 : Nat) 8).2.1) ((Num.rowOf r (r.length / 8 : Nat) 8).2.2)) := by
  obtain ⟨g0, g1, hb0⟩ := two_alloc w (.cells #[.int .i64 6, .int .i64 q, .int .i64 e, .int .i64 0, .int .i64 0, .int .i64 0, .slice none 0 0, .slice none 0 0] 25) (.cells #[.int .i64 0, .int .i64 0, .int .i64 0, .int .i64 0, .int .i64 0, .int .i64 0, .slice none 0 0, .slice none 0 0] 25)
  have hs0 : w.heap.size < ((w.alloc (.cells #[.int .i64 6, .int .i64 q, .int .i64 e, .int .i64 0, .int .i64 0, .int .i64 0, .slice none 0 0, .slice none 0 0] 25)).alloc (.cells #[.int .i64 0, .int .i64 0, .int .i64 0, .int .i64 0, .int .i64 0, .int .i64 0, .slice none 0 0, .slice none 0 0] 25)).heap.size := by simp only [size_alloc]; omega
  have hs1 : w.heap.size + 1 < ((w.alloc (.cells #[.int .i64 6, .int .i64 q, .int .i64 e, .int .i64 0, .int .i64 0, .int .i64 0, .slice none 0 0, .slice none 0 0] 25)).alloc (.cells #[.int .i64 0, .int .i64 0, .int .i64 0, .int .i64 0, .int .i64 0, .int .i64 0, .slice none 0 0, .slice none 0 0] 25)).heap.size := by simp only [size_alloc]; omega
  have c0 := (cells8 g0).1
  have hw0 := hw.below hb0
  have h0 := h.below hb0
  have hq := quot n 8 hn
  have ht := takeRow_any A n c r (n / 8 : Nat) 8 _ hw0 h0 hn
  rw [h.1]
  generalize Num.rowOf r (n / 8 : Nat) 8 = p at ht ⊢
  have ez : ((n / 8 : Nat) : Int) = (n : Int) / 8 := by omega
  rw [ez] at ht
  clear ez hq
  go_enter Tryd.func63, Tryd.ntmps63
  go_wp2_with fail
  with_reducible refine ht.mono ?_
  rintro en w1 ⟨A1, c1, B1, d1, rfl, hi1, ho1, hb1⟩
  have g0' := (hb1.block _ hs0).trans g0
  have g1' := (hb1.block _ hs1).trans g1
  have HG := ((But.setCell w1 w.heap.size 6 (.slice A1 p.1.length c1)).2 (w.heap.size + 1) (by omega)).trans g1'
  have ho2 := (ho1.but hs0 (But.setCell w1 w.heap.size 6 (.slice A1 p.1.length c1)))
  have hi2 := (OwnV.but hi1 hs0 (But.setCell w1 w.heap.size 6 (.slice A1 p.1.length c1)))
  have hb2 := (bthen hb0 hb1).setCell (p := ⟨w.heap.size, 6, none⟩) (Nat.le_refl _) (.slice A1 p.1.length c1)
  obtain ⟨e0, e1, e2, e3, e4, e5, e6, e7⟩ := cells8 g0'
  have fz := no_frozen g0'
  clear ht g0 g1 c0 g0' g1'
  go_wp2_with (
    refine wpList_stI rfl 25 (.tmp 4) (.tmp 82) rfl (w.heap.size + 1) #[.int .i64 6, .int .i64 q, .int .i64 e, .int .i64 0, .int .i64 0, .int .i64 0, .slice A1 p.1.length c1, .slice none 0 0] rfl rfl _ _ HG info25 rfl (all8 rfl rfl rfl rfl rfl rfl rfl rfl) ?_
    intro w9 hg9 hbut9 hbel9)
  obtain ⟨y0, y1, y2, y3, y4, y5, y6, y7⟩ := cells8 hg9
  exact bodyPost_ret (v := .tuple #[.agg #[.int .i64 6, .int .i64 q, .int .i64 e, .int .i64 0, .int .i64 0, .int .i64 0, .slice A1 p.1.length c1, .slice none 0 0], .slice B1 p.2.1.length d1, .int .i64 p.2.2]) (by simp [results, Tryd.results63, go_sem, y0, y1, y2, y3, y4, y5, y6, y7]) rfl ⟨_, _, _, rfl, ⟨A1, _, c1, none, 0, 0, rfl, OwnV.same (OwnV.but hi2 hs1 hbut9), Rd.nil_ _, addrV hi2 hb0.size, no_addr⟩, ((ho2.but hs1 hbut9)).same, hbel9 _ _ hb2 (Nat.le_succ _)⟩

set_option maxHeartbeats 2000000 in
theorem tt0 (k q e : Int) (A : Option Addr) (n c : Nat) (r : List UInt8) (w : World) (hw : Wd w) (h : Rd w A n c r) (hn : n ≤ 65536) (k1 : k ≠ 1) (k2 : k ≠ 2) (k4 : k ≠ 4) (k5 : k ≠ 5) (k6 : k ≠ 6) :
    Calls Tryd.prog 63 #[.agg #[.int .i64 k, .int .i64 q, .int .i64 e, .int .i64 0, .int .i64 0, .int .i64 0, .slice none 0 0, .slice none 0 0], .slice A n c] w (TailIs w ⟨k, q, e, 0, 0, 0, [], []⟩ (r) (0)) := by
  obtain ⟨g0, g1, hb0⟩ := two_alloc w (.cells #[.int .i64 k, .int .i64 q, .int .i64 e, .int .i64 0, .int .i64 0, .int .i64 0, .slice none 0 0, .slice none 0 0] 25) (.cells #[.int .i64 0, .int .i64 0, .int .i64 0, .int .i64 0, .int .i64 0, .int .i64 0, .slice none 0 0, .slice none 0 0] 25)
  have hs0 : w.heap.size < ((w.alloc (.cells #[.int .i64 k, .int .i64 q, .int .i64 e, .int .i64 0, .int .i64 0, .int .i64 0, .slice none 0 0, .slice none 0 0] 25)).alloc (.cells #[.int .i64 0, .int .i64 0, .int .i64 0, .int .i64 0, .int .i64 0, .int .i64 0, .slice none 0 0, .slice none 0 0] 25)).heap.size := by simp only [size_alloc]; omega
  have hs1 : w.heap.size + 1 < ((w.alloc (.cells #[.int .i64 k, .int .i64 q, .int .i64 e, .int .i64 0, .int .i64 0, .int .i64 0, .slice none 0 0, .slice none 0 0] 25)).alloc (.cells #[.int .i64 0, .int .i64 0, .int .i64 0, .int .i64 0, .int .i64 0, .int .i64 0, .slice none 0 0, .slice none 0 0] 25)).heap.size := by simp only [size_alloc]; omega
  have c0 := (cells8 g0).1
  have hw0 := hw.below hb0
  have h0 := h.below hb0
  have q1 : (k == 1) = false := by simpa using k1
  have q2 : (k == 2) = false := by simpa using k2
  have q4 : (k == 4) = false := by simpa using k4
  have q5 : (k == 5) = false := by simpa using k5
  have q6 : (k == 6) = false := by simpa using k6
  obtain ⟨e0, e1, e2, e3, e4, e5, e6, e7⟩ := cells8 g0
  have hl := h.1
  subst hl
  clear k1 k2 k4 k5 k6 g0
  go_enter Tryd.func63, Tryd.ntmps63
  go_wp2_with (
    refine wpList_stI rfl 25 (.tmp 4) (.tmp 82) rfl (w.heap.size + 1) #[.int .i64 k, .int .i64 q, .int .i64 e, .int .i64 0, .int .i64 0, .int .i64 0, .slice none 0 0, .slice none 0 0] rfl rfl _ _ g1 info25 rfl (all8 rfl rfl rfl rfl rfl rfl rfl rfl) ?_
    intro w9 hg9 hbut9 hbel9)
  obtain ⟨y0, y1, y2, y3, y4, y5, y6, y7⟩ := cells8 hg9
  exact bodyPost_ret (v := .tuple #[.agg #[.int .i64 k, .int .i64 q, .int .i64 e, .int .i64 0, .int .i64 0, .int .i64 0, .slice none 0 0, .slice none 0 0], .slice A r.length c, .int .i64 0]) (by simp [results, Tryd.results63, go_sem, y0, y1, y2, y3, y4, y5, y6, y7]) rfl ⟨_, _, _, rfl, ⟨none, 0, 0, none, 0, 0, rfl, RdV.nil_ _, Rd.nil_ _, no_addr, no_addr⟩, h.below (hbel9 _ _ hb0 (Nat.le_succ _)), hbel9 _ _ hb0 (Nat.le_succ _)⟩

end Go.Proofs.YtahkhideepncfaaDoor
