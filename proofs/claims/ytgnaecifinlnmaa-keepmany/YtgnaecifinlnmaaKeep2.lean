/- What keep's own comes to: an item with lists of its own. -/
import Derived.Test.YtgnaecifinlnmaaKeep1
import Derived.Test.YtgnaecifinlnmaaItem6
import Derived.Deep.RegionLaw
set_option maxRecDepth 100000
namespace Go.Proofs.Ytgnaecifinlnmaa
open Go.RowKit
set_option linter.unusedVariables false

theorem nkeep (w : World) (o : Obj) : Below w.heap.size w (w.alloc o) := (Below.refl _ _).alloc (Nat.le_refl _) _
theorem no_frozen {w : World} {g : Nat} {cs : Array Value} {t : TypeId} (h : w.heap[g]? = some (.cells cs t (0, 0))) (i : Nat) : w.frozen? ⟨g, i, none⟩ = false := by simp [World.frozen?, h]
theorem blk_lt {w : World} {g : Nat} {o : Obj} (h : w.heap[g]? = some o) : g < w.heap.size := by
  rcases Nat.lt_or_ge g w.heap.size with hlt | hge
  · exact hlt
  · rw [Array.getElem?_eq_none hge] at h; cases h
theorem keepH {w w' : World} {g : Nat} {o : Obj} (h : w.heap[g]? = some o) (hb : Below w.heap.size w w') : w'.heap[g]? = some o := (hb.block _ (blk_lt h)).trans h
abbrev zcells : Array Value := #[.int .i64 0, .int .i64 0, .int .i64 0, .int .i64 0, .int .i64 0, .int .i64 0, .slice none 0 0, .slice none 0 0]
theorem cells8 {w : World} {g : Nat} {a0 a1 a2 a3 a4 a5 a6 a7 : Value} {t : TypeId} (h : w.heap[g]? = some (.cells #[a0, a1, a2, a3, a4, a5, a6, a7] t (0, 0))) :
    w.cell? ⟨g, 0, none⟩ = some a0 ∧ w.cell? ⟨g, 1, none⟩ = some a1 ∧ w.cell? ⟨g, 2, none⟩ = some a2 ∧ w.cell? ⟨g, 3, none⟩ = some a3 ∧ w.cell? ⟨g, 4, none⟩ = some a4 ∧ w.cell? ⟨g, 5, none⟩ = some a5 ∧ w.cell? ⟨g, 6, none⟩ = some a6 ∧ w.cell? ⟨g, 7, none⟩ = some a7 :=
  ⟨cell_at h 0 rfl, cell_at h 1 rfl, cell_at h 2 rfl, cell_at h 3 rfl, cell_at h 4 rfl, cell_at h 5 rfl, cell_at h 6 rfl, cell_at h 7 rfl⟩
theorem cells2 {w : World} {g : Nat} {a0 a1 : Value} {t : TypeId} (h : w.heap[g]? = some (.cells #[a0, a1] t (0, 0))) : w.cell? ⟨g, 0, none⟩ = some a0 ∧ w.cell? ⟨g, 1, none⟩ = some a1 := ⟨cell_at h 0 rfl, cell_at h 1 rfl⟩

/-- An item whose lists lie in blocks from a place on. -/
def FrI (w : World) (lo : Nat) (v : Value) (x : Item.It) : Prop :=
  ∃ LA ln lc BA bn bc, v = .agg #[.int .i64 x.k, .int .i64 x.q, .int .i64 x.e, .int .i64 x.i, .int .i64 x.t, .int .i64 x.c, .slice LA ln lc, .slice BA bn bc] ∧ RdI w LA ln lc x.l ∧ Rd w BA bn bc x.b ∧
    (∀ b o, LA = some ⟨b, o, none⟩ → lo ≤ b) ∧ (∀ b o, BA = some ⟨b, o, none⟩ → lo ≤ b)
section
variable {w w' : World} {lo g : Nat} {v : Value} {x : Item.It}
theorem FrI.is (h : FrI w lo v x) : IsItem w v x := by
  obtain ⟨LA, ln, lc, BA, bn, bc, rfl, h1, h2, _, _⟩ := h
  exact ⟨LA, ln, lc, BA, bn, bc, rfl, h1, h2⟩
theorem FrI.below (h : FrI w lo v x) (hb : Below w.heap.size w w') : FrI w' lo v x := by
  obtain ⟨LA, ln, lc, BA, bn, bc, rfl, h1, h2, h3, h4⟩ := h
  exact ⟨LA, ln, lc, BA, bn, bc, rfl, RdV.below h1 hb, h2.below hb, h3, h4⟩
theorem FrI.mono {lo' : Nat} (h : FrI w lo v x) (hl : lo' ≤ lo) : FrI w lo' v x := by
  obtain ⟨LA, ln, lc, BA, bn, bc, rfl, h1, h2, h3, h4⟩ := h
  exact ⟨LA, ln, lc, BA, bn, bc, rfl, h1, h2, fun b o e => Nat.le_trans hl (h3 b o e), fun b o e => Nat.le_trans hl (h4 b o e)⟩
theorem FrI.but (h : FrI w lo v x) (hg : g < lo) (hb : But g w w') : FrI w' lo v x := by
  obtain ⟨LA, ln, lc, BA, bn, bc, rfl, h1, h2, h3, h4⟩ := h
  exact ⟨LA, ln, lc, BA, bn, bc, rfl, RdV.but h1 (fun b o e => by have := h3 b o e; omega) hb, h2.but (fun b o e => by have := h4 b o e; omega) hb, h3, h4⟩
theorem RdV.grown {A : Option Addr} {n c : Nat} {l : List Value} {row : Option Nat} (h : RdV w A n c l) (hg : w.grownBy w' row) (hr : ∀ b o, A = some ⟨b, o, none⟩ → row ≠ some b) : RdV w' A n c l := by
  obtain ⟨h1, h2, h3, h4, h5⟩ := h
  refine ⟨h1, h2, h3, h4, fun h0 => ?_⟩
  obtain ⟨b, o, hA, hc⟩ := h5 h0
  exact ⟨b, o, hA, fun i x hx => hg.cell (hc i x hx) (fun e => hr b o hA e.symm)⟩
theorem FrI.grown {row : Option Nat} (h : FrI w lo v x) (hg : w.grownBy w' row) (hr : ∀ b, row = some b → b < lo) : FrI w' lo v x := by
  obtain ⟨LA, ln, lc, BA, bn, bc, rfl, h1, h2, h3, h4⟩ := h
  refine ⟨LA, ln, lc, BA, bn, bc, rfl, RdV.grown h1 hg (fun b o e e2 => ?_), RdV.bytes (RdV.grown (Rd.v h2) hg (fun b o e e2 => ?_)), h3, h4⟩
  · have := h3 b o e; have := hr b e2; omega
  · have := h4 b o e; have := hr b e2; omega
end
def OwnIs (w : World) (x : Item.It) (e : Ending) (w' : World) : Prop := ∃ v, e = .returned v ∧ FrI w' w.heap.size v x ∧ Below w.heap.size w w'

set_option maxHeartbeats 2000000 in
theorem own_any (v : Value) (x : Item.It) (w : World) (h : IsItem w v x) (hL : x.l.length ≤ 65536) (hB : x.b.length ≤ 65536) :
    Calls Try.prog 34 #[v] w (OwnIs w x) := by
  obtain ⟨LA, ln, lc, BA, bn, bc, rfl, hl, hb⟩ := h
  have hln := RdI.size hl
  have hbn := hb.1
  obtain ⟨t1, t2, t3⟩ := two_alloc w (.cells #[.int .i64 x.k, .int .i64 x.q, .int .i64 x.e, .int .i64 x.i, .int .i64 x.t, .int .i64 x.c, .slice LA ln lc, .slice BA bn bc] 28) (.cells zcells 28)
  obtain ⟨W, hW⟩ : ∃ W, (w.alloc (.cells #[.int .i64 x.k, .int .i64 x.q, .int .i64 x.e, .int .i64 x.i, .int .i64 x.t, .int .i64 x.c, .slice LA ln lc, .slice BA bn bc] 28)).alloc (.cells zcells 28) = W := ⟨_, rfl⟩
  have HS : Hid (W.heap.size = w.heap.size + 2) := by rw [← hW, size_alloc, size_alloc]; rfl
  rw [hW] at t1 t2 t3
  have HW := hidT hW
  clear hW
  have H5 : Hid (∀ w', Below W.heap.size W w' → Calls Try.prog 45 #[.slice LA ln lc] w' (fun e w2 => ∃ B d, e = .returned (.slice B ln d) ∧ OwnV w2 w'.heap.size 3 (.slice B ln d) ln (is x.l) ∧ Below w'.heap.size w' w2)) :=
    hidT fun w' hb' => cloneI_any LA ln lc x.l w' (RdV.below hl (bthen t3 hb')) (by omega)
  have H6 : Hid (∀ w', Below W.heap.size W w' → Calls Try.prog 46 #[.slice BA bn bc] w' (Gives w' 5 x.b)) :=
    hidT fun w' hb' => clone_any BA bn bc x.b w' (hb.below (bthen t3 hb')) (by omega)
  have k6 := fun w' (hb' : Below W.heap.size W w') => (cells8 (keepH t1 hb')).2.2.2.2.2.2.1
  have k7 := fun w' (hb' : Below W.heap.size W w') => (cells8 (keepH t1 hb')).2.2.2.2.2.2.2
  obtain ⟨g, hg⟩ : ∃ g, w.heap.size = g := ⟨_, rfl⟩
  rw [hg] at t1 t2
  have T1 := hidT t1
  have T2 := hidT t2
  have T3 := hidT t3
  have HG := hidT hg
  clear t1 t2 t3 hl hb hL hB hln hbn
  go_enter Try.func34, Try.ntmps34
  go_wp2_with fail
  rw [HW.out]
  rw [hg] at k6 k7
  clear hg
  have c6 := k6 W (Below.refl _ _)
  have c7 := k7 W (Below.refl _ _)
  clear k6 k7
  have hgW : g ≤ W.heap.size := by have := HS.out; have := HG.out; omega
  go_region_law
    (first
      | (go_simp; go_at_call 45; ((with_reducible refine (H5.out _ (Below.refl _ _).drew).mono ?_); rintro e5 w5 ⟨A5, c5, rfl, ho5, hb5'⟩; have hb5 : Below W.heap.size W w5 := undrew hb5'; have y5 := keepH T1.out hb5; obtain ⟨i0, i1, i2, i3, i4, i5, i6, i7⟩ := cells8 y5))
      | (go_simp; go_at_call 46; ((with_reducible refine (H6.out _ hb5).mono ?_); rintro e6 w6 ⟨A6, c6, rfl, ho6, hb6'⟩; have hb6 : Below W.heap.size W w6 := bthen hb5 hb6'; have y6 := keepH T1.out hb6; have f6 := no_frozen y6 6; have f7 := no_frozen y6 7; obtain ⟨j0, j1, j2, j3, j4, j5, j6, j7⟩ := cells8 y6))
      | fail)
  all_goals
    have z1 : (w6.setCell ⟨g, 6, none⟩ (.slice A5 ln c5)).heap[g]? = some (.cells #[.int .i64 x.k, .int .i64 x.q, .int .i64 x.e, .int .i64 x.i, .int .i64 x.t, .int .i64 x.c, .slice A5 ln c5, .slice BA bn bc] 28 (0, 0)) := heap_setCell_same w6 g 6 _ _ _ y6
    have z2 : ((w6.setCell ⟨g, 6, none⟩ (.slice A5 ln c5)).setCell ⟨g, 7, none⟩ (.slice A6 x.b.length c6)).heap[g]? = some (.cells #[.int .i64 x.k, .int .i64 x.q, .int .i64 x.e, .int .i64 x.i, .int .i64 x.t, .int .i64 x.c, .slice A5 ln c5, .slice A6 x.b.length c6] 28 (0, 0)) := heap_setCell_same _ g 7 _ _ _ z1
    have zb : But g w6 ((w6.setCell ⟨g, 6, none⟩ (.slice A5 ln c5)).setCell ⟨g, 7, none⟩ (.slice A6 x.b.length c6)) := (But.setCell w6 g 6 _).trans (But.setCell _ g 7 _)
    have z3 := (zb.2 (g + 1) (by omega)).trans (keepH T2.out hb6)
    have hbX : Below w.heap.size w ((w6.setCell ⟨g, 6, none⟩ (.slice A5 ln c5)).setCell ⟨g, 7, none⟩ (.slice A6 x.b.length c6)) := by
      have e := HG.out
      exact ((bthen T3.out hb6).setCell (p := ⟨g, 6, none⟩) (by show w.heap.size ≤ g; omega) _).setCell (p := ⟨g, 7, none⟩) (by show w.heap.size ≤ g; omega) _
    have hW5 := hb5.size
    have hW6 := hb6.size
    have hS := HS.out
    have hgg := HG.out
    have hws : W.heap.size ≤ w5.heap.size := hb5.size
    have r5 : RdI w6 A5 ln c5 x.l := RdV.below (OwnV.same ho5) hb6'
    have a5 : ∀ b o, A5 = some ⟨b, o, none⟩ → w.heap.size + 2 ≤ b := addrV ho5 (by rw [← hS]; exact Nat.le_refl _)
    have a6 : ∀ b o, A6 = some ⟨b, o, none⟩ → w.heap.size + 2 ≤ b := addrB ho6 (by omega)
    have r6 := ho6.same
    have R5 := hidT (RdV.but r5 (fun b o e => by have := a5 b o e; omega) zb)
    have R6 := hidT (r6.but (fun b o e => by have := a6 b o e; omega) zb)
    have AA5 := hidT a5
    have AA6 := hidT a6
    clear z1 zb c7 hb5 hb6 hb5' hb6' ho5 ho6 r5 r6 a5 a6 y5 y6 f6 f7 i0 i1 i2 i3 i4 i5 i6 i7 j0 j1 j2 j3 j4 j5 j6 j7 hW5 hW6 hws
    generalize (w6.setCell ⟨g, 6, none⟩ (.slice A5 ln c5)).setCell ⟨g, 7, none⟩ (.slice A6 x.b.length c6) = X at *
    obtain ⟨i0, i1, i2, i3, i4, i5, i6, i7⟩ := cells8 z2
    clear hS hgg
    go_wp2_with (
      refine wpList_stI rfl 28 _ _ rfl (g + 1) #[.int .i64 x.k, .int .i64 x.q, .int .i64 x.e, .int .i64 x.i, .int .i64 x.t, .int .i64 x.c, .slice A5 ln c5, .slice A6 x.b.length c6] rfl rfl _ _ z3 size8 rfl (by simp [Value.oneCell']) ?_
      intro w7 hg7 hbut hbel)
    obtain ⟨e0, e1, e2, e3, e4, e5, e6, e7⟩ := cells8 hg7
    have hgg := HG.out
    exact bodyPost_ret (v := .agg #[.int .i64 x.k, .int .i64 x.q, .int .i64 x.e, .int .i64 x.i, .int .i64 x.t, .int .i64 x.c, .slice A5 ln c5, .slice A6 x.b.length c6]) (by simp [results, Try.results34, go_sem, e0, e1, e2, e3, e4, e5, e6, e7]) rfl
      ⟨_, rfl, ⟨A5, ln, c5, A6, x.b.length, c6, rfl, RdV.but R5.out (fun b o e => by have := AA5.out b o e; omega) hbut, R6.out.but (fun b o e => by have := AA6.out b o e; omega) hbut, fun b o e => by have := AA5.out b o e; omega, fun b o e => by have := AA6.out b o e; omega⟩, hbel _ _ hbX (by omega)⟩
end Go.Proofs.Ytgnaecifinlnmaa
