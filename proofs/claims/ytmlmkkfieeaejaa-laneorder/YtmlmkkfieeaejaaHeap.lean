/- Blocks of one cell or two, and worlds that grow. No program is named here. (What AskMath, Keep2 and KG1 say too: of these only one can lie in a seat.) -/
import Derived.Test.YtmlmkkfieeaejaaOpen
import Derived.Test.YtmlmkkfieeaejaaStruct
import Derived.WalkKit
import Derived.IntWalk
import Derived.Laws.Tables
set_option maxRecDepth 100000
namespace Go.Proofs.Ytmlmkkfieeaejaa
open Go.RowKit
set_option linter.unusedVariables false

theorem nkeep (w : World) (o : Obj) : Below w.heap.size w (w.alloc o) := (Below.refl _ _).alloc (Nat.le_refl _) _
theorem no_frozen {w : World} {g : Nat} {cs : Array Value} {t : TypeId} (h : w.heap[g]? = some (.cells cs t (0, 0))) (i : Nat) : w.frozen? ⟨g, i, none⟩ = false := by simp [World.frozen?, h]
theorem blk_lt {w : World} {g : Nat} {o : Obj} (h : w.heap[g]? = some o) : g < w.heap.size := by
  rcases Nat.lt_or_ge g w.heap.size with hlt | hge
  · exact hlt
  · rw [Array.getElem?_eq_none hge] at h; cases h
theorem keepH {w w' : World} {g : Nat} {o : Obj} (h : w.heap[g]? = some o) (hb : Below w.heap.size w w') : w'.heap[g]? = some o := (hb.block _ (blk_lt h)).trans h
theorem two_alloc (w : World) (o0 o1 : Obj) : ((w.alloc o0).alloc o1).heap[w.heap.size]? = some o0 ∧ ((w.alloc o0).alloc o1).heap[w.heap.size + 1]? = some o1 ∧ Below w.heap.size w ((w.alloc o0).alloc o1) :=
  ⟨by rw [alloc_old _ _ _ (by rw [size_alloc]; omega)]; exact alloc_at _ _ _ rfl, alloc_at _ _ _ (by rw [size_alloc]), bthen (nkeep _ _) (nkeep _ _)⟩
theorem three_alloc (w : World) (o0 o1 o2 : Obj) : (((w.alloc o0).alloc o1).alloc o2).heap[w.heap.size]? = some o0 ∧ (((w.alloc o0).alloc o1).alloc o2).heap[w.heap.size + 1]? = some o1 ∧ (((w.alloc o0).alloc o1).alloc o2).heap[w.heap.size + 2]? = some o2 ∧ Below w.heap.size w (((w.alloc o0).alloc o1).alloc o2) := by
  obtain ⟨h0, h1, hb⟩ := two_alloc w o0 o1
  have hk := nkeep ((w.alloc o0).alloc o1) o2
  exact ⟨keepH h0 hk, keepH h1 hk, alloc_at _ _ _ (by rw [size_alloc, size_alloc]), bthen hb hk⟩
theorem cells1 {w : World} {g : Nat} {a0 : Value} {t : TypeId} (h : w.heap[g]? = some (.cells #[a0] t (0, 0))) : w.cell? ⟨g, 0, none⟩ = some a0 := cell_at h 0 rfl
theorem cells2 {w : World} {g : Nat} {a0 a1 : Value} {t : TypeId} (h : w.heap[g]? = some (.cells #[a0, a1] t (0, 0))) : w.cell? ⟨g, 0, none⟩ = some a0 ∧ w.cell? ⟨g, 1, none⟩ = some a1 := ⟨cell_at h 0 rfl, cell_at h 1 rfl⟩
/-- A block of one cell, stored. -/
theorem set1 {w : World} {g : Nat} {a : Value} {t : TypeId} (h : w.heap[g]? = some (.cells #[a] t (0, 0))) (v : Value) : (w.setCell ⟨g, 0, none⟩ v).heap[g]? = some (.cells #[v] t (0, 0)) := heap_setCell_same w g 0 _ t v h
theorem set_off {w : World} {g b : Nat} {o : Option Obj} (h : w.heap[b]? = o) (hb : b ≠ g) (i : Nat) (v : Value) : (w.setCell ⟨g, i, none⟩ v).heap[b]? = o := (heap_setCell_other w ⟨g, i, none⟩ b v hb).trans h
/-- A block of two cells, stored whole. -/
theorem set2 {w : World} {g : Nat} {a0 a1 : Value} {t : TypeId} (h : w.heap[g]? = some (.cells #[a0, a1] t (0, 0))) (v0 v1 : Value) : ((w.setCell ⟨g, 0, none⟩ v0).setCell ⟨g, 1, none⟩ v1).heap[g]? = some (.cells #[v0, v1] t (0, 0)) := by
  have h1 : (w.setCell ⟨g, 0, none⟩ v0).heap[g]? = some (.cells #[v0, a1] t (0, 0)) := heap_setCell_same w g 0 _ t v0 h
  exact heap_setCell_same _ g 1 _ t v1 h1
theorem size2 {a0 a1 b0 b1 : Value} : (#[a0, a1] : Array Value).size = (#[b0, b1] : Array Value).size := rfl
theorem all2 {a0 a1 : Value} (h0 : a0.oneCell' = true) (h1 : a1.oneCell' = true) : (#[a0, a1] : Array Value).all (·.oneCell') = true := by simp [h0, h1]
end Go.Proofs.Ytmlmkkfieeaejaa
