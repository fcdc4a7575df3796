/- How a gap is watched, in numbers. No program is named here. -/
import Derived.Test.YtkmogmdekpdbpaaOpen
import Derived.WalkKit
import Derived.IntWalk
import Derived.Laws.Tables
set_option maxRecDepth 100000
namespace Go.Proofs.Ytkmogmdekpdbpaa
open Go.RowKit
set_option linter.unusedVariables false

namespace Ask
/-- When a gap is due behind a tick. -/
def due (d now wait : Int) (gap : Bool) : Int := if gap = false then 0 else if d = 0 then now + 1 else if d ≤ now then now + wait else d
/-- Is it asked for? -/
def yes (d now : Int) (gap : Bool) : Bool := gap && (!decide (d = 0) && decide (d ≤ now))
/-- When it is due behind a hush. -/
def hush (d now wait : Int) : Int := if d = 0 then d else if d < now + wait then now + wait else d
/-- Is a tick one, and a wait? -/
def may (now wait : Int) : Bool := decide (0 ≤ now) && (decide (now ≤ 4611686018427387904) && (decide (1 ≤ wait) && decide (wait ≤ 1000)))
theorem may_iff {now wait : Int} : may now wait = true ↔ 0 ≤ now ∧ now ≤ 4611686018427387904 ∧ 1 ≤ wait ∧ wait ≤ 1000 := by simp [may]
theorem due_none (d now wait : Int) : due d now wait false = 0 := by simp [due]
theorem yes_none (d now : Int) : yes d now false = false := rfl
theorem due_new (now wait : Int) : due 0 now wait true = now + 1 := by simp [due]
theorem yes_new (now : Int) : yes 0 now true = false := by simp [yes]
theorem due_time {d now : Int} (wait : Int) (h : d ≠ 0) (h2 : d ≤ now) : due d now wait true = now + wait := by simp [due, h, h2]
theorem yes_time {d now : Int} (h : d ≠ 0) (h2 : d ≤ now) : yes d now true = true := by simp [yes, h, h2]
theorem due_later {d now : Int} (wait : Int) (h : d ≠ 0) (h2 : now < d) : due d now wait true = d := by
  unfold due; rw [if_neg (by simp), if_neg h, if_neg (by omega)]
theorem yes_later {d now : Int} (h2 : now < d) : yes d now true = false := by
  simp only [yes, Bool.true_and, Bool.and_eq_false_iff, decide_eq_false_iff_not]
  right
  omega
end Ask

theorem nkeep (w : World) (o : Obj) : Below w.heap.size w (w.alloc o) := (Below.refl _ _).alloc (Nat.le_refl _) _
theorem no_frozen {w : World} {g : Nat} {cs : Array Value} {t : TypeId} (h : w.heap[g]? = some (.cells cs t (0, 0))) (i : Nat) : w.frozen? ⟨g, i, none⟩ = false := by simp [World.frozen?, h]
theorem blk_lt {w : World} {g : Nat} {o : Obj} (h : w.heap[g]? = some o) : g < w.heap.size := by
  rcases Nat.lt_or_ge g w.heap.size with hlt | hge
  · exact hlt
  · rw [Array.getElem?_eq_none hge] at h; cases h
theorem keepH {w w' : World} {g : Nat} {o : Obj} (h : w.heap[g]? = some o) (hb : Below w.heap.size w w') : w'.heap[g]? = some o := (hb.block _ (blk_lt h)).trans h
theorem cell_at {w : World} {b : Nat} {cs : Array Value} {t : TypeId} (h : w.heap[b]? = some (.cells cs t (0, 0))) (i : Nat) {u : Value} (hu : cs[i]? = some u) : w.cell? ⟨b, i, none⟩ = some u := by
  rw [cell_of_row _ b _ _ t (0, 0) h]
  exact hu
theorem alloc_old (w : World) (o : Obj) (b : Nat) (h : b < w.heap.size) : (w.alloc o).heap[b]? = w.heap[b]? := by
  show (w.heap.push o)[b]? = _
  rw [Array.getElem?_push, if_neg (by omega)]
theorem alloc_at (w : World) (o : Obj) (b : Nat) (h : b = w.heap.size) : (w.alloc o).heap[b]? = some o := by
  subst h
  exact heap_alloc_new w o
theorem size_alloc (w : World) (o : Obj) : (w.alloc o).heap.size = w.heap.size + 1 := by
  show (w.heap.push o).size = _
  exact Array.size_push ..
theorem two_alloc (w : World) (o0 o1 : Obj) : ((w.alloc o0).alloc o1).heap[w.heap.size]? = some o0 ∧ ((w.alloc o0).alloc o1).heap[w.heap.size + 1]? = some o1 ∧ Below w.heap.size w ((w.alloc o0).alloc o1) :=
  ⟨by rw [alloc_old _ _ _ (by rw [size_alloc]; omega)]; exact alloc_at _ _ _ rfl, alloc_at _ _ _ (by rw [size_alloc]), bthen (nkeep _ _) (nkeep _ _)⟩
theorem three_alloc (w : World) (o0 o1 o2 : Obj) : (((w.alloc o0).alloc o1).alloc o2).heap[w.heap.size]? = some o0 ∧ (((w.alloc o0).alloc o1).alloc o2).heap[w.heap.size + 1]? = some o1 ∧ (((w.alloc o0).alloc o1).alloc o2).heap[w.heap.size + 2]? = some o2 ∧ Below w.heap.size w (((w.alloc o0).alloc o1).alloc o2) := by
  obtain ⟨h0, h1, hb⟩ := two_alloc w o0 o1
  have hk := nkeep ((w.alloc o0).alloc o1) o2
  exact ⟨keepH h0 hk, keepH h1 hk, alloc_at _ _ _ (by rw [size_alloc, size_alloc]), bthen hb hk⟩
theorem cells1 {w : World} {g : Nat} {a0 : Value} {t : TypeId} (h : w.heap[g]? = some (.cells #[a0] t (0, 0))) : w.cell? ⟨g, 0, none⟩ = some a0 := cell_at h 0 rfl
/-- A block of one cell, stored. -/
theorem set1 {w : World} {g : Nat} {a : Value} {t : TypeId} (h : w.heap[g]? = some (.cells #[a] t (0, 0))) (v : Value) : (w.setCell ⟨g, 0, none⟩ v).heap[g]? = some (.cells #[v] t (0, 0)) := heap_setCell_same w g 0 _ t v h
theorem set_off {w : World} {g b : Nat} {o : Option Obj} (h : w.heap[b]? = o) (hb : b ≠ g) (v : Value) : (w.setCell ⟨g, 0, none⟩ v).heap[b]? = o := (heap_setCell_other w ⟨g, 0, none⟩ b v hb).trans h
end Go.Proofs.Ytkmogmdekpdbpaa
