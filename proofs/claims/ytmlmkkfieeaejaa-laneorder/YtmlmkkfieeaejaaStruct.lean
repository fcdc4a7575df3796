/- A block of cells that is written, whole or at a cell, while all others stay. No program is named here. -/
import Derived.Test.YtmlmkkfieeaejaaMemV
import Derived.Laws.Tables
import Derived.Laws.CopyOwn
import Derived.StillTailTactics
set_option maxRecDepth 100000
namespace Go.Proofs.Ytmlmkkfieeaejaa
open Go.RowKit
set_option linter.unusedVariables false

theorem cell_at {w : World} {b : Nat} {cs : Array Value} {t : TypeId} (h : w.heap[b]? = some (.cells cs t (0, 0))) (i : Nat) {u : Value} (hu : cs[i]? = some u) : w.cell? ⟨b, i, none⟩ = some u := by
  rw [cell_of_row _ b _ _ t (0, 0) h]
  exact hu
theorem alloc_old (w : World) (o : Obj) (b : Nat) (h : b < w.heap.size) : (w.alloc o).heap[b]? = w.heap[b]? := by
  show (w.heap.push o)[b]? = _
  rw [Array.getElem?_push, if_neg (by omega)]
theorem alloc_at (w : World) (o : Obj) (b : Nat) (h : b = w.heap.size) : (w.alloc o).heap[b]? = some o := by
  subst h
  exact heap_alloc_new w o
theorem size_alloc (w : World) (o : Obj) : (w.alloc o).heap.size = w.heap.size + 1 := by
  show (w.heap.push o).size = _
  exact Array.size_push ..
/-- All blocks but one are as they were. -/
def But (g : Nat) (w w' : World) : Prop := w'.heap.size = w.heap.size ∧ ∀ b, b ≠ g → w'.heap[b]? = w.heap[b]?
theorem cell_congr {w w' : World} {p : Addr} (h : w'.heap[p.block]? = w.heap[p.block]?) : w'.cell? p = w.cell? p := by
  unfold World.cell?
  rw [h]
theorem But.cell {g : Nat} {w w' : World} (h : But g w w') {p : Addr} (hp : p.block ≠ g) {u : Value} (hu : w.cell? p = some u) : w'.cell? p = some u := (cell_congr (h.2 _ hp)).trans hu
theorem But.setRow (w : World) (g : Nat) (cs : Array Value) : But g w (w.setRow g cs) := by
  refine ⟨size_setRow w g cs, fun b hb => ?_⟩
  unfold World.setRow
  simp only [Array.getElem?_modify]
  rw [if_neg (fun e => hb e.symm)]
theorem But.setCell (w : World) (g i : Nat) (v : Value) : But g w (w.setCell ⟨g, i, none⟩ v) := ⟨by simp [World.setCell], fun b hb => heap_setCell_other w ⟨g, i, none⟩ b v hb⟩
theorem row_setRow (w : World) (g : Nat) (cs old : Array Value) (t : TypeId) (fr : Nat × Nat) (h : w.heap[g]? = some (.cells old t fr)) : (w.setRow g cs).heap[g]? = some (.cells cs t fr) := by
  unfold World.setRow
  simp only [Array.getElem?_modify]
  rw [if_pos trivial, h]
  rfl
theorem Own.but {w w' : World} {base n g : Nat} {e : TypeId} {v : Value} {l : List UInt8} (h : Own w base e v n l) (hg : g < base) (hb : But g w w') : Own w' base e v n l := by
  refine ⟨h.1, ?_⟩
  rcases h.2 with h2 | ⟨k, cap, cur, hv, hk, hh, r⟩
  · exact .inl h2
  · exact .inr ⟨k, cap, cur, hv, hk, (hb.2 k (by omega)).trans hh, r⟩
theorem OwnV.but {w w' : World} {base n g : Nat} {e : TypeId} {v : Value} {l : List Value} (h : OwnV w base e v n l) (hg : g < base) (hb : But g w w') : OwnV w' base e v n l := by
  refine ⟨h.1, ?_⟩
  rcases h.2 with h2 | ⟨k, cap, cur, hv, hk, hh, r⟩
  · exact .inl h2
  · exact .inr ⟨k, cap, cur, hv, hk, (hb.2 k (by omega)).trans hh, r⟩
theorem Rd.but {w w' : World} {A : Option Addr} {n c g : Nat} {l : List UInt8} (h : Rd w A n c l) (hg : ∀ b o, A = some ⟨b, o, none⟩ → b ≠ g) (hb : But g w w') : Rd w' A n c l := by
  obtain ⟨h1, h2, h3, h4, h5⟩ := h
  refine ⟨h1, h2, h3, h4, fun h0 => ?_⟩
  obtain ⟨b, o, hA, hc⟩ := h5 h0
  exact ⟨b, o, hA, fun i x hx => hb.cell (hg b o hA) (hc i x hx)⟩

theorem all8 {a0 a1 a2 a3 a4 a5 a6 a7 : Value} (h0 : a0.oneCell' = true) (h1 : a1.oneCell' = true) (h2 : a2.oneCell' = true) (h3 : a3.oneCell' = true) (h4 : a4.oneCell' = true) (h5 : a5.oneCell' = true) (h6 : a6.oneCell' = true) (h7 : a7.oneCell' = true) :
    (#[a0, a1, a2, a3, a4, a5, a6, a7] : Array Value).all (·.oneCell') = true := by simp [h0, h1, h2, h3, h4, h5, h6, h7]
theorem RdV.but {w w' : World} {A : Option Addr} {n c g : Nat} {l : List Value} (h : RdV w A n c l) (hg : ∀ b o, A = some ⟨b, o, none⟩ → b ≠ g) (hb : But g w w') : RdV w' A n c l := by
  obtain ⟨h1, h2, h3, h4, h5⟩ := h
  refine ⟨h1, h2, h3, h4, fun h0 => ?_⟩
  obtain ⟨b, o, hA, hc⟩ := h5 h0
  exact ⟨b, o, hA, fun i x hx => hb.cell (hg b o hA) (hc i x hx)⟩
theorem no_addr {base : Nat} : ∀ b o, (none : Option Addr) = some ⟨b, o, none⟩ → base ≤ b := fun _ _ h => by cases h
theorem addrV {w : World} {base base' n c : Nat} {e : TypeId} {A : Option Addr} {l : List Value} (h : OwnV w base e (.slice A n c) n l) (hb : base' ≤ base) : ∀ b o, A = some ⟨b, o, none⟩ → base' ≤ b := by
  intro b o hA
  subst hA
  rcases h.2 with ⟨h2, _⟩ | ⟨k, cap, cur, hv, hk, _⟩
  · cases h2
  · injection hv with hv
    injection hv with hv
    injection hv with hv
    omega
theorem addrB {w : World} {base base' n c : Nat} {e : TypeId} {A : Option Addr} {l : List UInt8} (h : Own w base e (.slice A n c) n l) (hb : base' ≤ base) : ∀ b o, A = some ⟨b, o, none⟩ → base' ≤ b := addrV (l := bs l) h hb
/-- A whole struct is stored. -/
theorem wpList_stI {P : Program} {ops : Array Oper} {rest : List Oper} {o : Oper} {a : Act} {w : World} {Q : Exit → Act → World → Prop} (hgd : o.guard = none) (ty : TypeId) (x y : Operand) (ho : o.op = .store ty x y)
    (g : Nat) (cells : Array Value) (hx : a.eval x = .pointer (some ⟨g, 0, none⟩)) (hy : a.eval y = .agg cells)
    (t : TypeId) (old : Array Value) (hg : w.heap[g]? = some (.cells old t (0, 0))) (hi : (P.info? ty).map (·.size) = some cells.size)
    (hold : old.size = cells.size) (h1 : cells.all (·.oneCell') = true)
    (h : ∀ w', w'.heap[g]? = some (.cells cells t (0, 0)) → But g w w' → (∀ base w0, Below base w0 w → base ≤ g → Below base w0 w') → wpList P ops Q rest (a.put o.dst undef) w') : wpList P ops Q (o :: rest) a w :=
  wpList_store_row hgd ty x y ho g cells hx hy t old hg hi hold h1 (h _ (row_setRow w g cells old t (0, 0) hg) (But.setRow w g cells) fun base w0 hb hbg => below_setRow hb hbg cells)
theorem But.trans {g : Nat} {w1 w2 w3 : World} (h : But g w1 w2) (h2 : But g w2 w3) : But g w1 w3 := ⟨h2.1.trans h.1, fun b hb => (h2.2 b hb).trans (h.2 b hb)⟩
theorem But.drew {g : Nat} {w1 w2 : World} (h : But g w1 w2) : But g w1 w2.drew := h
/-- Eight cells of a block are stored one by one. -/
theorem set8 {w : World} {g : Nat} {b0 b1 b2 b3 b4 b5 b6 b7 : Value} {t : TypeId} (h : w.heap[g]? = some (.cells #[b0, b1, b2, b3, b4, b5, b6, b7] t (0, 0))) (a0 a1 a2 a3 a4 a5 a6 a7 : Value) :
    (((((((((w.setCell ⟨g, 0, none⟩ a0).setCell ⟨g, 1, none⟩ a1).setCell ⟨g, 2, none⟩ a2).setCell ⟨g, 3, none⟩ a3).setCell ⟨g, 4, none⟩ a4).setCell ⟨g, 5, none⟩ a5).setCell ⟨g, 6, none⟩ a6).setCell ⟨g, 7, none⟩ a7).drew).heap[g]? = some (.cells #[a0, a1, a2, a3, a4, a5, a6, a7] t (0, 0)) ∧ But g w (((((((((w.setCell ⟨g, 0, none⟩ a0).setCell ⟨g, 1, none⟩ a1).setCell ⟨g, 2, none⟩ a2).setCell ⟨g, 3, none⟩ a3).setCell ⟨g, 4, none⟩ a4).setCell ⟨g, 5, none⟩ a5).setCell ⟨g, 6, none⟩ a6).setCell ⟨g, 7, none⟩ a7).drew) ∧ (∀ base w0, Below base w0 w → base ≤ g → Below base w0 (((((((((w.setCell ⟨g, 0, none⟩ a0).setCell ⟨g, 1, none⟩ a1).setCell ⟨g, 2, none⟩ a2).setCell ⟨g, 3, none⟩ a3).setCell ⟨g, 4, none⟩ a4).setCell ⟨g, 5, none⟩ a5).setCell ⟨g, 6, none⟩ a6).setCell ⟨g, 7, none⟩ a7).drew)) := by
  have s0 : (w.setCell ⟨g, 0, none⟩ a0).heap[g]? = some (.cells #[a0, b1, b2, b3, b4, b5, b6, b7] t (0, 0)) := heap_setCell_same w g 0 _ t a0 h
  have s1 : ((w.setCell ⟨g, 0, none⟩ a0).setCell ⟨g, 1, none⟩ a1).heap[g]? = some (.cells #[a0, a1, b2, b3, b4, b5, b6, b7] t (0, 0)) := heap_setCell_same _ g 1 _ t a1 s0
  have s2 : (((w.setCell ⟨g, 0, none⟩ a0).setCell ⟨g, 1, none⟩ a1).setCell ⟨g, 2, none⟩ a2).heap[g]? = some (.cells #[a0, a1, a2, b3, b4, b5, b6, b7] t (0, 0)) := heap_setCell_same _ g 2 _ t a2 s1
  have s3 : ((((w.setCell ⟨g, 0, none⟩ a0).setCell ⟨g, 1, none⟩ a1).setCell ⟨g, 2, none⟩ a2).setCell ⟨g, 3, none⟩ a3).heap[g]? = some (.cells #[a0, a1, a2, a3, b4, b5, b6, b7] t (0, 0)) := heap_setCell_same _ g 3 _ t a3 s2
  have s4 : (((((w.setCell ⟨g, 0, none⟩ a0).setCell ⟨g, 1, none⟩ a1).setCell ⟨g, 2, none⟩ a2).setCell ⟨g, 3, none⟩ a3).setCell ⟨g, 4, none⟩ a4).heap[g]? = some (.cells #[a0, a1, a2, a3, a4, b5, b6, b7] t (0, 0)) := heap_setCell_same _ g 4 _ t a4 s3
  have s5 : ((((((w.setCell ⟨g, 0, none⟩ a0).setCell ⟨g, 1, none⟩ a1).setCell ⟨g, 2, none⟩ a2).setCell ⟨g, 3, none⟩ a3).setCell ⟨g, 4, none⟩ a4).setCell ⟨g, 5, none⟩ a5).heap[g]? = some (.cells #[a0, a1, a2, a3, a4, a5, b6, b7] t (0, 0)) := heap_setCell_same _ g 5 _ t a5 s4
  have s6 : (((((((w.setCell ⟨g, 0, none⟩ a0).setCell ⟨g, 1, none⟩ a1).setCell ⟨g, 2, none⟩ a2).setCell ⟨g, 3, none⟩ a3).setCell ⟨g, 4, none⟩ a4).setCell ⟨g, 5, none⟩ a5).setCell ⟨g, 6, none⟩ a6).heap[g]? = some (.cells #[a0, a1, a2, a3, a4, a5, a6, b7] t (0, 0)) := heap_setCell_same _ g 6 _ t a6 s5
  have s7 : ((((((((w.setCell ⟨g, 0, none⟩ a0).setCell ⟨g, 1, none⟩ a1).setCell ⟨g, 2, none⟩ a2).setCell ⟨g, 3, none⟩ a3).setCell ⟨g, 4, none⟩ a4).setCell ⟨g, 5, none⟩ a5).setCell ⟨g, 6, none⟩ a6).setCell ⟨g, 7, none⟩ a7).heap[g]? = some (.cells #[a0, a1, a2, a3, a4, a5, a6, a7] t (0, 0)) := heap_setCell_same _ g 7 _ t a7 s6
  have k0 := But.setCell w g 0 a0
  have l0 := fun base w0 (hb : Below base w0 w) (hg : base ≤ g) => hb.setCell (p := ⟨g, 0, none⟩) hg a0
  clear h
  generalize w.setCell ⟨g, 0, none⟩ a0 = v1 at *
  have k1 := k0.trans (But.setCell v1 g 1 a1)
  have l1 := fun base w0 (hb : Below base w0 w) (hg : base ≤ g) => (l0 base w0 hb hg).setCell (p := ⟨g, 1, none⟩) hg a1
  clear k0 l0 s0
  generalize v1.setCell ⟨g, 1, none⟩ a1 = v2 at *
  have k2 := k1.trans (But.setCell v2 g 2 a2)
  have l2 := fun base w0 (hb : Below base w0 w) (hg : base ≤ g) => (l1 base w0 hb hg).setCell (p := ⟨g, 2, none⟩) hg a2
  clear k1 l1 s1
  generalize v2.setCell ⟨g, 2, none⟩ a2 = v3 at *
  have k3 := k2.trans (But.setCell v3 g 3 a3)
  have l3 := fun base w0 (hb : Below base w0 w) (hg : base ≤ g) => (l2 base w0 hb hg).setCell (p := ⟨g, 3, none⟩) hg a3
  clear k2 l2 s2
  generalize v3.setCell ⟨g, 3, none⟩ a3 = v4 at *
  have k4 := k3.trans (But.setCell v4 g 4 a4)
  have l4 := fun base w0 (hb : Below base w0 w) (hg : base ≤ g) => (l3 base w0 hb hg).setCell (p := ⟨g, 4, none⟩) hg a4
  clear k3 l3 s3
  generalize v4.setCell ⟨g, 4, none⟩ a4 = v5 at *
  have k5 := k4.trans (But.setCell v5 g 5 a5)
  have l5 := fun base w0 (hb : Below base w0 w) (hg : base ≤ g) => (l4 base w0 hb hg).setCell (p := ⟨g, 5, none⟩) hg a5
  clear k4 l4 s4
  generalize v5.setCell ⟨g, 5, none⟩ a5 = v6 at *
  have k6 := k5.trans (But.setCell v6 g 6 a6)
  have l6 := fun base w0 (hb : Below base w0 w) (hg : base ≤ g) => (l5 base w0 hb hg).setCell (p := ⟨g, 6, none⟩) hg a6
  clear k5 l5 s5
  generalize v6.setCell ⟨g, 6, none⟩ a6 = v7 at *
  have k7 := k6.trans (But.setCell v7 g 7 a7)
  have l7 := fun base w0 (hb : Below base w0 w) (hg : base ≤ g) => (l6 base w0 hb hg).setCell (p := ⟨g, 7, none⟩) hg a7
  clear k6 l6 s6
  generalize v7.setCell ⟨g, 7, none⟩ a7 = v8 at *
  exact ⟨s7, k7, fun base w0 hb hg => (l7 base w0 hb hg).drew⟩
end Go.Proofs.Ytmlmkkfieeaejaa
