/- Rows of structs of the call's own: one cell put anew; what stays. -/
import Derived.Test.YtdchgnmkeefffaaSqMem
import Derived.Test.YtdchgnmkeefffaaLSX
set_option maxRecDepth 100000
namespace Go.Proofs.Ytdchgnmkeefffaa
open Go.RowKit
set_option linter.unusedVariables false

theorem RdE.ltS' {S : Nat → Prop} {w : World} {A : Option Addr} {n c : Nat} {xs : List Lane.En} (h : RdE S w A n c xs) : RdE (fun b => S b ∧ b < w.heap.size) w A n c xs := by
  obtain ⟨rs, h1, h2, h3⟩ := h
  refine ⟨rs, h1, h2.lt, fun h0 b o e => ⟨h3 h0 b o e, ?_⟩⟩
  obtain ⟨b', o', r, hA, _, hsz, hc⟩ := h1.at_ h0
  rw [e] at hA
  injection hA with hA
  injection hA with e1 e2
  subst e1
  exact World.block_lt_of_cell? w _ (hc 0 _ (Array.getElem?_eq_getElem (show 0 < r.size by omega)))
/-- What a lane reads lies where it lay, and was made before. -/
theorem IsLane.ltS' {S : Nat → Prop} {w : World} {v : Value} {l : Lane.Ln} (h : IsLane S w v l) : IsLane (fun b => S b ∧ b < w.heap.size) w v l := by
  obtain ⟨A, n, c, B, m, d, rfl, h1, h2, h3⟩ := h
  exact ⟨A, n, c, B, m, d, rfl, h1.ltS', h2, h3.and h2.lt⟩
theorem AreL.ltS {S : Nat → Prop} {w : World} {rs : List (Array Value)} {xs : List Lane.Ln} (h : AreL S w rs xs) : AreL (fun b => S b ∧ b < w.heap.size) w rs xs := ⟨h.1, fun i r x h1 h2 => (h.2 i r x h1 h2).ltS'⟩
theorem IsDv.lt {S : Nat → Prop} {w : World} {v : Value} {x : Seqr.Dv} (h : IsDv S w v x) : IsDv (fun b => S b ∧ b < w.heap.size) w v x := by
  obtain ⟨BA, bn, bc, rfl, h1, h2⟩ := h
  exact ⟨BA, bn, bc, rfl, h1, h2.and h1.lt⟩
theorem AreD.ltS {S : Nat → Prop} {w : World} {rs : List (Array Value)} {xs : List Seqr.Dv} (h : AreD S w rs xs) : AreD (fun b => S b ∧ b < w.heap.size) w rs xs := ⟨h.1, fun i r x h1 h2 => (h.2 i r x h1 h2).lt⟩
theorem cellC {w w' : World} (hb : Below w.heap.size w w') {p : Addr} {u : Value} (h : w.cell? p = some u) : w'.cell? p = some u := (hb.cell (World.block_lt_of_cell? w _ h)).trans h
/-- All blocks of before but one stay. -/
def KeptBut (g : Nat) (w w' : World) : Prop := w.heap.size ≤ w'.heap.size ∧ ∀ b, b < w.heap.size → b ≠ g → w'.heap[b]? = w.heap[b]?
theorem KeptBut.refl (g : Nat) (w : World) : KeptBut g w w := ⟨Nat.le_refl _, fun _ _ _ => rfl⟩
theorem KeptBut.drew {g : Nat} {w w' : World} (h : KeptBut g w w') : KeptBut g w w'.drew := h
theorem KeptBut.of {g : Nat} {w w' : World} (h : Below w.heap.size w w') : KeptBut g w w' := ⟨h.size, fun b hb _ => h.block b hb⟩
theorem KeptBut.set {g : Nat} {w w' : World} (h : KeptBut g w w') (i : Nat) (v : Value) : KeptBut g w (w'.setCell ⟨g, i, none⟩ v) :=
  ⟨Nat.le_trans h.1 (by simp [World.setCell]), fun b hb hg => (heap_setCell_other w' ⟨g, i, none⟩ b v hg).trans (h.2 b hb hg)⟩
theorem cellS3 {w : World} {g i : Nat} {v u : Value} (h : w.cell? ⟨g, i + 3, none⟩ = some u) : (w.setCell ⟨g, i + 2, none⟩ v).cell? ⟨g, i + 3, none⟩ = some u := by
  exact (World.cell?_setCell_other w ⟨g, i + 2, none⟩ ⟨g, i + 3, none⟩ v (by intro e; injection e with e1 e2; omega)).trans h
theorem KeptBut.cell {g : Nat} {w w' : World} (h : KeptBut g w w') {p : Addr} (hp : p.block ≠ g) {u : Value} (hu : w.cell? p = some u) : w'.cell? p = some u := by
  have e : w'.heap[p.block]? = w.heap[p.block]? := h.2 _ (World.block_lt_of_cell? w _ hu) hp
  rw [cell_congr e]; exact hu
/-- Cells of blocks from below a place stay while all below it does. -/
theorem KeptS.low {S : Nat → Prop} {B : Nat} {w w' : World} (hb : Below B w w') (hs : ∀ b, S b → b < B) : KeptS S w w' := fun b o u hS hu => by
  have e : w'.cell? ⟨b, o, none⟩ = w.cell? ⟨b, o, none⟩ := by simp only [World.cell?, hb.block b (hs b hS)]
  rw [e]; exact hu
/-- A row stays while all below a place stays, that it lies below. -/
theorem OwnK.low {k : Nat} {w w' : World} {base g n cap B : Nat} {e : TypeId} {us : List (Array Value)} (h : OwnK k w base e (.slice (some ⟨g, 0, none⟩) n cap) n us) (hb : Below B w w') (hg : g < B) : OwnK k w' base e (.slice (some ⟨g, 0, none⟩) n cap) n us := by
  obtain ⟨h0, hl, h⟩ := h
  refine ⟨h0, hl, h.1, ?_⟩
  rcases h.2 with h2 | ⟨q, cap', cur, hv, hq, hh, r⟩
  · exact .inl h2
  · refine .inr ⟨q, cap', cur, hv, hq, ?_, r⟩
    injection hv with hv
    injection hv with hv
    injection hv with hv
    subst hv
    rw [hb.block g hg]
    exact hh
/-- A row stays while another block is turned. -/
theorem OwnK.butNe {k : Nat} {w w' : World} {base g n cap p : Nat} {e : TypeId} {us : List (Array Value)} (h : OwnK k w base e (.slice (some ⟨g, 0, none⟩) n cap) n us) (hb : But p w w') (hg : g ≠ p) : OwnK k w' base e (.slice (some ⟨g, 0, none⟩) n cap) n us := by
  obtain ⟨h0, hl, h⟩ := h
  refine ⟨h0, hl, h.1, ?_⟩
  rcases h.2 with h2 | ⟨q, cap', cur, hv, hq, hh, r⟩
  · exact .inl h2
  · refine .inr ⟨q, cap', cur, hv, hq, ?_, r⟩
    injection hv with hv
    injection hv with hv
    injection hv with hv
    subst hv
    exact (hb.2 g hg).trans hh
theorem flat_setCell {k : Nat} {us : List (Array Value)} (h : AllK k us) {j : Nat} {r : Array Value} (hr : us[j]? = some r) {f : Nat} (hf : f < k) (v : Value) : (flat us).set (j * k + f) v = flat (us.set j (r.setIfInBounds f v)) := by
  have hj : j < us.length := (List.getElem?_eq_some_iff.1 hr).1
  have hrk : r.toList.length = k := by rw [Array.length_toList]; exact (h r (List.mem_of_getElem? hr)).1
  have hjk : j * k + k ≤ (flat us).length := by rw [flat_length h, ← Nat.succ_mul]; exact Nat.mul_le_mul_right k hj
  have e0 : us.set j r = us := by
    apply List.ext_getElem?
    intro i
    rw [List.getElem?_set]
    split
    · rename_i hi
      subst hi
      first | rw [if_pos hj, hr] | rw [hr]
    · rfl
  have e := flat_set (r := r) h hj
  rw [e0] at e
  rw [flat_set h hj]
  conv => lhs; rw [e]
  have hl : ((flat us).take (j * k)).length = j * k := by rw [List.length_take]; omega
  rw [List.append_assoc, List.set_append_right _ _ (by rw [hl]; omega), hl, show j * k + f - j * k = f by omega, List.set_append_left _ _ (by rw [hrk]; exact hf), ← List.append_assoc, Array.toList_setIfInBounds]
/-- One cell of a struct of an own row is put anew. -/
theorem OwnK.cellAt {k : Nat} {w : World} {base g n cap : Nat} {e : TypeId} {us : List (Array Value)} (h : OwnK k w base e (.slice (some ⟨g, 0, none⟩) n cap) n us) {j : Nat} {r : Array Value} (hr : us[j]? = some r) {f : Nat} (hf : f < k) (v : Value) (hv : v.oneCell' = true) :
    OwnK k (w.setCell ⟨g, j * k + f, none⟩ v) base e (.slice (some ⟨g, 0, none⟩) n cap) n (us.set j (r.setIfInBounds f v)) := by
  obtain ⟨h0, hl, ho⟩ := h
  have hj : j < us.length := (List.getElem?_eq_some_iff.1 hr).1
  have hr0 := h0 r (List.mem_of_getElem? hr)
  refine ⟨h0.set j (by rw [Array.size_setIfInBounds]; exact hr0.1) ?_, by rw [List.length_set]; exact hl, ?_⟩
  · rw [Array.all_eq_true_iff_forall_mem]
    intro u hu
    obtain ⟨i, hi⟩ := Array.getElem?_of_mem hu
    rw [Array.getElem?_setIfInBounds] at hi
    split at hi
    · split at hi
      · injection hi with hi; subst hi; exact hv
      · cases hi
    · exact (Array.all_eq_true_iff_forall_mem.1 hr0.2) u (Array.mem_of_getElem? hi)
  · rw [← flat_setCell h0 hr hf v]
    exact (World.ownsRow.stored ho (j * k + f) v).1
theorem OwnK.frozen {k : Nat} {w : World} {base g n cap : Nat} {e : TypeId} {us : List (Array Value)} (h : OwnK k w base e (.slice (some ⟨g, 0, none⟩) n cap) n us) (i : Nat) : w.frozen? ⟨g, i, none⟩ = false := World.ownsRow.frozenAt h.2.2 i
end Go.Proofs.Ytdchgnmkeefffaa
