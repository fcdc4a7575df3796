/- The state of a walk in memory; a frame of letters; scopes that jump back to their head. -/
import Derived.Test.YtdchgnmkeefffaaSq2
import Derived.ScopeJumps
set_option maxRecDepth 100000
namespace Go.Proofs.Ytdchgnmkeefffaa
open Go.RowKit
set_option linter.unusedVariables false

theorem wp_label_head {P : Program} {X : Code} {l : Nat} {R : Exit → Act → World → Prop} {a : Act} {w : World} (h : X.wp P R a w) : ((Code.label l).seq X).wp P R a w := wp_seq (wp_label h)
/-- A scope that begins with the label to which it jumps: the first pass is one of them. -/
theorem wp_scope_jumps_from {P : Program} {a : Act} {w : World} {Q : Exit → Act → World → Prop} {X : Code} (l : Nat) (J : Act → World → Prop) (μ : Act → World → Nat) (hJ : J a w)
    (pass : ∀ a w, J a w → X.wp P (Exit.jump l (fun a' w' => J a' w' ∧ μ a' w' < μ a w) Q) a w) : (Code.scope ((Code.label l).seq X)).wp P Q a w :=
  wp_scope_jumps (rest := Code.skip.seq X) l J μ (by simp [findLabel]) (wp_label_head (Code.wp_mono (fun e a' w' h => by
    cases e with
    | goto l' => exact ⟨h.1, h.2.1⟩
    | normal => exact h
    | exit id => exact h
    | ret => exact h
    | panic ch => exact h
    | outgrown => exact h) (pass a w hJ))) fun a w h => wp_seq (wp_skip (pass a w h))
theorem list_range (d : Value) (l : List Value) : l = (List.range l.length).map fun i => l.getD i d := by
  apply List.ext_getElem (by simp)
  intro i h1 h2
  simp [h1]
/-- A frame of so many slots, of which the first four are known. -/
theorem frame107 (A : Array Value) (x0 x1 x2 x3 : Value) (h : A.size = 107) (h0 : A[0]? = some x0) (h1 : A[1]? = some x1) (h2 : A[2]? = some x2) (h3 : A[3]? = some x3) :
    ∃ f : Nat → Value, ({ tmps := A, defers := [] } : Act) = { tmps := (List.toArray (x0 :: x1 :: x2 :: x3 :: f 4 :: f 5 :: f 6 :: f 7 :: f 8 :: f 9 :: f 10 :: f 11 :: f 12 :: f 13 :: f 14 :: f 15 :: f 16 :: f 17 :: f 18 :: f 19 :: f 20 :: f 21 :: f 22 :: f 23 :: f 24 :: f 25 :: f 26 :: f 27 :: f 28 :: f 29 :: f 30 :: f 31 :: f 32 :: f 33 :: f 34 :: f 35 :: f 36 :: f 37 :: f 38 :: f 39 :: f 40 :: f 41 :: f 42 :: f 43 :: f 44 :: f 45 :: f 46 :: f 47 :: f 48 :: f 49 :: f 50 :: f 51 :: f 52 :: f 53 :: f 54 :: f 55 :: f 56 :: f 57 :: f 58 :: f 59 :: f 60 :: f 61 :: f 62 :: f 63 :: f 64 :: f 65 :: f 66 :: f 67 :: f 68 :: f 69 :: f 70 :: f 71 :: f 72 :: f 73 :: f 74 :: f 75 :: f 76 :: f 77 :: f 78 :: f 79 :: f 80 :: f 81 :: f 82 :: f 83 :: f 84 :: f 85 :: f 86 :: f 87 :: f 88 :: f 89 :: f 90 :: f 91 :: f 92 :: f 93 :: f 94 :: f 95 :: f 96 :: f 97 :: f 98 :: f 99 :: f 100 :: f 101 :: f 102 :: f 103 :: f 104 :: f 105 :: f 106 :: [])), defers := [] } := by
  refine ⟨fun i => A.toList.getD i undef, congrArg (fun A => ({ tmps := A, defers := [] } : Act)) (Array.ext' ?_)⟩
  have e := list_range undef A.toList
  have hl : A.toList.length = 107 := by rw [Array.length_toList]; exact h
  have e0 : A.toList.getD 0 undef = x0 := by rw [List.getD_eq_getElem?_getD, Array.getElem?_toList, h0]; rfl
  have e1 : A.toList.getD 1 undef = x1 := by rw [List.getD_eq_getElem?_getD, Array.getElem?_toList, h1]; rfl
  have e2 : A.toList.getD 2 undef = x2 := by rw [List.getD_eq_getElem?_getD, Array.getElem?_toList, h2]; rfl
  have e3 : A.toList.getD 3 undef = x3 := by rw [List.getD_eq_getElem?_getD, Array.getElem?_toList, h3]; rfl
  rw [hl] at e
  subst e0 e1 e2 e3
  exact e
/-- A turn and lanes as a walk holds them. -/
def SqState (p0 p1 q g n cap base : Nat) (S : Nat → Prop) (w : World) (t : Seqr.Tn) (ls : List Lane.Ln) : Prop :=
  w.cell? ⟨p0, 0, none⟩ = some (.pointer (some ⟨q, 0, none⟩)) ∧ w.cell? ⟨p1, 0, none⟩ = some (.slice (some ⟨g, 0, none⟩) n cap) ∧ w.heap[q]? = some (.cells (tc t) 23 (0, 0)) ∧
    ∃ rs, OwnK 5 w base 51 (.slice (some ⟨g, 0, none⟩) n cap) n rs ∧ AreL S w rs ls
def Seqr.Dv.zero : Seqr.Dv := ⟨0, []⟩
/-- What the closure tells. -/
def NextIs (p0 p1 q g n cap base : Nat) (S : Nat → Prop) (w : World) (t : Seqr.Tn) (ls : List Lane.Ln) (e : Ending) (w' : World) : Prop :=
  ∃ (o : Option Seqr.Dv) (v : Value) (t' : Seqr.Tn) (ls' : List Lane.Ln), e = .returned (.tuple #[v, .bool o.isSome]) ∧ Seqr.Goes t ls o.toList t' ls' ∧ (o = none → Seqr.step t' ls' = none) ∧
    SqState p0 p1 q g n cap base S w' t' ls' ∧ Kept2 g q w w' ∧ IsDv (Hi w.heap.size) w' v (o.getD Seqr.Dv.zero)
/-- What holds whenever the closure begins anew. -/
def PassJ (p0 p1 q g n cap base r0 : Nat) (S : Nat → Prop) (w0 : World) (t0 : Seqr.Tn) (ls0 : List Lane.Ln) (k : Nat) (wr : World) : Prop :=
  ∃ t ls, Seqr.mu ls = k ∧ Seqr.Goes t0 ls0 [] t ls ∧ SqState p0 p1 q g n cap base S wr t ls ∧ Kept2 g q w0 wr ∧ wr.heap[r0]? = some (.cells dz 55 (0, 0))
theorem SqState.rdl {p0 p1 q g n cap base : Nat} {S : Nat → Prop} {w : World} {t : Seqr.Tn} {ls : List Lane.Ln} (h : SqState p0 p1 q g n cap base S w t ls) : RdL (fun _ => True) w (some ⟨g, 0, none⟩) n cap ls := by
  obtain ⟨_, _, _, rs, ho, ha⟩ := h
  exact ⟨rs, ho.same, ha.mono fun _ _ => trivial, Within.any _ _⟩


section
variable {p0 p1 q g n cap base : Nat} {S T : Nat → Prop} {w w' : World} {t : Seqr.Tn} {ls : List Lane.Ln}
theorem SqState.len (h : SqState p0 p1 q g n cap base S w t ls) : ls.length = n := h.rdl.size
theorem SqState.below (h : SqState p0 p1 q g n cap base S w t ls) (hb : Below w.heap.size w w') : SqState p0 p1 q g n cap base S w' t ls := by
  obtain ⟨s0, s1, s2, rs, s3, s4⟩ := h
  exact ⟨cellC hb s0, cellC hb s1, keepH s2 hb, rs, s3.later hb, s4.below hb⟩
theorem SqState.mono (h : SqState p0 p1 q g n cap base S w t ls) (hs : ∀ b, S b → T b) : SqState p0 p1 q g n cap base T w t ls := by
  obtain ⟨s0, s1, s2, rs, s3, s4⟩ := h
  exact ⟨s0, s1, s2, rs, s3, s4.mono hs⟩
/-- Another block is turned. -/
theorem SqState.butNe (h : SqState p0 p1 q g n cap base S w t ls) {p : Nat} (hb : But p w w') (hS : ¬ S p) (h0 : p0 ≠ p) (h1 : p1 ≠ p) (hq : q ≠ p) (hg : g ≠ p) : SqState p0 p1 q g n cap base S w' t ls := by
  obtain ⟨s0, s1, s2, rs, s3, s4⟩ := h
  exact ⟨hb.cell h0 s0, hb.cell h1 s1, (hb.2 q hq).trans s2, rs, s3.butNe hb hg, s4.keptS (KeptS.but hb fun b hb e => hS (e ▸ hb))⟩
/-- A lane is put anew. -/
theorem SqState.put (h : SqState p0 p1 q g n cap base S w t ls) (hb : Below w.heap.size w w') {i : Nat} (hi : i < n) {r : Array Value} {l : Lane.Ln} (hl : IsLane S w' (.agg r) l) (h1 : r.size = 5) (h2 : r.all (·.oneCell') = true)
    (hS : ¬ S g) (h0g : p0 ≠ g) (h1g : p1 ≠ g) (hqg : q ≠ g) :
    ∃ wx, (storeCells ⟨g, i * 5, none⟩ r.toList).run Try.prog w' = .ok () wx ∧ SqState p0 p1 q g n cap base S wx t (ls.set i l) ∧ But g w' wx ∧ (∀ base' w0, Below base' w0 w' → base' ≤ g → Below base' w0 wx) := by
  obtain ⟨s0, s1, s2, rs, s3, s4⟩ := h.below hb
  obtain ⟨wx, hr, ho, hbt, hbl⟩ := OwnK.setAt (P := Try.prog) s3 hi r h1 h2
  have hk : KeptS S w' wx := KeptS.but hbt fun b hb e => hS (e ▸ hb)
  exact ⟨wx, hr, ⟨hbt.cell h0g s0, hbt.cell h1g s1, (hbt.2 q hqg).trans s2, _, ho, (s4.keptS hk).set i (hl.keptS hk)⟩, hbt, hbl⟩
/-- The turn is put anew. -/
theorem SqState.turn (h : SqState p0 p1 q g n cap base S w t ls) (t' : Seqr.Tn) (hS : ¬ S q) (h0q : p0 ≠ q) (h1q : p1 ≠ q) (hqg : q ≠ g) (hb : But q w w') (hh : w'.heap[q]? = some (.cells (tc t') 23 (0, 0))) : SqState p0 p1 q g n cap base S w' t' ls := by
  obtain ⟨s0, s1, s2, rs, s3, s4⟩ := h
  exact ⟨hb.cell h0q s0, hb.cell h1q s1, hh, rs, s3.butNe hb (Ne.symm hqg), s4.keptS (KeptS.but hb fun b hb e => hS (e ▸ hb))⟩
end
theorem Kept2.new {g q : Nat} {w w' wx : World} (h : Kept2 g q w w') {p : Nat} (hb : But p w' wx) (hz : ∀ base w0, Below base w0 w' → base ≤ p → Below base w0 wx) (hp : w.heap.size ≤ p) : Kept2 g q w wx :=
  ⟨hz 0 _ h.1 (Nat.zero_le _), fun i hi h1 h2 => (hb.2 i (by omega)).trans (h.2 i hi h1 h2)⟩
/-- What is behind the first one of a row of numbers. -/
theorem RdI.tail {w : World} {b o n c : Nat} {x : Int} {l : List Int} (h : RdI w (some ⟨b, o, none⟩) n c (x :: l)) (Q : Option Addr) (hQ : (if c = 1 then some ⟨b, o, none⟩ else some ⟨b, o + 1, none⟩) = Q) : RdI w Q (n - 1) (c - 1) l := by
  have hs := RdI.size h
  have h1 : 1 ≤ n := by rw [← hs]; simp
  have h2 := RdV.drop h h1
  by_cases hc : c = 1
  · have hnc := h.2.1
    obtain rfl : n = 1 := by omega
    have e : l = [] := List.eq_nil_of_length_eq_zero (by simpa using hs)
    subst e
    rw [if_pos hc] at hQ
    subst hQ
    refine ⟨rfl, by omega, by have := h.2.2.1; omega, (fun h => by cases h), fun h0 => absurd h0 (by omega)⟩
  · rw [if_neg hc] at hQ
    subst hQ
    exact h2
theorem set2x {w : World} {g : Nat} {b0 b1 : Value} {t : TypeId} (h : w.heap[g]? = some (.cells #[b0, b1] t (0, 0))) (a0 a1 : Value) :
    ((w.setCell ⟨g, 0, none⟩ a0).setCell ⟨g, 1, none⟩ a1).heap[g]? = some (.cells #[a0, a1] t (0, 0)) ∧ But g w ((w.setCell ⟨g, 0, none⟩ a0).setCell ⟨g, 1, none⟩ a1) ∧ (∀ base w0, Below base w0 w → base ≤ g → Below base w0 ((w.setCell ⟨g, 0, none⟩ a0).setCell ⟨g, 1, none⟩ a1)) :=
  ⟨set2 h a0 a1, (But.setCell w g 0 a0).trans (But.setCell _ g 1 a1), fun base w0 hb hg => (hb.setCell (p := ⟨g, 0, none⟩) hg a0).setCell (p := ⟨g, 1, none⟩) hg a1⟩
theorem set1x {w : World} {g : Nat} {b0 b1 : Value} {t : TypeId} (h : w.heap[g]? = some (.cells #[b0, b1] t (0, 0))) (a1 : Value) :
    (w.setCell ⟨g, 1, none⟩ a1).heap[g]? = some (.cells #[b0, a1] t (0, 0)) ∧ But g w (w.setCell ⟨g, 1, none⟩ a1) ∧ (∀ base w0, Below base w0 w → base ≤ g → Below base w0 (w.setCell ⟨g, 1, none⟩ a1)) :=
  ⟨heap_setCell_same w g 1 _ t a1 h, But.setCell w g 1 a1, fun base w0 hb hg => hb.setCell (p := ⟨g, 1, none⟩) hg a1⟩
theorem Seqr.Goes.snoc {t t1 t2 : Seqr.Tn} {ls ls1 ls2 : List Lane.Ln} {d : List Seqr.Dv} {o : Option Seqr.Dv} (h : Seqr.Goes t ls d t1 ls1) (hs : Seqr.step t1 ls1 = some (t2, ls2, o)) : Seqr.Goes t ls (d ++ o.toList) t2 ls2 := h.trans (.one hs)
end Go.Proofs.Ytdchgnmkeefffaa
