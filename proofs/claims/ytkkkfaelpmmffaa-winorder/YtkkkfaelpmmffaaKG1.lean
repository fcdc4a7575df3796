/- Rows of items in memory, fresh ones, allocs. -/
import Derived.Test.YtkkkfaelpmmffaaKeepMem
import Derived.Test.YtkkkfaelpmmffaaStruct
import Derived.Test.YtkkkfaelpmmffaaItem6
import Derived.Deep.RegionHeldLaw
import Derived.Deep.RegionLaw
set_option maxRecDepth 100000
namespace Go.Proofs.Ytkkkfaelpmmffaa
open Go.RowKit
set_option linter.unusedVariables false

theorem info3 : (Try.prog.info? 3).map (fun i => (i.zero, i.size, i.bytes)) = some (some (.int .i64 0), 1, 8) := by kernel_rfl
theorem cloneI_any (A : Option Addr) (n c : Nat) (l : List Int) (w : World) (h : RdI w A n c l) (hn : n ≤ 65536) :
    Calls Try.prog 43 #[.slice A n c] w (fun e w' => ∃ B d, e = .returned (.slice B n d) ∧ OwnV w' w.heap.size 3 (.slice B n d) n (is l) ∧ Below w.heap.size w w') := by
  have hq := fun w => Lib.run_eql_slice_nil (P := Try.prog) w 25 3 A n c 0 0 Try.underlying25
  cases A with
  | none =>
    obtain ⟨rfl, rfl, hl⟩ := h.nilA
    go_enter Try.func43, Try.ntmps43
    go_wp2
    go_ret
    rw [hl]
    exact ⟨none, 0, rfl, World.ownsRow_nil _ _ _ _, Below.refl _ _⟩
  | some ad =>
    go_enter Try.func43, Try.ntmps43
    go_wp2_with (
      at_builtin
      refine wpList_appV rfl (.tmp 5) (.tmp 6) 25 rfl w.heap.size 3 (.int .i64 0) 8 info3 rfl (by omega) Try.underlying25 (.slice (some ⟨w.heap.size, 0, none⟩) 0 0) 0 [] rfl ?own (some ad) n c (is l) rfl ?rd (is_one _) ?h63 ?hb ?_
      case own => exact World.ownsRow_made (base := w.heap.size) (e := 3) (size := 1) w #[] 0 (Nat.le_refl _) (Nat.zero_le _) rfl
      case rd => exact h.alloc _
      case h63 => omega
      case hb => simp
      intro v1 w1 hown hb hg)
    go_ret
    rw [Nat.zero_add, List.nil_append] at hown
    obtain ⟨B, d, rfl, _⟩ := OwnV.rd hown
    exact ⟨B, d, rfl, hown, ((Below.refl _ _).alloc (Nat.le_refl _) _).trans hb⟩
theorem nkeep (w : World) (o : Obj) : Below w.heap.size w (w.alloc o) := (Below.refl _ _).alloc (Nat.le_refl _) _
theorem no_frozen {w : World} {g : Nat} {cs : Array Value} {t : TypeId} (h : w.heap[g]? = some (.cells cs t (0, 0))) (i : Nat) : w.frozen? ⟨g, i, none⟩ = false := by simp [World.frozen?, h]
theorem blk_lt {w : World} {g : Nat} {o : Obj} (h : w.heap[g]? = some o) : g < w.heap.size := by
  rcases Nat.lt_or_ge g w.heap.size with hlt | hge
  · exact hlt
  · rw [Array.getElem?_eq_none hge] at h; cases h
theorem keepH {w w' : World} {g : Nat} {o : Obj} (h : w.heap[g]? = some o) (hb : Below w.heap.size w w') : w'.heap[g]? = some o := (hb.block _ (blk_lt h)).trans h
abbrev zcells : Array Value := #[.int .i64 0, .int .i64 0, .int .i64 0, .int .i64 0, .int .i64 0, .int .i64 0, .slice none 0 0, .slice none 0 0]
theorem cells8 {w : World} {g : Nat} {a0 a1 a2 a3 a4 a5 a6 a7 : Value} {t : TypeId} (h : w.heap[g]? = some (.cells #[a0, a1, a2, a3, a4, a5, a6, a7] t (0, 0))) :
    w.cell? ⟨g, 0, none⟩ = some a0 ∧ w.cell? ⟨g, 1, none⟩ = some a1 ∧ w.cell? ⟨g, 2, none⟩ = some a2 ∧ w.cell? ⟨g, 3, none⟩ = some a3 ∧ w.cell? ⟨g, 4, none⟩ = some a4 ∧ w.cell? ⟨g, 5, none⟩ = some a5 ∧ w.cell? ⟨g, 6, none⟩ = some a6 ∧ w.cell? ⟨g, 7, none⟩ = some a7 :=
  ⟨cell_at h 0 rfl, cell_at h 1 rfl, cell_at h 2 rfl, cell_at h 3 rfl, cell_at h 4 rfl, cell_at h 5 rfl, cell_at h 6 rfl, cell_at h 7 rfl⟩
theorem cells2 {w : World} {g : Nat} {a0 a1 : Value} {t : TypeId} (h : w.heap[g]? = some (.cells #[a0, a1] t (0, 0))) : w.cell? ⟨g, 0, none⟩ = some a0 ∧ w.cell? ⟨g, 1, none⟩ = some a1 := ⟨cell_at h 0 rfl, cell_at h 1 rfl⟩

/-- An item whose lists lie in blocks from a place on. -/
def FrI (w : World) (lo : Nat) (v : Value) (x : Item.It) : Prop :=
  ∃ LA ln lc BA bn bc, v = .agg #[.int .i64 x.k, .int .i64 x.q, .int .i64 x.e, .int .i64 x.i, .int .i64 x.t, .int .i64 x.c, .slice LA ln lc, .slice BA bn bc] ∧ RdI w LA ln lc x.l ∧ Rd w BA bn bc x.b ∧
    (∀ b o, LA = some ⟨b, o, none⟩ → lo ≤ b) ∧ (∀ b o, BA = some ⟨b, o, none⟩ → lo ≤ b)
section
variable {w w' : World} {lo g : Nat} {v : Value} {x : Item.It}
theorem FrI.is (h : FrI w lo v x) : IsItem w v x := by
  obtain ⟨LA, ln, lc, BA, bn, bc, rfl, h1, h2, _, _⟩ := h
  exact ⟨LA, ln, lc, BA, bn, bc, rfl, h1, h2⟩
theorem FrI.below (h : FrI w lo v x) (hb : Below w.heap.size w w') : FrI w' lo v x := by
  obtain ⟨LA, ln, lc, BA, bn, bc, rfl, h1, h2, h3, h4⟩ := h
  exact ⟨LA, ln, lc, BA, bn, bc, rfl, RdV.below h1 hb, h2.below hb, h3, h4⟩
theorem FrI.mono {lo' : Nat} (h : FrI w lo v x) (hl : lo' ≤ lo) : FrI w lo' v x := by
  obtain ⟨LA, ln, lc, BA, bn, bc, rfl, h1, h2, h3, h4⟩ := h
  exact ⟨LA, ln, lc, BA, bn, bc, rfl, h1, h2, fun b o e => Nat.le_trans hl (h3 b o e), fun b o e => Nat.le_trans hl (h4 b o e)⟩
theorem FrI.but (h : FrI w lo v x) (hg : g < lo) (hb : But g w w') : FrI w' lo v x := by
  obtain ⟨LA, ln, lc, BA, bn, bc, rfl, h1, h2, h3, h4⟩ := h
  exact ⟨LA, ln, lc, BA, bn, bc, rfl, RdV.but h1 (fun b o e => by have := h3 b o e; omega) hb, h2.but (fun b o e => by have := h4 b o e; omega) hb, h3, h4⟩
theorem RdV.grown {A : Option Addr} {n c : Nat} {l : List Value} {row : Option Nat} (h : RdV w A n c l) (hg : w.grownBy w' row) (hr : ∀ b o, A = some ⟨b, o, none⟩ → row ≠ some b) : RdV w' A n c l := by
  obtain ⟨h1, h2, h3, h4, h5⟩ := h
  refine ⟨h1, h2, h3, h4, fun h0 => ?_⟩
  obtain ⟨b, o, hA, hc⟩ := h5 h0
  exact ⟨b, o, hA, fun i x hx => hg.cell (hc i x hx) (fun e => hr b o hA e.symm)⟩
theorem FrI.grown {row : Option Nat} (h : FrI w lo v x) (hg : w.grownBy w' row) (hr : ∀ b, row = some b → b < lo) : FrI w' lo v x := by
  obtain ⟨LA, ln, lc, BA, bn, bc, rfl, h1, h2, h3, h4⟩ := h
  refine ⟨LA, ln, lc, BA, bn, bc, rfl, RdV.grown h1 hg (fun b o e e2 => ?_), RdV.bytes (RdV.grown (Rd.v h2) hg (fun b o e e2 => ?_)), h3, h4⟩
  · have := h3 b o e; have := hr b e2; omega
  · have := h4 b o e; have := hr b e2; omega
end
def OwnIs (w : World) (x : Item.It) (e : Ending) (w' : World) : Prop := ∃ v, e = .returned v ∧ FrI w' w.heap.size v x ∧ Below w.heap.size w w'
theorem flat_set {k : Nat} {us : List (Array Value)} {r : Array Value} (h : AllK k us) {j : Nat} (hj : j < us.length) : flat (us.set j r) = (flat us).take (j * k) ++ r.toList ++ (flat us).drop (j * k + k) := by
  rw [List.set_eq_take_append_cons_drop, if_pos hj, flat_append, flat_cons, flat_take h, flat_drop h, Nat.succ_mul, List.append_assoc]
theorem AllK.set {k : Nat} {us : List (Array Value)} {r : Array Value} (h : AllK k us) (j : Nat) (h1 : r.size = k) (h2 : r.all (·.oneCell') = true) : AllK k (us.set j r) := fun q hq => by
  rcases List.mem_or_eq_of_mem_set hq with hq | rfl
  · exact h q hq
  · exact ⟨h1, h2⟩
theorem run_storeCells_off {P : Program} (g off : Nat) (t : TypeId) : ∀ (vs : List Value) (i : Nat) (cur : Array Value) (w : World), w.heap[g]? = some (.cells cur t (0, 0)) → off + i + vs.length ≤ cur.size → (∀ v ∈ vs, v.oneCell' = true) →
    (storeCells ⟨g, off, none⟩ vs i).run P w = .ok () (w.setRow g (cur.toList.take (off + i) ++ vs ++ cur.toList.drop (off + i + vs.length)).toArray)
  | [], i, cur, w, hg, hl, _ => by
    have hlt : g < w.heap.size := (Array.getElem?_eq_some_iff.1 hg).1
    have hv : w.heap[g] = .cells cur t (0, 0) := (Array.getElem?_eq_some_iff.1 hg).2
    simp only [storeCells, List.append_nil, List.length_nil, Nat.add_zero, List.take_append_drop, Array.toArray_toList]
    show Result.ok () w = _
    congr 1
    unfold World.setRow
    cases w with
    | mk heap tape drawn os output =>
      congr 1
      apply Array.ext
      · simp
      · intro k h1 h2
        simp only [Array.getElem_modify]
        split
        · rename_i hk; subst hk; simp at hv; simp [hv]
        · rfl
  | v :: rest, i, cur, w, hg, hl, h1 => by
    have hi : off + i < cur.size := by simp at hl; omega
    have hcell : w.cell? ⟨g, off + i, none⟩ = some cur[off + i] := by simp [World.cell?, hg, hi]
    have hfro : w.frozen? ⟨g, off + i, none⟩ = false := by simp [World.frozen?, hg]
    have hst : (store ((⟨g, off, none⟩ : Addr).add i) v).run P w = .ok () (w.setRow g (cur.setIfInBounds (off + i) v)) := by
      rw [add_eq, run_store P w _ v _ (h1 v (by simp)), hcell]
      simp [hfro, setCell_eq_setRow w g (off + i) cur t (0, 0) v hg]
    have ih := run_storeCells_off (P := P) g off t rest (i + 1) (cur.setIfInBounds (off + i) v) (w.setRow g (cur.setIfInBounds (off + i) v)) (setRow_heap w g cur _ t _ hg) (by simp at hl ⊢; omega) (fun x hx => h1 x (by simp [hx]))
    simp only [storeCells, Sem.run_bind, hst, Result.andThen_ok, ih, setRow_setRow]
    congr 3
    simp only [Array.toList_setIfInBounds]
    have hg1 : (cur.toList.set (off + i) v)[off + i]? = some v := by rw [List.getElem?_set_self (by simpa using hi)]
    rw [show off + (i + 1) = off + i + 1 from by omega, List.take_add_one, List.take_set_of_le (Nat.le_refl _), hg1, List.drop_set_of_lt (by omega), List.length_cons, show off + i + (rest.length + 1) = off + i + 1 + rest.length from by omega]
    simp
theorem take3 (X R Y : List Value) (N : Nat) (h : X.length + R.length ≤ N) : (X ++ R ++ Y).take N = X ++ R ++ Y.take (N - (X.length + R.length)) := by
  rw [List.take_append, List.take_of_length_le (by rw [List.length_append]; exact h), List.length_append]
/-- A struct of a row of the call's own is put anew. -/
theorem OwnK.setAt {P : Program} {k : Nat} {w : World} {base g n cap : Nat} {e : TypeId} {us : List (Array Value)} (h : OwnK k w base e (.slice (some ⟨g, 0, none⟩) n cap) n us) {j : Nat} (hj : j < n) (r : Array Value) (h1 : r.size = k) (h2 : r.all (·.oneCell') = true) :
    ∃ w', (storeCells ⟨g, j * k, none⟩ r.toList).run P w = .ok () w' ∧ OwnK k w' base e (.slice (some ⟨g, 0, none⟩) n cap) n (us.set j r) ∧ But g w w' ∧ (∀ base' w0, Below base' w0 w → base' ≤ g → Below base' w0 w') := by
  obtain ⟨ha, hl, hlen, ho⟩ := h
  rcases ho with ⟨h0, _⟩ | ⟨g', cap', cur, hv, hb, hh, hn, hm, hs, ht⟩
  · cases h0
  injection hv with hv1 hv2 hv3
  injection hv1 with hv1
  injection hv1 with hv1
  subst hv1
  subst hv3
  have hnk : n * k ≤ cap * k := Nat.mul_le_mul_right k hn
  have hjk : j * k + k ≤ n * k := by rw [← Nat.succ_mul]; exact Nat.mul_le_mul_right k hj
  have hcl : cur.toList.length = cap * k := by rw [Array.length_toList]; exact hs
  have hrl : r.toList.length = k := by rw [Array.length_toList]; exact h1
  have hrun := run_storeCells_off (P := P) g (j * k) e r.toList 0 cur w hh (by rw [hrl, hs]; omega) (fun v hv => (Array.all_eq_true_iff_forall_mem.1 h2) v (by simpa using hv))
  rw [Nat.add_zero, hrl] at hrun
  refine ⟨_, hrun, ⟨ha.set j h1 h2, by rw [List.length_set]; exact hl, by rw [flat_length (ha.set j h1 h2), List.length_set, hl], .inr ⟨g, cap, _, rfl, hb, row_setRow w g _ cur e (0, 0) hh, hn, hm, ?_, ?_⟩⟩, But.setRow w g _, fun base' w0 hb' hbg => below_setRow hb' hbg _⟩
  · rw [List.size_toArray, List.length_append, List.length_append, List.length_take, List.length_drop, hrl, hcl]
    omega
  · rw [flat_set ha (by omega), ← ht, List.take_take, Nat.min_eq_left (by omega), List.drop_take, take3 _ _ _ _ (by rw [List.length_take, hcl, hrl]; omega), List.length_take, hcl, hrl, Nat.min_eq_left (by omega)]
theorem OwnK.but {k : Nat} {w w' : World} {base n g : Nat} {e : TypeId} {v : Value} {us : List (Array Value)} (h : OwnK k w base e v n us) (hg : g < base) (hb : But g w w') : OwnK k w' base e v n us := by
  obtain ⟨h0, hl, h⟩ := h
  refine ⟨h0, hl, h.1, ?_⟩
  rcases h.2 with h2 | ⟨q, cap, cur, hv, hq, hh, r⟩
  · exact .inl h2
  · exact .inr ⟨q, cap, cur, hv, hq, (hb.2 q (by omega)).trans hh, r⟩
theorem OwnK.form {k : Nat} {w : World} {base n c : Nat} {e : TypeId} {A : Option Addr} {us : List (Array Value)} (h : OwnK k w base e (.slice A n c) n us) (h0 : 0 < n) : ∃ g, A = some ⟨g, 0, none⟩ ∧ base ≤ g ∧ g < w.heap.size := by
  have hlt := World.ownsRow.lt h.2.2
  rcases h.2.2.2 with ⟨_, h2⟩ | ⟨g, cap, cur, hv, hb, hh, _⟩
  · omega
  · injection hv with hv
    subst hv
    exact ⟨g, rfl, hb, blk_lt hh⟩
theorem OwnK.addr {k : Nat} {w : World} {base n c : Nat} {e : TypeId} {A : Option Addr} {us : List (Array Value)} (h : OwnK k w base e (.slice A n c) n us) : ∀ b o, A = some ⟨b, o, none⟩ → base ≤ b ∧ b < w.heap.size := fun b o hA => World.ownsRow.lt h.2.2 b (by rw [hA]; rfl)
theorem OwnK.same {k : Nat} {w : World} {base n c : Nat} {e : TypeId} {A : Option Addr} {us : List (Array Value)} (h : OwnK k w base e (.slice A n c) n us) : RdK k w A n c us := by
  obtain ⟨A', c', e, hr⟩ := OwnK.rd h
  injection e with e1 e2 e3
  subst e1; subst e3
  exact hr

/-- Structs that are items with lists in blocks from a place on. -/
def AreF (w : World) (lo : Nat) (us : List (Array Value)) (xs : List Item.It) : Prop := us.length = xs.length ∧ ∀ (i : Nat) (r : Array Value) (x : Item.It), us[i]? = some r → xs[i]? = some x → FrI w lo (.agg r) x
theorem AreF.are {w : World} {lo : Nat} {us : List (Array Value)} {xs : List Item.It} (h : AreF w lo us xs) : AreI w us xs := ⟨h.1, fun i r x h1 h2 => (h.2 i r x h1 h2).is⟩
theorem AreF.below {w w' : World} {lo : Nat} {us : List (Array Value)} {xs : List Item.It} (h : AreF w lo us xs) (hb : Below w.heap.size w w') : AreF w' lo us xs := ⟨h.1, fun i r x h1 h2 => (h.2 i r x h1 h2).below hb⟩
theorem AreF.grown {w w' : World} {lo : Nat} {us : List (Array Value)} {xs : List Item.It} {row : Option Nat} (h : AreF w lo us xs) (hg : w.grownBy w' row) (hr : ∀ b, row = some b → b < lo) : AreF w' lo us xs := ⟨h.1, fun i r x h1 h2 => (h.2 i r x h1 h2).grown hg hr⟩
theorem AreF.but {w w' : World} {lo g : Nat} {us : List (Array Value)} {xs : List Item.It} (h : AreF w lo us xs) (hg : g < lo) (hb : But g w w') : AreF w' lo us xs := ⟨h.1, fun i r x h1 h2 => (h.2 i r x h1 h2).but hg hb⟩
theorem AreF.mono {w : World} {lo lo' : Nat} {us : List (Array Value)} {xs : List Item.It} (h : AreF w lo us xs) (hl : lo' ≤ lo) : AreF w lo' us xs := ⟨h.1, fun i r x h1 h2 => (h.2 i r x h1 h2).mono hl⟩
theorem AreF.app {w : World} {lo : Nat} {us vs : List (Array Value)} {xs ys : List Item.It} (h : AreF w lo us xs) (h2 : AreF w lo vs ys) : AreF w lo (us ++ vs) (xs ++ ys) := by
  refine ⟨by simp [h.1, h2.1], fun i t x h3 h4 => ?_⟩
  by_cases hi : i < us.length
  · rw [List.getElem?_append_left hi] at h3
    rw [List.getElem?_append_left (by rw [← h.1]; exact hi)] at h4
    exact h.2 i t x h3 h4
  · rw [List.getElem?_append_right (by omega)] at h3
    rw [List.getElem?_append_right (by rw [← h.1]; omega), ← h.1] at h4
    exact h2.2 _ t x h3 h4
theorem FrI.cells {w : World} {lo : Nat} {v : Value} {x : Item.It} (h : FrI w lo v x) : ∃ r : Array Value, v = .agg r ∧ r.size = 8 ∧ r.all (·.oneCell') = true := h.is.cells
/-- So many items are copied, the others as they were. -/
def HalfF (w0 w : World) (lo j : Nat) (us rs : List (Array Value)) (xs : List Item.It) : Prop := (∀ i, j ≤ i → us[i]? = rs[i]?) ∧ us.length = xs.length ∧ ∀ (i : Nat) (r : Array Value) (x : Item.It), i < j → us[i]? = some r → xs[i]? = some x → FrI w lo (.agg r) x
theorem HalfF.all {w0 w : World} {lo n : Nat} {us rs : List (Array Value)} {xs : List Item.It} (h : HalfF w0 w lo n us rs xs) (hn : us.length = n) : AreF w lo us xs := ⟨h.2.1, fun i r x h1 h2 => h.2.2 i r x (by
  rcases Nat.lt_or_ge i us.length with h | h
  · omega
  · rw [List.getElem?_eq_none h] at h1; cases h1) h1 h2⟩
theorem HalfF.next {w0 w w' : World} {lo j : Nat} {us rs : List (Array Value)} {xs : List Item.It} {r : Array Value} {x : Item.It} (h : HalfF w0 w lo j us rs xs) (hk : ∀ v y, FrI w lo v y → FrI w' lo v y) (hx : xs[j]? = some x) (hr : FrI w' lo (.agg r) x) : HalfF w0 w' lo (j + 1) (us.set j r) rs xs := by
  obtain ⟨h1, h2, h3⟩ := h
  refine ⟨fun i hi => ?_, by rw [List.length_set]; exact h2, fun i q y hi hq hy => ?_⟩
  · rw [List.getElem?_set_ne (by omega)]
    exact h1 i (by omega)
  · by_cases hij : j = i
    · subst hij
      have hlt : j < us.length := by
        rcases Nat.lt_or_ge j us.length with h | h
        · exact h
        · rw [List.getElem?_eq_none (by rw [List.length_set]; exact h)] at hq; cases hq
      rw [List.getElem?_set_self hlt] at hq
      injection hq with hq
      subst hq
      rw [hx] at hy
      injection hy with hy
      subst hy
      exact hr
    · rw [List.getElem?_set_ne hij] at hq
      exact hk _ _ (h3 i q y (by omega) hq hy)
/-- A stream that is the call's own. -/
def FreshK (w : World) (k : Keep.Kp) (e : Ending) (w' : World) : Prop :=
  ∃ A n c us lo, e = .returned (.agg #[.int .i64 k.next, .slice A n c]) ∧ OwnK 8 w' w.heap.size 28 (.slice A n c) n us ∧ AreF w' lo us k.l ∧ (∀ b o, A = some ⟨b, o, none⟩ → b < lo) ∧ lo ≤ w'.heap.size ∧ w.heap.size ≤ lo ∧ Below w.heap.size w w'
def SmallL (xs : List Item.It) : Prop := xs.length ≤ 65536 ∧ ∀ x ∈ xs, x.l.length ≤ 65536 ∧ x.b.length ≤ 65536
abbrev kz : Array Value := #[.int .i64 0, .slice none 0 0]
/-- One item of a row, cell by cell. -/
theorem RdX.told {w : World} {A : Option Addr} {n c : Nat} {xs : List Item.It} (h : RdX w A n c xs) {i : Nat} (hi : i < n) : ∃ b o x LA ln lc BA bn bc, A = some ⟨b, o, none⟩ ∧ xs[i]? = some x ∧
    IsItem w (.agg #[.int .i64 x.k, .int .i64 x.q, .int .i64 x.e, .int .i64 x.i, .int .i64 x.t, .int .i64 x.c, .slice LA ln lc, .slice BA bn bc]) x ∧ ∀ wr, Below w.heap.size w wr → (wr.cell? ⟨b, o + i * 8, none⟩ = some (.int .i64 x.k) ∧ wr.cell? ⟨b, o + i * 8 + 1, none⟩ = some (.int .i64 x.q) ∧ wr.cell? ⟨b, o + i * 8 + 2, none⟩ = some (.int .i64 x.e) ∧ wr.cell? ⟨b, o + i * 8 + 3, none⟩ = some (.int .i64 x.i) ∧ wr.cell? ⟨b, o + i * 8 + 4, none⟩ = some (.int .i64 x.t) ∧
      wr.cell? ⟨b, o + i * 8 + 5, none⟩ = some (.int .i64 x.c) ∧ wr.cell? ⟨b, o + i * 8 + 6, none⟩ = some (.slice LA ln lc) ∧ wr.cell? ⟨b, o + i * 8 + 7, none⟩ = some (.slice BA bn bc)) := by
  obtain ⟨b, o, r, x, hA, hx, hs, _, hI, hc⟩ := h.at_ hi
  obtain ⟨LA, ln, lc, BA, bn, bc, e, hl, hb⟩ := id hI
  injection e with e
  subst e
  refine ⟨b, o, x, LA, ln, lc, BA, bn, bc, hA, hx, hI, fun wr hbel => ?_⟩
  have hk : ∀ p u, w.cell? p = some u → wr.cell? p = some u := fun p u hu => (hbel.cell (World.block_lt_of_cell? w p hu)).trans hu
  exact ⟨hk _ _ (hc 0 _ rfl), hk _ _ (hc 1 _ rfl), hk _ _ (hc 2 _ rfl), hk _ _ (hc 3 _ rfl), hk _ _ (hc 4 _ rfl), hk _ _ (hc 5 _ rfl), hk _ _ (hc 6 _ rfl), hk _ _ (hc 7 _ rfl)⟩

theorem idx_at {xs : List Item.It} {p : Item.It → Bool} {j : Nat} {x : Item.It} (h : ∀ i y, i < j → xs[i]? = some y → p y = false) (hx : xs[j]? = some x) (hp : p x = true) : xs.findIdx p = j := by
  obtain ⟨hj, e⟩ := List.getElem?_eq_some_iff.1 hx
  rw [List.findIdx_eq hj]
  refine ⟨by rw [e]; exact hp, fun i hi => h i _ hi (List.getElem?_eq_getElem (by omega))⟩
theorem idx_none {xs : List Item.It} {p : Item.It → Bool} (h : ∀ i y, i < xs.length → xs[i]? = some y → p y = false) : xs.findIdx p = xs.length := by
  rw [List.findIdx_eq_length]
  intro x hx
  obtain ⟨i, hi⟩ := List.getElem?_of_mem hx
  exact h i x (List.getElem?_eq_some_iff.1 hi).1 hi
theorem idx_le (xs : List Item.It) (p : Item.It → Bool) : xs.findIdx p ≤ xs.length := List.findIdx_le_length
theorem RdX.empty (w : World) (A : Option Addr) : RdX w A 0 0 [] := ⟨[], RdK.empty 8 w A, AreI.nil_ w⟩
theorem three_alloc (w : World) (o0 o1 o2 : Obj) : (((w.alloc o0).alloc o1).alloc o2).heap[w.heap.size]? = some o0 ∧ (((w.alloc o0).alloc o1).alloc o2).heap[w.heap.size + 1]? = some o1 ∧ (((w.alloc o0).alloc o1).alloc o2).heap[w.heap.size + 2]? = some o2 ∧ Below w.heap.size w (((w.alloc o0).alloc o1).alloc o2) := by
  obtain ⟨h0, h1, hb⟩ := two_alloc w o0 o1
  have hk := nkeep ((w.alloc o0).alloc o1) o2
  exact ⟨keepH h0 hk, keepH h1 hk, alloc_at _ _ _ (by rw [size_alloc, size_alloc]), bthen hb hk⟩
/-- An item, or none, and whether there is one. -/
def GetIs (w : World) (o : Option Item.It) (e : Ending) (w' : World) : Prop := ∃ v, e = .returned (.tuple #[v, .bool o.isSome]) ∧ IsItem w' v (o.getD Item.It.zero) ∧ Below w.heap.size w w'
theorem got_idx (l : List Item.It) (q : Int) : Keep.got l q = l[l.findIdx (fun y : Item.It => decide (y.q = q))]? := by
  unfold Keep.got
  induction l with
  | nil => rfl
  | cons y l ih =>
    by_cases h : y.q = q
    · simp [List.findIdx_cons, h]
    · simp [List.findIdx_cons, h, ih]
theorem RdK.but {k : Nat} {w w' : World} {A : Option Addr} {n c g : Nat} {rs : List (Array Value)} (h : RdK k w A n c rs) (hg : ∀ b o, A = some ⟨b, o, none⟩ → b ≠ g) (hb : But g w w') : RdK k w' A n c rs := by
  obtain ⟨h0, h1, h2, h3, h4, h5⟩ := h
  refine ⟨h0, h1, h2, h3, h4, fun h6 => ?_⟩
  obtain ⟨b, o, hA, hc⟩ := h5 h6
  exact ⟨b, o, hA, fun i x hx => hb.cell (hg b o hA) (hc i x hx)⟩
/-- A stream whose memory lies from a place on. -/
def FrK (w : World) (lo : Nat) (v : Value) (k : Keep.Kp) : Prop := ∃ A n c us, v = .agg #[.int .i64 k.next, .slice A n c] ∧ RdK 8 w A n c us ∧ (∀ b o, A = some ⟨b, o, none⟩ → lo ≤ b) ∧ AreF w lo us k.l
section
variable {w w' : World} {lo lo' g : Nat} {v : Value} {k : Keep.Kp}
theorem FrK.is (h : FrK w lo v k) : IsKeep w v k := by
  obtain ⟨A, n, c, us, rfl, h1, h2, h3⟩ := h
  exact ⟨A, n, c, rfl, us, h1, h3.are⟩
theorem FrK.below (h : FrK w lo v k) (hb : Below w.heap.size w w') : FrK w' lo v k := by
  obtain ⟨A, n, c, us, rfl, h1, h2, h3⟩ := h
  exact ⟨A, n, c, us, rfl, h1.below hb, h2, h3.below hb⟩
theorem FrK.but (h : FrK w lo v k) (hg : g < lo) (hb : But g w w') : FrK w' lo v k := by
  obtain ⟨A, n, c, us, rfl, h1, h2, h3⟩ := h
  exact ⟨A, n, c, us, rfl, h1.but (fun b o e => by have := h2 b o e; omega) hb, h2, h3.but hg hb⟩
theorem FrK.mono (h : FrK w lo v k) (hl : lo' ≤ lo) : FrK w lo' v k := by
  obtain ⟨A, n, c, us, rfl, h1, h2, h3⟩ := h
  exact ⟨A, n, c, us, rfl, h1, fun b o e => Nat.le_trans hl (h2 b o e), h3.mono hl⟩
theorem FrI.zero (w : World) (lo : Nat) : FrI w lo (.agg zcells) Item.It.zero := ⟨none, 0, 0, none, 0, 0, rfl, RdV.nil_ w, Rd.nil_ w, (fun _ _ h => by cases h), (fun _ _ h => by cases h)⟩
end
theorem FreshK.fr {w : World} {k : Keep.Kp} {e : Ending} {w' : World} (h : FreshK w k e w') : ∃ v, e = .returned v ∧ FrK w' w.heap.size v k ∧ Below w.heap.size w w' := by
  obtain ⟨A, n, c, us, lo, rfl, h1, h2, h3, h4, h5, h6⟩ := h
  exact ⟨_, rfl, ⟨A, n, c, us, rfl, h1.same, fun b o e => (h1.addr b o e).1, h2.mono h5⟩, h6⟩
theorem four_alloc (w : World) (o0 o1 o2 o3 : Obj) : ((((w.alloc o0).alloc o1).alloc o2).alloc o3).heap[w.heap.size]? = some o0 ∧ ((((w.alloc o0).alloc o1).alloc o2).alloc o3).heap[w.heap.size + 1]? = some o1 ∧ ((((w.alloc o0).alloc o1).alloc o2).alloc o3).heap[w.heap.size + 2]? = some o2 ∧ ((((w.alloc o0).alloc o1).alloc o2).alloc o3).heap[w.heap.size + 3]? = some o3 ∧ Below w.heap.size w ((((w.alloc o0).alloc o1).alloc o2).alloc o3) ∧ ((((w.alloc o0).alloc o1).alloc o2).alloc o3).heap.size = w.heap.size + 4 := by
  obtain ⟨h0, h1, h2, hb⟩ := three_alloc w o0 o1 o2
  have hk := nkeep (((w.alloc o0).alloc o1).alloc o2) o3
  exact ⟨keepH h0 hk, keepH h1 hk, keepH h2 hk, alloc_at _ _ _ (by rw [size_alloc, size_alloc, size_alloc]), bthen hb hk, by rw [size_alloc, size_alloc, size_alloc, size_alloc]⟩
/-- Between two places all is as it was. -/
def Mid (lo : Nat) (w w' : World) : Prop := w.heap.size ≤ w'.heap.size ∧ ∀ b, lo ≤ b → b < w.heap.size → w'.heap[b]? = w.heap[b]?
section
variable {w w1 w2 : World} {lo : Nat}
theorem Mid.of (h : Below w.heap.size w w1) : Mid lo w w1 := ⟨h.size, fun b _ hb => h.block b hb⟩
theorem Mid.below (h : Mid lo w w1) (h2 : Below w1.heap.size w1 w2) : Mid lo w w2 := ⟨Nat.le_trans h.1 h2.size, fun b hl hb => (h2.block b (Nat.lt_of_lt_of_le hb h.1)).trans (h.2 b hl hb)⟩
theorem Mid.but (h : Mid lo w w1) {g : Nat} (h2 : But g w1 w2) (hg : g < lo ∨ w.heap.size ≤ g) : Mid lo w w2 := ⟨by rw [h2.1]; exact h.1, fun b hl hb => (h2.2 b (by omega)).trans (h.2 b hl hb)⟩
theorem Mid.grown (h : Mid lo w w1) {row : Option Nat} (h2 : w1.grownBy w2 row) (hg : ∀ b, row = some b → b < lo) : Mid lo w w2 := ⟨Nat.le_trans h.1 h2.size, fun b hl hb => (h2.block b (Nat.lt_of_lt_of_le hb h.1) (fun e => by have := hg b e.symm; omega)).trans (h.2 b hl hb)⟩
theorem Mid.cell (h : Mid lo w w1) {p : Addr} {u : Value} (hu : w.cell? p = some u) (hl : lo ≤ p.block) : w1.cell? p = some u := (cell_congr (h.2 _ hl (World.block_lt_of_cell? w p hu))).trans hu
theorem RdV.mid {A : Option Addr} {n c : Nat} {l : List Value} (h : RdV w A n c l) (hA : ∀ b o, A = some ⟨b, o, none⟩ → lo ≤ b) (hm : Mid lo w w1) : RdV w1 A n c l := by
  obtain ⟨h1, h2, h3, h4, h5⟩ := h
  refine ⟨h1, h2, h3, h4, fun h0 => ?_⟩
  obtain ⟨b, o, e, hc⟩ := h5 h0
  exact ⟨b, o, e, fun i x hx => hm.cell (hc i x hx) (hA b o e)⟩
theorem FrI.mid {v : Value} {x : Item.It} (h : FrI w lo v x) (hm : Mid lo w w1) : FrI w1 lo v x := by
  obtain ⟨LA, ln, lc, BA, bn, bc, rfl, h1, h2, h3, h4⟩ := h
  exact ⟨LA, ln, lc, BA, bn, bc, rfl, RdV.mid h1 h3 hm, RdV.bytes (RdV.mid (Rd.v h2) h4 hm), h3, h4⟩
theorem AreF.mid {us : List (Array Value)} {xs : List Item.It} (h : AreF w lo us xs) (hm : Mid lo w w1) : AreF w1 lo us xs := ⟨h.1, fun i r x h1 h2 => (h.2 i r x h1 h2).mid hm⟩
end
theorem AreF.one {w : World} {lo : Nat} {r : Array Value} {x : Item.It} (h : FrI w lo (.agg r) x) : AreF w lo [r] [x] := by
  refine ⟨rfl, fun i t' x' h1 h2 => ?_⟩
  cases i with
  | zero =>
    simp only [List.getElem?_cons_zero, Option.some.injEq] at h1 h2
    subst h1; subst h2
    exact h
  | succ i => simp at h1
theorem OwnK.rowlt {k : Nat} {w : World} {base n c lo : Nat} {e : TypeId} {A : Option Addr} {us : List (Array Value)} (h : OwnK k w base e (.slice A n c) n us) (hl : ∀ b o, A = some ⟨b, o, none⟩ → b < lo) : ∀ b, (Value.slice A n c).ownBlock = some b → b < lo := by
  intro b hb
  rcases h.2.2.2 with ⟨h2, _⟩ | ⟨g, cap, cur, hv, _⟩
  · injection h2 with h2
    subst h2
    simp [Value.ownBlock] at hb
  · injection hv with hv
    subst hv
    simp [Value.ownBlock] at hb
    subst hb
    exact hl g 0 rfl
theorem OwnK.apart {k : Nat} {w : World} {base n c g : Nat} {e t : TypeId} {A : Option Addr} {us : List (Array Value)} {cs : Array Value} {fr : Nat × Nat} (h : OwnK k w base e (.slice A n c) n us) (hg : w.heap[g]? = some (.cells cs t fr)) (hne : e ≠ t) : ∀ b o, A = some ⟨b, o, none⟩ → b ≠ g := by
  intro b o hA hbg
  subst hbg
  rcases h.2.2.2 with ⟨h2, _⟩ | ⟨g', cap, cur, hv, _, hh, _⟩
  · injection h2 with h2
    rw [hA] at h2; cases h2
  · injection hv with hv
    rw [hA] at hv
    injection hv with hv
    injection hv with hv
    subst hv
    rw [hh] at hg
    injection hg with hg
    injection hg with _ ht
    exact hne ht
theorem st8 {w : World} {g : Nat} {old : Array Value} {t : TypeId} (h : w.heap[g]? = some (.cells old t (0, 0))) (cells : Array Value) (hs : old.size = cells.size) (h1 : cells.all (·.oneCell') = true) :
    ∃ (w' : World), (storeCells ⟨g, 0, none⟩ cells.toList).run Try.prog w = .ok () w' ∧ Hid (w'.heap[g]? = some (.cells cells t (0, 0))) ∧ Hid (But g w w') ∧ Hid (∀ base w0, Below base w0 w → base ≤ g → Below base w0 w') := by
  have hrun := run_storeCells_off (P := Try.prog) g 0 t cells.toList 0 old w h (by simp [hs]) (fun v hv => (Array.all_eq_true_iff_forall_mem.1 h1) v (by simpa using hv))
  have e : (old.toList.take (0 + 0) ++ cells.toList ++ old.toList.drop (0 + 0 + cells.toList.length)).toArray = cells := by
    rw [List.drop_of_length_le (by simp [hs])]
    simp
  rw [e] at hrun
  exact ⟨w.setRow g cells, hrun, row_setRow w g cells old t (0, 0) h, But.setRow w g cells, fun base w0 hb hbg => below_setRow hb hbg cells⟩
/-- An item, or none, of the call's own, and whether there is one. -/
def GetFr (w : World) (o : Option Item.It) (e : Ending) (w' : World) : Prop := ∃ v, e = .returned (.tuple #[v, .bool o.isSome]) ∧ FrI w' w.heap.size v (o.getD Item.It.zero) ∧ Below w.heap.size w w'
theorem IsKeep.new (w : World) : IsKeep w (.agg #[.int .i64 1, .slice none 0 0]) Keep.new := ⟨none, 0, 0, rfl, RdX.nil_ w⟩
theorem nkeep_alloc {w w' : World} (h : Below w.heap.size w w') (o : Obj) : Below w.heap.size w (w'.alloc o) := h.alloc h.size o
theorem row_ne {p q n c : Nat} (h : p ≠ q) : ∀ b o, (some ⟨q, 0, none⟩ : Option Addr) = some ⟨b, o, none⟩ → (Value.slice (some ⟨p, 0, none⟩) n c).ownBlock ≠ some b := by
  intro b o e e2
  injection e with e
  injection e with e
  have e3 : some p = some b := e2
  injection e3 with e3
  omega
theorem RdK.grown {k : Nat} {w w' : World} {A : Option Addr} {n c : Nat} {rs : List (Array Value)} {row : Option Nat} (h : RdK k w A n c rs) (hg : w.grownBy w' row) (hr : ∀ b o, A = some ⟨b, o, none⟩ → row ≠ some b) : RdK k w' A n c rs := by
  obtain ⟨h0, h1, h2, h3, h4, h5⟩ := h
  refine ⟨h0, h1, h2, h3, h4, fun h6 => ?_⟩
  obtain ⟨b, o, hA, hc⟩ := h5 h6
  exact ⟨b, o, hA, fun i x hx => hg.cell (hc i x hx) (fun e => hr b o hA e.symm)⟩
theorem FrK.size {w : World} {lo : Nat} {A : Option Addr} {n c : Nat} {k : Keep.Kp} (h : FrK w lo (.agg #[.int .i64 k.next, .slice A n c]) k) : k.l.length = n := by
  obtain ⟨A', n', c', us, e, h1, _, h3⟩ := h
  injection e with e
  simp only [Array.mk.injEq, List.cons.injEq, Value.slice.injEq, true_and, and_true] at e
  obtain ⟨_, rfl, _⟩ := e
  rw [← h3.1]; exact h1.size
theorem Rd.byte {w : World} {A : Option Addr} {m c : Nat} {fs : List UInt8} (h : Rd w A m c fs) {j : Nat} (hj : j < m) : ∃ b o x, A = some ⟨b, o, none⟩ ∧ fs[j]? = some x ∧ ∀ w', Below w.heap.size w w' → w'.cell? ⟨b, o + j, none⟩ = some (.int .u8 (UInt8.toNat x : Int)) := by
  obtain ⟨b, o, rfl, _⟩ := h.2.2.2.2 (by omega)
  have hx := List.getElem?_eq_getElem (show j < fs.length by rw [h.1]; exact hj)
  exact ⟨b, o, _, rfl, hx, cells_later h hx⟩
theorem keepLt {w w' : World} {g : Nat} {o : Obj} (h : w.heap[g]? = some o) (hb : Below w.heap.size w w') : w'.heap[g]? = some o ∧ g < w.heap.size := ⟨keepH h hb, blk_lt h⟩
end Go.Proofs.Ytkkkfaelpmmffaa
