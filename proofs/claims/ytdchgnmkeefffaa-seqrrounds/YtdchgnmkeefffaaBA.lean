import Derived.Test.YtdchgnmkeefffaaRows
import Derived.WalkKit
import Derived.WalkLawsBesides
import Derived.Maps.AppendAt
import Derived.Deep.Draws
import Derived.Laws.IdiomStrings
import Derived.Deep.OwnRows
import Derived.ProofKit
import Derived.OpenShut
import Derived.ShutString
import Derived.ChangeOld
import Derived.Lib.SliceRun
import Derived.WalkMore
import Derived.Laws.Tables
import Derived.Laws.CopyOwn
import Derived.StillTailTactics
import Derived.IntWalk
set_option maxRecDepth 100000
/- Words for slices of bytes: what one reads as, what the call owns, append onto it, its bytes as a string. No program is named here. -/
namespace Go.Proofs.Ytdchgnmkeefffaa
open Go.RowKit
set_option linter.unusedVariables false

/-- A fact kept from the walk. -/
theorem hidT {p : Prop} (h : p) : Hid p := h

def bs (l : List UInt8) : List Value := l.map fun x => .int .u8 (x.toNat : Int)
theorem bs_length (l : List UInt8) : (bs l).length = l.length := by simp [bs]
theorem bs_append (l m : List UInt8) : bs (l ++ m) = bs l ++ bs m := by simp [bs]
theorem bs_get {l : List UInt8} {i : Nat} {u : Value} (h : (bs l)[i]? = some u) : ∃ x, l[i]? = some x ∧ u = .int .u8 (x.toNat : Int) := by
  simp only [bs, List.getElem?_map, Option.map_eq_some_iff] at h
  obtain ⟨x, hx, rfl⟩ := h
  exact ⟨x, hx, rfl⟩
theorem bs_of {l : List UInt8} {i : Nat} {x : UInt8} (h : l[i]? = some x) : (bs l)[i]? = some (.int .u8 (x.toNat : Int)) := by
  simp [bs, h]
theorem bs_one (l : List UInt8) : ∀ u ∈ bs l, u.oneCell' = true := by
  intro u hu
  simp only [bs, List.mem_map] at hu
  obtain ⟨x, _, rfl⟩ := hu
  rfl

/-- A slice of bytes that reads as a list, nil let in. -/
def Rd (w : World) (A : Option Addr) (n c : Nat) (l : List UInt8) : Prop :=
  l.length = n ∧ n ≤ c ∧ c ≤ maxLen ∧ (A = none → c = 0) ∧
    (0 < n → ∃ b o, A = some ⟨b, o, none⟩ ∧ ∀ i x, l[i]? = some x → w.cell? ⟨b, o + i, none⟩ = some (.int .u8 (x.toNat : Int)))

section
variable {w w' : World} {A : Option Addr} {n c : Nat} {l : List UInt8}
theorem Rd.at_ (h : Rd w A n c l) (h0 : 0 < n) :
    ∃ b o, A = some ⟨b, o, none⟩ ∧ ∀ k, k < n → ∃ x, l[k]? = some x ∧ w.cell? ⟨b, o + k, none⟩ = some (.int .u8 (x.toNat : Int)) := by
  obtain ⟨hl, _, _, _, hc⟩ := h
  obtain ⟨b, o, hA, hcell⟩ := hc h0
  refine ⟨b, o, hA, fun k hk => ?_⟩
  have hk' : k < l.length := by omega
  exact ⟨l[k], List.getElem?_eq_getElem hk', hcell k _ (List.getElem?_eq_getElem hk')⟩
theorem Rd.le (h : Rd w A n c l) : n ≤ 9223372036854775807 := by
  have := h.2.1; have := h.2.2.1; unfold maxLen at this; omega
theorem Rd.nil_ (w : World) : Rd w none 0 0 [] := ⟨rfl, Nat.le_refl _, Nat.zero_le _, fun _ => rfl, fun h => absurd h (by omega)⟩
theorem Rd.keep (h : Rd w A n c l) (hk : ∀ p u, w.cell? p = some u → w'.cell? p = some u) : Rd w' A n c l := by
  obtain ⟨h1, h2, h3, h4, h5⟩ := h
  refine ⟨h1, h2, h3, h4, fun h0 => ?_⟩
  obtain ⟨b, o, hA, hc⟩ := h5 h0
  exact ⟨b, o, hA, fun i x hx => hk _ _ (hc i x hx)⟩
theorem Rd.below (h : Rd w A n c l) (hb : Below w.heap.size w w') : Rd w' A n c l :=
  h.keep fun p u hu => (hb.cell (World.block_lt_of_cell? w p hu)).trans hu
theorem Rd.drew (h : Rd w A n c l) : Rd w.drew A n c l := h
theorem Rd.drewN (h : Rd w A n c l) (k : Nat) : Rd (w.drewN k) A n c l := h
theorem Rd.alloc (h : Rd w A n c l) (o : Obj) : Rd (w.alloc o) A n c l := h.below ((Below.refl _ _).alloc (Nat.le_refl _) o)
theorem Rd.nilA (h : Rd w none n c l) : n = 0 ∧ c = 0 ∧ l = [] := by
  obtain ⟨h1, h2, h3, h4, h5⟩ := h
  have hc := h4 rfl
  have hn : n = 0 := by omega
  exact ⟨hn, hc, List.eq_nil_of_length_eq_zero (by omega)⟩
theorem Rd.grown {row : Option Nat} (h : Rd w A n c l) (hg : w.grownBy w' row) (hr : ∀ b, A.map (·.block) = some b → row ≠ some b) : Rd w' A n c l := by
  obtain ⟨h1, h2, h3, h4, h5⟩ := h
  refine ⟨h1, h2, h3, h4, fun h0 => ?_⟩
  obtain ⟨b, o, rfl, hc⟩ := h5 h0
  exact ⟨b, o, rfl, fun i x hx => hg.cell (hc i x hx) (fun e => hr b rfl e.symm)⟩
/-- A beginning of it. -/
theorem Rd.take (h : Rd w A n c l) {k : Nat} (hk : k ≤ n) : Rd w A k c (l.take k) := by
  obtain ⟨h1, h2, h3, h4, h5⟩ := h
  refine ⟨by rw [List.length_take]; omega, by omega, h3, h4, fun h0 => ?_⟩
  obtain ⟨b, o, hA, hc⟩ := h5 (by omega)
  refine ⟨b, o, hA, fun i x hx => hc i x ?_⟩
  rw [List.getElem?_take] at hx
  split at hx
  · exact hx
  · cases hx

/-- Cells of a block that was just laid. -/
theorem Rd.new (w : World) (t : TypeId) (l : List UInt8) (hl : l.length ≤ maxLen) : Rd (w.alloc (.cells (bs l).toArray t)) (some ⟨w.heap.size, 0, none⟩) l.length l.length l := by
  refine ⟨rfl, Nat.le_refl _, hl, (fun h => by cases h), fun _ => ⟨_, _, rfl, fun i x hx => ?_⟩⟩
  have hh : (w.alloc (.cells (bs l).toArray t)).heap[w.heap.size]? = some (.cells (bs l).toArray t (0, 0)) := heap_alloc_new w _
  rw [cell_of_row _ w.heap.size _ _ t (0, 0) hh]
  simpa using bs_of hx

/-- A row of bytes that the call owns, from block 'base' on. -/
def Own (w : World) (base : Nat) (e : TypeId) (v : Value) (n : Nat) (l : List UInt8) : Prop := w.ownsRow base e 1 v n (bs l)
theorem Own.rd {base : Nat} {e : TypeId} {v : Value} (h : Own w base e v n l) : ∃ A c, v = .slice A n c ∧ Rd w A n c l := by
  have hl : l.length = n := by have := h.1; rw [bs_length] at this; omega
  rcases h.2 with ⟨rfl, rfl⟩ | ⟨g, cap, cur, rfl, hb, hh, hn, hm, hs, ht⟩
  · have : l = [] := List.eq_nil_of_length_eq_zero hl
    subst this
    exact ⟨none, 0, rfl, Rd.nil_ w⟩
  · refine ⟨some ⟨g, 0, none⟩, cap, rfl, hl, hn, hm, (fun h => by cases h), fun _ => ⟨g, 0, rfl, fun i x hx => ?_⟩⟩
    have := World.ownsRow.cells (g := g) h rfl i _ (bs_of hx)
    unfold Addr.add at this
    split at this
    · rename_i hi; subst hi; simpa using this
    · simpa using this
theorem Own.size {base : Nat} {e : TypeId} {v : Value} (h : Own w base e v n l) : l.length = n := by have := h.1; rw [bs_length] at this; omega
end

theorem Own.below {w w' : World} {base n : Nat} {e : TypeId} {v : Value} {l : List UInt8} (h : Own w base e v n l) (hg : w.grownBy w' v.ownBlock) (hb : base ≤ w.heap.size) : Below base w w' :=
  (Below.refl _ _).grown hg hb (fun k hk => (World.ownsRow.lt h k hk).1)

theorem Own.mono {w : World} {base base' n : Nat} {e : TypeId} {v : Value} {l : List UInt8} (h : Own w base e v n l) (hb : base' ≤ base) : Own w base' e v n l := by
  refine ⟨h.1, ?_⟩
  rcases h.2 with h2 | ⟨g, cap, cur, hv, hg, r⟩
  · exact .inl h2
  · exact .inr ⟨g, cap, cur, hv, by omega, r⟩

theorem Own.form {w : World} {base n : Nat} {e : TypeId} {v : Value} {l : List UInt8} (h : Own w base e v n l) (h0 : 0 < n) :
    ∃ g cap, v = .slice (some ⟨g, 0, none⟩) n cap ∧ base ≤ g ∧ g < w.heap.size ∧ n ≤ cap ∧ cap ≤ maxLen := by
  rcases h.2 with ⟨_, rfl⟩ | ⟨g, cap, cur, rfl, hb, hh, hn, hm, hs, ht⟩
  · omega
  · refine ⟨g, cap, rfl, hb, ?_, hn, hm⟩
    rcases Nat.lt_or_ge g w.heap.size with hlt | hge
    · exact hlt
    · rw [Array.getElem?_eq_none hge] at hh; cases hh
theorem Own.cell {w : World} {base n g cap : Nat} {e : TypeId} {l : List UInt8} (h : Own w base e (.slice (some ⟨g, 0, none⟩) n cap) n l) {i : Nat} {x : UInt8} (hx : l[i]? = some x) :
    w.cell? ⟨g, i, none⟩ = some (.int .u8 (x.toNat : Int)) := by
  have := World.ownsRow.cells (g := g) h rfl i _ (bs_of hx)
  rw [show (⟨g, 0, none⟩ : Addr).add i = ⟨g, i, none⟩ from by unfold Addr.add; split <;> simp_all] at this
  exact this
theorem Own.frozen {w : World} {base n g cap : Nat} {e : TypeId} {l : List UInt8} (h : Own w base e (.slice (some ⟨g, 0, none⟩) n cap) n l) (i : Nat) :
    w.frozen? ⟨g, i, none⟩ = false := World.ownsRow.frozenAt h i
theorem bs_set (l : List UInt8) (i : Nat) (x : UInt8) : bs (l.set i x) = (bs l).set i (.int .u8 (x.toNat : Int)) := by
  unfold bs
  rw [List.map_set]
theorem Own.set_ {w : World} {base n g cap : Nat} {e : TypeId} {l : List UInt8} (h : Own w base e (.slice (some ⟨g, 0, none⟩) n cap) n l) (i : Nat) (x : UInt8) :
    Own (w.setCell ⟨g, i, none⟩ (.int .u8 (x.toNat : Int))) base e (.slice (some ⟨g, 0, none⟩) n cap) n (l.set i x) := by
  unfold Own
  rw [bs_set]
  exact (World.ownsRow.stored h i _).1
/-- A row of the call's own stays while nothing that was is turned. -/
theorem Own.later {w w' : World} {base n : Nat} {e : TypeId} {v : Value} {l : List UInt8} (h : Own w base e v n l) (hb : Below w.heap.size w w') : Own w' base e v n l := by
  refine ⟨h.1, ?_⟩
  rcases h.2 with h2 | ⟨g, cap, cur, hv, hg, hh, r⟩
  · exact .inl h2
  · refine .inr ⟨g, cap, cur, hv, hg, ?_, r⟩
    have hlt : g < w.heap.size := by
      rcases Nat.lt_or_ge g w.heap.size with hlt | hge
      · exact hlt
      · rw [Array.getElem?_eq_none hge] at hh; cases hh
    rw [hb.block g hlt]
    exact hh
theorem undrew {w w' : World} (h : Below w.drew.heap.size w.drew w') : Below w.heap.size w w' := ⟨h.os, h.tape, h.output, h.size, h.block⟩
theorem undrewN {w w' : World} {k : Nat} (h : Below (w.drewN k).heap.size (w.drewN k) w') : Below w.heap.size w w' := ⟨h.os, h.tape, h.output, h.size, h.block⟩
theorem drawn_below (w : World) (n : Nat) : Below w.heap.size w (w.drewN n) := ⟨rfl, rfl, rfl, Nat.le_refl _, fun _ _ => rfl⟩
/-- One call behind another. -/
theorem bthen {w w1 w2 : World} (h : Below w.heap.size w w1) (h2 : Below w1.heap.size w1 w2) : Below w.heap.size w w2 := h.trans (h2.mono h.size)

/-- What a call gives that makes a slice of bytes of its own and turns nothing that was. -/
def Gives (w : World) (t : TypeId) (l : List UInt8) (e : Ending) (w' : World) : Prop :=
  ∃ A c, e = .returned (.slice A l.length c) ∧ Own w' w.heap.size t (.slice A l.length c) l.length l ∧ Below w.heap.size w w'
theorem Own.gives {w w' : World} {t : TypeId} {v : Value} {n : Nat} {l : List UInt8} (h : Own w' w.heap.size t v n l) (hb : Below w.heap.size w w') : Gives w t l (.returned v) w' := by
  have hl := h.size
  subst hl
  obtain ⟨A, c, rfl, _⟩ := h.rd
  exact ⟨A, c, rfl, h, hb⟩
theorem Own.same {w : World} {base : Nat} {t : TypeId} {A : Option Addr} {n c : Nat} {l : List UInt8} (h : Own w base t (.slice A n c) n l) : Rd w A n c l := by
  obtain ⟨A', c', e, hr⟩ := h.rd
  injection e with e1 _ e2
  subst e1; subst e2
  exact hr

theorem add_eq (b o i : Nat) : (⟨b, o, none⟩ : Addr).add i = ⟨b, o + i, none⟩ := by
  unfold Addr.add; split
  · rename_i h; subst h; rfl
  · rfl

/-- append onto a row of the call's own, whatever the source. -/
theorem run_app {P : Program} (w : World) (base : Nat) (t ty e : TypeId) (i : TypeInfo) (ht : P.underlying t = some (.slice e)) (hi : P.info? e = some i) (hz : i.zero = some (.int .u8 0))
    (hsize : i.size = 1) (hby : i.bytes = 1) (v : Value) (n : Nat) (xs : List UInt8) (hown : Own w base e v n xs)
    (A : Option Addr) (m c : Nat) (l : List UInt8) (hr : Rd w A m c l) (h63 : n + m ≤ 1099511627776) (hbase : base ≤ w.heap.size) :
    ∃ v' w', (Builtin.append_ #[t, t] ty #[v, .slice A m c]).run P w = .ok v' w' ∧ Own w' base e v' (n + m) (xs ++ l) ∧ w.grownBy w' v.ownBlock ∧
      (v'.ownBlock = v.ownBlock ∨ v'.ownBlock = some w.heap.size) := by
  cases A with
  | none =>
    obtain ⟨rfl, rfl, rfl⟩ := hr.nilA
    refine ⟨v, w, ?_, by simpa using hown, World.grownBy.refl w _, .inl rfl⟩
    rcases hown.2 with ⟨rfl, rfl⟩ | ⟨g, cap, cur, rfl, _, _, hnc, _⟩
    · simp [Builtin.append_, run_underlying ht, sizeOf, typeInfo, hi, Builtin.lenOf, Builtin.firstCells]
    · simp [Builtin.append_, run_underlying ht, sizeOf, typeInfo, hi, Builtin.lenOf, Builtin.firstCells, hnc, storeCells]
  | some ad =>
    have hcells : ∀ j u, (bs l)[j]? = some u → w.cell? (ad.add j) = some u := by
      intro j u hu
      obtain ⟨x, hx, rfl⟩ := bs_get hu
      have hj : j < l.length := by
        rcases Nat.lt_or_ge j l.length with h | h
        · exact h
        · rw [List.getElem?_eq_none h] at hx; cases hx
      obtain ⟨b, o, hA, hc⟩ := hr.2.2.2.2 (by have := hr.1; omega)
      injection hA with hA
      subst hA
      rw [add_eq]
      exact hc j x hx
    obtain ⟨v', w', hrun, h2, h3, _, h5⟩ := run_append_own_at (P := P) w base t ty e i (.int .u8 0) 1 1 ht hi hz hsize hby rfl (by omega) v n (bs xs) hown ad m c (bs l) (by rw [bs_length, hr.1]; omega) hcells (bs_one l)
      (by simp only [maxLen]; omega) (by omega) hbase
    exact ⟨v', w', hrun, by unfold Own; rw [bs_append]; exact h2, h3, h5⟩

theorem wpList_app {P : Program} {w : World} {ops : Array Oper} {rest : List Oper} {o : Oper} {a : Act} {Q : Exit → Act → World → Prop} (hgd : o.guard = none) (s x : Operand) (t : TypeId)
    (ho : o.op = .call { callee := .builtin .append, args := #[s, x], argTypes := #[t, t] })
    (base : Nat) (e : TypeId) (hi : (P.info? e).map (fun i => (i.zero, i.size, i.bytes)) = some (some (.int .u8 0), 1, 1)) (ht : P.underlying t = some (.slice e))
    (v : Value) (n : Nat) (xs : List UInt8) (hs : a.eval s = v) (hown : Own w base e v n xs)
    (A : Option Addr) (m c : Nat) (l : List UInt8) (hx : a.eval x = .slice A m c) (hr : Rd w A m c l)
    (h63 : n + m ≤ 1099511627776) (hbase : base ≤ w.heap.size)
    (h : ∀ v' w', Own w' base e v' (n + m) (xs ++ l) → Below base w w' → wpList P ops Q rest (a.put o.dst v') w') : wpList P ops Q (o :: rest) a w := by
  obtain ⟨i0, hi0, hz0, hz1, hz2⟩ := info_parts hi
  refine wpList_plain hgd fun K hK => ?_
  obtain ⟨v', w', hrun, h2, h3, h4⟩ := run_app (P := P) w base t o.type e i0 ht hi0 hz0 hz1 hz2 v n xs hown A m c l hr h63 hbase
  unfold Oper.wp execOp
  simp only [ho, resolve, invoke, builtin, Sem.run_bind, Sem.run_pure, Result.andThen_ok, List.map_toArray, List.map_cons, List.map_nil, hs, hx, hrun]
  exact hK _ _ (h v' w' h2 (hown.below h3 hbase))

/-- The same inside a region that draws its order. -/
theorem step_app {P : Program} {w : World} {ops : Array Oper} {o : Oper} {a : Act} {K : Act → World → Prop} {Q : Exit → Act → World → Prop} {E : Prop} (hgd : o.guard = none) (s x : Operand) (t : TypeId)
    (ho : o.op = .call { callee := .builtin .append, args := #[s, x], argTypes := #[t, t] })
    (base : Nat) (e : TypeId) (hi : (P.info? e).map (fun i => (i.zero, i.size, i.bytes)) = some (some (.int .u8 0), 1, 1)) (ht : P.underlying t = some (.slice e))
    (v : Value) (n : Nat) (xs : List UInt8) (hs : a.eval s = v) (hown : Own w base e v n xs)
    (A : Option Addr) (m c : Nat) (l : List UInt8) (hx : a.eval x = .slice A m c) (hr : Rd w A m c l)
    (h63 : n + m ≤ 1099511627776) (hbase : base ≤ w.heap.size)
    (h : ∀ v' w', Own w' base e v' (n + m) (xs ++ l) → Below base w w' → K (a.put o.dst v') w') : if Region.wanted o (yielded ops a.tmps) = true then Oper.wp P o a w K Q else E := by
  have hw : Region.wanted o (yielded ops a.tmps) = true := by simp [Region.wanted, hgd]
  rw [if_pos hw]
  obtain ⟨i0, hi0, hz0, hz1, hz2⟩ := info_parts hi
  obtain ⟨v', w', hrun, h2, h3, h4⟩ := run_app (P := P) w base t o.type e i0 ht hi0 hz0 hz1 hz2 v n xs hown A m c l hr h63 hbase
  unfold Oper.wp execOp
  simp only [ho, resolve, invoke, builtin, Sem.run_bind, Sem.run_pure, Result.andThen_ok, List.map_toArray, List.map_cons, List.map_nil, hs, hx, hrun]
  exact h v' w' h2 (hown.below h3 hbase)

/-- make of no bytes, with room. -/
theorem wpList_mk {P : Program} {w : World} {ops : Array Oper} {rest : List Oper} {o : Oper} {a : Act} {Q : Exit → Act → World → Prop} (hgd : o.guard = none) (x y : Operand) (t : TypeId)
    (ho : o.op = Op.makeSlice t x y) (e : TypeId) (hi : (P.info? e).map (fun i => (i.zero, i.size, i.bytes)) = some (some (.int .u8 0), 1, 1)) (ht : P.underlying t = some (.slice e))
    (kl kc : IntKind) (C : Int) (n : Nat) (hl : a.eval x = .int kl 0) (hc : a.eval y = .int kc C) (hC : C = (n : Int)) (hn : n ≤ 1099511627776)
    (h : ∀ v w', Own w' w.heap.size e v 0 [] → Below w.heap.size w w' → wpList P ops Q rest (a.put o.dst v) w') : wpList P ops Q (o :: rest) a w := by
  obtain ⟨i0, hi0, hz0, hz1, hz2⟩ := info_parts hi
  refine wpList_make_own w hgd x y t ho w.heap.size e i0 _ 1 ht hi0 hz0 hz1 kl kc C n hl hc hC (by rw [hz2]; omega) (by simp only [maxLen]; omega) (Nat.le_refl _) ?_
  intro w' h1 h2
  exact h _ w' h1 ((Below.refl _ _).grown h2 (Nat.le_refl _) (fun k hk => by cases hk))

def str (l : List UInt8) : ByteArray := ⟨l.toArray⟩
theorem push_all (l : List UInt8) (s : ByteArray) : (l.map fun x => (x.toNat : Int)).foldl (fun r n => r.push (UInt8.ofNat n.toNat)) s = ⟨s.data ++ l.toArray⟩ := by
  induction l generalizing s with
  | nil => simp
  | cons x l ih =>
    simp only [List.map_cons, List.foldl_cons]
    rw [ih]
    simp [ByteArray.push]

/-- The bytes as a string. -/
theorem run_str {P : Program} {w : World} {src dst e : TypeId} {A : Option Addr} {n c : Nat} {l : List UInt8} (h : Rd w A n c l)
    (hs : P.underlying src = some (.slice e)) (he : P.underlying e = some (.int .u8)) (hd : P.underlying dst = some .string) :
    (convert src dst (.slice A n c)).run P w = .ok (.string (str l)) w := by
  rw [run_convert_bytes_string w src dst e A n c hs he hd]
  cases A with
  | none =>
    obtain ⟨rfl, rfl, rfl⟩ := h.nilA
    simp [Conv.bytesToString, Sem.run_pure, str]
    rfl
  | some ad =>
    have hl : (loadCells ad n).run P w = .ok ((l.map fun x => (x.toNat : Int)).map (Value.int .u8)).toArray w := by
      have := run_loadCells_list (P := P) (w := w) ad (bs l) (by
        intro j u hu
        obtain ⟨x, hx, rfl⟩ := bs_get hu
        have hj : j < l.length := by
          rcases Nat.lt_or_ge j l.length with h | h
          · exact h
          · rw [List.getElem?_eq_none h] at hx; cases hx
        obtain ⟨b, o, hA, hc⟩ := h.2.2.2.2 (by have := h.1; omega)
        injection hA with hA
        subst hA
        rw [add_eq]
        exact hc j x hx)
      rw [bs_length, h.1] at this
      rw [this]
      simp [bs]
    rw [run_bytesToString w ad n c _ hl, push_all]
    simp [str]
theorem str_inj {l m : List UInt8} : str l = str m ↔ l = m := by
  constructor
  · intro h
    have := congrArg (fun b : ByteArray => b.data.toList) h
    simpa [str] using this
  · rintro rfl; rfl
/-- Two strings of bytes are alike just if the bytes are. -/
theorem str_beq (l m : List UInt8) : ((str l).toList == (str m).toList) = decide (l = m) := by
  have e : ∀ l : List UInt8, (str l).toList = l := fun l => by rw [ByteArray.toList_eq]; rfl
  rw [e, e, Bool.eq_iff_iff, decide_eq_true_eq, beq_iff_eq]
theorem str_same {l m : List UInt8} (h : l = m) : ((str l).toList == (str m).toList) = true := by rw [str_beq]; simpa using h
theorem str_other {l m : List UInt8} (h : l ≠ m) : ((str l).toList == (str m).toList) = false := by rw [str_beq]; simpa using h

/-- A literal's bytes, its row marked or not. -/
theorem Rd.lit (w : World) (t : TypeId) (fr : Nat × Nat) (C : Array Value) (l : List UInt8) (hC : C = (bs l).toArray) (n : Nat) (hn : l.length = n) (hl : n ≤ maxLen) : Rd (w.alloc (.cells C t fr)) (some ⟨w.heap.size, 0, none⟩) n n l := by
  subst hC
  subst hn
  refine ⟨rfl, Nat.le_refl _, hl, (fun h => by cases h), fun _ => ⟨_, _, rfl, fun i x hx => ?_⟩⟩
  rw [World.cell?_alloc_mark]
  simpa using bs_of hx

theorem Rd.litAt (w : World) (t : TypeId) (fr : Nat × Nat) (C : Array Value) (l : List UInt8) (hC : C = (bs l).toArray) (n : Nat) (hn : l.length = n) (hl : n ≤ maxLen) (g : Nat) (hg : w.heap.size = g) : Rd (w.alloc (.cells C t fr)) (some ⟨g, 0, none⟩) n n l := by
  subst hg
  exact Rd.lit w t fr C l hC n hn hl

/-- What a law says of a call. -/
def Yes (w : World) (e : Ending) (w' : World) : Prop := e = .returned (.bool true) ∧ Below w.heap.size w w'

theorem later {w w2 : World} {F : World → Prop} (h : ∀ w', Below w.heap.size w w' → F w') (hb : Below w.heap.size w w2) : ∀ w', Below w2.heap.size w2 w' → F w' :=
  fun w' h2 => h w' (bthen hb h2)
/-- A byte of a slice, in every later world. -/
theorem cells_later {w : World} {b o n c : Nat} {l : List UInt8} (h : Rd w (some ⟨b, o, none⟩) n c l) {k : Nat} {x : UInt8} (hx : l[k]? = some x) :
    ∀ w', Below w.heap.size w w' → w'.cell? ⟨b, o + k, none⟩ = some (.int .u8 (x.toNat : Int)) := by
  intro w' hb
  have hk : k < l.length := by
    rcases Nat.lt_or_ge k l.length with h | h
    · exact h
    · rw [List.getElem?_eq_none h] at hx; cases hx
  obtain ⟨b', o', hA, hc⟩ := h.2.2.2.2 (by have := h.1; omega)
  injection hA with hA
  injection hA with e1 e2
  subst e1; subst e2
  have := hc k x hx
  exact (hb.cell (World.block_lt_of_cell? _ _ this)).trans this

end Go.Proofs.Ytdchgnmkeefffaa
/- Words for slices of one-cell values (ints among them): what one reads as, cuts, append, make, stores. No program is named here. -/
namespace Go.Proofs.Ytdchgnmkeefffaa
open Go.RowKit
set_option linter.unusedVariables false

/-- A slice that reads as a list of one-cell values, nil let in. -/
def RdV (w : World) (A : Option Addr) (n c : Nat) (l : List Value) : Prop :=
  l.length = n ∧ n ≤ c ∧ c ≤ maxLen ∧ (A = none → c = 0) ∧
    (0 < n → ∃ b o, A = some ⟨b, o, none⟩ ∧ ∀ i u, l[i]? = some u → w.cell? ⟨b, o + i, none⟩ = some u)
/-- Ints as values. -/
def is (l : List Int) : List Value := l.map fun x => .int .i64 x
theorem is_length (l : List Int) : (is l).length = l.length := by simp [is]
theorem is_append (l m : List Int) : is (l ++ m) = is l ++ is m := by simp [is]
theorem is_of {l : List Int} {i : Nat} {x : Int} (h : l[i]? = some x) : (is l)[i]? = some (.int .i64 x) := by simp [is, h]
theorem is_one (l : List Int) : ∀ u ∈ is l, u.oneCell' = true := by
  intro u hu
  simp only [is, List.mem_map] at hu
  obtain ⟨x, _, rfl⟩ := hu
  rfl
theorem is_set (l : List Int) (i : Nat) (x : Int) : is (l.set i x) = (is l).set i (.int .i64 x) := by
  unfold is
  rw [List.map_set]
theorem is_inj {l m : List Int} : is l = is m ↔ l = m := by
  constructor
  · intro h
    have := congrArg (List.map fun v : Value => match v with | .int _ x => x | _ => 0) h
    simpa [is, Function.comp_def] using this
  · rintro rfl; rfl
abbrev RdI (w : World) (A : Option Addr) (n c : Nat) (l : List Int) : Prop := RdV w A n c (is l)

theorem Rd.v {w : World} {A : Option Addr} {n c : Nat} {l : List UInt8} (h : Rd w A n c l) : RdV w A n c (bs l) := by
  obtain ⟨h1, h2, h3, h4, h5⟩ := h
  refine ⟨by rw [bs_length]; exact h1, h2, h3, h4, fun h0 => ?_⟩
  obtain ⟨b, o, hA, hc⟩ := h5 h0
  refine ⟨b, o, hA, fun i u hu => ?_⟩
  obtain ⟨x, hx, rfl⟩ := bs_get hu
  exact hc i x hx
theorem RdV.bytes {w : World} {A : Option Addr} {n c : Nat} {l : List UInt8} (h : RdV w A n c (bs l)) : Rd w A n c l := by
  obtain ⟨h1, h2, h3, h4, h5⟩ := h
  refine ⟨by rw [bs_length] at h1; exact h1, h2, h3, h4, fun h0 => ?_⟩
  obtain ⟨b, o, hA, hc⟩ := h5 h0
  exact ⟨b, o, hA, fun i x hx => hc i _ (bs_of hx)⟩

section
variable {w w' : World} {A : Option Addr} {n c : Nat} {l : List Value}
theorem RdV.le (h : RdV w A n c l) : n ≤ 9223372036854775807 := by
  have := h.2.1; have := h.2.2.1; unfold maxLen at this; omega
theorem RdV.nil_ (w : World) : RdV w none 0 0 [] := ⟨rfl, Nat.le_refl _, Nat.zero_le _, fun _ => rfl, fun h => absurd h (by omega)⟩
theorem RdV.keep (h : RdV w A n c l) (hk : ∀ p u, w.cell? p = some u → w'.cell? p = some u) : RdV w' A n c l := by
  obtain ⟨h1, h2, h3, h4, h5⟩ := h
  refine ⟨h1, h2, h3, h4, fun h0 => ?_⟩
  obtain ⟨b, o, hA, hc⟩ := h5 h0
  exact ⟨b, o, hA, fun i x hx => hk _ _ (hc i x hx)⟩
theorem RdV.below (h : RdV w A n c l) (hb : Below w.heap.size w w') : RdV w' A n c l :=
  h.keep fun p u hu => (hb.cell (World.block_lt_of_cell? w p hu)).trans hu
theorem RdV.drew (h : RdV w A n c l) : RdV w.drew A n c l := h
theorem RdV.drewN (h : RdV w A n c l) (k : Nat) : RdV (w.drewN k) A n c l := h
theorem RdV.alloc (h : RdV w A n c l) (o : Obj) : RdV (w.alloc o) A n c l := h.below ((Below.refl _ _).alloc (Nat.le_refl _) o)
theorem RdV.nilA (h : RdV w none n c l) : n = 0 ∧ c = 0 ∧ l = [] := by
  obtain ⟨h1, h2, h3, h4, h5⟩ := h
  have hc := h4 rfl
  have hn : n = 0 := by omega
  exact ⟨hn, hc, List.eq_nil_of_length_eq_zero (by omega)⟩
/-- One of its places. -/
theorem RdV.at_ (h : RdV w A n c l) {k : Nat} (hk : k < n) : ∃ b o u, A = some ⟨b, o, none⟩ ∧ l[k]? = some u ∧ w.cell? ⟨b, o + k, none⟩ = some u := by
  obtain ⟨hl, _, _, _, hc⟩ := h
  obtain ⟨b, o, hA, hcell⟩ := hc (by omega)
  have hk' : k < l.length := by omega
  exact ⟨b, o, l[k], hA, List.getElem?_eq_getElem hk', hcell k _ (List.getElem?_eq_getElem hk')⟩
theorem RdV.take (h : RdV w A n c l) {k : Nat} (hk : k ≤ n) : RdV w A k c (l.take k) := by
  obtain ⟨h1, h2, h3, h4, h5⟩ := h
  refine ⟨by rw [List.length_take]; omega, by omega, h3, h4, fun h0 => ?_⟩
  obtain ⟨b, o, hA, hc⟩ := h5 (by omega)
  refine ⟨b, o, hA, fun i x hx => hc i x ?_⟩
  rw [List.getElem?_take] at hx
  split at hx
  · exact hx
  · cases hx
/-- What is behind a place ahead of the end of its room. -/
theorem RdV.drop {b o : Nat} (h : RdV w (some ⟨b, o, none⟩) n c l) {k : Nat} (hk : k ≤ n) : RdV w (some ⟨b, o + k, none⟩) (n - k) (c - k) (l.drop k) := by
  obtain ⟨h1, h2, h3, h4, h5⟩ := h
  refine ⟨by rw [List.length_drop]; omega, by omega, by omega, (fun h => by cases h), fun h0 => ⟨b, o + k, rfl, fun i x hx => ?_⟩⟩
  obtain ⟨b', o', hA, hc⟩ := h5 (by omega)
  injection hA with hA
  injection hA with e1 e2
  subst e1; subst e2
  rw [List.getElem?_drop] at hx
  rw [Nat.add_assoc]
  exact hc _ x hx
/-- The end of its room: nothing is behind it. -/
theorem RdV.none_left (h : RdV w A n c l) (a : Addr) (B : Option Addr) (hB : B = some a ∨ B = A) : RdV w B 0 0 [] :=
  ⟨rfl, Nat.le_refl _, Nat.zero_le _, fun _ => rfl, fun h => absurd h (by omega)⟩
theorem RdV.lit (w : World) (t : TypeId) (fr : Nat × Nat) (C : Array Value) (l : List Value) (hC : C = l.toArray) (n : Nat) (hn : l.length = n) (hl : n ≤ maxLen) (g : Nat) (hg : w.heap.size = g) : RdV (w.alloc (.cells C t fr)) (some ⟨g, 0, none⟩) n n l := by
  subst hC
  subst hn
  subst hg
  refine ⟨rfl, Nat.le_refl _, hl, (fun h => by cases h), fun _ => ⟨_, _, rfl, fun i x hx => ?_⟩⟩
  rw [World.cell?_alloc_mark]
  simpa using hx
end
theorem Rd.drop {w : World} {b o n c : Nat} {l : List UInt8} (h : Rd w (some ⟨b, o, none⟩) n c l) {k : Nat} (hk : k ≤ n) : Rd w (some ⟨b, o + k, none⟩) (n - k) (c - k) (l.drop k) := by
  have := h.v.drop hk
  refine RdV.bytes ?_
  unfold bs at this ⊢
  rwa [List.map_drop]
theorem Rd.empty (w : World) (A : Option Addr) : Rd w A 0 0 [] := ⟨rfl, Nat.le_refl _, Nat.zero_le _, fun _ => rfl, fun h => absurd h (by omega)⟩

/-- A place of a row of ints, in every later world. -/
theorem RdI.cells_later {w : World} {b o n c : Nat} {l : List Int} (h : RdI w (some ⟨b, o, none⟩) n c l) {k : Nat} {x : Int} (hx : l[k]? = some x) :
    ∀ w', Below w.heap.size w w' → w'.cell? ⟨b, o + k, none⟩ = some (.int .i64 x) := by
  intro w' hb
  have hk : k < l.length := by
    rcases Nat.lt_or_ge k l.length with h | h
    · exact h
    · rw [List.getElem?_eq_none h] at hx; cases hx
  obtain ⟨b', o', hA, hc⟩ := h.2.2.2.2 (by have := h.1; rw [is_length] at this; omega)
  injection hA with hA
  injection hA with e1 e2
  subst e1; subst e2
  have := hc k _ (is_of hx)
  exact (hb.cell (World.block_lt_of_cell? _ _ this)).trans this
theorem RdI.at_ {w : World} {A : Option Addr} {n c : Nat} {l : List Int} (h : RdI w A n c l) {k : Nat} (hk : k < n) : ∃ b o x, A = some ⟨b, o, none⟩ ∧ l[k]? = some x ∧ w.cell? ⟨b, o + k, none⟩ = some (.int .i64 x) := by
  obtain ⟨b, o, u, hA, hu, hc⟩ := RdV.at_ h hk
  simp only [is, List.getElem?_map, Option.map_eq_some_iff] at hu
  obtain ⟨x, hx, rfl⟩ := hu
  exact ⟨b, o, x, hA, hx, hc⟩
theorem RdI.size {w : World} {A : Option Addr} {n c : Nat} {l : List Int} (h : RdI w A n c l) : l.length = n := by have := h.1; rwa [is_length] at this

/-- A row of one-cell values of the call's own. -/
abbrev OwnV (w : World) (base : Nat) (e : TypeId) (v : Value) (n : Nat) (l : List Value) : Prop := w.ownsRow base e 1 v n l
theorem OwnV.size {w : World} {base n : Nat} {e : TypeId} {v : Value} {l : List Value} (h : OwnV w base e v n l) : l.length = n := by have := h.1; omega
theorem OwnV.rd {w : World} {base n : Nat} {e : TypeId} {v : Value} {l : List Value} (h : OwnV w base e v n l) : ∃ A c, v = .slice A n c ∧ RdV w A n c l := by
  have hl := OwnV.size h
  rcases h.2 with ⟨rfl, rfl⟩ | ⟨g, cap, cur, rfl, hb, hh, hn, hm, hs, ht⟩
  · have : l = [] := List.eq_nil_of_length_eq_zero hl
    subst this
    exact ⟨none, 0, rfl, RdV.nil_ w⟩
  · refine ⟨some ⟨g, 0, none⟩, cap, rfl, hl, hn, hm, (fun h => by cases h), fun _ => ⟨g, 0, rfl, fun i x hx => ?_⟩⟩
    have := World.ownsRow.cells (g := g) h rfl i _ hx
    rw [add_eq] at this
    exact this
theorem OwnV.same {w : World} {base : Nat} {t : TypeId} {A : Option Addr} {n c : Nat} {l : List Value} (h : OwnV w base t (.slice A n c) n l) : RdV w A n c l := by
  obtain ⟨A', c', e, hr⟩ := OwnV.rd h
  injection e with e1 _ e2
  subst e1; subst e2
  exact hr
theorem OwnV.below {w w' : World} {base n : Nat} {e : TypeId} {v : Value} {l : List Value} (h : OwnV w base e v n l) (hg : w.grownBy w' v.ownBlock) (hb : base ≤ w.heap.size) : Below base w w' :=
  (Below.refl _ _).grown hg hb (fun k hk => (World.ownsRow.lt h k hk).1)
theorem OwnV.mono {w : World} {base base' n : Nat} {e : TypeId} {v : Value} {l : List Value} (h : OwnV w base e v n l) (hb : base' ≤ base) : OwnV w base' e v n l := by
  refine ⟨h.1, ?_⟩
  rcases h.2 with h2 | ⟨g, cap, cur, hv, hg, r⟩
  · exact .inl h2
  · exact .inr ⟨g, cap, cur, hv, by omega, r⟩
theorem OwnV.form {w : World} {base n : Nat} {e : TypeId} {v : Value} {l : List Value} (h : OwnV w base e v n l) (h0 : 0 < n) :
    ∃ g cap, v = .slice (some ⟨g, 0, none⟩) n cap ∧ base ≤ g ∧ g < w.heap.size ∧ n ≤ cap ∧ cap ≤ maxLen := by
  rcases h.2 with ⟨_, rfl⟩ | ⟨g, cap, cur, rfl, hb, hh, hn, hm, hs, ht⟩
  · omega
  · refine ⟨g, cap, rfl, hb, ?_, hn, hm⟩
    rcases Nat.lt_or_ge g w.heap.size with hlt | hge
    · exact hlt
    · rw [Array.getElem?_eq_none hge] at hh; cases hh
theorem OwnV.later {w w' : World} {base n : Nat} {e : TypeId} {v : Value} {l : List Value} (h : OwnV w base e v n l) (hb : Below w.heap.size w w') : OwnV w' base e v n l := by
  refine ⟨h.1, ?_⟩
  rcases h.2 with h2 | ⟨g, cap, cur, hv, hg, hh, r⟩
  · exact .inl h2
  · refine .inr ⟨g, cap, cur, hv, hg, ?_, r⟩
    have hlt : g < w.heap.size := by
      rcases Nat.lt_or_ge g w.heap.size with hlt | hge
      · exact hlt
      · rw [Array.getElem?_eq_none hge] at hh; cases hh
    rw [hb.block g hlt]
    exact hh
/-- A row stays while one of another element type is grown. -/
theorem OwnV.grown {w w' : World} {base base' n n' : Nat} {e e' : TypeId} {v v' : Value} {l l' : List Value} (h : OwnV w base e v n l) (h' : OwnV w base' e' v' n' l') (hne : e ≠ e') (hg : w.grownBy w' v'.ownBlock) : OwnV w' base e v n l := by
  refine ⟨h.1, ?_⟩
  rcases h.2 with h2 | ⟨g, cap, cur, hv, hb, hh, r⟩
  · exact .inl h2
  · refine .inr ⟨g, cap, cur, hv, hb, ?_, r⟩
    have hlt : g < w.heap.size := by
      rcases Nat.lt_or_ge g w.heap.size with hlt | hge
      · exact hlt
      · rw [Array.getElem?_eq_none hge] at hh; cases hh
    rw [hg.block g hlt ?_]
    · exact hh
    · intro he
      rcases h'.2 with ⟨rfl, _⟩ | ⟨g', cap', cur', rfl, _, hh', _⟩
      · simp [Value.ownBlock] at he
      · have : g' = g := by simpa [Value.ownBlock] using he.symm
        subst this
        rw [hh] at hh'
        injection hh' with hh'
        injection hh' with _ ht
        exact hne ht
/-- What a call gives that makes a slice of ints of its own and turns nothing that was. -/
def GivesI (w : World) (t : TypeId) (l : List Int) (e : Ending) (w' : World) : Prop :=
  ∃ A c, e = .returned (.slice A l.length c) ∧ OwnV w' w.heap.size t (.slice A l.length c) l.length (is l) ∧ Below w.heap.size w w'

/-- append onto a row of the call's own, whatever the source. -/
theorem run_appV {P : Program} (w : World) (base : Nat) (t ty e : TypeId) (i : TypeInfo) (ht : P.underlying t = some (.slice e)) (hi : P.info? e = some i) (z : Value) (hz : i.zero = some z)
    (hsize : i.size = 1) (bytes : Nat) (hby : i.bytes = bytes) (hzc : z.cells.size = 1) (v : Value) (n : Nat) (xs : List Value) (hown : OwnV w base e v n xs)
    (A : Option Addr) (m c : Nat) (l : List Value) (hr : RdV w A m c l) (h1 : ∀ u ∈ l, u.oneCell' = true) (h63 : n + m ≤ 1099511627776) (hb128 : bytes ≤ 128) (hbase : base ≤ w.heap.size) :
    ∃ v' w', (Builtin.append_ #[t, t] ty #[v, .slice A m c]).run P w = .ok v' w' ∧ OwnV w' base e v' (n + m) (xs ++ l) ∧ w.grownBy w' v.ownBlock ∧
      (v'.ownBlock = v.ownBlock ∨ v'.ownBlock = some w.heap.size) := by
  cases A with
  | none =>
    obtain ⟨rfl, rfl, rfl⟩ := hr.nilA
    refine ⟨v, w, ?_, by simpa using hown, World.grownBy.refl w _, .inl rfl⟩
    rcases hown.2 with ⟨rfl, rfl⟩ | ⟨g, cap, cur, rfl, _, _, hnc, _⟩
    · simp [Builtin.append_, run_underlying ht, sizeOf, typeInfo, hi, Builtin.lenOf, Builtin.firstCells]
    · simp [Builtin.append_, run_underlying ht, sizeOf, typeInfo, hi, Builtin.lenOf, Builtin.firstCells, hnc, storeCells]
  | some ad =>
    have hcells : ∀ j u, l[j]? = some u → w.cell? (ad.add j) = some u := by
      intro j u hu
      have hj : j < l.length := by
        rcases Nat.lt_or_ge j l.length with h | h
        · exact h
        · rw [List.getElem?_eq_none h] at hu; cases hu
      obtain ⟨b, o, hA, hc⟩ := hr.2.2.2.2 (by have := hr.1; omega)
      injection hA with hA
      subst hA
      rw [add_eq]
      exact hc j u hu
    have hbytes : (n + m) * bytes ≤ 140737488355328 := Nat.le_trans (Nat.mul_le_mul h63 hb128) (by decide)
    obtain ⟨v', w', hrun, h2, h3, _, h5⟩ := run_append_own_at (P := P) w base t ty e i z 1 bytes ht hi hz hsize hby hzc (by omega) v n xs hown ad m c l (by rw [hr.1]; omega) hcells h1
      (by simp only [maxLen]; omega) hbytes hbase
    exact ⟨v', w', hrun, h2, h3, h5⟩

theorem wpList_appV {P : Program} {w : World} {ops : Array Oper} {rest : List Oper} {o : Oper} {a : Act} {Q : Exit → Act → World → Prop} (hgd : Region.wanted o (yielded ops a.tmps) = true) (s x : Operand) (t : TypeId)
    (ho : o.op = .call { callee := .builtin .append, args := #[s, x], argTypes := #[t, t] })
    (base : Nat) (e : TypeId) (z : Value) (bytes : Nat) (hi : (P.info? e).map (fun i => (i.zero, i.size, i.bytes)) = some (some z, 1, bytes)) (hzc : z.cells.size = 1) (hb128 : bytes ≤ 128) (ht : P.underlying t = some (.slice e))
    (v : Value) (n : Nat) (xs : List Value) (hs : a.eval s = v) (hown : OwnV w base e v n xs)
    (A : Option Addr) (m c : Nat) (l : List Value) (hx : a.eval x = .slice A m c) (hr : RdV w A m c l) (h1 : ∀ u ∈ l, u.oneCell' = true)
    (h63 : n + m ≤ 1099511627776) (hbase : base ≤ w.heap.size)
    (h : ∀ v' w', OwnV w' base e v' (n + m) (xs ++ l) → Below base w w' → w.grownBy w' v.ownBlock → wpList P ops Q rest (a.put o.dst v') w') : wpList P ops Q (o :: rest) a w := by
  obtain ⟨i0, hi0, hz0, hz1, hz2⟩ := info_parts hi
  refine wpList_step fun K hK => ?_
  rw [if_pos hgd]
  obtain ⟨v', w', hrun, h2, h3, h4⟩ := run_appV (P := P) w base t o.type e i0 ht hi0 z hz0 hz1 bytes hz2 hzc v n xs hown A m c l hr h1 h63 hb128 hbase
  unfold Oper.wp execOp
  simp only [ho, resolve, invoke, builtin, Sem.run_bind, Sem.run_pure, Result.andThen_ok, List.map_toArray, List.map_cons, List.map_nil, hs, hx, hrun]
  exact hK _ _ (h v' w' h2 (hown.below h3 hbase) h3)

/-- The same under a guard that holds, inside a region that draws its order or not. -/
theorem step_appV {P : Program} {w : World} {ops : Array Oper} {o : Oper} {a : Act} {K : Act → World → Prop} {Q : Exit → Act → World → Prop} {E : Prop} (hw : Region.wanted o (yielded ops a.tmps) = true) (s x : Operand) (t : TypeId)
    (ho : o.op = .call { callee := .builtin .append, args := #[s, x], argTypes := #[t, t] })
    (base : Nat) (e : TypeId) (z : Value) (bytes : Nat) (hi : (P.info? e).map (fun i => (i.zero, i.size, i.bytes)) = some (some z, 1, bytes)) (hzc : z.cells.size = 1) (hb128 : bytes ≤ 128) (ht : P.underlying t = some (.slice e))
    (v : Value) (n : Nat) (xs : List Value) (hs : a.eval s = v) (hown : OwnV w base e v n xs)
    (A : Option Addr) (m c : Nat) (l : List Value) (hx : a.eval x = .slice A m c) (hr : RdV w A m c l) (h1 : ∀ u ∈ l, u.oneCell' = true)
    (h63 : n + m ≤ 1099511627776) (hbase : base ≤ w.heap.size)
    (h : ∀ v' w', OwnV w' base e v' (n + m) (xs ++ l) → Below base w w' → w.grownBy w' v.ownBlock → K (a.put o.dst v') w') : if Region.wanted o (yielded ops a.tmps) = true then Oper.wp P o a w K Q else E := by
  rw [if_pos hw]
  obtain ⟨i0, hi0, hz0, hz1, hz2⟩ := info_parts hi
  obtain ⟨v', w', hrun, h2, h3, h4⟩ := run_appV (P := P) w base t o.type e i0 ht hi0 z hz0 hz1 bytes hz2 hzc v n xs hown A m c l hr h1 h63 hb128 hbase
  unfold Oper.wp execOp
  simp only [ho, resolve, invoke, builtin, Sem.run_bind, Sem.run_pure, Result.andThen_ok, List.map_toArray, List.map_cons, List.map_nil, hs, hx, hrun]
  exact h v' w' h2 (hown.below h3 hbase) h3

/-- make of so many values. -/
theorem wpList_mkV {P : Program} {w : World} {ops : Array Oper} {rest : List Oper} {o : Oper} {a : Act} {Q : Exit → Act → World → Prop} (hgd : o.guard = none) (x y : Operand) (t : TypeId)
    (ho : o.op = Op.makeSlice t x y) (e : TypeId) (z : Value) (bytes : Nat) (hi : (P.info? e).map (fun i => (i.zero, i.size, i.bytes)) = some (some z, 1, bytes)) (hz1 : z.cells = #[z]) (hb128 : bytes ≤ 128) (ht : P.underlying t = some (.slice e))
    (kl kc : IntKind) (X : Int) (n : Nat) (hl : a.eval x = .int kl X) (hc : a.eval y = .int kc X) (hX : X = (n : Int)) (hn : n ≤ 1099511627776)
    (h : ∀ w', OwnV w' w.heap.size e (.slice (some ⟨w.heap.size, 0, none⟩) n n) n (List.replicate n z) → Below w.heap.size w w' → wpList P ops Q rest (a.put o.dst (.slice (some ⟨w.heap.size, 0, none⟩) n n)) w') : wpList P ops Q (o :: rest) a w := by
  subst hX
  have hbytes : bytes * n ≤ 281474976710656 := Nat.le_trans (Nat.mul_le_mul hb128 hn) (by decide)
  have hrun := Go.run_make_row' (P := P) t e z bytes ht hi hz1 kl kc n hbytes (by omega) w
  refine wpList_plain hgd fun K hK => ?_
  unfold Oper.wp
  simp only [execOp, ho, hl, hc, Sem.run_bind, hrun, Result.andThen]
  refine hK _ _ (h _ ?_ ((Below.refl _ _).alloc (Nat.le_refl _) _))
  have := World.ownsRow_lit (base := w.heap.size) (e := e) (size := 1) w (madeCells #[z] n) n (Nat.le_refl _) (by simp only [maxLen]; omega) (by rw [size_madeCells]; omega)
  rw [toList_madeCells_one] at this
  exact this
end Go.Proofs.Ytdchgnmkeefffaa
/- What every text of the seat leans on: the byte's row in the table of types, bytes as strings. -/
namespace Go.Proofs.Ytdchgnmkeefffaa
open Go.RowKit
set_option linter.unusedVariables false

theorem info5 : (Try.prog.info? 5).map (fun i => (i.zero, i.size, i.bytes)) = some (some (.int .u8 0), 1, 1) := by kernel_rfl

/-- The bytes as a string, in every later world. -/
theorem strs {w : World} {A : Option Addr} {n c : Nat} {l : List UInt8} (h : Rd w A n c l) : ∀ w', Below w.heap.size w w' → Sem.run Try.prog (convert 33 9 (.slice A n c)) w' = .ok (.string (str l)) w' :=
  fun w' hb => run_str (h.below hb) Try.underlying33 Try.underlying5 Try.underlying9

end Go.Proofs.Ytdchgnmkeefffaa
/- A slice of bytes that came in, read as a list of bytes. -/
namespace Go.Proofs.Ytdchgnmkeefffaa
open Go.RowKit

/-- A slice of integers that came in: nil, or a row of 'cap' cells that hold 'zs'. -/
def IsRow (k : IntKind) (w : World) (a : Option Addr) (len cap : Nat) (zs : List Int) : Prop :=
  (a = none ∧ len = 0 ∧ cap = 0 ∧ zs = []) ∨
  ∃ x, a = some x ∧ len ≤ cap ∧ cap ≤ maxLen ∧ zs.length = cap ∧ (∀ i, i < zs.length → w.cell? (x.add i) = some (.int k (zs.getD i 0))) ∧ ∀ n ∈ zs, (Lit.int k n).wf = true

theorem rd_row {w : World} {a : Option Addr} {len cap : Nat} {zs : List Int} (h : IsRow .u8 w a len cap zs) : ∃ l, Rd w a len cap l := by
  rcases h with ⟨rfl, rfl, rfl, rfl⟩ | ⟨x, rfl, hl, hm, hz, hc, hw⟩
  · exact ⟨[], Rd.nil_ w⟩
  · refine ⟨(zs.take len).map fun z => UInt8.ofNat z.toNat, by rw [List.length_map, List.length_take]; omega, hl, hm, (fun h => by cases h), fun h0 => ?_⟩
    obtain ⟨b, o, spot⟩ := x
    have hspot : spot = none := by simpa [Addr.add] using World.cell?_spot (hc 0 (by omega))
    subst hspot
    refine ⟨b, o, rfl, fun i y hy => ?_⟩
    simp only [List.getElem?_map, List.getElem?_take, Option.map_eq_some_iff] at hy
    obtain ⟨z, hz1, rfl⟩ := hy
    split at hz1
    · have hi : i < zs.length := by
        rcases Nat.lt_or_ge i zs.length with h | h
        · exact h
        · rw [List.getElem?_eq_none h] at hz1; cases hz1
      have h1 := hc i hi
      rw [add_eq, List.getD_eq_getElem?_getD, hz1] at h1
      rw [h1]
      have hwf := hw z (List.mem_of_getElem? hz1)
      have hbd : 0 ≤ z ∧ z < 256 := by
        simp [Lit.wf, IntKind.min, IntKind.max, IntKind.bits, IntKind.signed] at hwf
        omega
      rw [UInt8.toNat_ofNat']
      congr 2
      show z = _
      omega
    · cases hz1
end Go.Proofs.Ytdchgnmkeefffaa
/- What an argument holds, opened by its type: numbers, bools, strings, rows of numbers, structs, arrays. No program is named here. -/
namespace Go.Proofs.Ytdchgnmkeefffaa
open Go.RowKit Go.ChangeShapes Go.WideShapes Go.ChangeAt
set_option linter.unusedVariables false

/-- A datum of the type lies at these cells. -/
def Tr (P : Program) (w : World) (t : TypeId) (cs : List Value) : Prop :=
  ∃ (H : Type) (enc : TypeId × Value → H) (fuel : Nat) (x : DataW H × List MemPlace), DataW.trod enc P w 0 (fun _ => true) true fuel t cs = some x
section
variable {P : Program} {w : World} {t : TypeId} {cs : List Value}
theorem Tr.of {H : Type} {enc : TypeId × Value → H} {v : Value} {d : DataW H} {p : List MemPlace} (h : DataW.Trod enc P w 0 (fun _ => true) true t v d p) : Tr P w t v.cells.toList := by
  obtain ⟨fuel, hf⟩ := h
  exact ⟨H, enc, fuel, _, hf⟩
theorem Tr.int {k : IntKind} (ht : P.underlying t = some (.int k)) (h : Tr P w t cs) : ∃ a, cs = [.int k a] ∧ (Lit.int k a).wf = true := by
  obtain ⟨H, enc, fuel, x, hf⟩ := h
  obtain ⟨a, h1, _, h3⟩ := DataW.trod_int ht hf
  exact ⟨a, h1, h3⟩
theorem Tr.str_ (ht : P.underlying t = some .string) (h : Tr P w t cs) : ∃ s : ByteArray, cs = [.string s] ∧ s.size ≤ maxLen := by
  obtain ⟨H, enc, fuel, x, hf⟩ := h
  obtain ⟨a, h1, _, h3⟩ := DataW.trod_string ht hf
  exact ⟨a, h1, h3⟩
theorem Tr.row {e : TypeId} {k : IntKind} (ht : P.underlying t = some (.slice e)) (he : P.underlying e = some (.int k)) (hc : P.cellsOf e = 1) (h : Tr P w t cs) : ∃ A n c zs, cs = [.slice A n c] ∧ IsRow k w A n c zs := by
  obtain ⟨H, enc, fuel, x, hf⟩ := h
  rcases open_ints ht he hc hf with ⟨hcs, _⟩ | ⟨x, l, c, zs, hcs, _, hl, hm, hz, _, hcell, hwz⟩
  · exact ⟨none, 0, 0, [], hcs, .inl ⟨rfl, rfl, rfl, rfl⟩⟩
  · exact ⟨some x, l, c, zs, hcs, .inr ⟨_, rfl, hl, hm, by simpa using hz, hcell, hwz⟩⟩
theorem Tr.struct {fs : Array Field} (ht : P.underlying t = some (.struct fs)) (h : Tr P w t cs) : cs.length = P.cellsOf t ∧ ∀ (i : Nat) (f : Field), fs[i]? = some f → Tr P w f.type ((cs.drop f.offset).take (P.cellsOf f.type)) := by
  obtain ⟨H, enc, fuel, x, hf⟩ := h
  obtain ⟨xs, n, _, _, hl, hxl, hall⟩ := DataW.trod_struct ht hf
  refine ⟨hl, fun i f hi => ?_⟩
  have h1 := hall i f hi
  have hlt : i < xs.length := by rw [hxl]; exact (Array.getElem?_eq_some_iff.1 hi).1
  rw [List.getElem?_eq_getElem hlt] at h1
  exact ⟨H, enc, n, _, h1⟩
theorem Tr.array {n : Nat} {e : TypeId} (ht : P.underlying t = some (.array n e)) (h : Tr P w t cs) : cs.length = P.cellsOf t ∧ ∀ i, i < n → Tr P w e ((cs.drop (i * P.cellsOf e)).take (P.cellsOf e)) := by
  obtain ⟨H, enc, fuel, x, hf⟩ := h
  obtain ⟨xs, m, _, _, hl, hxl, hall⟩ := DataW.trod_array ht hf
  refine ⟨hl, fun i hi => ?_⟩
  have h1 := hall i hi
  rw [List.getElem?_eq_getElem (by omega)] at h1
  exact ⟨H, enc, m, _, h1⟩
theorem wf_u8 {a : Int} (h : (Lit.int .u8 a).wf = true) : 0 ≤ a ∧ a < 256 := by
  simp [Lit.wf, IntKind.min, IntKind.max, IntKind.bits, IntKind.signed] at h
  omega
theorem wf_i64 {a : Int} (h : (Lit.int .i64 a).wf = true) : -9223372036854775808 ≤ a ∧ a ≤ 9223372036854775807 := by
  simp [Lit.wf, IntKind.min, IntKind.max, IntKind.bits, IntKind.signed] at h
  omega
/-- A row of ints that came in. -/
theorem rdi_row {a : Option Addr} {len cap : Nat} {zs : List Int} (h : IsRow .i64 w a len cap zs) : ∃ l, RdI w a len cap l ∧ ∀ x ∈ l, -9223372036854775808 ≤ x ∧ x ≤ 9223372036854775807 := by
  rcases h with ⟨rfl, rfl, rfl, rfl⟩ | ⟨x, rfl, hl, hm, hz, hc, hw⟩
  · exact ⟨[], RdV.nil_ w, fun x hx => by cases hx⟩
  · refine ⟨zs.take len, ⟨by rw [is_length, List.length_take]; omega, hl, hm, (fun h => by cases h), fun h0 => ?_⟩, fun x hx => wf_i64 (hw x (List.mem_of_mem_take hx))⟩
    obtain ⟨b, o, spot⟩ := x
    have hspot : spot = none := by simpa [Addr.add] using World.cell?_spot (hc 0 (by omega))
    subst hspot
    refine ⟨b, o, rfl, fun i u hu => ?_⟩
    simp only [is, List.getElem?_map, List.getElem?_take, Option.map_eq_some_iff] at hu
    obtain ⟨z, hz1, rfl⟩ := hu
    split at hz1
    · have hi : i < zs.length := by
        rcases Nat.lt_or_ge i zs.length with h | h
        · exact h
        · rw [List.getElem?_eq_none h] at hz1; cases hz1
      have h1 := hc i hi
      rw [add_eq, List.getD_eq_getElem?_getD, hz1] at h1
      exact h1
    · cases hz1
theorem Tr.bytes {e : TypeId} (ht : P.underlying t = some (.slice e)) (he : P.underlying e = some (.int .u8)) (hc : P.cellsOf e = 1) (h : Tr P w t cs) : ∃ A n c l, cs = [.slice A n c] ∧ Rd w A n c l := by
  obtain ⟨A, n, c, zs, rfl, hr⟩ := h.row ht he hc
  obtain ⟨l, hl⟩ := rd_row hr
  exact ⟨A, n, c, l, rfl, hl⟩
theorem Tr.ints {e : TypeId} (ht : P.underlying t = some (.slice e)) (he : P.underlying e = some (.int .i64)) (hc : P.cellsOf e = 1) (h : Tr P w t cs) : ∃ A n c l, cs = [.slice A n c] ∧ RdI w A n c l := by
  obtain ⟨A, n, c, zs, rfl, hr⟩ := h.row ht he hc
  obtain ⟨l, hl, _⟩ := rdi_row hr
  exact ⟨A, n, c, l, rfl, hl⟩
end
theorem list4 {α : Type} (l : List α) (h : l.length = 4) : ∃ a b c d, l = [a, b, c, d] := by
  match l, h with
  | [a, b, c, d], _ => exact ⟨a, b, c, d, rfl⟩
end Go.Proofs.Ytdchgnmkeefffaa
/- What bytes.Clone comes to, for every slice of at most 65536 bytes. -/
namespace Go.Proofs.Ytdchgnmkeefffaa
open Go.RowKit

theorem clone_any (A : Option Addr) (n c : Nat) (l : List UInt8) (w : World) (h : Rd w A n c l) (hn : n ≤ 65536) :
    Calls Try.prog 44 #[.slice A n c] w (Gives w 5 l) := by
  have hq := fun w => Lib.run_eql_slice_nil (P := Try.prog) w 33 5 A n c 0 0 Try.underlying33
  cases A with
  | none =>
    obtain ⟨rfl, rfl, rfl⟩ := h.nilA
    go_enter Try.func44, Try.ntmps44
    go_wp2
    go_ret
    exact ⟨none, 0, rfl, World.ownsRow_nil _ _ _ _, Below.refl _ _⟩
  | some ad =>
    go_enter Try.func44, Try.ntmps44
    go_wp2_with (
      at_builtin
      refine wpList_app rfl (.tmp 5) (.tmp 6) 33 rfl w.heap.size 5 info5 Try.underlying33 (.slice (some ⟨w.heap.size, 0, none⟩) 0 0) 0 [] rfl ?own (some ad) n c l rfl ?rd ?h63 ?hb ?_
      case own => exact World.ownsRow_made (base := w.heap.size) (e := 5) (size := 1) w #[] 0 (Nat.le_refl _) (Nat.zero_le _) rfl
      case rd => exact h.alloc _
      case h63 => omega
      case hb => simp
      intro v1 w1 hown hb)
    go_ret
    exact Own.gives hown (((Below.refl _ _).alloc (Nat.le_refl _) _).trans hb)

end Go.Proofs.Ytdchgnmkeefffaa
/- A block of cells that is written, whole or at a cell, while all others stay. No program is named here. -/
namespace Go.Proofs.Ytdchgnmkeefffaa
open Go.RowKit
set_option linter.unusedVariables false

theorem cell_at {w : World} {b : Nat} {cs : Array Value} {t : TypeId} (h : w.heap[b]? = some (.cells cs t (0, 0))) (i : Nat) {u : Value} (hu : cs[i]? = some u) : w.cell? ⟨b, i, none⟩ = some u := by
  rw [cell_of_row _ b _ _ t (0, 0) h]
  exact hu
theorem alloc_old (w : World) (o : Obj) (b : Nat) (h : b < w.heap.size) : (w.alloc o).heap[b]? = w.heap[b]? := by
  show (w.heap.push o)[b]? = _
  rw [Array.getElem?_push, if_neg (by omega)]
theorem alloc_at (w : World) (o : Obj) (b : Nat) (h : b = w.heap.size) : (w.alloc o).heap[b]? = some o := by
  subst h
  exact heap_alloc_new w o
theorem size_alloc (w : World) (o : Obj) : (w.alloc o).heap.size = w.heap.size + 1 := by
  show (w.heap.push o).size = _
  exact Array.size_push ..
/-- All blocks but one are as they were. -/
def But (g : Nat) (w w' : World) : Prop := w'.heap.size = w.heap.size ∧ ∀ b, b ≠ g → w'.heap[b]? = w.heap[b]?
theorem cell_congr {w w' : World} {p : Addr} (h : w'.heap[p.block]? = w.heap[p.block]?) : w'.cell? p = w.cell? p := by
  unfold World.cell?
  rw [h]
theorem But.cell {g : Nat} {w w' : World} (h : But g w w') {p : Addr} (hp : p.block ≠ g) {u : Value} (hu : w.cell? p = some u) : w'.cell? p = some u := (cell_congr (h.2 _ hp)).trans hu
theorem But.setRow (w : World) (g : Nat) (cs : Array Value) : But g w (w.setRow g cs) := by
  refine ⟨size_setRow w g cs, fun b hb => ?_⟩
  unfold World.setRow
  simp only [Array.getElem?_modify]
  rw [if_neg (fun e => hb e.symm)]
theorem But.setCell (w : World) (g i : Nat) (v : Value) : But g w (w.setCell ⟨g, i, none⟩ v) := ⟨by simp [World.setCell], fun b hb => heap_setCell_other w ⟨g, i, none⟩ b v hb⟩
theorem row_setRow (w : World) (g : Nat) (cs old : Array Value) (t : TypeId) (fr : Nat × Nat) (h : w.heap[g]? = some (.cells old t fr)) : (w.setRow g cs).heap[g]? = some (.cells cs t fr) := by
  unfold World.setRow
  simp only [Array.getElem?_modify]
  rw [if_pos trivial, h]
  rfl
theorem Own.but {w w' : World} {base n g : Nat} {e : TypeId} {v : Value} {l : List UInt8} (h : Own w base e v n l) (hg : g < base) (hb : But g w w') : Own w' base e v n l := by
  refine ⟨h.1, ?_⟩
  rcases h.2 with h2 | ⟨k, cap, cur, hv, hk, hh, r⟩
  · exact .inl h2
  · exact .inr ⟨k, cap, cur, hv, hk, (hb.2 k (by omega)).trans hh, r⟩
theorem OwnV.but {w w' : World} {base n g : Nat} {e : TypeId} {v : Value} {l : List Value} (h : OwnV w base e v n l) (hg : g < base) (hb : But g w w') : OwnV w' base e v n l := by
  refine ⟨h.1, ?_⟩
  rcases h.2 with h2 | ⟨k, cap, cur, hv, hk, hh, r⟩
  · exact .inl h2
  · exact .inr ⟨k, cap, cur, hv, hk, (hb.2 k (by omega)).trans hh, r⟩
theorem Rd.but {w w' : World} {A : Option Addr} {n c g : Nat} {l : List UInt8} (h : Rd w A n c l) (hg : ∀ b o, A = some ⟨b, o, none⟩ → b ≠ g) (hb : But g w w') : Rd w' A n c l := by
  obtain ⟨h1, h2, h3, h4, h5⟩ := h
  refine ⟨h1, h2, h3, h4, fun h0 => ?_⟩
  obtain ⟨b, o, hA, hc⟩ := h5 h0
  exact ⟨b, o, hA, fun i x hx => hb.cell (hg b o hA) (hc i x hx)⟩

theorem all8 {a0 a1 a2 a3 a4 a5 a6 a7 : Value} (h0 : a0.oneCell' = true) (h1 : a1.oneCell' = true) (h2 : a2.oneCell' = true) (h3 : a3.oneCell' = true) (h4 : a4.oneCell' = true) (h5 : a5.oneCell' = true) (h6 : a6.oneCell' = true) (h7 : a7.oneCell' = true) :
    (#[a0, a1, a2, a3, a4, a5, a6, a7] : Array Value).all (·.oneCell') = true := by simp [h0, h1, h2, h3, h4, h5, h6, h7]
theorem RdV.but {w w' : World} {A : Option Addr} {n c g : Nat} {l : List Value} (h : RdV w A n c l) (hg : ∀ b o, A = some ⟨b, o, none⟩ → b ≠ g) (hb : But g w w') : RdV w' A n c l := by
  obtain ⟨h1, h2, h3, h4, h5⟩ := h
  refine ⟨h1, h2, h3, h4, fun h0 => ?_⟩
  obtain ⟨b, o, hA, hc⟩ := h5 h0
  exact ⟨b, o, hA, fun i x hx => hb.cell (hg b o hA) (hc i x hx)⟩
theorem no_addr {base : Nat} : ∀ b o, (none : Option Addr) = some ⟨b, o, none⟩ → base ≤ b := fun _ _ h => by cases h
theorem addrV {w : World} {base base' n c : Nat} {e : TypeId} {A : Option Addr} {l : List Value} (h : OwnV w base e (.slice A n c) n l) (hb : base' ≤ base) : ∀ b o, A = some ⟨b, o, none⟩ → base' ≤ b := by
  intro b o hA
  subst hA
  rcases h.2 with ⟨h2, _⟩ | ⟨k, cap, cur, hv, hk, _⟩
  · cases h2
  · injection hv with hv
    injection hv with hv
    injection hv with hv
    omega
theorem addrB {w : World} {base base' n c : Nat} {e : TypeId} {A : Option Addr} {l : List UInt8} (h : Own w base e (.slice A n c) n l) (hb : base' ≤ base) : ∀ b o, A = some ⟨b, o, none⟩ → base' ≤ b := addrV (l := bs l) h hb
/-- A whole struct is stored. -/
theorem wpList_stI {P : Program} {ops : Array Oper} {rest : List Oper} {o : Oper} {a : Act} {w : World} {Q : Exit → Act → World → Prop} (hgd : o.guard = none) (ty : TypeId) (x y : Operand) (ho : o.op = .store ty x y)
    (g : Nat) (cells : Array Value) (hx : a.eval x = .pointer (some ⟨g, 0, none⟩)) (hy : a.eval y = .agg cells)
    (t : TypeId) (old : Array Value) (hg : w.heap[g]? = some (.cells old t (0, 0))) (hi : (P.info? ty).map (·.size) = some cells.size)
    (hold : old.size = cells.size) (h1 : cells.all (·.oneCell') = true)
    (h : ∀ w', w'.heap[g]? = some (.cells cells t (0, 0)) → But g w w' → (∀ base w0, Below base w0 w → base ≤ g → Below base w0 w') → wpList P ops Q rest (a.put o.dst undef) w') : wpList P ops Q (o :: rest) a w :=
  wpList_store_row hgd ty x y ho g cells hx hy t old hg hi hold h1 (h _ (row_setRow w g cells old t (0, 0) hg) (But.setRow w g cells) fun base w0 hb hbg => below_setRow hb hbg cells)
theorem But.trans {g : Nat} {w1 w2 w3 : World} (h : But g w1 w2) (h2 : But g w2 w3) : But g w1 w3 := ⟨h2.1.trans h.1, fun b hb => (h2.2 b hb).trans (h.2 b hb)⟩
theorem But.drew {g : Nat} {w1 w2 : World} (h : But g w1 w2) : But g w1 w2.drew := h
/-- Eight cells of a block are stored one by one. -/
theorem set8 {w : World} {g : Nat} {b0 b1 b2 b3 b4 b5 b6 b7 : Value} {t : TypeId} (h : w.heap[g]? = some (.cells #[b0, b1, b2, b3, b4, b5, b6, b7] t (0, 0))) (a0 a1 a2 a3 a4 a5 a6 a7 : Value) :
    (((((((((w.setCell ⟨g, 0, none⟩ a0).setCell ⟨g, 1, none⟩ a1).setCell ⟨g, 2, none⟩ a2).setCell ⟨g, 3, none⟩ a3).setCell ⟨g, 4, none⟩ a4).setCell ⟨g, 5, none⟩ a5).setCell ⟨g, 6, none⟩ a6).setCell ⟨g, 7, none⟩ a7).drew).heap[g]? = some (.cells #[a0, a1, a2, a3, a4, a5, a6, a7] t (0, 0)) ∧ But g w (((((((((w.setCell ⟨g, 0, none⟩ a0).setCell ⟨g, 1, none⟩ a1).setCell ⟨g, 2, none⟩ a2).setCell ⟨g, 3, none⟩ a3).setCell ⟨g, 4, none⟩ a4).setCell ⟨g, 5, none⟩ a5).setCell ⟨g, 6, none⟩ a6).setCell ⟨g, 7, none⟩ a7).drew) ∧ (∀ base w0, Below base w0 w → base ≤ g → Below base w0 (((((((((w.setCell ⟨g, 0, none⟩ a0).setCell ⟨g, 1, none⟩ a1).setCell ⟨g, 2, none⟩ a2).setCell ⟨g, 3, none⟩ a3).setCell ⟨g, 4, none⟩ a4).setCell ⟨g, 5, none⟩ a5).setCell ⟨g, 6, none⟩ a6).setCell ⟨g, 7, none⟩ a7).drew)) := by
  have s0 : (w.setCell ⟨g, 0, none⟩ a0).heap[g]? = some (.cells #[a0, b1, b2, b3, b4, b5, b6, b7] t (0, 0)) := heap_setCell_same w g 0 _ t a0 h
  have s1 : ((w.setCell ⟨g, 0, none⟩ a0).setCell ⟨g, 1, none⟩ a1).heap[g]? = some (.cells #[a0, a1, b2, b3, b4, b5, b6, b7] t (0, 0)) := heap_setCell_same _ g 1 _ t a1 s0
  have s2 : (((w.setCell ⟨g, 0, none⟩ a0).setCell ⟨g, 1, none⟩ a1).setCell ⟨g, 2, none⟩ a2).heap[g]? = some (.cells #[a0, a1, a2, b3, b4, b5, b6, b7] t (0, 0)) := heap_setCell_same _ g 2 _ t a2 s1
  have s3 : ((((w.setCell ⟨g, 0, none⟩ a0).setCell ⟨g, 1, none⟩ a1).setCell ⟨g, 2, none⟩ a2).setCell ⟨g, 3, none⟩ a3).heap[g]? = some (.cells #[a0, a1, a2, a3, b4, b5, b6, b7] t (0, 0)) := heap_setCell_same _ g 3 _ t a3 s2
  have s4 : (((((w.setCell ⟨g, 0, none⟩ a0).setCell ⟨g, 1, none⟩ a1).setCell ⟨g, 2, none⟩ a2).setCell ⟨g, 3, none⟩ a3).setCell ⟨g, 4, none⟩ a4).heap[g]? = some (.cells #[a0, a1, a2, a3, a4, b5, b6, b7] t (0, 0)) := heap_setCell_same _ g 4 _ t a4 s3
  have s5 : ((((((w.setCell ⟨g, 0, none⟩ a0).setCell ⟨g, 1, none⟩ a1).setCell ⟨g, 2, none⟩ a2).setCell ⟨g, 3, none⟩ a3).setCell ⟨g, 4, none⟩ a4).setCell ⟨g, 5, none⟩ a5).heap[g]? = some (.cells #[a0, a1, a2, a3, a4, a5, b6, b7] t (0, 0)) := heap_setCell_same _ g 5 _ t a5 s4
  have s6 : (((((((w.setCell ⟨g, 0, none⟩ a0).setCell ⟨g, 1, none⟩ a1).setCell ⟨g, 2, none⟩ a2).setCell ⟨g, 3, none⟩ a3).setCell ⟨g, 4, none⟩ a4).setCell ⟨g, 5, none⟩ a5).setCell ⟨g, 6, none⟩ a6).heap[g]? = some (.cells #[a0, a1, a2, a3, a4, a5, a6, b7] t (0, 0)) := heap_setCell_same _ g 6 _ t a6 s5
  have s7 : ((((((((w.setCell ⟨g, 0, none⟩ a0).setCell ⟨g, 1, none⟩ a1).setCell ⟨g, 2, none⟩ a2).setCell ⟨g, 3, none⟩ a3).setCell ⟨g, 4, none⟩ a4).setCell ⟨g, 5, none⟩ a5).setCell ⟨g, 6, none⟩ a6).setCell ⟨g, 7, none⟩ a7).heap[g]? = some (.cells #[a0, a1, a2, a3, a4, a5, a6, a7] t (0, 0)) := heap_setCell_same _ g 7 _ t a7 s6
  have k0 := But.setCell w g 0 a0
  have l0 := fun base w0 (hb : Below base w0 w) (hg : base ≤ g) => hb.setCell (p := ⟨g, 0, none⟩) hg a0
  clear h
  generalize w.setCell ⟨g, 0, none⟩ a0 = v1 at *
  have k1 := k0.trans (But.setCell v1 g 1 a1)
  have l1 := fun base w0 (hb : Below base w0 w) (hg : base ≤ g) => (l0 base w0 hb hg).setCell (p := ⟨g, 1, none⟩) hg a1
  clear k0 l0 s0
  generalize v1.setCell ⟨g, 1, none⟩ a1 = v2 at *
  have k2 := k1.trans (But.setCell v2 g 2 a2)
  have l2 := fun base w0 (hb : Below base w0 w) (hg : base ≤ g) => (l1 base w0 hb hg).setCell (p := ⟨g, 2, none⟩) hg a2
  clear k1 l1 s1
  generalize v2.setCell ⟨g, 2, none⟩ a2 = v3 at *
  have k3 := k2.trans (But.setCell v3 g 3 a3)
  have l3 := fun base w0 (hb : Below base w0 w) (hg : base ≤ g) => (l2 base w0 hb hg).setCell (p := ⟨g, 3, none⟩) hg a3
  clear k2 l2 s2
  generalize v3.setCell ⟨g, 3, none⟩ a3 = v4 at *
  have k4 := k3.trans (But.setCell v4 g 4 a4)
  have l4 := fun base w0 (hb : Below base w0 w) (hg : base ≤ g) => (l3 base w0 hb hg).setCell (p := ⟨g, 4, none⟩) hg a4
  clear k3 l3 s3
  generalize v4.setCell ⟨g, 4, none⟩ a4 = v5 at *
  have k5 := k4.trans (But.setCell v5 g 5 a5)
  have l5 := fun base w0 (hb : Below base w0 w) (hg : base ≤ g) => (l4 base w0 hb hg).setCell (p := ⟨g, 5, none⟩) hg a5
  clear k4 l4 s4
  generalize v5.setCell ⟨g, 5, none⟩ a5 = v6 at *
  have k6 := k5.trans (But.setCell v6 g 6 a6)
  have l6 := fun base w0 (hb : Below base w0 w) (hg : base ≤ g) => (l5 base w0 hb hg).setCell (p := ⟨g, 6, none⟩) hg a6
  clear k5 l5 s5
  generalize v6.setCell ⟨g, 6, none⟩ a6 = v7 at *
  have k7 := k6.trans (But.setCell v7 g 7 a7)
  have l7 := fun base w0 (hb : Below base w0 w) (hg : base ≤ g) => (l6 base w0 hb hg).setCell (p := ⟨g, 7, none⟩) hg a7
  clear k6 l6 s6
  generalize v7.setCell ⟨g, 7, none⟩ a7 = v8 at *
  exact ⟨s7, k7, fun base w0 hb hg => (l7 base w0 hb hg).drew⟩
end Go.Proofs.Ytdchgnmkeefffaa
/- Blocks of one cell or two, and worlds that grow. No program is named here. (What AskMath, Keep2 and KG1 say too: of these only one can lie in a seat.) -/
namespace Go.Proofs.Ytdchgnmkeefffaa
open Go.RowKit
set_option linter.unusedVariables false

theorem nkeep (w : World) (o : Obj) : Below w.heap.size w (w.alloc o) := (Below.refl _ _).alloc (Nat.le_refl _) _
theorem no_frozen {w : World} {g : Nat} {cs : Array Value} {t : TypeId} (h : w.heap[g]? = some (.cells cs t (0, 0))) (i : Nat) : w.frozen? ⟨g, i, none⟩ = false := by simp [World.frozen?, h]
theorem blk_lt {w : World} {g : Nat} {o : Obj} (h : w.heap[g]? = some o) : g < w.heap.size := by
  rcases Nat.lt_or_ge g w.heap.size with hlt | hge
  · exact hlt
  · rw [Array.getElem?_eq_none hge] at h; cases h
theorem keepH {w w' : World} {g : Nat} {o : Obj} (h : w.heap[g]? = some o) (hb : Below w.heap.size w w') : w'.heap[g]? = some o := (hb.block _ (blk_lt h)).trans h
theorem two_alloc (w : World) (o0 o1 : Obj) : ((w.alloc o0).alloc o1).heap[w.heap.size]? = some o0 ∧ ((w.alloc o0).alloc o1).heap[w.heap.size + 1]? = some o1 ∧ Below w.heap.size w ((w.alloc o0).alloc o1) :=
  ⟨by rw [alloc_old _ _ _ (by rw [size_alloc]; omega)]; exact alloc_at _ _ _ rfl, alloc_at _ _ _ (by rw [size_alloc]), bthen (nkeep _ _) (nkeep _ _)⟩
theorem three_alloc (w : World) (o0 o1 o2 : Obj) : (((w.alloc o0).alloc o1).alloc o2).heap[w.heap.size]? = some o0 ∧ (((w.alloc o0).alloc o1).alloc o2).heap[w.heap.size + 1]? = some o1 ∧ (((w.alloc o0).alloc o1).alloc o2).heap[w.heap.size + 2]? = some o2 ∧ Below w.heap.size w (((w.alloc o0).alloc o1).alloc o2) := by
  obtain ⟨h0, h1, hb⟩ := two_alloc w o0 o1
  have hk := nkeep ((w.alloc o0).alloc o1) o2
  exact ⟨keepH h0 hk, keepH h1 hk, alloc_at _ _ _ (by rw [size_alloc, size_alloc]), bthen hb hk⟩
theorem cells1 {w : World} {g : Nat} {a0 : Value} {t : TypeId} (h : w.heap[g]? = some (.cells #[a0] t (0, 0))) : w.cell? ⟨g, 0, none⟩ = some a0 := cell_at h 0 rfl
theorem cells2 {w : World} {g : Nat} {a0 a1 : Value} {t : TypeId} (h : w.heap[g]? = some (.cells #[a0, a1] t (0, 0))) : w.cell? ⟨g, 0, none⟩ = some a0 ∧ w.cell? ⟨g, 1, none⟩ = some a1 := ⟨cell_at h 0 rfl, cell_at h 1 rfl⟩
/-- A block of one cell, stored. -/
theorem set1 {w : World} {g : Nat} {a : Value} {t : TypeId} (h : w.heap[g]? = some (.cells #[a] t (0, 0))) (v : Value) : (w.setCell ⟨g, 0, none⟩ v).heap[g]? = some (.cells #[v] t (0, 0)) := heap_setCell_same w g 0 _ t v h
theorem set_off {w : World} {g b : Nat} {o : Option Obj} (h : w.heap[b]? = o) (hb : b ≠ g) (i : Nat) (v : Value) : (w.setCell ⟨g, i, none⟩ v).heap[b]? = o := (heap_setCell_other w ⟨g, i, none⟩ b v hb).trans h
/-- A block of two cells, stored whole. -/
theorem set2 {w : World} {g : Nat} {a0 a1 : Value} {t : TypeId} (h : w.heap[g]? = some (.cells #[a0, a1] t (0, 0))) (v0 v1 : Value) : ((w.setCell ⟨g, 0, none⟩ v0).setCell ⟨g, 1, none⟩ v1).heap[g]? = some (.cells #[v0, v1] t (0, 0)) := by
  have h1 : (w.setCell ⟨g, 0, none⟩ v0).heap[g]? = some (.cells #[v0, a1] t (0, 0)) := heap_setCell_same w g 0 _ t v0 h
  exact heap_setCell_same _ g 1 _ t v1 h1
theorem size2 {a0 a1 b0 b1 : Value} : (#[a0, a1] : Array Value).size = (#[b0, b1] : Array Value).size := rfl
theorem all2 {a0 a1 : Value} (h0 : a0.oneCell' = true) (h1 : a1.oneCell' = true) : (#[a0, a1] : Array Value).all (·.oneCell') = true := by simp [h0, h1]
end Go.Proofs.Ytdchgnmkeefffaa
/- A slice that came in, opened to its elements; a bool, and a slice of bools. No program is named here. (VecOpen, KeepOpen, WinOpen, FragOpen and NetOpen say the first of these too: of these only one can lie in a seat.) -/
namespace Go.Proofs.Ytdchgnmkeefffaa
open Go.RowKit Go.ChangeShapes Go.WideShapes Go.ChangeAt
set_option linter.unusedVariables false

theorem add_add (a : Addr) (i j : Nat) : (a.add i).add j = a.add (i + j) := by
  unfold Addr.add
  by_cases h1 : i = 0
  · subst h1
    simp
  · by_cases h2 : j = 0
    · subst h2
      simp [h1]
    · rw [if_neg h1, if_neg h2, if_neg (by omega)]
      simp [Nat.add_assoc]
/-- A slice of whatever, opened to its elements' cells. -/
theorem Tr.slice {P : Program} {w : World} {t e : TypeId} {cs : List Value} {k : Nat} (ht : P.underlying t = some (.slice e)) (hk : P.cellsOf e = k) (hk0 : 0 < k) (h : Tr P w t cs) :
    ∃ A n c, cs = [.slice A n c] ∧ n ≤ c ∧ c ≤ maxLen ∧ (A = none → c = 0) ∧
      (0 < n → ∃ b o, A = some ⟨b, o, none⟩ ∧ ∀ i, i < n → ∃ ys : List Value, ys.length = k ∧ Tr P w e ys ∧ ∀ j u, ys[j]? = some u → w.cell? ⟨b, o + (i * k + j), none⟩ = some u) := by
  obtain ⟨H, enc, fuel, x, hf⟩ := h
  rcases DataW.trod_slice ht hf with ⟨rfl, _⟩ | ⟨a, len, cap, elems, rest, n, _, rfl, rfl, hb, hl, hm, hlen, hel, _, _⟩
  · exact ⟨none, 0, 0, rfl, Nat.le_refl _, Nat.zero_le _, fun _ => rfl, fun h => absurd h (by omega)⟩
  · refine ⟨some a, len, cap, rfl, hl, hm, (fun h => by cases h), fun h0 => ?_⟩
    have each : ∀ i, i < len → ∃ ys : List Value, ys.length = k ∧ Tr P w e ys ∧ ∀ j, j < k → w.cell? (a.add (i * k + j)) = ys[j]? := by
      intro i hi
      have h1 := hel i hi
      have hlt : i < elems.length := by omega
      rw [List.getElem?_eq_getElem hlt, Option.bind_eq_some_iff, hk] at h1
      obtain ⟨ys, hys, hy⟩ := h1
      obtain ⟨_, hyl, hyc⟩ := World.cells?_some hys
      refine ⟨ys, hyl, ⟨H, enc, n, _, hy⟩, fun j hj => ?_⟩
      rw [← hyc j hj, add_add]
    obtain ⟨b, o, spot⟩ := a
    have hspot : spot = none := by
      obtain ⟨ys, hyl, _, hyc⟩ := each 0 h0
      have := hyc 0 hk0
      rw [List.getElem?_eq_getElem (by omega)] at this
      simpa [Addr.add] using World.cell?_spot this
    subst hspot
    refine ⟨b, o, rfl, fun i hi => ?_⟩
    obtain ⟨ys, hyl, hyt, hyc⟩ := each i hi
    refine ⟨ys, hyl, hyt, fun j u hu => ?_⟩
    have hj : j < k := by
      rcases Nat.lt_or_ge j k with h | h
      · exact h
      · rw [List.getElem?_eq_none (by omega)] at hu; cases hu
    have := hyc j hj
    rw [add_eq, hu] at this
    exact this

theorem list_of {α : Type} {n : Nat} (F : Nat → α → Prop) (h : ∀ i, i < n → ∃ x, F i x) : ∃ l : List α, l.length = n ∧ ∀ i x, l[i]? = some x → F i x := by
  induction n with
  | zero => exact ⟨[], rfl, fun i x hx => by simp at hx⟩
  | succ n ih =>
    obtain ⟨l, hl, hF⟩ := ih (fun i hi => h i (by omega))
    obtain ⟨y, hy⟩ := h n (by omega)
    refine ⟨l ++ [y], by simp [hl], fun i x hx => ?_⟩
    rcases Nat.lt_trichotomy i n with hi | hi | hi
    · rw [List.getElem?_append_left (by omega)] at hx
      exact hF i x hx
    · subst hi
      rw [List.getElem?_append_right (by omega), hl, Nat.sub_self] at hx
      simp at hx
      subst hx
      exact hy
    · rw [List.getElem?_eq_none (by simp; omega)] at hx; cases hx

theorem Tr.bool {P : Program} {w : World} {t : TypeId} {cs : List Value} (ht : P.underlying t = some .bool) (h : Tr P w t cs) : ∃ a, cs = [.bool a] := by
  obtain ⟨H, enc, fuel, x, hf⟩ := h
  obtain ⟨a, h1, _⟩ := DataW.trod_bool ht hf
  exact ⟨a, h1⟩
/-- Bools as values. -/
def bos (l : List Bool) : List Value := l.map fun x => .bool x
theorem bos_length (l : List Bool) : (bos l).length = l.length := by simp [bos]
theorem Tr.bools {P : Program} {w : World} {t e : TypeId} {cs : List Value} (ht : P.underlying t = some (.slice e)) (he : P.underlying e = some .bool) (hk : P.cellsOf e = 1) (h : Tr P w t cs) : ∃ A n c l, cs = [.slice A n c] ∧ RdV w A n c (bos l) := by
  obtain ⟨A, n, c, rfl, hn, hc, h0, hel⟩ := h.slice ht hk (by omega)
  rcases Nat.eq_zero_or_pos n with h00 | h00
  · subst h00
    exact ⟨A, 0, c, [], rfl, rfl, hn, hc, h0, fun h => absurd h (by omega)⟩
  · obtain ⟨b, o, hA, hr⟩ := hel h00
    obtain ⟨l, hl, hF⟩ := list_of (fun i (x : Bool) => w.cell? ⟨b, o + i, none⟩ = some (.bool x)) (fun i hi => by
      obtain ⟨ys, hys, htr, hc⟩ := hr i hi
      obtain ⟨a, rfl⟩ := htr.bool he
      have := hc 0 _ rfl
      exact ⟨a, by simpa using this⟩)
    refine ⟨A, n, c, l, rfl, by rw [bos_length]; exact hl, hn, hc, h0, fun _ => ⟨b, o, hA, fun i u hu => ?_⟩⟩
    simp only [bos, List.getElem?_map, Option.map_eq_some_iff] at hu
    obtain ⟨x, hx, rfl⟩ := hu
    exact hF i x hx
end Go.Proofs.Ytdchgnmkeefffaa
/- append inside a region that draws its order, its slot written out. No program is named here. -/
namespace Go.Proofs.Ytdchgnmkeefffaa
open Go.RowKit
set_option linter.unusedVariables false

theorem step_appD {P : Program} {w : World} {ops : Array Oper} {o : Oper} {a : Act} {K : Act → World → Prop} {Q : Exit → Act → World → Prop} {E : Prop} (d : Tmp) (hd : o.dst = some d) (hgd : o.guard = none) (s x : Operand) (t : TypeId)
    (ho : o.op = .call { callee := .builtin .append, args := #[s, x], argTypes := #[t, t] })
    (base : Nat) (e : TypeId) (hi : (P.info? e).map (fun i => (i.zero, i.size, i.bytes)) = some (some (.int .u8 0), 1, 1)) (ht : P.underlying t = some (.slice e))
    (v : Value) (n : Nat) (xs : List UInt8) (hs : a.eval s = v) (hown : Own w base e v n xs)
    (A : Option Addr) (m c : Nat) (l : List UInt8) (hx : a.eval x = .slice A m c) (hr : Rd w A m c l)
    (h63 : n + m ≤ 1099511627776) (hbase : base ≤ w.heap.size)
    (h : ∀ v' w', Own w' base e v' (n + m) (xs ++ l) → Below base w w' → K (a.put (some d) v') w') : if Region.wanted o (yielded ops a.tmps) = true then Oper.wp P o a w K Q else E :=
  step_app hgd s x t ho base e hi ht v n xs hs hown A m c l hx hr h63 hbase (fun v' w' h1 h2 => by rw [hd]; exact h v' w' h1 h2)
end Go.Proofs.Ytdchgnmkeefffaa
