/- Words for slices of bytes: what one reads as, what the call owns, append onto it, its bytes as a string. No program is named here. -/
import Derived.WalkKit
import Derived.WalkLawsBesides
import Derived.Maps.AppendAt
import Derived.Deep.Draws
import Derived.Laws.IdiomStrings
set_option maxRecDepth 100000
namespace Go.Proofs.Ytmlmkkfieeaejaa
open Go.RowKit
set_option linter.unusedVariables false

/-- A fact kept from the walk. -/
theorem hidT {p : Prop} (h : p) : Hid p := h

def bs (l : List UInt8) : List Value := l.map fun x => .int .u8 (x.toNat : Int)
theorem bs_length (l : List UInt8) : (bs l).length = l.length := by simp [bs]
theorem bs_append (l m : List UInt8) : bs (l ++ m) = bs l ++ bs m := by simp [bs]
theorem bs_get {l : List UInt8} {i : Nat} {u : Value} (h : (bs l)[i]? = some u) : ∃ x, l[i]? = some x ∧ u = .int .u8 (x.toNat : Int) := by
  simp only [bs, List.getElem?_map, Option.map_eq_some_iff] at h
  obtain ⟨x, hx, rfl⟩ := h
  exact ⟨x, hx, rfl⟩
theorem bs_of {l : List UInt8} {i : Nat} {x : UInt8} (h : l[i]? = some x) : (bs l)[i]? = some (.int .u8 (x.toNat : Int)) := by
  simp [bs, h]
theorem bs_one (l : List UInt8) : ∀ u ∈ bs l, u.oneCell' = true := by
  intro u hu
  simp only [bs, List.mem_map] at hu
  obtain ⟨x, _, rfl⟩ := hu
  rfl

/-- A slice of bytes that reads as a list, nil let in. -/
def Rd (w : World) (A : Option Addr) (n c : Nat) (l : List UInt8) : Prop :=
  l.length = n ∧ n ≤ c ∧ c ≤ maxLen ∧ (A = none → c = 0) ∧
    (0 < n → ∃ b o, A = some ⟨b, o, none⟩ ∧ ∀ i x, l[i]? = some x → w.cell? ⟨b, o + i, none⟩ = some (.int .u8 (x.toNat : Int)))

section
variable {w w' : World} {A : Option Addr} {n c : Nat} {l : List UInt8}
theorem Rd.at_ (h : Rd w A n c l) (h0 : 0 < n) :
    ∃ b o, A = some ⟨b, o, none⟩ ∧ ∀ k, k < n → ∃ x, l[k]? = some x ∧ w.cell? ⟨b, o + k, none⟩ = some (.int .u8 (x.toNat : Int)) := by
  obtain ⟨hl, _, _, _, hc⟩ := h
  obtain ⟨b, o, hA, hcell⟩ := hc h0
  refine ⟨b, o, hA, fun k hk => ?_⟩
  have hk' : k < l.length := by omega
  exact ⟨l[k], List.getElem?_eq_getElem hk', hcell k _ (List.getElem?_eq_getElem hk')⟩
theorem Rd.le (h : Rd w A n c l) : n ≤ 9223372036854775807 := by
  have := h.2.1; have := h.2.2.1; unfold maxLen at this; omega
theorem Rd.nil_ (w : World) : Rd w none 0 0 [] := ⟨rfl, Nat.le_refl _, Nat.zero_le _, fun _ => rfl, fun h => absurd h (by omega)⟩
theorem Rd.keep (h : Rd w A n c l) (hk : ∀ p u, w.cell? p = some u → w'.cell? p = some u) : Rd w' A n c l := by
  obtain ⟨h1, h2, h3, h4, h5⟩ := h
  refine ⟨h1, h2, h3, h4, fun h0 => ?_⟩
  obtain ⟨b, o, hA, hc⟩ := h5 h0
  exact ⟨b, o, hA, fun i x hx => hk _ _ (hc i x hx)⟩
theorem Rd.below (h : Rd w A n c l) (hb : Below w.heap.size w w') : Rd w' A n c l :=
  h.keep fun p u hu => (hb.cell (World.block_lt_of_cell? w p hu)).trans hu
theorem Rd.drew (h : Rd w A n c l) : Rd w.drew A n c l := h
theorem Rd.drewN (h : Rd w A n c l) (k : Nat) : Rd (w.drewN k) A n c l := h
theorem Rd.alloc (h : Rd w A n c l) (o : Obj) : Rd (w.alloc o) A n c l := h.below ((Below.refl _ _).alloc (Nat.le_refl _) o)
theorem Rd.nilA (h : Rd w none n c l) : n = 0 ∧ c = 0 ∧ l = [] := by
  obtain ⟨h1, h2, h3, h4, h5⟩ := h
  have hc := h4 rfl
  have hn : n = 0 := by omega
  exact ⟨hn, hc, List.eq_nil_of_length_eq_zero (by omega)⟩
theorem Rd.grown {row : Option Nat} (h : Rd w A n c l) (hg : w.grownBy w' row) (hr : ∀ b, A.map (·.block) = some b → row ≠ some b) : Rd w' A n c l := by
  obtain ⟨h1, h2, h3, h4, h5⟩ := h
  refine ⟨h1, h2, h3, h4, fun h0 => ?_⟩
  obtain ⟨b, o, rfl, hc⟩ := h5 h0
  exact ⟨b, o, rfl, fun i x hx => hg.cell (hc i x hx) (fun e => hr b rfl e.symm)⟩
/-- A beginning of it. -/
theorem Rd.take (h : Rd w A n c l) {k : Nat} (hk : k ≤ n) : Rd w A k c (l.take k) := by
  obtain ⟨h1, h2, h3, h4, h5⟩ := h
  refine ⟨by rw [List.length_take]; omega, by omega, h3, h4, fun h0 => ?_⟩
  obtain ⟨b, o, hA, hc⟩ := h5 (by omega)
  refine ⟨b, o, hA, fun i x hx => hc i x ?_⟩
  rw [List.getElem?_take] at hx
  split at hx
  · exact hx
  · cases hx

/-- Cells of a block that was just laid. -/
theorem Rd.new (w : World) (t : TypeId) (l : List UInt8) (hl : l.length ≤ maxLen) : Rd (w.alloc (.cells (bs l).toArray t)) (some ⟨w.heap.size, 0, none⟩) l.length l.length l := by
  refine ⟨rfl, Nat.le_refl _, hl, (fun h => by cases h), fun _ => ⟨_, _, rfl, fun i x hx => ?_⟩⟩
  have hh : (w.alloc (.cells (bs l).toArray t)).heap[w.heap.size]? = some (.cells (bs l).toArray t (0, 0)) := heap_alloc_new w _
  rw [cell_of_row _ w.heap.size _ _ t (0, 0) hh]
  simpa using bs_of hx

/-- A row of bytes that the call owns, from block 'base' on. -/
def Own (w : World) (base : Nat) (e : TypeId) (v : Value) (n : Nat) (l : List UInt8) : Prop := w.ownsRow base e 1 v n (bs l)
theorem Own.rd {base : Nat} {e : TypeId} {v : Value} (h : Own w base e v n l) : ∃ A c, v = .slice A n c ∧ Rd w A n c l := by
  have hl : l.length = n := by have := h.1; rw [bs_length] at this; omega
  rcases h.2 with ⟨rfl, rfl⟩ | ⟨g, cap, cur, rfl, hb, hh, hn, hm, hs, ht⟩
  · have : l = [] := List.eq_nil_of_length_eq_zero hl
    subst this
    exact ⟨none, 0, rfl, Rd.nil_ w⟩
  · refine ⟨some ⟨g, 0, none⟩, cap, rfl, hl, hn, hm, (fun h => by cases h), fun _ => ⟨g, 0, rfl, fun i x hx => ?_⟩⟩
    have := World.ownsRow.cells (g := g) h rfl i _ (bs_of hx)
    unfold Addr.add at this
    split at this
    · rename_i hi; subst hi; simpa using this
    · simpa using this
theorem Own.size {base : Nat} {e : TypeId} {v : Value} (h : Own w base e v n l) : l.length = n := by have := h.1; rw [bs_length] at this; omega
end

theorem Own.below {w w' : World} {base n : Nat} {e : TypeId} {v : Value} {l : List UInt8} (h : Own w base e v n l) (hg : w.grownBy w' v.ownBlock) (hb : base ≤ w.heap.size) : Below base w w' :=
  (Below.refl _ _).grown hg hb (fun k hk => (World.ownsRow.lt h k hk).1)

theorem Own.mono {w : World} {base base' n : Nat} {e : TypeId} {v : Value} {l : List UInt8} (h : Own w base e v n l) (hb : base' ≤ base) : Own w base' e v n l := by
  refine ⟨h.1, ?_⟩
  rcases h.2 with h2 | ⟨g, cap, cur, hv, hg, r⟩
  · exact .inl h2
  · exact .inr ⟨g, cap, cur, hv, by omega, r⟩

theorem Own.form {w : World} {base n : Nat} {e : TypeId} {v : Value} {l : List UInt8} (h : Own w base e v n l) (h0 : 0 < n) :
    ∃ g cap, v = .slice (some ⟨g, 0, none⟩) n cap ∧ base ≤ g ∧ g < w.heap.size ∧ n ≤ cap ∧ cap ≤ maxLen := by
  rcases h.2 with ⟨_, rfl⟩ | ⟨g, cap, cur, rfl, hb, hh, hn, hm, hs, ht⟩
  · omega
  · refine ⟨g, cap, rfl, hb, ?_, hn, hm⟩
    rcases Nat.lt_or_ge g w.heap.size with hlt | hge
    · exact hlt
    · rw [Array.getElem?_eq_none hge] at hh; cases hh
theorem Own.cell {w : World} {base n g cap : Nat} {e : TypeId} {l : List UInt8} (h : Own w base e (.slice (some ⟨g, 0, none⟩) n cap) n l) {i : Nat} {x : UInt8} (hx : l[i]? = some x) :
    w.cell? ⟨g, i, none⟩ = some (.int .u8 (x.toNat : Int)) := by
  have := World.ownsRow.cells (g := g) h rfl i _ (bs_of hx)
  rw [show (⟨g, 0, none⟩ : Addr).add i = ⟨g, i, none⟩ from by unfold Addr.add; split <;> simp_all] at this
  exact this
theorem Own.frozen {w : World} {base n g cap : Nat} {e : TypeId} {l : List UInt8} (h : Own w base e (.slice (some ⟨g, 0, none⟩) n cap) n l) (i : Nat) :
    w.frozen? ⟨g, i, none⟩ = false := World.ownsRow.frozenAt h i
theorem bs_set (l : List UInt8) (i : Nat) (x : UInt8) : bs (l.set i x) = (bs l).set i (.int .u8 (x.toNat : Int)) := by
  unfold bs
  rw [List.map_set]
theorem Own.set_ {w : World} {base n g cap : Nat} {e : TypeId} {l : List UInt8} (h : Own w base e (.slice (some ⟨g, 0, none⟩) n cap) n l) (i : Nat) (x : UInt8) :
    Own (w.setCell ⟨g, i, none⟩ (.int .u8 (x.toNat : Int))) base e (.slice (some ⟨g, 0, none⟩) n cap) n (l.set i x) := by
  unfold Own
  rw [bs_set]
  exact (World.ownsRow.stored h i _).1
/-- A row of the call's own stays while nothing that was is turned. -/
theorem Own.later {w w' : World} {base n : Nat} {e : TypeId} {v : Value} {l : List UInt8} (h : Own w base e v n l) (hb : Below w.heap.size w w') : Own w' base e v n l := by
  refine ⟨h.1, ?_⟩
  rcases h.2 with h2 | ⟨g, cap, cur, hv, hg, hh, r⟩
  · exact .inl h2
  · refine .inr ⟨g, cap, cur, hv, hg, ?_, r⟩
    have hlt : g < w.heap.size := by
      rcases Nat.lt_or_ge g w.heap.size with hlt | hge
      · exact hlt
      · rw [Array.getElem?_eq_none hge] at hh; cases hh
    rw [hb.block g hlt]
    exact hh
theorem undrew {w w' : World} (h : Below w.drew.heap.size w.drew w') : Below w.heap.size w w' := ⟨h.os, h.tape, h.output, h.size, h.block⟩
theorem undrewN {w w' : World} {k : Nat} (h : Below (w.drewN k).heap.size (w.drewN k) w') : Below w.heap.size w w' := ⟨h.os, h.tape, h.output, h.size, h.block⟩
theorem drawn_below (w : World) (n : Nat) : Below w.heap.size w (w.drewN n) := ⟨rfl, rfl, rfl, Nat.le_refl _, fun _ _ => rfl⟩
/-- One call behind another. -/
theorem bthen {w w1 w2 : World} (h : Below w.heap.size w w1) (h2 : Below w1.heap.size w1 w2) : Below w.heap.size w w2 := h.trans (h2.mono h.size)

/-- What a call gives that makes a slice of bytes of its own and turns nothing that was. -/
def Gives (w : World) (t : TypeId) (l : List UInt8) (e : Ending) (w' : World) : Prop :=
  ∃ A c, e = .returned (.slice A l.length c) ∧ Own w' w.heap.size t (.slice A l.length c) l.length l ∧ Below w.heap.size w w'
theorem Own.gives {w w' : World} {t : TypeId} {v : Value} {n : Nat} {l : List UInt8} (h : Own w' w.heap.size t v n l) (hb : Below w.heap.size w w') : Gives w t l (.returned v) w' := by
  have hl := h.size
  subst hl
  obtain ⟨A, c, rfl, _⟩ := h.rd
  exact ⟨A, c, rfl, h, hb⟩
theorem Own.same {w : World} {base : Nat} {t : TypeId} {A : Option Addr} {n c : Nat} {l : List UInt8} (h : Own w base t (.slice A n c) n l) : Rd w A n c l := by
  obtain ⟨A', c', e, hr⟩ := h.rd
  injection e with e1 _ e2
  subst e1; subst e2
  exact hr

theorem add_eq (b o i : Nat) : (⟨b, o, none⟩ : Addr).add i = ⟨b, o + i, none⟩ := by
  unfold Addr.add; split
  · rename_i h; subst h; rfl
  · rfl

/-- append onto a row of the call's own, whatever the source. -/
theorem run_app {P : Program} (w : World) (base : Nat) (t ty e : TypeId) (i : TypeInfo) (ht : P.underlying t = some (.slice e)) (hi : P.info? e = some i) (hz : i.zero = some (.int .u8 0))
    (hsize : i.size = 1) (hby : i.bytes = 1) (v : Value) (n : Nat) (xs : List UInt8) (hown : Own w base e v n xs)
    (A : Option Addr) (m c : Nat) (l : List UInt8) (hr : Rd w A m c l) (h63 : n + m ≤ 1099511627776) (hbase : base ≤ w.heap.size) :
    ∃ v' w', (Builtin.append_ #[t, t] ty #[v, .slice A m c]).run P w = .ok v' w' ∧ Own w' base e v' (n + m) (xs ++ l) ∧ w.grownBy w' v.ownBlock ∧
      (v'.ownBlock = v.ownBlock ∨ v'.ownBlock = some w.heap.size) := by
  cases A with
  | none =>
    obtain ⟨rfl, rfl, rfl⟩ := hr.nilA
    refine ⟨v, w, ?_, by simpa using hown, World.grownBy.refl w _, .inl rfl⟩
    rcases hown.2 with ⟨rfl, rfl⟩ | ⟨g, cap, cur, rfl, _, _, hnc, _⟩
    · simp [Builtin.append_, run_underlying ht, sizeOf, typeInfo, hi, Builtin.lenOf, Builtin.firstCells]
    · simp [Builtin.append_, run_underlying ht, sizeOf, typeInfo, hi, Builtin.lenOf, Builtin.firstCells, hnc, storeCells]
  | some ad =>
    have hcells : ∀ j u, (bs l)[j]? = some u → w.cell? (ad.add j) = some u := by
      intro j u hu
      obtain ⟨x, hx, rfl⟩ := bs_get hu
      have hj : j < l.length := by
        rcases Nat.lt_or_ge j l.length with h | h
        · exact h
        · rw [List.getElem?_eq_none h] at hx; cases hx
      obtain ⟨b, o, hA, hc⟩ := hr.2.2.2.2 (by have := hr.1; omega)
      injection hA with hA
      subst hA
      rw [add_eq]
      exact hc j x hx
    obtain ⟨v', w', hrun, h2, h3, _, h5⟩ := run_append_own_at (P := P) w base t ty e i (.int .u8 0) 1 1 ht hi hz hsize hby rfl (by omega) v n (bs xs) hown ad m c (bs l) (by rw [bs_length, hr.1]; omega) hcells (bs_one l)
      (by simp only [maxLen]; omega) (by omega) hbase
    exact ⟨v', w', hrun, by unfold Own; rw [bs_append]; exact h2, h3, h5⟩

theorem wpList_app {P : Program} {w : World} {ops : Array Oper} {rest : List Oper} {o : Oper} {a : Act} {Q : Exit → Act → World → Prop} (hgd : o.guard = none) (s x : Operand) (t : TypeId)
    (ho : o.op = .call { callee := .builtin .append, args := #[s, x], argTypes := #[t, t] })
    (base : Nat) (e : TypeId) (hi : (P.info? e).map (fun i => (i.zero, i.size, i.bytes)) = some (some (.int .u8 0), 1, 1)) (ht : P.underlying t = some (.slice e))
    (v : Value) (n : Nat) (xs : List UInt8) (hs : a.eval s = v) (hown : Own w base e v n xs)
    (A : Option Addr) (m c : Nat) (l : List UInt8) (hx : a.eval x = .slice A m c) (hr : Rd w A m c l)
    (h63 : n + m ≤ 1099511627776) (hbase : base ≤ w.heap.size)
    (h : ∀ v' w', Own w' base e v' (n + m) (xs ++ l) → Below base w w' → wpList P ops Q rest (a.put o.dst v') w') : wpList P ops Q (o :: rest) a w := by
  obtain ⟨i0, hi0, hz0, hz1, hz2⟩ := info_parts hi
  refine wpList_plain hgd fun K hK => ?_
  obtain ⟨v', w', hrun, h2, h3, h4⟩ := run_app (P := P) w base t o.type e i0 ht hi0 hz0 hz1 hz2 v n xs hown A m c l hr h63 hbase
  unfold Oper.wp execOp
  simp only [ho, resolve, invoke, builtin, Sem.run_bind, Sem.run_pure, Result.andThen_ok, List.map_toArray, List.map_cons, List.map_nil, hs, hx, hrun]
  exact hK _ _ (h v' w' h2 (hown.below h3 hbase))

/-- The same inside a region that draws its order. -/
theorem step_app {P : Program} {w : World} {ops : Array Oper} {o : Oper} {a : Act} {K : Act → World → Prop} {Q : Exit → Act → World → Prop} {E : Prop} (hgd : o.guard = none) (s x : Operand) (t : TypeId)
    (ho : o.op = .call { callee := .builtin .append, args := #[s, x], argTypes := #[t, t] })
    (base : Nat) (e : TypeId) (hi : (P.info? e).map (fun i => (i.zero, i.size, i.bytes)) = some (some (.int .u8 0), 1, 1)) (ht : P.underlying t = some (.slice e))
    (v : Value) (n : Nat) (xs : List UInt8) (hs : a.eval s = v) (hown : Own w base e v n xs)
    (A : Option Addr) (m c : Nat) (l : List UInt8) (hx : a.eval x = .slice A m c) (hr : Rd w A m c l)
    (h63 : n + m ≤ 1099511627776) (hbase : base ≤ w.heap.size)
    (h : ∀ v' w', Own w' base e v' (n + m) (xs ++ l) → Below base w w' → K (a.put o.dst v') w') : if Region.wanted o (yielded ops a.tmps) = true then Oper.wp P o a w K Q else E := by
  have hw : Region.wanted o (yielded ops a.tmps) = true := by simp [Region.wanted, hgd]
  rw [if_pos hw]
  obtain ⟨i0, hi0, hz0, hz1, hz2⟩ := info_parts hi
  obtain ⟨v', w', hrun, h2, h3, h4⟩ := run_app (P := P) w base t o.type e i0 ht hi0 hz0 hz1 hz2 v n xs hown A m c l hr h63 hbase
  unfold Oper.wp execOp
  simp only [ho, resolve, invoke, builtin, Sem.run_bind, Sem.run_pure, Result.andThen_ok, List.map_toArray, List.map_cons, List.map_nil, hs, hx, hrun]
  exact h v' w' h2 (hown.below h3 hbase)

/-- make of no bytes, with room. -/
theorem wpList_mk {P : Program} {w : World} {ops : Array Oper} {rest : List Oper} {o : Oper} {a : Act} {Q : Exit → Act → World → Prop} (hgd : o.guard = none) (x y : Operand) (t : TypeId)
    (ho : o.op = Op.makeSlice t x y) (e : TypeId) (hi : (P.info? e).map (fun i => (i.zero, i.size, i.bytes)) = some (some (.int .u8 0), 1, 1)) (ht : P.underlying t = some (.slice e))
    (kl kc : IntKind) (C : Int) (n : Nat) (hl : a.eval x = .int kl 0) (hc : a.eval y = .int kc C) (hC : C = (n : Int)) (hn : n ≤ 1099511627776)
    (h : ∀ v w', Own w' w.heap.size e v 0 [] → Below w.heap.size w w' → wpList P ops Q rest (a.put o.dst v) w') : wpList P ops Q (o :: rest) a w := by
  obtain ⟨i0, hi0, hz0, hz1, hz2⟩ := info_parts hi
  refine wpList_make_own w hgd x y t ho w.heap.size e i0 _ 1 ht hi0 hz0 hz1 kl kc C n hl hc hC (by rw [hz2]; omega) (by simp only [maxLen]; omega) (Nat.le_refl _) ?_
  intro w' h1 h2
  exact h _ w' h1 ((Below.refl _ _).grown h2 (Nat.le_refl _) (fun k hk => by cases hk))

def str (l : List UInt8) : ByteArray := ⟨l.toArray⟩
theorem push_all (l : List UInt8) (s : ByteArray) : (l.map fun x => (x.toNat : Int)).foldl (fun r n => r.push (UInt8.ofNat n.toNat)) s = ⟨s.data ++ l.toArray⟩ := by
  induction l generalizing s with
  | nil => simp
  | cons x l ih =>
    simp only [List.map_cons, List.foldl_cons]
    rw [ih]
    simp [ByteArray.push]

/-- The bytes as a string. -/
theorem run_str {P : Program} {w : World} {src dst e : TypeId} {A : Option Addr} {n c : Nat} {l : List UInt8} (h : Rd w A n c l)
    (hs : P.underlying src = some (.slice e)) (he : P.underlying e = some (.int .u8)) (hd : P.underlying dst = some .string) :
    (convert src dst (.slice A n c)).run P w = .ok (.string (str l)) w := by
  rw [run_convert_bytes_string w src dst e A n c hs he hd]
  cases A with
  | none =>
    obtain ⟨rfl, rfl, rfl⟩ := h.nilA
    simp [Conv.bytesToString, Sem.run_pure, str]
    rfl
  | some ad =>
    have hl : (loadCells ad n).run P w = .ok ((l.map fun x => (x.toNat : Int)).map (Value.int .u8)).toArray w := by
      have := run_loadCells_list (P := P) (w := w) ad (bs l) (by
        intro j u hu
        obtain ⟨x, hx, rfl⟩ := bs_get hu
        have hj : j < l.length := by
          rcases Nat.lt_or_ge j l.length with h | h
          · exact h
          · rw [List.getElem?_eq_none h] at hx; cases hx
        obtain ⟨b, o, hA, hc⟩ := h.2.2.2.2 (by have := h.1; omega)
        injection hA with hA
        subst hA
        rw [add_eq]
        exact hc j x hx)
      rw [bs_length, h.1] at this
      rw [this]
      simp [bs]
    rw [run_bytesToString w ad n c _ hl, push_all]
    simp [str]
theorem str_inj {l m : List UInt8} : str l = str m ↔ l = m := by
  constructor
  · intro h
    have := congrArg (fun b : ByteArray => b.data.toList) h
    simpa [str] using this
  · rintro rfl; rfl
/-- Two strings of bytes are alike just if the bytes are. -/
theorem str_beq (l m : List UInt8) : ((str l).toList == (str m).toList) = decide (l = m) := by
  have e : ∀ l : List UInt8, (str l).toList = l := fun l => by rw [ByteArray.toList_eq]; rfl
  rw [e, e, Bool.eq_iff_iff, decide_eq_true_eq, beq_iff_eq]
theorem str_same {l m : List UInt8} (h : l = m) : ((str l).toList == (str m).toList) = true := by rw [str_beq]; simpa using h
theorem str_other {l m : List UInt8} (h : l ≠ m) : ((str l).toList == (str m).toList) = false := by rw [str_beq]; simpa using h

/-- A literal's bytes, its row marked or not. -/
theorem Rd.lit (w : World) (t : TypeId) (fr : Nat × Nat) (C : Array Value) (l : List UInt8) (hC : C = (bs l).toArray) (n : Nat) (hn : l.length = n) (hl : n ≤ maxLen) : Rd (w.alloc (.cells C t fr)) (some ⟨w.heap.size, 0, none⟩) n n l := by
  subst hC
  subst hn
  refine ⟨rfl, Nat.le_refl _, hl, (fun h => by cases h), fun _ => ⟨_, _, rfl, fun i x hx => ?_⟩⟩
  rw [World.cell?_alloc_mark]
  simpa using bs_of hx

theorem Rd.litAt (w : World) (t : TypeId) (fr : Nat × Nat) (C : Array Value) (l : List UInt8) (hC : C = (bs l).toArray) (n : Nat) (hn : l.length = n) (hl : n ≤ maxLen) (g : Nat) (hg : w.heap.size = g) : Rd (w.alloc (.cells C t fr)) (some ⟨g, 0, none⟩) n n l := by
  subst hg
  exact Rd.lit w t fr C l hC n hn hl

/-- What a law says of a call. -/
def Yes (w : World) (e : Ending) (w' : World) : Prop := e = .returned (.bool true) ∧ Below w.heap.size w w'

theorem later {w w2 : World} {F : World → Prop} (h : ∀ w', Below w.heap.size w w' → F w') (hb : Below w.heap.size w w2) : ∀ w', Below w2.heap.size w2 w' → F w' :=
  fun w' h2 => h w' (bthen hb h2)
/-- A byte of a slice, in every later world. -/
theorem cells_later {w : World} {b o n c : Nat} {l : List UInt8} (h : Rd w (some ⟨b, o, none⟩) n c l) {k : Nat} {x : UInt8} (hx : l[k]? = some x) :
    ∀ w', Below w.heap.size w w' → w'.cell? ⟨b, o + k, none⟩ = some (.int .u8 (x.toNat : Int)) := by
  intro w' hb
  have hk : k < l.length := by
    rcases Nat.lt_or_ge k l.length with h | h
    · exact h
    · rw [List.getElem?_eq_none h] at hx; cases hx
  obtain ⟨b', o', hA, hc⟩ := h.2.2.2.2 (by have := h.1; omega)
  injection hA with hA
  injection hA with e1 e2
  subst e1; subst e2
  have := hc k x hx
  exact (hb.cell (World.block_lt_of_cell? _ _ this)).trans this

end Go.Proofs.Ytmlmkkfieeaejaa
