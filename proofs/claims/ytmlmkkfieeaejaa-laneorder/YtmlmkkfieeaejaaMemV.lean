/- Words for slices of one-cell values (ints among them): what one reads as, cuts, append, make, stores. No program is named here. -/
import Derived.Test.YtmlmkkfieeaejaaMem
import Derived.Deep.OwnRows
set_option maxRecDepth 100000
namespace Go.Proofs.Ytmlmkkfieeaejaa
open Go.RowKit
set_option linter.unusedVariables false

/-- A slice that reads as a list of one-cell values, nil let in. -/
def RdV (w : World) (A : Option Addr) (n c : Nat) (l : List Value) : Prop :=
  l.length = n ∧ n ≤ c ∧ c ≤ maxLen ∧ (A = none → c = 0) ∧
    (0 < n → ∃ b o, A = some ⟨b, o, none⟩ ∧ ∀ i u, l[i]? = some u → w.cell? ⟨b, o + i, none⟩ = some u)
/-- Ints as values. -/
def is (l : List Int) : List Value := l.map fun x => .int .i64 x
theorem is_length (l : List Int) : (is l).length = l.length := by simp [is]
theorem is_append (l m : List Int) : is (l ++ m) = is l ++ is m := by simp [is]
theorem is_of {l : List Int} {i : Nat} {x : Int} (h : l[i]? = some x) : (is l)[i]? = some (.int .i64 x) := by simp [is, h]
theorem is_one (l : List Int) : ∀ u ∈ is l, u.oneCell' = true := by
  intro u hu
  simp only [is, List.mem_map] at hu
  obtain ⟨x, _, rfl⟩ := hu
  rfl
theorem is_set (l : List Int) (i : Nat) (x : Int) : is (l.set i x) = (is l).set i (.int .i64 x) := by
  unfold is
  rw [List.map_set]
theorem is_inj {l m : List Int} : is l = is m ↔ l = m := by
  constructor
  · intro h
    have := congrArg (List.map fun v : Value => match v with | .int _ x => x | _ => 0) h
    simpa [is, Function.comp_def] using this
  · rintro rfl; rfl
abbrev RdI (w : World) (A : Option Addr) (n c : Nat) (l : List Int) : Prop := RdV w A n c (is l)

theorem Rd.v {w : World} {A : Option Addr} {n c : Nat} {l : List UInt8} (h : Rd w A n c l) : RdV w A n c (bs l) := by
  obtain ⟨h1, h2, h3, h4, h5⟩ := h
  refine ⟨by rw [bs_length]; exact h1, h2, h3, h4, fun h0 => ?_⟩
  obtain ⟨b, o, hA, hc⟩ := h5 h0
  refine ⟨b, o, hA, fun i u hu => ?_⟩
  obtain ⟨x, hx, rfl⟩ := bs_get hu
  exact hc i x hx
theorem RdV.bytes {w : World} {A : Option Addr} {n c : Nat} {l : List UInt8} (h : RdV w A n c (bs l)) : Rd w A n c l := by
  obtain ⟨h1, h2, h3, h4, h5⟩ := h
  refine ⟨by rw [bs_length] at h1; exact h1, h2, h3, h4, fun h0 => ?_⟩
  obtain ⟨b, o, hA, hc⟩ := h5 h0
  exact ⟨b, o, hA, fun i x hx => hc i _ (bs_of hx)⟩

section
variable {w w' : World} {A : Option Addr} {n c : Nat} {l : List Value}
theorem RdV.le (h : RdV w A n c l) : n ≤ 9223372036854775807 := by
  have := h.2.1; have := h.2.2.1; unfold maxLen at this; omega
theorem RdV.nil_ (w : World) : RdV w none 0 0 [] := ⟨rfl, Nat.le_refl _, Nat.zero_le _, fun _ => rfl, fun h => absurd h (by omega)⟩
theorem RdV.keep (h : RdV w A n c l) (hk : ∀ p u, w.cell? p = some u → w'.cell? p = some u) : RdV w' A n c l := by
  obtain ⟨h1, h2, h3, h4, h5⟩ := h
  refine ⟨h1, h2, h3, h4, fun h0 => ?_⟩
  obtain ⟨b, o, hA, hc⟩ := h5 h0
  exact ⟨b, o, hA, fun i x hx => hk _ _ (hc i x hx)⟩
theorem RdV.below (h : RdV w A n c l) (hb : Below w.heap.size w w') : RdV w' A n c l :=
  h.keep fun p u hu => (hb.cell (World.block_lt_of_cell? w p hu)).trans hu
theorem RdV.drew (h : RdV w A n c l) : RdV w.drew A n c l := h
theorem RdV.drewN (h : RdV w A n c l) (k : Nat) : RdV (w.drewN k) A n c l := h
theorem RdV.alloc (h : RdV w A n c l) (o : Obj) : RdV (w.alloc o) A n c l := h.below ((Below.refl _ _).alloc (Nat.le_refl _) o)
theorem RdV.nilA (h : RdV w none n c l) : n = 0 ∧ c = 0 ∧ l = [] := by
  obtain ⟨h1, h2, h3, h4, h5⟩ := h
  have hc := h4 rfl
  have hn : n = 0 := by omega
  exact ⟨hn, hc, List.eq_nil_of_length_eq_zero (by omega)⟩
/-- One of its places. -/
theorem RdV.at_ (h : RdV w A n c l) {k : Nat} (hk : k < n) : ∃ b o u, A = some ⟨b, o, none⟩ ∧ l[k]? = some u ∧ w.cell? ⟨b, o + k, none⟩ = some u := by
  obtain ⟨hl, _, _, _, hc⟩ := h
  obtain ⟨b, o, hA, hcell⟩ := hc (by omega)
  have hk' : k < l.length := by omega
  exact ⟨b, o, l[k], hA, List.getElem?_eq_getElem hk', hcell k _ (List.getElem?_eq_getElem hk')⟩
theorem RdV.take (h : RdV w A n c l) {k : Nat} (hk : k ≤ n) : RdV w A k c (l.take k) := by
  obtain ⟨h1, h2, h3, h4, h5⟩ := h
  refine ⟨by rw [List.length_take]; omega, by omega, h3, h4, fun h0 => ?_⟩
  obtain ⟨b, o, hA, hc⟩ := h5 (by omega)
  refine ⟨b, o, hA, fun i x hx => hc i x ?_⟩
  rw [List.getElem?_take] at hx
  split at hx
  · exact hx
  · cases hx
/-- What is behind a place ahead of the end of its room. -/
theorem RdV.drop {b o : Nat} (h : RdV w (some ⟨b, o, none⟩) n c l) {k : Nat} (hk : k ≤ n) : RdV w (some ⟨b, o + k, none⟩) (n - k) (c - k) (l.drop k) := by
  obtain ⟨h1, h2, h3, h4, h5⟩ := h
  refine ⟨by rw [List.length_drop]; omega, by omega, by omega, (fun h => by cases h), fun h0 => ⟨b, o + k, rfl, fun i x hx => ?_⟩⟩
  obtain ⟨b', o', hA, hc⟩ := h5 (by omega)
  injection hA with hA
  injection hA with e1 e2
  subst e1; subst e2
  rw [List.getElem?_drop] at hx
  rw [Nat.add_assoc]
  exact hc _ x hx
/-- The end of its room: nothing is behind it. -/
theorem RdV.none_left (h : RdV w A n c l) (a : Addr) (B : Option Addr) (hB : B = some a ∨ B = A) : RdV w B 0 0 [] :=
  ⟨rfl, Nat.le_refl _, Nat.zero_le _, fun _ => rfl, fun h => absurd h (by omega)⟩
theorem RdV.lit (w : World) (t : TypeId) (fr : Nat × Nat) (C : Array Value) (l : List Value) (hC : C = l.toArray) (n : Nat) (hn : l.length = n) (hl : n ≤ maxLen) (g : Nat) (hg : w.heap.size = g) : RdV (w.alloc (.cells C t fr)) (some ⟨g, 0, none⟩) n n l := by
  subst hC
  subst hn
  subst hg
  refine ⟨rfl, Nat.le_refl _, hl, (fun h => by cases h), fun _ => ⟨_, _, rfl, fun i x hx => ?_⟩⟩
  rw [World.cell?_alloc_mark]
  simpa using hx
end
theorem Rd.drop {w : World} {b o n c : Nat} {l : List UInt8} (h : Rd w (some ⟨b, o, none⟩) n c l) {k : Nat} (hk : k ≤ n) : Rd w (some ⟨b, o + k, none⟩) (n - k) (c - k) (l.drop k) := by
  have := h.v.drop hk
  refine RdV.bytes ?_
  unfold bs at this ⊢
  rwa [List.map_drop]
theorem Rd.empty (w : World) (A : Option Addr) : Rd w A 0 0 [] := ⟨rfl, Nat.le_refl _, Nat.zero_le _, fun _ => rfl, fun h => absurd h (by omega)⟩

/-- A place of a row of ints, in every later world. -/
theorem RdI.cells_later {w : World} {b o n c : Nat} {l : List Int} (h : RdI w (some ⟨b, o, none⟩) n c l) {k : Nat} {x : Int} (hx : l[k]? = some x) :
    ∀ w', Below w.heap.size w w' → w'.cell? ⟨b, o + k, none⟩ = some (.int .i64 x) := by
  intro w' hb
  have hk : k < l.length := by
    rcases Nat.lt_or_ge k l.length with h | h
    · exact h
    · rw [List.getElem?_eq_none h] at hx; cases hx
  obtain ⟨b', o', hA, hc⟩ := h.2.2.2.2 (by have := h.1; rw [is_length] at this; omega)
  injection hA with hA
  injection hA with e1 e2
  subst e1; subst e2
  have := hc k _ (is_of hx)
  exact (hb.cell (World.block_lt_of_cell? _ _ this)).trans this
theorem RdI.at_ {w : World} {A : Option Addr} {n c : Nat} {l : List Int} (h : RdI w A n c l) {k : Nat} (hk : k < n) : ∃ b o x, A = some ⟨b, o, none⟩ ∧ l[k]? = some x ∧ w.cell? ⟨b, o + k, none⟩ = some (.int .i64 x) := by
  obtain ⟨b, o, u, hA, hu, hc⟩ := RdV.at_ h hk
  simp only [is, List.getElem?_map, Option.map_eq_some_iff] at hu
  obtain ⟨x, hx, rfl⟩ := hu
  exact ⟨b, o, x, hA, hx, hc⟩
theorem RdI.size {w : World} {A : Option Addr} {n c : Nat} {l : List Int} (h : RdI w A n c l) : l.length = n := by have := h.1; rwa [is_length] at this

/-- A row of one-cell values of the call's own. -/
abbrev OwnV (w : World) (base : Nat) (e : TypeId) (v : Value) (n : Nat) (l : List Value) : Prop := w.ownsRow base e 1 v n l
theorem OwnV.size {w : World} {base n : Nat} {e : TypeId} {v : Value} {l : List Value} (h : OwnV w base e v n l) : l.length = n := by have := h.1; omega
theorem OwnV.rd {w : World} {base n : Nat} {e : TypeId} {v : Value} {l : List Value} (h : OwnV w base e v n l) : ∃ A c, v = .slice A n c ∧ RdV w A n c l := by
  have hl := OwnV.size h
  rcases h.2 with ⟨rfl, rfl⟩ | ⟨g, cap, cur, rfl, hb, hh, hn, hm, hs, ht⟩
  · have : l = [] := List.eq_nil_of_length_eq_zero hl
    subst this
    exact ⟨none, 0, rfl, RdV.nil_ w⟩
  · refine ⟨some ⟨g, 0, none⟩, cap, rfl, hl, hn, hm, (fun h => by cases h), fun _ => ⟨g, 0, rfl, fun i x hx => ?_⟩⟩
    have := World.ownsRow.cells (g := g) h rfl i _ hx
    rw [add_eq] at this
    exact this
theorem OwnV.same {w : World} {base : Nat} {t : TypeId} {A : Option Addr} {n c : Nat} {l : List Value} (h : OwnV w base t (.slice A n c) n l) : RdV w A n c l := by
  obtain ⟨A', c', e, hr⟩ := OwnV.rd h
  injection e with e1 _ e2
  subst e1; subst e2
  exact hr
theorem OwnV.below {w w' : World} {base n : Nat} {e : TypeId} {v : Value} {l : List Value} (h : OwnV w base e v n l) (hg : w.grownBy w' v.ownBlock) (hb : base ≤ w.heap.size) : Below base w w' :=
  (Below.refl _ _).grown hg hb (fun k hk => (World.ownsRow.lt h k hk).1)
theorem OwnV.mono {w : World} {base base' n : Nat} {e : TypeId} {v : Value} {l : List Value} (h : OwnV w base e v n l) (hb : base' ≤ base) : OwnV w base' e v n l := by
  refine ⟨h.1, ?_⟩
  rcases h.2 with h2 | ⟨g, cap, cur, hv, hg, r⟩
  · exact .inl h2
  · exact .inr ⟨g, cap, cur, hv, by omega, r⟩
theorem OwnV.form {w : World} {base n : Nat} {e : TypeId} {v : Value} {l : List Value} (h : OwnV w base e v n l) (h0 : 0 < n) :
    ∃ g cap, v = .slice (some ⟨g, 0, none⟩) n cap ∧ base ≤ g ∧ g < w.heap.size ∧ n ≤ cap ∧ cap ≤ maxLen := by
  rcases h.2 with ⟨_, rfl⟩ | ⟨g, cap, cur, rfl, hb, hh, hn, hm, hs, ht⟩
  · omega
  · refine ⟨g, cap, rfl, hb, ?_, hn, hm⟩
    rcases Nat.lt_or_ge g w.heap.size with hlt | hge
    · exact hlt
    · rw [Array.getElem?_eq_none hge] at hh; cases hh
theorem OwnV.later {w w' : World} {base n : Nat} {e : TypeId} {v : Value} {l : List Value} (h : OwnV w base e v n l) (hb : Below w.heap.size w w') : OwnV w' base e v n l := by
  refine ⟨h.1, ?_⟩
  rcases h.2 with h2 | ⟨g, cap, cur, hv, hg, hh, r⟩
  · exact .inl h2
  · refine .inr ⟨g, cap, cur, hv, hg, ?_, r⟩
    have hlt : g < w.heap.size := by
      rcases Nat.lt_or_ge g w.heap.size with hlt | hge
      · exact hlt
      · rw [Array.getElem?_eq_none hge] at hh; cases hh
    rw [hb.block g hlt]
    exact hh
/-- A row stays while one of another element type is grown. -/
theorem OwnV.grown {w w' : World} {base base' n n' : Nat} {e e' : TypeId} {v v' : Value} {l l' : List Value} (h : OwnV w base e v n l) (h' : OwnV w base' e' v' n' l') (hne : e ≠ e') (hg : w.grownBy w' v'.ownBlock) : OwnV w' base e v n l := by
  refine ⟨h.1, ?_⟩
  rcases h.2 with h2 | ⟨g, cap, cur, hv, hb, hh, r⟩
  · exact .inl h2
  · refine .inr ⟨g, cap, cur, hv, hb, ?_, r⟩
    have hlt : g < w.heap.size := by
      rcases Nat.lt_or_ge g w.heap.size with hlt | hge
      · exact hlt
      · rw [Array.getElem?_eq_none hge] at hh; cases hh
    rw [hg.block g hlt ?_]
    · exact hh
    · intro he
      rcases h'.2 with ⟨rfl, _⟩ | ⟨g', cap', cur', rfl, _, hh', _⟩
      · simp [Value.ownBlock] at he
      · have : g' = g := by simpa [Value.ownBlock] using he.symm
        subst this
        rw [hh] at hh'
        injection hh' with hh'
        injection hh' with _ ht
        exact hne ht
/-- What a call gives that makes a slice of ints of its own and turns nothing that was. -/
def GivesI (w : World) (t : TypeId) (l : List Int) (e : Ending) (w' : World) : Prop :=
  ∃ A c, e = .returned (.slice A l.length c) ∧ OwnV w' w.heap.size t (.slice A l.length c) l.length (is l) ∧ Below w.heap.size w w'

/-- append onto a row of the call's own, whatever the source. -/
theorem run_appV {P : Program} (w : World) (base : Nat) (t ty e : TypeId) (i : TypeInfo) (ht : P.underlying t = some (.slice e)) (hi : P.info? e = some i) (z : Value) (hz : i.zero = some z)
    (hsize : i.size = 1) (bytes : Nat) (hby : i.bytes = bytes) (hzc : z.cells.size = 1) (v : Value) (n : Nat) (xs : List Value) (hown : OwnV w base e v n xs)
    (A : Option Addr) (m c : Nat) (l : List Value) (hr : RdV w A m c l) (h1 : ∀ u ∈ l, u.oneCell' = true) (h63 : n + m ≤ 1099511627776) (hb128 : bytes ≤ 128) (hbase : base ≤ w.heap.size) :
    ∃ v' w', (Builtin.append_ #[t, t] ty #[v, .slice A m c]).run P w = .ok v' w' ∧ OwnV w' base e v' (n + m) (xs ++ l) ∧ w.grownBy w' v.ownBlock ∧
      (v'.ownBlock = v.ownBlock ∨ v'.ownBlock = some w.heap.size) := by
  cases A with
  | none =>
    obtain ⟨rfl, rfl, rfl⟩ := hr.nilA
    refine ⟨v, w, ?_, by simpa using hown, World.grownBy.refl w _, .inl rfl⟩
    rcases hown.2 with ⟨rfl, rfl⟩ | ⟨g, cap, cur, rfl, _, _, hnc, _⟩
    · simp [Builtin.append_, run_underlying ht, sizeOf, typeInfo, hi, Builtin.lenOf, Builtin.firstCells]
    · simp [Builtin.append_, run_underlying ht, sizeOf, typeInfo, hi, Builtin.lenOf, Builtin.firstCells, hnc, storeCells]
  | some ad =>
    have hcells : ∀ j u, l[j]? = some u → w.cell? (ad.add j) = some u := by
      intro j u hu
      have hj : j < l.length := by
        rcases Nat.lt_or_ge j l.length with h | h
        · exact h
        · rw [List.getElem?_eq_none h] at hu; cases hu
      obtain ⟨b, o, hA, hc⟩ := hr.2.2.2.2 (by have := hr.1; omega)
      injection hA with hA
      subst hA
      rw [add_eq]
      exact hc j u hu
    have hbytes : (n + m) * bytes ≤ 140737488355328 := Nat.le_trans (Nat.mul_le_mul h63 hb128) (by decide)
    obtain ⟨v', w', hrun, h2, h3, _, h5⟩ := run_append_own_at (P := P) w base t ty e i z 1 bytes ht hi hz hsize hby hzc (by omega) v n xs hown ad m c l (by rw [hr.1]; omega) hcells h1
      (by simp only [maxLen]; omega) hbytes hbase
    exact ⟨v', w', hrun, h2, h3, h5⟩

theorem wpList_appV {P : Program} {w : World} {ops : Array Oper} {rest : List Oper} {o : Oper} {a : Act} {Q : Exit → Act → World → Prop} (hgd : Region.wanted o (yielded ops a.tmps) = true) (s x : Operand) (t : TypeId)
    (ho : o.op = .call { callee := .builtin .append, args := #[s, x], argTypes := #[t, t] })
    (base : Nat) (e : TypeId) (z : Value) (bytes : Nat) (hi : (P.info? e).map (fun i => (i.zero, i.size, i.bytes)) = some (some z, 1, bytes)) (hzc : z.cells.size = 1) (hb128 : bytes ≤ 128) (ht : P.underlying t = some (.slice e))
    (v : Value) (n : Nat) (xs : List Value) (hs : a.eval s = v) (hown : OwnV w base e v n xs)
    (A : Option Addr) (m c : Nat) (l : List Value) (hx : a.eval x = .slice A m c) (hr : RdV w A m c l) (h1 : ∀ u ∈ l, u.oneCell' = true)
    (h63 : n + m ≤ 1099511627776) (hbase : base ≤ w.heap.size)
    (h : ∀ v' w', OwnV w' base e v' (n + m) (xs ++ l) → Below base w w' → w.grownBy w' v.ownBlock → wpList P ops Q rest (a.put o.dst v') w') : wpList P ops Q (o :: rest) a w := by
  obtain ⟨i0, hi0, hz0, hz1, hz2⟩ := info_parts hi
  refine wpList_step fun K hK => ?_
  rw [if_pos hgd]
  obtain ⟨v', w', hrun, h2, h3, h4⟩ := run_appV (P := P) w base t o.type e i0 ht hi0 z hz0 hz1 bytes hz2 hzc v n xs hown A m c l hr h1 h63 hb128 hbase
  unfold Oper.wp execOp
  simp only [ho, resolve, invoke, builtin, Sem.run_bind, Sem.run_pure, Result.andThen_ok, List.map_toArray, List.map_cons, List.map_nil, hs, hx, hrun]
  exact hK _ _ (h v' w' h2 (hown.below h3 hbase) h3)

/-- The same under a guard that holds, inside a region that draws its order or not. -/
theorem step_appV {P : Program} {w : World} {ops : Array Oper} {o : Oper} {a : Act} {K : Act → World → Prop} {Q : Exit → Act → World → Prop} {E : Prop} (hw : Region.wanted o (yielded ops a.tmps) = true) (s x : Operand) (t : TypeId)
    (ho : o.op = .call { callee := .builtin .append, args := #[s, x], argTypes := #[t, t] })
    (base : Nat) (e : TypeId) (z : Value) (bytes : Nat) (hi : (P.info? e).map (fun i => (i.zero, i.size, i.bytes)) = some (some z, 1, bytes)) (hzc : z.cells.size = 1) (hb128 : bytes ≤ 128) (ht : P.underlying t = some (.slice e))
    (v : Value) (n : Nat) (xs : List Value) (hs : a.eval s = v) (hown : OwnV w base e v n xs)
    (A : Option Addr) (m c : Nat) (l : List Value) (hx : a.eval x = .slice A m c) (hr : RdV w A m c l) (h1 : ∀ u ∈ l, u.oneCell' = true)
    (h63 : n + m ≤ 1099511627776) (hbase : base ≤ w.heap.size)
    (h : ∀ v' w', OwnV w' base e v' (n + m) (xs ++ l) → Below base w w' → w.grownBy w' v.ownBlock → K (a.put o.dst v') w') : if Region.wanted o (yielded ops a.tmps) = true then Oper.wp P o a w K Q else E := by
  rw [if_pos hw]
  obtain ⟨i0, hi0, hz0, hz1, hz2⟩ := info_parts hi
  obtain ⟨v', w', hrun, h2, h3, h4⟩ := run_appV (P := P) w base t o.type e i0 ht hi0 z hz0 hz1 bytes hz2 hzc v n xs hown A m c l hr h1 h63 hb128 hbase
  unfold Oper.wp execOp
  simp only [ho, resolve, invoke, builtin, Sem.run_bind, Sem.run_pure, Result.andThen_ok, List.map_toArray, List.map_cons, List.map_nil, hs, hx, hrun]
  exact h v' w' h2 (hown.below h3 hbase) h3

/-- make of so many values. -/
theorem wpList_mkV {P : Program} {w : World} {ops : Array Oper} {rest : List Oper} {o : Oper} {a : Act} {Q : Exit → Act → World → Prop} (hgd : o.guard = none) (x y : Operand) (t : TypeId)
    (ho : o.op = Op.makeSlice t x y) (e : TypeId) (z : Value) (bytes : Nat) (hi : (P.info? e).map (fun i => (i.zero, i.size, i.bytes)) = some (some z, 1, bytes)) (hz1 : z.cells = #[z]) (hb128 : bytes ≤ 128) (ht : P.underlying t = some (.slice e))
    (kl kc : IntKind) (X : Int) (n : Nat) (hl : a.eval x = .int kl X) (hc : a.eval y = .int kc X) (hX : X = (n : Int)) (hn : n ≤ 1099511627776)
    (h : ∀ w', OwnV w' w.heap.size e (.slice (some ⟨w.heap.size, 0, none⟩) n n) n (List.replicate n z) → Below w.heap.size w w' → wpList P ops Q rest (a.put o.dst (.slice (some ⟨w.heap.size, 0, none⟩) n n)) w') : wpList P ops Q (o :: rest) a w := by
  subst hX
  have hbytes : bytes * n ≤ 281474976710656 := Nat.le_trans (Nat.mul_le_mul hb128 hn) (by decide)
  have hrun := Go.run_make_row' (P := P) t e z bytes ht hi hz1 kl kc n hbytes (by omega) w
  refine wpList_plain hgd fun K hK => ?_
  unfold Oper.wp
  simp only [execOp, ho, hl, hc, Sem.run_bind, hrun, Result.andThen]
  refine hK _ _ (h _ ?_ ((Below.refl _ _).alloc (Nat.le_refl _) _))
  have := World.ownsRow_lit (base := w.heap.size) (e := e) (size := 1) w (madeCells #[z] n) n (Nat.le_refl _) (by simp only [maxLen]; omega) (by rw [size_madeCells]; omega)
  rw [toList_madeCells_one] at this
  exact this
end Go.Proofs.Ytmlmkkfieeaejaa
