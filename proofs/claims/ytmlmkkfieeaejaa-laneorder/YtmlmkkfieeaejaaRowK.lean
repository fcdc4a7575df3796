/- Rows of structs in memory, each struct's cells a letter: read, cut, loaded whole, grown. No program is named here. -/
import Derived.Test.YtmlmkkfieeaejaaMemV
import Derived.Laws.Rows
import Derived.Laws.CopyOwn
set_option maxRecDepth 100000
namespace Go.Proofs.Ytmlmkkfieeaejaa
open Go.RowKit
set_option linter.unusedVariables false

/-- Structs of k cells. -/
def AllK (k : Nat) (rs : List (Array Value)) : Prop := ∀ r ∈ rs, r.size = k ∧ r.all (·.oneCell') = true
/-- Their cells, one behind the other. -/
def flat (rs : List (Array Value)) : List Value := rs.flatMap Array.toList
section
variable {k : Nat} {rs ss : List (Array Value)} {r : Array Value}
theorem AllK.nil_ (k : Nat) : AllK k [] := fun r hr => by cases hr
theorem AllK.tail (h : AllK k (r :: rs)) : AllK k rs := fun q hq => h q (List.mem_cons_of_mem _ hq)
theorem AllK.head (h : AllK k (r :: rs)) : r.toList.length = k := by rw [Array.length_toList]; exact (h r List.mem_cons_self).1
theorem AllK.app (h : AllK k rs) (h2 : AllK k ss) : AllK k (rs ++ ss) := fun q hq => by
  rcases List.mem_append.1 hq with hq | hq
  · exact h q hq
  · exact h2 q hq
theorem AllK.one (h1 : r.size = k) (h2 : r.all (·.oneCell') = true) : AllK k [r] := fun q hq => by
  obtain rfl : q = r := by simpa using hq
  exact ⟨h1, h2⟩
theorem AllK.take (h : AllK k rs) (m : Nat) : AllK k (rs.take m) := fun q hq => h q (List.mem_of_mem_take hq)
theorem AllK.drop (h : AllK k rs) (m : Nat) : AllK k (rs.drop m) := fun q hq => h q (List.mem_of_mem_drop hq)
theorem AllK.at_ (h : AllK k rs) {i : Nat} (hi : rs[i]? = some r) : r.size = k ∧ r.all (·.oneCell') = true := h r (List.mem_of_getElem? hi)
theorem AllK.filter (h : AllK k rs) (p : Array Value → Bool) : AllK k (rs.filter p) := fun q hq => h q (List.mem_filter.1 hq).1
theorem flat_cons (r : Array Value) (rs : List (Array Value)) : flat (r :: rs) = r.toList ++ flat rs := by simp [flat]
theorem flat_append (rs ss : List (Array Value)) : flat (rs ++ ss) = flat rs ++ flat ss := by simp [flat]
theorem flat_one (r : Array Value) : flat [r] = r.toList := by simp [flat]
theorem flat_length (h : AllK k rs) : (flat rs).length = rs.length * k := by
  induction rs with
  | nil => simp [flat]
  | cons r rs ih => rw [flat_cons, List.length_append, ih h.tail, h.head, List.length_cons, Nat.succ_mul]; omega
theorem flat_take (h : AllK k rs) (m : Nat) : flat (rs.take m) = (flat rs).take (m * k) := by
  induction rs generalizing m with
  | nil => simp [flat]
  | cons r rs ih =>
    cases m with
    | zero => simp [flat]
    | succ m =>
      have e : r.toList.take ((m + 1) * k) = r.toList := List.take_of_length_le (by rw [h.head, Nat.succ_mul]; omega)
      rw [List.take_succ_cons, flat_cons, flat_cons, ih h.tail, List.take_append, h.head, e, Nat.succ_mul, Nat.add_sub_cancel]
theorem flat_drop (h : AllK k rs) (m : Nat) : flat (rs.drop m) = (flat rs).drop (m * k) := by
  induction rs generalizing m with
  | nil => simp [flat]
  | cons r rs ih =>
    cases m with
    | zero => simp
    | succ m =>
      have e : r.toList.drop ((m + 1) * k) = [] := List.drop_of_length_le (by rw [h.head, Nat.succ_mul]; omega)
      rw [List.drop_succ_cons, flat_cons, ih h.tail, List.drop_append, h.head, e, List.nil_append, Nat.succ_mul, Nat.add_sub_cancel]
theorem flat_get (h : AllK k rs) {i j : Nat} {u : Value} (hi : rs[i]? = some r) (hj : r[j]? = some u) : (flat rs)[i * k + j]? = some u := by
  induction rs generalizing i with
  | nil => simp at hi
  | cons q rs ih =>
    have hl := h.head
    cases i with
    | zero =>
      simp only [List.getElem?_cons_zero, Option.some.injEq] at hi
      subst hi
      have hjl : j < q.toList.length := by
        rw [Array.length_toList]
        exact (Array.getElem?_eq_some_iff.1 hj).1
      rw [flat_cons, Nat.zero_mul, Nat.zero_add, List.getElem?_append_left hjl]
      simpa using hj
    | succ i =>
      simp only [List.getElem?_cons_succ] at hi
      rw [flat_cons, List.getElem?_append_right (by rw [hl, Nat.succ_mul]; omega), hl, show (i + 1) * k + j - k = i * k + j from by rw [Nat.succ_mul]; omega]
      exact ih h.tail hi
theorem flat_cells (h : AllK k rs) : ∀ u ∈ flat rs, u.oneCell' = true := by
  intro u hu
  simp only [flat, List.mem_flatMap] at hu
  obtain ⟨r, hr, hu⟩ := hu
  have := (h r hr).2
  rw [Array.all_eq_true_iff_forall_mem] at this
  exact this u (by simpa using hu)
end

/-- A slice of structs of k cells. -/
def RdK (k : Nat) (w : World) (A : Option Addr) (n c : Nat) (rs : List (Array Value)) : Prop :=
  AllK k rs ∧ rs.length = n ∧ n ≤ c ∧ c ≤ maxLen ∧ (A = none → c = 0) ∧
    (0 < n → ∃ b o, A = some ⟨b, o, none⟩ ∧ ∀ i u, (flat rs)[i]? = some u → w.cell? ⟨b, o + i, none⟩ = some u)
section
variable {k : Nat} {w w' : World} {A : Option Addr} {n c : Nat} {rs : List (Array Value)}
theorem RdK.keep (h : RdK k w A n c rs) (hk : ∀ p u, w.cell? p = some u → w'.cell? p = some u) : RdK k w' A n c rs := by
  obtain ⟨h0, h1, h2, h3, h4, h5⟩ := h
  refine ⟨h0, h1, h2, h3, h4, fun h6 => ?_⟩
  obtain ⟨b, o, hA, hc⟩ := h5 h6
  exact ⟨b, o, hA, fun i x hx => hk _ _ (hc i x hx)⟩
theorem RdK.below (h : RdK k w A n c rs) (hb : Below w.heap.size w w') : RdK k w' A n c rs :=
  h.keep fun p u hu => (hb.cell (World.block_lt_of_cell? w p hu)).trans hu
theorem RdK.drewN (h : RdK k w A n c rs) (m : Nat) : RdK k (w.drewN m) A n c rs := h
theorem RdK.alloc (h : RdK k w A n c rs) (o : Obj) : RdK k (w.alloc o) A n c rs := h.below ((Below.refl _ _).alloc (Nat.le_refl _) o)
theorem RdK.all (h : RdK k w A n c rs) : AllK k rs := h.1
theorem RdK.size (h : RdK k w A n c rs) : rs.length = n := h.2.1
theorem RdK.cap (h : RdK k w A n c rs) : n ≤ c := h.2.2.1
theorem RdK.cmax (h : RdK k w A n c rs) : c ≤ 9223372036854775807 := by have := h.2.2.2.1; unfold maxLen at this; omega
theorem RdK.le (h : RdK k w A n c rs) : n ≤ 9223372036854775807 := by have := h.cap; have := h.cmax; omega
theorem RdK.nil_ (k : Nat) (w : World) : RdK k w none 0 0 [] := ⟨AllK.nil_ k, rfl, Nat.le_refl _, Nat.zero_le _, fun _ => rfl, fun h => absurd h (by omega)⟩
theorem RdK.empty (k : Nat) (w : World) (A : Option Addr) : RdK k w A 0 0 [] := ⟨AllK.nil_ k, rfl, Nat.le_refl _, Nat.zero_le _, fun _ => rfl, fun h => absurd h (by omega)⟩
theorem RdK.nilA (h : RdK k w none n c rs) : n = 0 ∧ c = 0 ∧ rs = [] := by
  obtain ⟨h0, h1, h2, h3, h4, h5⟩ := h
  have hc := h4 rfl
  have hn : n = 0 := by omega
  exact ⟨hn, hc, List.eq_nil_of_length_eq_zero (by omega)⟩
theorem RdK.addr (h : RdK k w A n c rs) (h0 : 0 < n) : ∃ b o, A = some ⟨b, o, none⟩ := by
  obtain ⟨b, o, hA, _⟩ := h.2.2.2.2.2 h0
  exact ⟨b, o, hA⟩
theorem RdK.take (h : RdK k w A n c rs) {m : Nat} (hm : m ≤ n) : RdK k w A m c (rs.take m) := by
  obtain ⟨h0, h1, h2, h3, h4, h5⟩ := h
  refine ⟨h0.take m, by rw [List.length_take]; omega, by omega, h3, h4, fun h6 => ?_⟩
  obtain ⟨b, o, hA, hc⟩ := h5 (by omega)
  refine ⟨b, o, hA, fun i x hx => hc i x ?_⟩
  rw [flat_take h0, List.getElem?_take] at hx
  split at hx
  · exact hx
  · cases hx
/-- A beginning, with its room cut too. -/
theorem RdK.takeC (h : RdK k w A n c rs) {m d : Nat} (hm : m ≤ n) (hd : m ≤ d) (hdc : d ≤ c) : RdK k w A m d (rs.take m) := by
  obtain ⟨h0, h1, h2, h3, h4, h5⟩ := h.take hm
  exact ⟨h0, h1, hd, by omega, fun hA => by have := h4 hA; omega, h5⟩
theorem RdK.drop {b o : Nat} (h : RdK k w (some ⟨b, o, none⟩) n c rs) {m : Nat} (hm : m ≤ n) : RdK k w (some ⟨b, o + m * k, none⟩) (n - m) (c - m) (rs.drop m) := by
  obtain ⟨h0, h1, h2, h3, h4, h5⟩ := h
  refine ⟨h0.drop m, by rw [List.length_drop]; omega, by omega, by omega, (fun h => by cases h), fun h6 => ⟨b, o + m * k, rfl, fun i x hx => ?_⟩⟩
  obtain ⟨b', o', hA, hc⟩ := h5 (by omega)
  injection hA with hA
  injection hA with e1 e2
  subst e1; subst e2
  rw [flat_drop h0, List.getElem?_drop] at hx
  rw [Nat.add_assoc]
  exact hc _ x hx
/-- One of its structs, cell by cell. -/
theorem RdK.cell {b o : Nat} (h : RdK k w (some ⟨b, o, none⟩) n c rs) {i : Nat} {r : Array Value} (hi : rs[i]? = some r) {j : Nat} {u : Value} (hj : r[j]? = some u) : w.cell? ⟨b, o + i * k + j, none⟩ = some u := by
  have hl : i < rs.length := by
    rcases Nat.lt_or_ge i rs.length with h | h
    · exact h
    · rw [List.getElem?_eq_none h] at hi; cases hi
  obtain ⟨b', o', hA, hc⟩ := h.2.2.2.2.2 (by have := h.size; omega)
  injection hA with hA
  injection hA with e1 e2
  subst e1; subst e2
  rw [Nat.add_assoc]
  exact hc _ _ (flat_get h.all hi hj)
theorem RdK.at_ (h : RdK k w A n c rs) {i : Nat} (hi : i < n) : ∃ b o r, A = some ⟨b, o, none⟩ ∧ rs[i]? = some r ∧ r.size = k ∧ ∀ j u, r[j]? = some u → w.cell? ⟨b, o + i * k + j, none⟩ = some u := by
  obtain ⟨b, o, rfl⟩ := h.addr (by omega)
  have hl : i < rs.length := by rw [h.size]; exact hi
  have e := List.getElem?_eq_getElem hl
  exact ⟨b, o, _, rfl, e, (h.all.at_ e).1, fun j u hj => h.cell e hj⟩
/-- Structs that were just laid. -/
theorem RdK.lit (w : World) (t : TypeId) (fr : Nat × Nat) (C : Array Value) (rs : List (Array Value)) (hk : AllK k rs) (hC : C.toList = flat rs) (n : Nat) (hn : rs.length = n) (hl : n ≤ maxLen) (g : Nat) (hg : w.heap.size = g) : RdK k (w.alloc (.cells C t fr)) (some ⟨g, 0, none⟩) n n rs := by
  subst hn
  subst hg
  refine ⟨hk, rfl, Nat.le_refl _, hl, (fun h => by cases h), fun _ => ⟨_, _, rfl, fun i x hx => ?_⟩⟩
  rw [World.cell?_alloc_mark]
  rw [← hC] at hx
  simpa using hx
end

/-- A struct in the middle of a row is loaded whole. -/
theorem run_ldK {P : Program} {w : World} {b o : Nat} {ty : TypeId} {d : TypeDesc} {r : Array Value} (hc : ∀ j u, r[j]? = some u → w.cell? ⟨b, o + j, none⟩ = some u)
    (hu : P.underlying ty = some d) (hd : (match d with | .struct _ | .array _ _ => true | _ => false) = true) (hi : (P.info? ty).map (·.size) = some r.size) : (loadVar ty ⟨b, o, none⟩).run P w = .ok (.agg r) w := by
  have hl : (loadCells ⟨b, o, none⟩ r.toList.length).run P w = .ok r.toList.toArray w :=
    run_loadCells_list (P := P) w ⟨b, o, none⟩ r.toList (fun j v hv => by
      rw [add_eq]
      exact hc j v (by simpa using hv))
  rw [Array.length_toList, Array.toArray_toList] at hl
  cases hq : P.info? ty with
  | none => simp [hq] at hi
  | some i =>
    have hsz : i.size = r.size := by simpa [hq] using hi
    cases d <;> simp at hd <;> simp [loadVar, isAgg, run_underlying hu, sizeOf, typeInfo, hq, hsz, hl]
theorem wpList_ldK {P : Program} {w : World} {ops : Array Oper} {rest : List Oper} {op : Oper} {a : Act} {Q : Exit → Act → World → Prop} (hgd : Region.wanted op (yielded ops a.tmps) = true) (ty : TypeId) (x : Operand) (ho : op.op = .load ty x)
    (b o : Nat) (hx : a.eval x = .pointer (some ⟨b, o, none⟩)) (r : Array Value) (hc : ∀ j u, r[j]? = some u → w.cell? ⟨b, o + j, none⟩ = some u)
    (d : TypeDesc) (hu : P.underlying ty = some d) (hd : (match d with | .struct _ | .array _ _ => true | _ => false) = true) (hi : (P.info? ty).map (·.size) = some r.size)
    (h : wpList P ops Q rest (a.put op.dst (.agg r)) w) : wpList P ops Q (op :: rest) a w := by
  refine wpList_step fun K hK => ?_
  rw [if_pos hgd]
  unfold Oper.wp execOp
  simp only [ho, hx, Instr.loadAt, Instr.sureAddr, Sem.run_bind, Sem.run_pure, Result.andThen_ok, run_ldK hc hu hd hi]
  exact hK _ _ h

/-- A row of structs of the call's own. -/
abbrev OwnK (k : Nat) (w : World) (base : Nat) (e : TypeId) (v : Value) (n : Nat) (rs : List (Array Value)) : Prop := AllK k rs ∧ rs.length = n ∧ w.ownsRow base e k v n (flat rs)
section
variable {k : Nat} {w w' : World} {base n : Nat} {e : TypeId} {v : Value} {rs : List (Array Value)}
theorem OwnK.rd (h : OwnK k w base e v n rs) : ∃ A c, v = .slice A n c ∧ RdK k w A n c rs := by
  obtain ⟨h0, hl, h⟩ := h
  rcases h.2 with ⟨rfl, rfl⟩ | ⟨g, cap, cur, rfl, hb, hh, hn, hm, hs, ht⟩
  · have : rs = [] := List.eq_nil_of_length_eq_zero hl
    subst this
    exact ⟨none, 0, rfl, RdK.nil_ k w⟩
  · refine ⟨some ⟨g, 0, none⟩, cap, rfl, h0, hl, hn, hm, (fun h => by cases h), fun _ => ⟨g, 0, rfl, fun i x hx => ?_⟩⟩
    have := World.ownsRow.cells (g := g) h rfl i _ hx
    rw [add_eq] at this
    exact this
theorem OwnK.nil_ (k : Nat) (w : World) (base : Nat) (e : TypeId) : OwnK k w base e (.slice none 0 0) 0 [] := ⟨AllK.nil_ k, rfl, World.ownsRow_nil w _ _ _⟩
/-- An empty row that was just laid. -/
theorem OwnK.made (k : Nat) (w : World) (base : Nat) (hb : base ≤ w.heap.size) (e : TypeId) (g : Nat) (hg : w.heap.size = g) : OwnK k (w.alloc (.cells #[] e)) base e (.slice (some ⟨g, 0, none⟩) 0 0) 0 [] := by
  subst hg
  exact ⟨AllK.nil_ k, rfl, World.ownsRow_made (base := base) (e := e) (size := k) w #[] 0 hb (Nat.zero_le _) (by simp)⟩
theorem OwnK.below (h : OwnK k w base e v n rs) (hg : w.grownBy w' v.ownBlock) (hb : base ≤ w.heap.size) : Below base w w' :=
  (Below.refl _ _).grown hg hb (fun k hk => (World.ownsRow.lt h.2.2 k hk).1)
theorem OwnK.later (h : OwnK k w base e v n rs) (hb : Below w.heap.size w w') : OwnK k w' base e v n rs := by
  obtain ⟨h0, hl, h⟩ := h
  refine ⟨h0, hl, h.1, ?_⟩
  rcases h.2 with h2 | ⟨g, cap, cur, hv, hg, hh, r⟩
  · exact .inl h2
  · refine .inr ⟨g, cap, cur, hv, hg, ?_, r⟩
    have hlt : g < w.heap.size := by
      rcases Nat.lt_or_ge g w.heap.size with hlt | hge
      · exact hlt
      · rw [Array.getElem?_eq_none hge] at hh; cases hh
    rw [hb.block g hlt]
    exact hh
theorem OwnK.mono {base' : Nat} (h : OwnK k w base e v n rs) (hb : base' ≤ base) : OwnK k w base' e v n rs := by
  obtain ⟨h0, hl, h⟩ := h
  refine ⟨h0, hl, h.1, ?_⟩
  rcases h.2 with h2 | ⟨g, cap, cur, hv, hg, r⟩
  · exact .inl h2
  · exact .inr ⟨g, cap, cur, hv, by omega, r⟩
end

/-- append onto a row of the call's own, whatever the source. -/
theorem run_appK {P : Program} (k : Nat) (hk0 : 0 < k) (w : World) (base : Nat) (t ty e : TypeId) (i : TypeInfo) (ht : P.underlying t = some (.slice e)) (hi : P.info? e = some i) (z : Value) (hz : i.zero = some z)
    (hsize : i.size = k) (bytes : Nat) (hby : i.bytes = bytes) (hzc : z.cells.size = k) (v : Value) (n : Nat) (xs : List (Array Value)) (hown : OwnK k w base e v n xs)
    (A : Option Addr) (m c : Nat) (l : List (Array Value)) (hr : RdK k w A m c l) (h63 : n + m ≤ 16777216) (hb128 : bytes ≤ 65536) (hbase : base ≤ w.heap.size) :
    ∃ v' w', (Builtin.append_ #[t, t] ty #[v, .slice A m c]).run P w = .ok v' w' ∧ OwnK k w' base e v' (n + m) (xs ++ l) ∧ w.grownBy w' v.ownBlock ∧
      (v'.ownBlock = v.ownBlock ∨ v'.ownBlock = some w.heap.size) := by
  cases A with
  | none =>
    obtain ⟨rfl, rfl, rfl⟩ := hr.nilA
    refine ⟨v, w, ?_, by simpa using hown, World.grownBy.refl w _, .inl rfl⟩
    rcases hown.2.2.2 with ⟨rfl, rfl⟩ | ⟨g, cap, cur, rfl, _, _, hnc, _⟩
    · simp [Builtin.append_, run_underlying ht, sizeOf, typeInfo, hi, Builtin.lenOf, Builtin.firstCells]
    · simp [Builtin.append_, run_underlying ht, sizeOf, typeInfo, hi, Builtin.lenOf, Builtin.firstCells, hnc, storeCells]
  | some ad =>
    have hcells : ∀ j u, (flat l)[j]? = some u → w.cell? (ad.add j) = some u := by
      intro j u hu
      have hj : j < (flat l).length := by
        rcases Nat.lt_or_ge j (flat l).length with h | h
        · exact h
        · rw [List.getElem?_eq_none h] at hu; cases hu
      rw [flat_length hr.all, hr.size] at hj
      obtain ⟨b, o, hA, hc⟩ := hr.2.2.2.2.2 (by rcases Nat.eq_zero_or_pos m with h | h; · rw [h, Nat.zero_mul] at hj; omega
                                                · exact h)
      injection hA with hA
      subst hA
      rw [add_eq]
      exact hc j u hu
    have hbytes : (n + m) * bytes ≤ 140737488355328 := Nat.le_trans (Nat.mul_le_mul h63 hb128) (by decide)
    obtain ⟨v', w', hrun, h2, h3, _, h5⟩ := run_append_own_at (P := P) w base t ty e i z k bytes ht hi hz hsize hby hzc hk0 v n (flat xs) hown.2.2 ad m c (flat l) (by rw [flat_length hr.all, hr.size]) hcells (flat_cells hr.all)
      (by simp only [maxLen]; omega) hbytes hbase
    refine ⟨v', w', hrun, ⟨hown.1.app hr.all, by rw [List.length_append, hown.2.1, hr.size], ?_⟩, h3, h5⟩
    rw [flat_append]
    exact h2
theorem wpList_appK {P : Program} {w : World} {ops : Array Oper} {rest : List Oper} {o : Oper} {a : Act} {Q : Exit → Act → World → Prop} (k : Nat) (hk0 : 0 < k) (hgd : Region.wanted o (yielded ops a.tmps) = true) (s x : Operand) (t : TypeId)
    (ho : o.op = .call { callee := .builtin .append, args := #[s, x], argTypes := #[t, t] })
    (base : Nat) (e : TypeId) (z : Value) (bytes : Nat) (hi : (P.info? e).map (fun i => (i.zero, i.size, i.bytes)) = some (some z, k, bytes)) (hzc : z.cells.size = k) (hb128 : bytes ≤ 65536) (ht : P.underlying t = some (.slice e))
    (v : Value) (n : Nat) (xs : List (Array Value)) (hs : a.eval s = v) (hown : OwnK k w base e v n xs)
    (A : Option Addr) (m c : Nat) (l : List (Array Value)) (hx : a.eval x = .slice A m c) (hr : RdK k w A m c l)
    (h63 : n + m ≤ 16777216) (hbase : base ≤ w.heap.size)
    (h : ∀ v' w', OwnK k w' base e v' (n + m) (xs ++ l) → Below base w w' → w.grownBy w' v.ownBlock → wpList P ops Q rest (a.put o.dst v') w') : wpList P ops Q (o :: rest) a w := by
  obtain ⟨i0, hi0, hz0, hz1, hz2⟩ := info_parts hi
  refine wpList_step fun K hK => ?_
  rw [if_pos hgd]
  obtain ⟨v', w', hrun, h2, h3, h4⟩ := run_appK (P := P) k hk0 w base t o.type e i0 ht hi0 z hz0 hz1 bytes hz2 hzc v n xs hown A m c l hr h63 hb128 hbase
  unfold Oper.wp execOp
  simp only [ho, resolve, invoke, builtin, Sem.run_bind, Sem.run_pure, Result.andThen_ok, List.map_toArray, List.map_cons, List.map_nil, hs, hx, hrun]
  exact hK _ _ (h v' w' h2 (OwnK.below hown h3 hbase) h3)
/-- The same inside a region that draws its order, its slot written out. -/
theorem step_appK {P : Program} {w : World} {ops : Array Oper} {o : Oper} {a : Act} {K : Act → World → Prop} {Q : Exit → Act → World → Prop} {E : Prop} (k : Nat) (hk0 : 0 < k) (d : Tmp) (hd : o.dst = some d) (hw : Region.wanted o (yielded ops a.tmps) = true) (s x : Operand) (t : TypeId)
    (ho : o.op = .call { callee := .builtin .append, args := #[s, x], argTypes := #[t, t] })
    (base : Nat) (e : TypeId) (z : Value) (bytes : Nat) (hi : (P.info? e).map (fun i => (i.zero, i.size, i.bytes)) = some (some z, k, bytes)) (hzc : z.cells.size = k) (hb128 : bytes ≤ 65536) (ht : P.underlying t = some (.slice e))
    (v : Value) (n : Nat) (xs : List (Array Value)) (hs : a.eval s = v) (hown : OwnK k w base e v n xs)
    (A : Option Addr) (m c : Nat) (l : List (Array Value)) (hx : a.eval x = .slice A m c) (hr : RdK k w A m c l)
    (h63 : n + m ≤ 16777216) (hbase : base ≤ w.heap.size)
    (h : ∀ v' w', OwnK k w' base e v' (n + m) (xs ++ l) → Below base w w' → w.grownBy w' v.ownBlock → K (a.put (some d) v') w') : if Region.wanted o (yielded ops a.tmps) = true then Oper.wp P o a w K Q else E := by
  rw [if_pos hw]
  obtain ⟨i0, hi0, hz0, hz1, hz2⟩ := info_parts hi
  obtain ⟨v', w', hrun, h2, h3, h4⟩ := run_appK (P := P) k hk0 w base t o.type e i0 ht hi0 z hz0 hz1 bytes hz2 hzc v n xs hown A m c l hr h63 hb128 hbase
  unfold Oper.wp execOp
  simp only [ho, resolve, invoke, builtin, Sem.run_bind, Sem.run_pure, Result.andThen_ok, List.map_toArray, List.map_cons, List.map_nil, hs, hx, hrun]
  show K (a.put o.dst v') w'
  rw [hd]
  exact h v' w' h2 (OwnK.below hown h3 hbase) h3
end Go.Proofs.Ytmlmkkfieeaejaa
