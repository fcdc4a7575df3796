import Derived.Test.YtdchgnmkeefffaaBM
import Derived.Test.YtdchgnmkeefffaaBA
import Derived.WalkKit
import Derived.WalkLawsBesides
import Derived.Laws.Rows
import Derived.IntWalk
import Derived.Lib.SliceRun
import Derived.ScopeJumps
import Derived.WalkMore
import Derived.Deep.QuietTactic
import Derived.BigQuiet
import Derived.Laws.CopyOwn
import Derived.Deep.RegionHeldLaw
import Derived.Deep.RegionHeld3
import Derived.Deep.RegionLaw
import Derived.Lib.AppendZeros
import Derived.LoopN
set_option maxRecDepth 100000
/- What the texts of package item take over where package num is no part of the program: nothing of its own. -/
namespace Go.Proofs.Ytdchgnmkeefffaa
open Go.RowKit
end Go.Proofs.Ytdchgnmkeefffaa
/- What the document's own Same of rows of numbers comes to. -/
namespace Go.Proofs.Ytdchgnmkeefffaa
open Go.RowKit
set_option linter.unusedVariables false

theorem take_ne {a b : List Int} {j : Nat} {x y : Int} (ha : a[j]? = some x) (hb : b[j]? = some y) (h : x ≠ y) : decide (a = b) = false := by
  rw [decide_eq_false_iff_not]
  rintro rfl
  rw [ha] at hb
  injection hb with hb
  exact h hb
theorem take_snocI {a b : List Int} {j : Nat} {x : Int} (ha : a[j]? = some x) (hb : b[j]? = some x) (h : a.take j = b.take j) : a.take (j + 1) = b.take (j + 1) := by
  rw [List.take_add_one, List.take_add_one, h, ha, hb]

set_option maxHeartbeats 400000 in
theorem rsame_any (A : Option Addr) (n c : Nat) (a : List Int) (B : Option Addr) (m d : Nat) (b : List Int) (w : World) (ha : RdI w A n c a) (hb : RdI w B m d b) :
    Calls Try.prog 23 #[.slice A n c, .slice B m d] w fun e w' => e = .returned (.bool (decide (a = b))) ∧ ∃ k, w' = w.drewN k := by
  have hn := RdV.le ha
  have hla := RdI.size ha
  have hlb := RdI.size hb
  by_cases hnm : n = m
  · subst hnm
    have HA := hidT hla
    have HB := hidT hlb
    clear hla hlb
    go_enter Try.func23, Try.ntmps23
    go_wp2
    go_loopw [5] (fun i w' => ∃ j : Nat, j ≤ n ∧ i = .int .i64 j ∧ Hid (a.take j = b.take j) ∧ ∃ k, w' = w.drewN k) (fun i _ => n - (intOf i).toNat)
    case atStart => exact ⟨0, Nat.zero_le _, rfl, hidT rfl, 0, rfl⟩
    case round =>
      obtain ⟨j, hj, rfl, HT, kk, rfl⟩ := hrel
      by_cases hjn : j < n
      · obtain ⟨b1, o1, x, rfl, hx, hcx⟩ := RdI.at_ ha hjn
        obtain ⟨b2, o2, y, rfl, hy, hcy⟩ := RdI.at_ hb hjn
        have HX := hidT hx
        have HY := hidT hy
        clear hx hy
        by_cases hxy : x = y
        · subst hxy
          go_wp2
          go_quiet (fail)
          go_wp2
          exact ⟨⟨j + 1, by omega, by go_num, hidT (take_snocI HX.out HY.out HT.out), _, rfl⟩, by simp [intOf]; omega⟩
        · have q1 : (x != y) = true := by simpa using hxy
          have q2 : (x == y) = false := by simpa using hxy
          go_wp2
          go_quiet (fail)
          have HD := hidT (take_ne HX.out HY.out hxy)
          go_wp2
          go_ret
          rw [HD.out]
          exact ⟨rfl, _, World.drewN_drewN _ _ _⟩
      · obtain rfl : j = n := by omega
        have HD : Hid (decide (a = b) = true) := by
          have h1 := HT.out
          rw [List.take_of_length_le (by rw [HA.out]; omega), List.take_of_length_le (by rw [HB.out]; omega)] at h1
          exact hidT (by simpa using h1)
        go_wp2
        go_ret
        rw [HD.out]
        exact ⟨rfl, _, rfl⟩
  · have HD : Hid (decide (a = b) = false) := by
      refine hidT ?_
      rw [decide_eq_false_iff_not]
      rintro rfl
      omega
    have q1 : ((n : Int) != (m : Int)) = true := by simp; omega
    have q2 : ((n : Int) == (m : Int)) = false := by simp; omega
    have q3 : (n == m) = false := by simpa using hnm
    have q4 : (n != m) = true := by simpa using hnm
    clear hla hlb
    go_enter Try.func23, Try.ntmps23
    go_wp2
    go_ret
    rw [HD.out]
    exact ⟨rfl, 0, rfl⟩

theorem rsame_is (A : Option Addr) (n c : Nat) (a : List Int) (B : Option Addr) (m d : Nat) (b : List Int) (w : World) (ha : RdI w A n c a) (hb : RdI w B m d b) (t : Bool) (ht : decide (a = b) = t) :
    Calls Try.prog 23 #[.slice A n c, .slice B m d] w fun e w' => e = .returned (.bool t) ∧ Below w.heap.size w w' := by
  refine (rsame_any A n c a B m d b w ha hb).mono ?_
  rintro e w' ⟨rfl, k, rfl⟩
  rw [ht]
  exact ⟨rfl, drawn_below _ _⟩
end Go.Proofs.Ytdchgnmkeefffaa
/- Rows of structs in memory, each struct's cells a letter: read, cut, loaded whole, grown. No program is named here. -/
namespace Go.Proofs.Ytdchgnmkeefffaa
open Go.RowKit
set_option linter.unusedVariables false

/-- Structs of k cells. -/
def AllK (k : Nat) (rs : List (Array Value)) : Prop := ∀ r ∈ rs, r.size = k ∧ r.all (·.oneCell') = true
/-- Their cells, one behind the other. -/
def flat (rs : List (Array Value)) : List Value := rs.flatMap Array.toList
section
variable {k : Nat} {rs ss : List (Array Value)} {r : Array Value}
theorem AllK.nil_ (k : Nat) : AllK k [] := fun r hr => by cases hr
theorem AllK.tail (h : AllK k (r :: rs)) : AllK k rs := fun q hq => h q (List.mem_cons_of_mem _ hq)
theorem AllK.head (h : AllK k (r :: rs)) : r.toList.length = k := by rw [Array.length_toList]; exact (h r List.mem_cons_self).1
theorem AllK.app (h : AllK k rs) (h2 : AllK k ss) : AllK k (rs ++ ss) := fun q hq => by
  rcases List.mem_append.1 hq with hq | hq
  · exact h q hq
  · exact h2 q hq
theorem AllK.one (h1 : r.size = k) (h2 : r.all (·.oneCell') = true) : AllK k [r] := fun q hq => by
  obtain rfl : q = r := by simpa using hq
  exact ⟨h1, h2⟩
theorem AllK.take (h : AllK k rs) (m : Nat) : AllK k (rs.take m) := fun q hq => h q (List.mem_of_mem_take hq)
theorem AllK.drop (h : AllK k rs) (m : Nat) : AllK k (rs.drop m) := fun q hq => h q (List.mem_of_mem_drop hq)
theorem AllK.at_ (h : AllK k rs) {i : Nat} (hi : rs[i]? = some r) : r.size = k ∧ r.all (·.oneCell') = true := h r (List.mem_of_getElem? hi)
theorem AllK.filter (h : AllK k rs) (p : Array Value → Bool) : AllK k (rs.filter p) := fun q hq => h q (List.mem_filter.1 hq).1
theorem flat_cons (r : Array Value) (rs : List (Array Value)) : flat (r :: rs) = r.toList ++ flat rs := by simp [flat]
theorem flat_append (rs ss : List (Array Value)) : flat (rs ++ ss) = flat rs ++ flat ss := by simp [flat]
theorem flat_one (r : Array Value) : flat [r] = r.toList := by simp [flat]
theorem flat_length (h : AllK k rs) : (flat rs).length = rs.length * k := by
  induction rs with
  | nil => simp [flat]
  | cons r rs ih => rw [flat_cons, List.length_append, ih h.tail, h.head, List.length_cons, Nat.succ_mul]; omega
theorem flat_take (h : AllK k rs) (m : Nat) : flat (rs.take m) = (flat rs).take (m * k) := by
  induction rs generalizing m with
  | nil => simp [flat]
  | cons r rs ih =>
    cases m with
    | zero => simp [flat]
    | succ m =>
      have e : r.toList.take ((m + 1) * k) = r.toList := List.take_of_length_le (by rw [h.head, Nat.succ_mul]; omega)
      rw [List.take_succ_cons, flat_cons, flat_cons, ih h.tail, List.take_append, h.head, e, Nat.succ_mul, Nat.add_sub_cancel]
theorem flat_drop (h : AllK k rs) (m : Nat) : flat (rs.drop m) = (flat rs).drop (m * k) := by
  induction rs generalizing m with
  | nil => simp [flat]
  | cons r rs ih =>
    cases m with
    | zero => simp
    | succ m =>
      have e : r.toList.drop ((m + 1) * k) = [] := List.drop_of_length_le (by rw [h.head, Nat.succ_mul]; omega)
      rw [List.drop_succ_cons, flat_cons, ih h.tail, List.drop_append, h.head, e, List.nil_append, Nat.succ_mul, Nat.add_sub_cancel]
theorem flat_get (h : AllK k rs) {i j : Nat} {u : Value} (hi : rs[i]? = some r) (hj : r[j]? = some u) : (flat rs)[i * k + j]? = some u := by
  induction rs generalizing i with
  | nil => simp at hi
  | cons q rs ih =>
    have hl := h.head
    cases i with
    | zero =>
      simp only [List.getElem?_cons_zero, Option.some.injEq] at hi
      subst hi
      have hjl : j < q.toList.length := by
        rw [Array.length_toList]
        exact (Array.getElem?_eq_some_iff.1 hj).1
      rw [flat_cons, Nat.zero_mul, Nat.zero_add, List.getElem?_append_left hjl]
      simpa using hj
    | succ i =>
      simp only [List.getElem?_cons_succ] at hi
      rw [flat_cons, List.getElem?_append_right (by rw [hl, Nat.succ_mul]; omega), hl, show (i + 1) * k + j - k = i * k + j from by rw [Nat.succ_mul]; omega]
      exact ih h.tail hi
theorem flat_cells (h : AllK k rs) : ∀ u ∈ flat rs, u.oneCell' = true := by
  intro u hu
  simp only [flat, List.mem_flatMap] at hu
  obtain ⟨r, hr, hu⟩ := hu
  have := (h r hr).2
  rw [Array.all_eq_true_iff_forall_mem] at this
  exact this u (by simpa using hu)
end

/-- A slice of structs of k cells. -/
def RdK (k : Nat) (w : World) (A : Option Addr) (n c : Nat) (rs : List (Array Value)) : Prop :=
  AllK k rs ∧ rs.length = n ∧ n ≤ c ∧ c ≤ maxLen ∧ (A = none → c = 0) ∧
    (0 < n → ∃ b o, A = some ⟨b, o, none⟩ ∧ ∀ i u, (flat rs)[i]? = some u → w.cell? ⟨b, o + i, none⟩ = some u)
section
variable {k : Nat} {w w' : World} {A : Option Addr} {n c : Nat} {rs : List (Array Value)}
theorem RdK.keep (h : RdK k w A n c rs) (hk : ∀ p u, w.cell? p = some u → w'.cell? p = some u) : RdK k w' A n c rs := by
  obtain ⟨h0, h1, h2, h3, h4, h5⟩ := h
  refine ⟨h0, h1, h2, h3, h4, fun h6 => ?_⟩
  obtain ⟨b, o, hA, hc⟩ := h5 h6
  exact ⟨b, o, hA, fun i x hx => hk _ _ (hc i x hx)⟩
theorem RdK.below (h : RdK k w A n c rs) (hb : Below w.heap.size w w') : RdK k w' A n c rs :=
  h.keep fun p u hu => (hb.cell (World.block_lt_of_cell? w p hu)).trans hu
theorem RdK.drewN (h : RdK k w A n c rs) (m : Nat) : RdK k (w.drewN m) A n c rs := h
theorem RdK.alloc (h : RdK k w A n c rs) (o : Obj) : RdK k (w.alloc o) A n c rs := h.below ((Below.refl _ _).alloc (Nat.le_refl _) o)
theorem RdK.all (h : RdK k w A n c rs) : AllK k rs := h.1
theorem RdK.size (h : RdK k w A n c rs) : rs.length = n := h.2.1
theorem RdK.cap (h : RdK k w A n c rs) : n ≤ c := h.2.2.1
theorem RdK.cmax (h : RdK k w A n c rs) : c ≤ 9223372036854775807 := by have := h.2.2.2.1; unfold maxLen at this; omega
theorem RdK.le (h : RdK k w A n c rs) : n ≤ 9223372036854775807 := by have := h.cap; have := h.cmax; omega
theorem RdK.nil_ (k : Nat) (w : World) : RdK k w none 0 0 [] := ⟨AllK.nil_ k, rfl, Nat.le_refl _, Nat.zero_le _, fun _ => rfl, fun h => absurd h (by omega)⟩
theorem RdK.empty (k : Nat) (w : World) (A : Option Addr) : RdK k w A 0 0 [] := ⟨AllK.nil_ k, rfl, Nat.le_refl _, Nat.zero_le _, fun _ => rfl, fun h => absurd h (by omega)⟩
theorem RdK.nilA (h : RdK k w none n c rs) : n = 0 ∧ c = 0 ∧ rs = [] := by
  obtain ⟨h0, h1, h2, h3, h4, h5⟩ := h
  have hc := h4 rfl
  have hn : n = 0 := by omega
  exact ⟨hn, hc, List.eq_nil_of_length_eq_zero (by omega)⟩
theorem RdK.addr (h : RdK k w A n c rs) (h0 : 0 < n) : ∃ b o, A = some ⟨b, o, none⟩ := by
  obtain ⟨b, o, hA, _⟩ := h.2.2.2.2.2 h0
  exact ⟨b, o, hA⟩
theorem RdK.take (h : RdK k w A n c rs) {m : Nat} (hm : m ≤ n) : RdK k w A m c (rs.take m) := by
  obtain ⟨h0, h1, h2, h3, h4, h5⟩ := h
  refine ⟨h0.take m, by rw [List.length_take]; omega, by omega, h3, h4, fun h6 => ?_⟩
  obtain ⟨b, o, hA, hc⟩ := h5 (by omega)
  refine ⟨b, o, hA, fun i x hx => hc i x ?_⟩
  rw [flat_take h0, List.getElem?_take] at hx
  split at hx
  · exact hx
  · cases hx
/-- A beginning, with its room cut too. -/
theorem RdK.takeC (h : RdK k w A n c rs) {m d : Nat} (hm : m ≤ n) (hd : m ≤ d) (hdc : d ≤ c) : RdK k w A m d (rs.take m) := by
  obtain ⟨h0, h1, h2, h3, h4, h5⟩ := h.take hm
  exact ⟨h0, h1, hd, by omega, fun hA => by have := h4 hA; omega, h5⟩
theorem RdK.drop {b o : Nat} (h : RdK k w (some ⟨b, o, none⟩) n c rs) {m : Nat} (hm : m ≤ n) : RdK k w (some ⟨b, o + m * k, none⟩) (n - m) (c - m) (rs.drop m) := by
  obtain ⟨h0, h1, h2, h3, h4, h5⟩ := h
  refine ⟨h0.drop m, by rw [List.length_drop]; omega, by omega, by omega, (fun h => by cases h), fun h6 => ⟨b, o + m * k, rfl, fun i x hx => ?_⟩⟩
  obtain ⟨b', o', hA, hc⟩ := h5 (by omega)
  injection hA with hA
  injection hA with e1 e2
  subst e1; subst e2
  rw [flat_drop h0, List.getElem?_drop] at hx
  rw [Nat.add_assoc]
  exact hc _ x hx
/-- One of its structs, cell by cell. -/
theorem RdK.cell {b o : Nat} (h : RdK k w (some ⟨b, o, none⟩) n c rs) {i : Nat} {r : Array Value} (hi : rs[i]? = some r) {j : Nat} {u : Value} (hj : r[j]? = some u) : w.cell? ⟨b, o + i * k + j, none⟩ = some u := by
  have hl : i < rs.length := by
    rcases Nat.lt_or_ge i rs.length with h | h
    · exact h
    · rw [List.getElem?_eq_none h] at hi; cases hi
  obtain ⟨b', o', hA, hc⟩ := h.2.2.2.2.2 (by have := h.size; omega)
  injection hA with hA
  injection hA with e1 e2
  subst e1; subst e2
  rw [Nat.add_assoc]
  exact hc _ _ (flat_get h.all hi hj)
theorem RdK.at_ (h : RdK k w A n c rs) {i : Nat} (hi : i < n) : ∃ b o r, A = some ⟨b, o, none⟩ ∧ rs[i]? = some r ∧ r.size = k ∧ ∀ j u, r[j]? = some u → w.cell? ⟨b, o + i * k + j, none⟩ = some u := by
  obtain ⟨b, o, rfl⟩ := h.addr (by omega)
  have hl : i < rs.length := by rw [h.size]; exact hi
  have e := List.getElem?_eq_getElem hl
  exact ⟨b, o, _, rfl, e, (h.all.at_ e).1, fun j u hj => h.cell e hj⟩
/-- Structs that were just laid. -/
theorem RdK.lit (w : World) (t : TypeId) (fr : Nat × Nat) (C : Array Value) (rs : List (Array Value)) (hk : AllK k rs) (hC : C.toList = flat rs) (n : Nat) (hn : rs.length = n) (hl : n ≤ maxLen) (g : Nat) (hg : w.heap.size = g) : RdK k (w.alloc (.cells C t fr)) (some ⟨g, 0, none⟩) n n rs := by
  subst hn
  subst hg
  refine ⟨hk, rfl, Nat.le_refl _, hl, (fun h => by cases h), fun _ => ⟨_, _, rfl, fun i x hx => ?_⟩⟩
  rw [World.cell?_alloc_mark]
  rw [← hC] at hx
  simpa using hx
end

/-- A struct in the middle of a row is loaded whole. -/
theorem run_ldK {P : Program} {w : World} {b o : Nat} {ty : TypeId} {d : TypeDesc} {r : Array Value} (hc : ∀ j u, r[j]? = some u → w.cell? ⟨b, o + j, none⟩ = some u)
    (hu : P.underlying ty = some d) (hd : (match d with | .struct _ | .array _ _ => true | _ => false) = true) (hi : (P.info? ty).map (·.size) = some r.size) : (loadVar ty ⟨b, o, none⟩).run P w = .ok (.agg r) w := by
  have hl : (loadCells ⟨b, o, none⟩ r.toList.length).run P w = .ok r.toList.toArray w :=
    run_loadCells_list (P := P) w ⟨b, o, none⟩ r.toList (fun j v hv => by
      rw [add_eq]
      exact hc j v (by simpa using hv))
  rw [Array.length_toList, Array.toArray_toList] at hl
  cases hq : P.info? ty with
  | none => simp [hq] at hi
  | some i =>
    have hsz : i.size = r.size := by simpa [hq] using hi
    cases d <;> simp at hd <;> simp [loadVar, isAgg, run_underlying hu, sizeOf, typeInfo, hq, hsz, hl]
theorem wpList_ldK {P : Program} {w : World} {ops : Array Oper} {rest : List Oper} {op : Oper} {a : Act} {Q : Exit → Act → World → Prop} (hgd : Region.wanted op (yielded ops a.tmps) = true) (ty : TypeId) (x : Operand) (ho : op.op = .load ty x)
    (b o : Nat) (hx : a.eval x = .pointer (some ⟨b, o, none⟩)) (r : Array Value) (hc : ∀ j u, r[j]? = some u → w.cell? ⟨b, o + j, none⟩ = some u)
    (d : TypeDesc) (hu : P.underlying ty = some d) (hd : (match d with | .struct _ | .array _ _ => true | _ => false) = true) (hi : (P.info? ty).map (·.size) = some r.size)
    (h : wpList P ops Q rest (a.put op.dst (.agg r)) w) : wpList P ops Q (op :: rest) a w := by
  refine wpList_step fun K hK => ?_
  rw [if_pos hgd]
  unfold Oper.wp execOp
  simp only [ho, hx, Instr.loadAt, Instr.sureAddr, Sem.run_bind, Sem.run_pure, Result.andThen_ok, run_ldK hc hu hd hi]
  exact hK _ _ h

/-- A row of structs of the call's own. -/
abbrev OwnK (k : Nat) (w : World) (base : Nat) (e : TypeId) (v : Value) (n : Nat) (rs : List (Array Value)) : Prop := AllK k rs ∧ rs.length = n ∧ w.ownsRow base e k v n (flat rs)
section
variable {k : Nat} {w w' : World} {base n : Nat} {e : TypeId} {v : Value} {rs : List (Array Value)}
theorem OwnK.rd (h : OwnK k w base e v n rs) : ∃ A c, v = .slice A n c ∧ RdK k w A n c rs := by
  obtain ⟨h0, hl, h⟩ := h
  rcases h.2 with ⟨rfl, rfl⟩ | ⟨g, cap, cur, rfl, hb, hh, hn, hm, hs, ht⟩
  · have : rs = [] := List.eq_nil_of_length_eq_zero hl
    subst this
    exact ⟨none, 0, rfl, RdK.nil_ k w⟩
  · refine ⟨some ⟨g, 0, none⟩, cap, rfl, h0, hl, hn, hm, (fun h => by cases h), fun _ => ⟨g, 0, rfl, fun i x hx => ?_⟩⟩
    have := World.ownsRow.cells (g := g) h rfl i _ hx
    rw [add_eq] at this
    exact this
theorem OwnK.nil_ (k : Nat) (w : World) (base : Nat) (e : TypeId) : OwnK k w base e (.slice none 0 0) 0 [] := ⟨AllK.nil_ k, rfl, World.ownsRow_nil w _ _ _⟩
/-- An empty row that was just laid. -/
theorem OwnK.made (k : Nat) (w : World) (base : Nat) (hb : base ≤ w.heap.size) (e : TypeId) (g : Nat) (hg : w.heap.size = g) : OwnK k (w.alloc (.cells #[] e)) base e (.slice (some ⟨g, 0, none⟩) 0 0) 0 [] := by
  subst hg
  exact ⟨AllK.nil_ k, rfl, World.ownsRow_made (base := base) (e := e) (size := k) w #[] 0 hb (Nat.zero_le _) (by simp)⟩
theorem OwnK.below (h : OwnK k w base e v n rs) (hg : w.grownBy w' v.ownBlock) (hb : base ≤ w.heap.size) : Below base w w' :=
  (Below.refl _ _).grown hg hb (fun k hk => (World.ownsRow.lt h.2.2 k hk).1)
theorem OwnK.later (h : OwnK k w base e v n rs) (hb : Below w.heap.size w w') : OwnK k w' base e v n rs := by
  obtain ⟨h0, hl, h⟩ := h
  refine ⟨h0, hl, h.1, ?_⟩
  rcases h.2 with h2 | ⟨g, cap, cur, hv, hg, hh, r⟩
  · exact .inl h2
  · refine .inr ⟨g, cap, cur, hv, hg, ?_, r⟩
    have hlt : g < w.heap.size := by
      rcases Nat.lt_or_ge g w.heap.size with hlt | hge
      · exact hlt
      · rw [Array.getElem?_eq_none hge] at hh; cases hh
    rw [hb.block g hlt]
    exact hh
theorem OwnK.mono {base' : Nat} (h : OwnK k w base e v n rs) (hb : base' ≤ base) : OwnK k w base' e v n rs := by
  obtain ⟨h0, hl, h⟩ := h
  refine ⟨h0, hl, h.1, ?_⟩
  rcases h.2 with h2 | ⟨g, cap, cur, hv, hg, r⟩
  · exact .inl h2
  · exact .inr ⟨g, cap, cur, hv, by omega, r⟩
end

/-- append onto a row of the call's own, whatever the source. -/
theorem run_appK {P : Program} (k : Nat) (hk0 : 0 < k) (w : World) (base : Nat) (t ty e : TypeId) (i : TypeInfo) (ht : P.underlying t = some (.slice e)) (hi : P.info? e = some i) (z : Value) (hz : i.zero = some z)
    (hsize : i.size = k) (bytes : Nat) (hby : i.bytes = bytes) (hzc : z.cells.size = k) (v : Value) (n : Nat) (xs : List (Array Value)) (hown : OwnK k w base e v n xs)
    (A : Option Addr) (m c : Nat) (l : List (Array Value)) (hr : RdK k w A m c l) (h63 : n + m ≤ 16777216) (hb128 : bytes ≤ 65536) (hbase : base ≤ w.heap.size) :
    ∃ v' w', (Builtin.append_ #[t, t] ty #[v, .slice A m c]).run P w = .ok v' w' ∧ OwnK k w' base e v' (n + m) (xs ++ l) ∧ w.grownBy w' v.ownBlock ∧
      (v'.ownBlock = v.ownBlock ∨ v'.ownBlock = some w.heap.size) := by
  cases A with
  | none =>
    obtain ⟨rfl, rfl, rfl⟩ := hr.nilA
    refine ⟨v, w, ?_, by simpa using hown, World.grownBy.refl w _, .inl rfl⟩
    rcases hown.2.2.2 with ⟨rfl, rfl⟩ | ⟨g, cap, cur, rfl, _, _, hnc, _⟩
    · simp [Builtin.append_, run_underlying ht, sizeOf, typeInfo, hi, Builtin.lenOf, Builtin.firstCells]
    · simp [Builtin.append_, run_underlying ht, sizeOf, typeInfo, hi, Builtin.lenOf, Builtin.firstCells, hnc, storeCells]
  | some ad =>
    have hcells : ∀ j u, (flat l)[j]? = some u → w.cell? (ad.add j) = some u := by
      intro j u hu
      have hj : j < (flat l).length := by
        rcases Nat.lt_or_ge j (flat l).length with h | h
        · exact h
        · rw [List.getElem?_eq_none h] at hu; cases hu
      rw [flat_length hr.all, hr.size] at hj
      obtain ⟨b, o, hA, hc⟩ := hr.2.2.2.2.2 (by rcases Nat.eq_zero_or_pos m with h | h; · rw [h, Nat.zero_mul] at hj; omega
                                                · exact h)
      injection hA with hA
      subst hA
      rw [add_eq]
      exact hc j u hu
    have hbytes : (n + m) * bytes ≤ 140737488355328 := Nat.le_trans (Nat.mul_le_mul h63 hb128) (by decide)
    obtain ⟨v', w', hrun, h2, h3, _, h5⟩ := run_append_own_at (P := P) w base t ty e i z k bytes ht hi hz hsize hby hzc hk0 v n (flat xs) hown.2.2 ad m c (flat l) (by rw [flat_length hr.all, hr.size]) hcells (flat_cells hr.all)
      (by simp only [maxLen]; omega) hbytes hbase
    refine ⟨v', w', hrun, ⟨hown.1.app hr.all, by rw [List.length_append, hown.2.1, hr.size], ?_⟩, h3, h5⟩
    rw [flat_append]
    exact h2
theorem wpList_appK {P : Program} {w : World} {ops : Array Oper} {rest : List Oper} {o : Oper} {a : Act} {Q : Exit → Act → World → Prop} (k : Nat) (hk0 : 0 < k) (hgd : Region.wanted o (yielded ops a.tmps) = true) (s x : Operand) (t : TypeId)
    (ho : o.op = .call { callee := .builtin .append, args := #[s, x], argTypes := #[t, t] })
    (base : Nat) (e : TypeId) (z : Value) (bytes : Nat) (hi : (P.info? e).map (fun i => (i.zero, i.size, i.bytes)) = some (some z, k, bytes)) (hzc : z.cells.size = k) (hb128 : bytes ≤ 65536) (ht : P.underlying t = some (.slice e))
    (v : Value) (n : Nat) (xs : List (Array Value)) (hs : a.eval s = v) (hown : OwnK k w base e v n xs)
    (A : Option Addr) (m c : Nat) (l : List (Array Value)) (hx : a.eval x = .slice A m c) (hr : RdK k w A m c l)
    (h63 : n + m ≤ 16777216) (hbase : base ≤ w.heap.size)
    (h : ∀ v' w', OwnK k w' base e v' (n + m) (xs ++ l) → Below base w w' → w.grownBy w' v.ownBlock → wpList P ops Q rest (a.put o.dst v') w') : wpList P ops Q (o :: rest) a w := by
  obtain ⟨i0, hi0, hz0, hz1, hz2⟩ := info_parts hi
  refine wpList_step fun K hK => ?_
  rw [if_pos hgd]
  obtain ⟨v', w', hrun, h2, h3, h4⟩ := run_appK (P := P) k hk0 w base t o.type e i0 ht hi0 z hz0 hz1 bytes hz2 hzc v n xs hown A m c l hr h63 hb128 hbase
  unfold Oper.wp execOp
  simp only [ho, resolve, invoke, builtin, Sem.run_bind, Sem.run_pure, Result.andThen_ok, List.map_toArray, List.map_cons, List.map_nil, hs, hx, hrun]
  exact hK _ _ (h v' w' h2 (OwnK.below hown h3 hbase) h3)
/-- The same inside a region that draws its order, its slot written out. -/
theorem step_appK {P : Program} {w : World} {ops : Array Oper} {o : Oper} {a : Act} {K : Act → World → Prop} {Q : Exit → Act → World → Prop} {E : Prop} (k : Nat) (hk0 : 0 < k) (d : Tmp) (hd : o.dst = some d) (hw : Region.wanted o (yielded ops a.tmps) = true) (s x : Operand) (t : TypeId)
    (ho : o.op = .call { callee := .builtin .append, args := #[s, x], argTypes := #[t, t] })
    (base : Nat) (e : TypeId) (z : Value) (bytes : Nat) (hi : (P.info? e).map (fun i => (i.zero, i.size, i.bytes)) = some (some z, k, bytes)) (hzc : z.cells.size = k) (hb128 : bytes ≤ 65536) (ht : P.underlying t = some (.slice e))
    (v : Value) (n : Nat) (xs : List (Array Value)) (hs : a.eval s = v) (hown : OwnK k w base e v n xs)
    (A : Option Addr) (m c : Nat) (l : List (Array Value)) (hx : a.eval x = .slice A m c) (hr : RdK k w A m c l)
    (h63 : n + m ≤ 16777216) (hbase : base ≤ w.heap.size)
    (h : ∀ v' w', OwnK k w' base e v' (n + m) (xs ++ l) → Below base w w' → w.grownBy w' v.ownBlock → K (a.put (some d) v') w') : if Region.wanted o (yielded ops a.tmps) = true then Oper.wp P o a w K Q else E := by
  rw [if_pos hw]
  obtain ⟨i0, hi0, hz0, hz1, hz2⟩ := info_parts hi
  obtain ⟨v', w', hrun, h2, h3, h4⟩ := run_appK (P := P) k hk0 w base t o.type e i0 ht hi0 z hz0 hz1 bytes hz2 hzc v n xs hown A m c l hr h63 hb128 hbase
  unfold Oper.wp execOp
  simp only [ho, resolve, invoke, builtin, Sem.run_bind, Sem.run_pure, Result.andThen_ok, List.map_toArray, List.map_cons, List.map_nil, hs, hx, hrun]
  show K (a.put o.dst v') w'
  rw [hd]
  exact h v' w' h2 (OwnK.below hown h3 hbase) h3
end Go.Proofs.Ytdchgnmkeefffaa
/- Entries, rows of entries and lanes in memory; S says which blocks they may lie in. No program is named here. -/
namespace Go.Proofs.Ytdchgnmkeefffaa
open Go.RowKit
set_option linter.unusedVariables false

/-- A slice that reads anything lies in such a block. -/
def Within (S : Nat → Prop) (A : Option Addr) (n : Nat) : Prop := 0 < n → ∀ b o, A = some ⟨b, o, none⟩ → S b
theorem Within.zero (S : Nat → Prop) (A : Option Addr) : Within S A 0 := fun h => absurd h (by omega)
theorem Within.none_ (S : Nat → Prop) (n : Nat) : Within S none n := fun _ b o h => by cases h
theorem Within.mono {S T : Nat → Prop} {A : Option Addr} {n : Nat} (h : Within S A n) (hs : ∀ b, S b → T b) : Within T A n := fun h0 b o hA => hs b (h h0 b o hA)
theorem Within.any (A : Option Addr) (n : Nat) : Within (fun _ => True) A n := fun _ _ _ _ => trivial
theorem Within.less {S : Nat → Prop} {A : Option Addr} {n m : Nat} (h : Within S A n) (hm : m ≤ n) : Within S A m := fun h0 => h (by omega)
/-- Cells of such blocks stay. -/
def KeptS (S : Nat → Prop) (w w' : World) : Prop := ∀ b o u, S b → w.cell? ⟨b, o, none⟩ = some u → w'.cell? ⟨b, o, none⟩ = some u
theorem KeptS.below {w w' : World} (S : Nat → Prop) (hb : Below w.heap.size w w') : KeptS S w w' := fun b o u _ hu => (hb.cell (World.block_lt_of_cell? w _ hu)).trans hu
theorem KeptS.grown {w w' : World} {S : Nat → Prop} {row : Option Nat} (hg : w.grownBy w' row) (hs : ∀ b, S b → row ≠ some b) : KeptS S w w' := fun b o u hS hu => by
  have hlt := World.block_lt_of_cell? w _ hu
  have := hg.block b hlt (Ne.symm (hs b hS))
  have e : w'.cell? ⟨b, o, none⟩ = w.cell? ⟨b, o, none⟩ := by simp only [World.cell?, this]
  rw [e]
  exact hu
theorem RdV.keptS {S : Nat → Prop} {w w' : World} {A : Option Addr} {n c : Nat} {l : List Value} (h : RdV w A n c l) (hS : Within S A n) (hk : KeptS S w w') : RdV w' A n c l := by
  obtain ⟨h1, h2, h3, h4, h5⟩ := h
  refine ⟨h1, h2, h3, h4, fun h0 => ?_⟩
  obtain ⟨b, o, hA, hc⟩ := h5 h0
  exact ⟨b, o, hA, fun i x hx => hk b _ _ (hS h0 b o hA) (hc i x hx)⟩
theorem Rd.keptS {S : Nat → Prop} {w w' : World} {A : Option Addr} {n c : Nat} {l : List UInt8} (h : Rd w A n c l) (hS : Within S A n) (hk : KeptS S w w') : Rd w' A n c l :=
  RdV.bytes (RdV.keptS h.v hS hk)
theorem RdK.keptS {k : Nat} {S : Nat → Prop} {w w' : World} {A : Option Addr} {n c : Nat} {rs : List (Array Value)} (h : RdK k w A n c rs) (hS : Within S A n) (hk : KeptS S w w') : RdK k w' A n c rs := by
  obtain ⟨h0, h1, h2, h3, h4, h5⟩ := h
  refine ⟨h0, h1, h2, h3, h4, fun h6 => ?_⟩
  obtain ⟨b, o, hA, hc⟩ := h5 h6
  exact ⟨b, o, hA, fun i x hx => hk b _ _ (hS h6 b o hA) (hc i x hx)⟩

/-- An entry as a value. -/
def IsEn (S : Nat → Prop) (w : World) (v : Value) (x : Lane.En) : Prop :=
  ∃ BA bn bc LA ln lc, v = .agg #[.int .i64 x.k, .int .i64 x.q, .slice BA bn bc, .slice LA ln lc, .bool x.h] ∧ Rd w BA bn bc x.b ∧ RdI w LA ln lc x.l ∧ Within S BA bn ∧ Within S LA ln
section
variable {S T : Nat → Prop} {w w' : World} {v : Value} {x : Lane.En}
theorem IsEn.keptS (h : IsEn S w v x) (hk : KeptS S w w') : IsEn S w' v x := by
  obtain ⟨BA, bn, bc, LA, ln, lc, rfl, h1, h2, h3, h4⟩ := h
  exact ⟨BA, bn, bc, LA, ln, lc, rfl, h1.keptS h3 hk, RdV.keptS h2 h4 hk, h3, h4⟩
theorem IsEn.below (h : IsEn S w v x) (hb : Below w.heap.size w w') : IsEn S w' v x := h.keptS (KeptS.below S hb)
theorem IsEn.mono (h : IsEn S w v x) (hs : ∀ b, S b → T b) : IsEn T w v x := by
  obtain ⟨BA, bn, bc, LA, ln, lc, rfl, h1, h2, h3, h4⟩ := h
  exact ⟨BA, bn, bc, LA, ln, lc, rfl, h1, h2, h3.mono hs, h4.mono hs⟩
theorem IsEn.cells (h : IsEn S w v x) : ∃ r : Array Value, v = .agg r ∧ r.size = 5 ∧ r.all (·.oneCell') = true := by
  obtain ⟨BA, bn, bc, LA, ln, lc, rfl, h1, h2, h3, h4⟩ := h
  exact ⟨_, rfl, rfl, by simp [Value.oneCell']⟩
theorem IsEn.zero (S : Nat → Prop) (w : World) : IsEn S w (.agg #[.int .i64 0, .int .i64 0, .slice none 0 0, .slice none 0 0, .bool false]) Lane.En.zero :=
  ⟨none, 0, 0, none, 0, 0, rfl, Rd.nil_ w, RdV.nil_ w, Within.zero _ _, Within.zero _ _⟩
end

/-- Structs that are entries. -/
def AreE (S : Nat → Prop) (w : World) (rs : List (Array Value)) (xs : List Lane.En) : Prop := rs.length = xs.length ∧ ∀ (i : Nat) (r : Array Value) (x : Lane.En), rs[i]? = some r → xs[i]? = some x → IsEn S w (.agg r) x
section
variable {S T : Nat → Prop} {w w' : World} {rs ss : List (Array Value)} {xs ys : List Lane.En}
theorem AreE.keptS (h : AreE S w rs xs) (hk : KeptS S w w') : AreE S w' rs xs := ⟨h.1, fun i r x h1 h2 => (h.2 i r x h1 h2).keptS hk⟩
theorem AreE.below (h : AreE S w rs xs) (hb : Below w.heap.size w w') : AreE S w' rs xs := h.keptS (KeptS.below S hb)
theorem AreE.mono (h : AreE S w rs xs) (hs : ∀ b, S b → T b) : AreE T w rs xs := ⟨h.1, fun i r x h1 h2 => (h.2 i r x h1 h2).mono hs⟩
theorem AreE.nil_ (S : Nat → Prop) (w : World) : AreE S w [] [] := ⟨rfl, fun i t x h => by simp at h⟩
theorem AreE.take (h : AreE S w rs xs) (k : Nat) : AreE S w (rs.take k) (xs.take k) := by
  refine ⟨by simp [h.1], fun i t x h1 h2 => ?_⟩
  rw [List.getElem?_take] at h1 h2
  split at h1
  · rename_i hi
    rw [if_pos hi] at h2
    exact h.2 i t x h1 h2
  · cases h1
theorem AreE.drop (h : AreE S w rs xs) (k : Nat) : AreE S w (rs.drop k) (xs.drop k) := by
  refine ⟨by simp [h.1], fun i t x h1 h2 => ?_⟩
  rw [List.getElem?_drop] at h1 h2
  exact h.2 _ t x h1 h2
theorem AreE.app (h : AreE S w rs xs) (h2 : AreE S w ss ys) : AreE S w (rs ++ ss) (xs ++ ys) := by
  refine ⟨by simp [h.1, h2.1], fun i t x h3 h4 => ?_⟩
  by_cases hi : i < rs.length
  · rw [List.getElem?_append_left hi] at h3
    rw [List.getElem?_append_left (by rw [← h.1]; exact hi)] at h4
    exact h.2 i t x h3 h4
  · rw [List.getElem?_append_right (by omega)] at h3
    rw [List.getElem?_append_right (by rw [← h.1]; omega), ← h.1] at h4
    exact h2.2 _ t x h3 h4
theorem AreE.one {r : Array Value} {x : Lane.En} (h : IsEn S w (.agg r) x) : AreE S w [r] [x] := by
  refine ⟨rfl, fun i t' x' h1 h2 => ?_⟩
  cases i with
  | zero =>
    simp only [List.getElem?_cons_zero, Option.some.injEq] at h1 h2
    subst h1; subst h2
    exact h
  | succ i => simp at h1
end
/-- A slice of entries. -/
def RdE (S : Nat → Prop) (w : World) (A : Option Addr) (n c : Nat) (xs : List Lane.En) : Prop := ∃ rs, RdK 5 w A n c rs ∧ AreE S w rs xs ∧ Within S A n
section
variable {S T : Nat → Prop} {w w' : World} {A : Option Addr} {n c : Nat} {xs : List Lane.En}
theorem RdE.keptS (h : RdE S w A n c xs) (hk : KeptS S w w') : RdE S w' A n c xs := by
  obtain ⟨rs, h1, h2, h3⟩ := h
  exact ⟨rs, h1.keptS h3 hk, h2.keptS hk, h3⟩
theorem RdE.below (h : RdE S w A n c xs) (hb : Below w.heap.size w w') : RdE S w' A n c xs := h.keptS (KeptS.below S hb)
theorem RdE.mono (h : RdE S w A n c xs) (hs : ∀ b, S b → T b) : RdE T w A n c xs := by
  obtain ⟨rs, h1, h2, h3⟩ := h
  exact ⟨rs, h1, h2.mono hs, h3.mono hs⟩
theorem RdE.size (h : RdE S w A n c xs) : xs.length = n := by
  obtain ⟨rs, h1, h2, _⟩ := h
  rw [← h2.1]; exact h1.size
theorem RdE.cap (h : RdE S w A n c xs) : n ≤ c := by
  obtain ⟨rs, h1, _⟩ := h
  exact h1.cap
theorem RdE.cmax (h : RdE S w A n c xs) : c ≤ 9223372036854775807 := by
  obtain ⟨rs, h1, _⟩ := h
  exact h1.cmax
theorem RdE.le (h : RdE S w A n c xs) : n ≤ 9223372036854775807 := by have := h.cap; have := h.cmax; omega
theorem RdE.nil_ (S : Nat → Prop) (w : World) : RdE S w none 0 0 [] := ⟨[], RdK.nil_ 5 w, AreE.nil_ S w, Within.zero _ _⟩
theorem RdE.empty (S : Nat → Prop) (w : World) (A : Option Addr) : RdE S w A 0 0 [] := ⟨[], RdK.empty 5 w A, AreE.nil_ S w, Within.zero _ _⟩
theorem RdE.nilA (h : RdE S w none n c xs) : n = 0 ∧ c = 0 ∧ xs = [] := by
  have hs := h.size
  obtain ⟨rs, h1, h2, _⟩ := h
  obtain ⟨rfl, rfl, rfl⟩ := h1.nilA
  exact ⟨rfl, rfl, List.eq_nil_of_length_eq_zero hs⟩
theorem RdE.addr (h : RdE S w A n c xs) (h0 : 0 < n) : ∃ b o, A = some ⟨b, o, none⟩ := by
  obtain ⟨rs, h1, _⟩ := h
  exact h1.addr h0
theorem RdE.take (h : RdE S w A n c xs) {k : Nat} (hk : k ≤ n) : RdE S w A k c (xs.take k) := by
  obtain ⟨rs, h1, h2, h3⟩ := h
  exact ⟨_, h1.take hk, h2.take k, h3.less hk⟩
theorem RdE.takeC (h : RdE S w A n c xs) {k d : Nat} (hk : k ≤ n) (hd : k ≤ d) (hdc : d ≤ c) : RdE S w A k d (xs.take k) := by
  obtain ⟨rs, h1, h2, h3⟩ := h
  exact ⟨_, h1.takeC hk hd hdc, h2.take k, h3.less hk⟩
theorem RdE.drop {b o : Nat} (h : RdE S w (some ⟨b, o, none⟩) n c xs) {k : Nat} (hk : k ≤ n) : RdE S w (some ⟨b, o + k * 5, none⟩) (n - k) (c - k) (xs.drop k) := by
  obtain ⟨rs, h1, h2, h3⟩ := h
  refine ⟨_, h1.drop hk, h2.drop k, fun h0 b' o' hA => ?_⟩
  injection hA with hA
  injection hA with e1 e2
  subst e1
  exact h3 (by omega) b o rfl
/-- One of its entries: its cells are letters. -/
theorem RdE.at_ (h : RdE S w A n c xs) {i : Nat} (hi : i < n) :
    ∃ b o r x, A = some ⟨b, o, none⟩ ∧ xs[i]? = some x ∧ r.size = 5 ∧ r.all (·.oneCell') = true ∧ IsEn S w (.agg r) x ∧ ∀ j u, r[j]? = some u → w.cell? ⟨b, o + i * 5 + j, none⟩ = some u := by
  have hs := h.size
  obtain ⟨rs, h1, h2, _⟩ := h
  obtain ⟨b, o, r, hA, hr, hsz, hc⟩ := h1.at_ hi
  have hx := List.getElem?_eq_getElem (show i < xs.length by omega)
  exact ⟨b, o, r, _, hA, hx, hsz, (h1.all.at_ hr).2, h2.2 i r _ hr hx, hc⟩
/-- The same, its cells told one by one, in every later world. -/
theorem RdE.told (h : RdE S w A n c xs) {i : Nat} (hi : i < n) :
    ∃ b o x BA bn bc LA ln lc, A = some ⟨b, o, none⟩ ∧ xs[i]? = some x ∧ Rd w BA bn bc x.b ∧ RdI w LA ln lc x.l ∧ Within S BA bn ∧ Within S LA ln ∧
      ∀ w', Below w.heap.size w w' → w'.cell? ⟨b, o + i * 5, none⟩ = some (.int .i64 x.k) ∧ w'.cell? ⟨b, o + i * 5 + 1, none⟩ = some (.int .i64 x.q) ∧ w'.cell? ⟨b, o + i * 5 + 2, none⟩ = some (.slice BA bn bc) ∧
        w'.cell? ⟨b, o + i * 5 + 3, none⟩ = some (.slice LA ln lc) ∧ w'.cell? ⟨b, o + i * 5 + 4, none⟩ = some (.bool x.h) := by
  obtain ⟨b, o, r, x, hA, hx, hsz, _, hi2, hc⟩ := h.at_ hi
  obtain ⟨BA, bn, bc, LA, ln, lc, hv, h1, h2, h3, h4⟩ := hi2
  injection hv with hv
  subst hv
  refine ⟨b, o, x, BA, bn, bc, LA, ln, lc, hA, hx, h1, h2, h3, h4, fun w' hb => ?_⟩
  have kk : ∀ j u, (#[Value.int .i64 x.k, .int .i64 x.q, .slice BA bn bc, .slice LA ln lc, .bool x.h] : Array Value)[j]? = some u → w'.cell? ⟨b, o + i * 5 + j, none⟩ = some u := fun j u hu => (hb.cell (World.block_lt_of_cell? w _ (hc j u hu))).trans (hc j u hu)
  exact ⟨kk 0 _ rfl, kk 1 _ rfl, kk 2 _ rfl, kk 3 _ rfl, kk 4 _ rfl⟩
end
/-- A row of entries that was just laid, or grown: the call's own. -/
def OwnE (S : Nat → Prop) (w : World) (base : Nat) (t : TypeId) (v : Value) (n : Nat) (xs : List Lane.En) : Prop := ∃ rs, OwnK 5 w base t v n rs ∧ AreE S w rs xs
theorem OwnE.size {S : Nat → Prop} {w : World} {base n : Nat} {t : TypeId} {v : Value} {xs : List Lane.En} (h : OwnE S w base t v n xs) : xs.length = n := by
  obtain ⟨rs, h1, h2⟩ := h
  rw [← h2.1]; exact h1.2.1
theorem OwnE.rd {S : Nat → Prop} {w : World} {base n : Nat} {t : TypeId} {v : Value} {xs : List Lane.En} (h : OwnE S w base t v n xs) (hS : ∀ b, base ≤ b → S b) : ∃ A c, v = .slice A n c ∧ RdE S w A n c xs := by
  obtain ⟨rs, h1, h2⟩ := h
  obtain ⟨A, c, rfl, hr⟩ := h1.rd
  refine ⟨A, c, rfl, rs, hr, h2, fun h0 b o hA => ?_⟩
  rcases h1.2.2.2 with ⟨he, _⟩ | ⟨g, cap, cur, he, hb, _⟩
  · injection he with e1
    rw [e1] at hA
    cases hA
  · injection he with e1
    rw [e1] at hA
    injection hA with hA
    injection hA with e2
    subst e2
    exact hS _ hb

/-- A lane as a value. -/
def IsLane (S : Nat → Prop) (w : World) (v : Value) (l : Lane.Ln) : Prop :=
  ∃ A n c B m d, v = .agg #[.slice A n c, .int .i64 l.p.seq, .int .i64 l.p.total, .int .i64 l.p.got, .slice B m d] ∧ RdE S w A n c l.es ∧ Rd w B m d l.p.b ∧ Within S B m
section
variable {S T : Nat → Prop} {w w' : World} {v : Value} {l : Lane.Ln}
theorem IsLane.keptS (h : IsLane S w v l) (hk : KeptS S w w') : IsLane S w' v l := by
  obtain ⟨A, n, c, B, m, d, rfl, h1, h2, h3⟩ := h
  exact ⟨A, n, c, B, m, d, rfl, h1.keptS hk, h2.keptS h3 hk, h3⟩
theorem IsLane.below (h : IsLane S w v l) (hb : Below w.heap.size w w') : IsLane S w' v l := h.keptS (KeptS.below S hb)
theorem IsLane.mono (h : IsLane S w v l) (hs : ∀ b, S b → T b) : IsLane T w v l := by
  obtain ⟨A, n, c, B, m, d, rfl, h1, h2, h3⟩ := h
  exact ⟨A, n, c, B, m, d, rfl, h1.mono hs, h2, h3.mono hs⟩
theorem IsLane.zero (S : Nat → Prop) (w : World) : IsLane S w (.agg #[.slice none 0 0, .int .i64 0, .int .i64 0, .int .i64 0, .slice none 0 0]) Lane.Ln.zero :=
  ⟨none, 0, 0, none, 0, 0, rfl, RdE.nil_ S w, Rd.nil_ w, Within.zero _ _⟩
theorem IsLane.cells (h : IsLane S w v l) : ∃ r : Array Value, v = .agg r ∧ r.size = 5 ∧ r.all (·.oneCell') = true := by
  obtain ⟨A, n, c, B, m, d, rfl, h1, h2, h3⟩ := h
  exact ⟨_, rfl, rfl, by simp [Value.oneCell']⟩
end
end Go.Proofs.Ytdchgnmkeefffaa
/- What the texts of this stage share: rows of structs that are written, clones and comparisons of rows. -/
namespace Go.Proofs.Ytdchgnmkeefffaa
open Go.RowKit
set_option linter.unusedVariables false

def BoolIs (w : World) (b : Bool) (e : Ending) (w' : World) : Prop := e = .returned (.bool b) ∧ Below w.heap.size w w'
/-- A bool, and nothing turned or made. -/
def JustIs (w : World) (b : Bool) (e : Ending) (w' : World) : Prop := e = .returned (.bool b) ∧ w = w'
theorem BoolIs.of {w w' : World} {a b : Bool} (hb : Below w.heap.size w w') (h : b = a) : BoolIs w a (.returned (.bool b)) w' := by subst h; exact ⟨rfl, hb⟩
/-- The call says so, and leaves all as it was. -/
def JustN (w : World) (k : Int) (e : Ending) (w' : World) : Prop := e = .returned (.int .i64 k) ∧ w' = w
def JustB (w : World) (t : Bool) (e : Ending) (w' : World) : Prop := e = .returned (.bool t) ∧ w' = w
/-- The call says so, and turns nothing that was. -/
def Says (w : World) (t : Bool) (e : Ending) (w' : World) : Prop := e = .returned (.bool t) ∧ Below w.heap.size w w'
theorem cells4 {w : World} {g : Nat} {a0 a1 a2 a3 : Value} {t : TypeId} (h : w.heap[g]? = some (.cells #[a0, a1, a2, a3] t (0, 0))) : w.cell? ⟨g, 0, none⟩ = some a0 ∧ w.cell? ⟨g, 1, none⟩ = some a1 ∧ w.cell? ⟨g, 2, none⟩ = some a2 ∧ w.cell? ⟨g, 3, none⟩ = some a3 :=
  ⟨cell_at h 0 rfl, cell_at h 1 rfl, cell_at h 2 rfl, cell_at h 3 rfl⟩
/-- An item, as the machine holds it. -/
def IsItem (w : World) (v : Value) (x : Item.It) : Prop :=
  ∃ LA ln lc BA bn bc, v = .agg #[.int .i64 x.k, .int .i64 x.q, .int .i64 x.e, .int .i64 x.i, .int .i64 x.t, .int .i64 x.c, .slice LA ln lc, .slice BA bn bc] ∧ RdI w LA ln lc x.l ∧ Rd w BA bn bc x.b
theorem IsItem.below {w w' : World} {v : Value} {x : Item.It} (h : IsItem w v x) (hb : Below w.heap.size w w') : IsItem w' v x := by
  obtain ⟨LA, ln, lc, BA, bn, bc, rfl, h1, h2⟩ := h
  exact ⟨LA, ln, lc, BA, bn, bc, rfl, RdV.below h1 hb, h2.below hb⟩
theorem ask_at {x : Item.It} {j : Int} (h : x.k = j) : Item.ask x = if j = 1 then Item.ask1 x else if j = 2 then Item.askN x 1 0 1 64 63 else if j = 3 then Item.askN x 0 0 0 0 0 else if j = 4 then Item.askN x 1 0 0 0 0
  else if j = 5 then Item.askN x 0 4611686018427387904 0 0 0 else if j = 6 then Item.askN x 0 0 2 64 4611686018427387904 else false := by
  subst h; rfl
theorem ask_none {x : Item.It} (k1 : x.k ≠ 1) (k2 : x.k ≠ 2) (k3 : x.k ≠ 3) (k4 : x.k ≠ 4) (k5 : x.k ≠ 5) (k6 : x.k ≠ 6) : Item.ask x = false := by
  simp [Item.ask, k1, k2, k3, k4, k5, k6]
theorem info3 : (Try.prog.info? 3).map (fun i => (i.zero, i.size, i.bytes)) = some (some (.int .i64 0), 1, 8) := by kernel_rfl
theorem cloneI_any (A : Option Addr) (n c : Nat) (l : List Int) (w : World) (h : RdI w A n c l) (hn : n ≤ 65536) :
    Calls Try.prog 45 #[.slice A n c] w (fun e w' => ∃ B d, e = .returned (.slice B n d) ∧ OwnV w' w.heap.size 3 (.slice B n d) n (is l) ∧ Below w.heap.size w w') := by
  have hq := fun w => Lib.run_eql_slice_nil (P := Try.prog) w 32 3 A n c 0 0 Try.underlying32
  cases A with
  | none =>
    obtain ⟨rfl, rfl, hl⟩ := h.nilA
    go_enter Try.func45, Try.ntmps45
    go_wp2
    go_ret
    rw [hl]
    exact ⟨none, 0, rfl, World.ownsRow_nil _ _ _ _, Below.refl _ _⟩
  | some ad =>
    go_enter Try.func45, Try.ntmps45
    go_wp2_with (
      at_builtin
      refine wpList_appV rfl (.tmp 5) (.tmp 6) 32 rfl w.heap.size 3 (.int .i64 0) 8 info3 rfl (by omega) Try.underlying32 (.slice (some ⟨w.heap.size, 0, none⟩) 0 0) 0 [] rfl ?own (some ad) n c (is l) rfl ?rd (is_one _) ?h63 ?hb ?_
      case own => exact World.ownsRow_made (base := w.heap.size) (e := 3) (size := 1) w #[] 0 (Nat.le_refl _) (Nat.zero_le _) rfl
      case rd => exact h.alloc _
      case h63 => omega
      case hb => simp
      intro v1 w1 hown hb hg)
    go_ret
    rw [Nat.zero_add, List.nil_append] at hown
    obtain ⟨B, d, rfl, _⟩ := OwnV.rd hown
    exact ⟨B, d, rfl, hown, ((Below.refl _ _).alloc (Nat.le_refl _) _).trans hb⟩
theorem RdV.grown {w w' : World} {A : Option Addr} {n c : Nat} {l : List Value} {row : Option Nat} (h : RdV w A n c l) (hg : w.grownBy w' row) (hr : ∀ b o, A = some ⟨b, o, none⟩ → row ≠ some b) : RdV w' A n c l := by
  obtain ⟨h1, h2, h3, h4, h5⟩ := h
  refine ⟨h1, h2, h3, h4, fun h0 => ?_⟩
  obtain ⟨b, o, hA, hc⟩ := h5 h0
  exact ⟨b, o, hA, fun i x hx => hg.cell (hc i x hx) (fun e => hr b o hA e.symm)⟩
theorem flat_set {k : Nat} {us : List (Array Value)} {r : Array Value} (h : AllK k us) {j : Nat} (hj : j < us.length) : flat (us.set j r) = (flat us).take (j * k) ++ r.toList ++ (flat us).drop (j * k + k) := by
  rw [List.set_eq_take_append_cons_drop, if_pos hj, flat_append, flat_cons, flat_take h, flat_drop h, Nat.succ_mul, List.append_assoc]
theorem AllK.set {k : Nat} {us : List (Array Value)} {r : Array Value} (h : AllK k us) (j : Nat) (h1 : r.size = k) (h2 : r.all (·.oneCell') = true) : AllK k (us.set j r) := fun q hq => by
  rcases List.mem_or_eq_of_mem_set hq with hq | rfl
  · exact h q hq
  · exact ⟨h1, h2⟩
theorem run_storeCells_off {P : Program} (g off : Nat) (t : TypeId) : ∀ (vs : List Value) (i : Nat) (cur : Array Value) (w : World), w.heap[g]? = some (.cells cur t (0, 0)) → off + i + vs.length ≤ cur.size → (∀ v ∈ vs, v.oneCell' = true) →
    (storeCells ⟨g, off, none⟩ vs i).run P w = .ok () (w.setRow g (cur.toList.take (off + i) ++ vs ++ cur.toList.drop (off + i + vs.length)).toArray)
  | [], i, cur, w, hg, hl, _ => by
    have hlt : g < w.heap.size := (Array.getElem?_eq_some_iff.1 hg).1
    have hv : w.heap[g] = .cells cur t (0, 0) := (Array.getElem?_eq_some_iff.1 hg).2
    simp only [storeCells, List.append_nil, List.length_nil, Nat.add_zero, List.take_append_drop, Array.toArray_toList]
    show Result.ok () w = _
    congr 1
    unfold World.setRow
    cases w with
    | mk heap tape drawn os output =>
      congr 1
      apply Array.ext
      · simp
      · intro k h1 h2
        simp only [Array.getElem_modify]
        split
        · rename_i hk; subst hk; simp at hv; simp [hv]
        · rfl
  | v :: rest, i, cur, w, hg, hl, h1 => by
    have hi : off + i < cur.size := by simp at hl; omega
    have hcell : w.cell? ⟨g, off + i, none⟩ = some cur[off + i] := by simp [World.cell?, hg, hi]
    have hfro : w.frozen? ⟨g, off + i, none⟩ = false := by simp [World.frozen?, hg]
    have hst : (store ((⟨g, off, none⟩ : Addr).add i) v).run P w = .ok () (w.setRow g (cur.setIfInBounds (off + i) v)) := by
      rw [add_eq, run_store P w _ v _ (h1 v (by simp)), hcell]
      simp [hfro, setCell_eq_setRow w g (off + i) cur t (0, 0) v hg]
    have ih := run_storeCells_off (P := P) g off t rest (i + 1) (cur.setIfInBounds (off + i) v) (w.setRow g (cur.setIfInBounds (off + i) v)) (setRow_heap w g cur _ t _ hg) (by simp at hl ⊢; omega) (fun x hx => h1 x (by simp [hx]))
    simp only [storeCells, Sem.run_bind, hst, Result.andThen_ok, ih, setRow_setRow]
    congr 3
    simp only [Array.toList_setIfInBounds]
    have hg1 : (cur.toList.set (off + i) v)[off + i]? = some v := by rw [List.getElem?_set_self (by simpa using hi)]
    rw [show off + (i + 1) = off + i + 1 from by omega, List.take_add_one, List.take_set_of_le (Nat.le_refl _), hg1, List.drop_set_of_lt (by omega), List.length_cons, show off + i + (rest.length + 1) = off + i + 1 + rest.length from by omega]
    simp
theorem take3 (X R Y : List Value) (N : Nat) (h : X.length + R.length ≤ N) : (X ++ R ++ Y).take N = X ++ R ++ Y.take (N - (X.length + R.length)) := by
  rw [List.take_append, List.take_of_length_le (by rw [List.length_append]; exact h), List.length_append]
/-- A struct of a row of the call's own is put anew. -/
theorem OwnK.setAt {P : Program} {k : Nat} {w : World} {base g n cap : Nat} {e : TypeId} {us : List (Array Value)} (h : OwnK k w base e (.slice (some ⟨g, 0, none⟩) n cap) n us) {j : Nat} (hj : j < n) (r : Array Value) (h1 : r.size = k) (h2 : r.all (·.oneCell') = true) :
    ∃ w', (storeCells ⟨g, j * k, none⟩ r.toList).run P w = .ok () w' ∧ OwnK k w' base e (.slice (some ⟨g, 0, none⟩) n cap) n (us.set j r) ∧ But g w w' ∧ (∀ base' w0, Below base' w0 w → base' ≤ g → Below base' w0 w') := by
  obtain ⟨ha, hl, hlen, ho⟩ := h
  rcases ho with ⟨h0, _⟩ | ⟨g', cap', cur, hv, hb, hh, hn, hm, hs, ht⟩
  · cases h0
  injection hv with hv1 hv2 hv3
  injection hv1 with hv1
  injection hv1 with hv1
  subst hv1
  subst hv3
  have hnk : n * k ≤ cap * k := Nat.mul_le_mul_right k hn
  have hjk : j * k + k ≤ n * k := by rw [← Nat.succ_mul]; exact Nat.mul_le_mul_right k hj
  have hcl : cur.toList.length = cap * k := by rw [Array.length_toList]; exact hs
  have hrl : r.toList.length = k := by rw [Array.length_toList]; exact h1
  have hrun := run_storeCells_off (P := P) g (j * k) e r.toList 0 cur w hh (by rw [hrl, hs]; omega) (fun v hv => (Array.all_eq_true_iff_forall_mem.1 h2) v (by simpa using hv))
  rw [Nat.add_zero, hrl] at hrun
  refine ⟨_, hrun, ⟨ha.set j h1 h2, by rw [List.length_set]; exact hl, by rw [flat_length (ha.set j h1 h2), List.length_set, hl], .inr ⟨g, cap, _, rfl, hb, row_setRow w g _ cur e (0, 0) hh, hn, hm, ?_, ?_⟩⟩, But.setRow w g _, fun base' w0 hb' hbg => below_setRow hb' hbg _⟩
  · rw [List.size_toArray, List.length_append, List.length_append, List.length_take, List.length_drop, hrl, hcl]
    omega
  · rw [flat_set ha (by omega), ← ht, List.take_take, Nat.min_eq_left (by omega), List.drop_take, take3 _ _ _ _ (by rw [List.length_take, hcl, hrl]; omega), List.length_take, hcl, hrl, Nat.min_eq_left (by omega)]
theorem OwnK.but {k : Nat} {w w' : World} {base n g : Nat} {e : TypeId} {v : Value} {us : List (Array Value)} (h : OwnK k w base e v n us) (hg : g < base) (hb : But g w w') : OwnK k w' base e v n us := by
  obtain ⟨h0, hl, h⟩ := h
  refine ⟨h0, hl, h.1, ?_⟩
  rcases h.2 with h2 | ⟨q, cap, cur, hv, hq, hh, r⟩
  · exact .inl h2
  · exact .inr ⟨q, cap, cur, hv, hq, (hb.2 q (by omega)).trans hh, r⟩
theorem OwnK.form {k : Nat} {w : World} {base n c : Nat} {e : TypeId} {A : Option Addr} {us : List (Array Value)} (h : OwnK k w base e (.slice A n c) n us) (h0 : 0 < n) : ∃ g, A = some ⟨g, 0, none⟩ ∧ base ≤ g ∧ g < w.heap.size := by
  have hlt := World.ownsRow.lt h.2.2
  rcases h.2.2.2 with ⟨_, h2⟩ | ⟨g, cap, cur, hv, hb, hh, _⟩
  · omega
  · injection hv with hv
    subst hv
    exact ⟨g, rfl, hb, blk_lt hh⟩
theorem OwnK.addr {k : Nat} {w : World} {base n c : Nat} {e : TypeId} {A : Option Addr} {us : List (Array Value)} (h : OwnK k w base e (.slice A n c) n us) : ∀ b o, A = some ⟨b, o, none⟩ → base ≤ b ∧ b < w.heap.size := fun b o hA => World.ownsRow.lt h.2.2 b (by rw [hA]; rfl)
theorem OwnK.same {k : Nat} {w : World} {base n c : Nat} {e : TypeId} {A : Option Addr} {us : List (Array Value)} (h : OwnK k w base e (.slice A n c) n us) : RdK k w A n c us := by
  obtain ⟨A', c', e, hr⟩ := OwnK.rd h
  injection e with e1 e2 e3
  subst e1; subst e3
  exact hr
theorem OwnK.rowlt {k : Nat} {w : World} {base n c lo : Nat} {e : TypeId} {A : Option Addr} {us : List (Array Value)} (h : OwnK k w base e (.slice A n c) n us) (hl : ∀ b o, A = some ⟨b, o, none⟩ → b < lo) : ∀ b, (Value.slice A n c).ownBlock = some b → b < lo := by
  intro b hb
  rcases h.2.2.2 with ⟨h2, _⟩ | ⟨g, cap, cur, hv, _⟩
  · injection h2 with h2
    subst h2
    simp [Value.ownBlock] at hb
  · injection hv with hv
    subst hv
    simp [Value.ownBlock] at hb
    subst hb
    exact hl g 0 rfl
theorem st8 {w : World} {g : Nat} {old : Array Value} {t : TypeId} (h : w.heap[g]? = some (.cells old t (0, 0))) (cells : Array Value) (hs : old.size = cells.size) (h1 : cells.all (·.oneCell') = true) :
    ∃ (w' : World), (storeCells ⟨g, 0, none⟩ cells.toList).run Try.prog w = .ok () w' ∧ Hid (w'.heap[g]? = some (.cells cells t (0, 0))) ∧ Hid (But g w w') ∧ Hid (∀ base w0, Below base w0 w → base ≤ g → Below base w0 w') := by
  have hrun := run_storeCells_off (P := Try.prog) g 0 t cells.toList 0 old w h (by simp [hs]) (fun v hv => (Array.all_eq_true_iff_forall_mem.1 h1) v (by simpa using hv))
  have e : (old.toList.take (0 + 0) ++ cells.toList ++ old.toList.drop (0 + 0 + cells.toList.length)).toArray = cells := by
    rw [List.drop_of_length_le (by simp [hs])]
    simp
  rw [e] at hrun
  exact ⟨w.setRow g cells, hrun, row_setRow w g cells old t (0, 0) h, But.setRow w g cells, fun base w0 hb hbg => below_setRow hb hbg cells⟩
theorem bytesEqual_is (A : Option Addr) (n c : Nat) (a : List UInt8) (B : Option Addr) (m d : Nat) (b : List UInt8) (w : World) (ha : Rd w A n c a) (hb : Rd w B m d b) (t : Bool) (ht : decide (a = b) = t) :
    Calls Try.prog 65 #[.slice A n c, .slice B m d] w (JustB w t) := by
  have s1 := strs ha w (Below.refl _ _)
  have s2 := strs hb w (Below.refl _ _)
  have q := str_beq a b
  rw [ht] at q
  clear ha hb ht
  cases t
  all_goals
    go_enter Try.func65, Try.ntmps65
    go_wp2
    go_ret
    exact ⟨rfl, rfl⟩
theorem allIn_succ {l : List Int} {top x : Int} {j : Nat} (hx : l[j]? = some x) (h : Item.allIn (l.take j) top = true) (hw : Item.win x 0 top = true) : Item.allIn (l.take (j + 1)) top = true := by
  unfold Item.allIn at *
  rw [List.take_add_one, List.all_append, h, hx]
  simpa using hw
theorem allIn_not {l : List Int} {top x : Int} {j : Nat} (hx : l[j]? = some x) (hw : Item.win x 0 top = false) : Item.allIn l top = false := by
  unfold Item.allIn
  rw [List.all_eq_false]
  exact ⟨x, List.mem_of_getElem? hx, by simp [hw]⟩
end Go.Proofs.Ytdchgnmkeefffaa
