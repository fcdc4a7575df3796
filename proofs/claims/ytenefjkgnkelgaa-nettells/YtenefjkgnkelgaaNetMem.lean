/- Letters, and rows of them in memory: structs of three cells. No program is named here. -/
import Derived.Test.YtenefjkgnkelgaaBA
import Derived.Laws.Tables
import Derived.Laws.CopyOwn
import Derived.OwnWalk
set_option maxRecDepth 100000
namespace Go.Proofs.Ytenefjkgnkelgaa
open Go.RowKit
set_option linter.unusedVariables false

/-- A letter. -/
structure Lt where
  to : Int
  b : List UInt8
  sp : Bool
  deriving DecidableEq
/-- A letter's cells. -/
structure Tri where
  to : Int
  A : Option Addr
  n : Nat
  c : Nat
  sp : Bool
def Tri.cells (t : Tri) : List Value := [.int .i64 t.to, .slice t.A t.n t.c, .bool t.sp]
def Tri.val (t : Tri) : Value := .agg #[.int .i64 t.to, .slice t.A t.n t.c, .bool t.sp]
def raw : List Tri → List Value
  | [] => []
  | t :: ts => .int .i64 t.to :: .slice t.A t.n t.c :: .bool t.sp :: raw ts
theorem raw_length (ts : List Tri) : (raw ts).length = ts.length * 3 := by
  induction ts with
  | nil => rfl
  | cons t ts ih => simp only [raw, List.length_cons, ih]; omega
theorem raw_append (ts us : List Tri) : raw (ts ++ us) = raw ts ++ raw us := by
  induction ts with
  | nil => rfl
  | cons t ts ih => simp [raw, ih]
theorem raw_take (ts : List Tri) (k : Nat) : raw (ts.take k) = (raw ts).take (k * 3) := by
  induction ts generalizing k with
  | nil => simp [raw]
  | cons t ts ih =>
    cases k with
    | zero => rfl
    | succ k => simp [raw, ih, show (k + 1) * 3 = k * 3 + 1 + 1 + 1 from by omega]
theorem raw_drop (ts : List Tri) (k : Nat) : raw (ts.drop k) = (raw ts).drop (k * 3) := by
  induction ts generalizing k with
  | nil => simp [raw]
  | cons t ts ih =>
    cases k with
    | zero => rfl
    | succ k => simp [raw, ih, show (k + 1) * 3 = k * 3 + 1 + 1 + 1 from by omega]
theorem raw_one (ts : List Tri) : ∀ u ∈ raw ts, u.oneCell' = true := by
  induction ts with
  | nil => intro u hu; cases hu
  | cons t ts ih =>
    intro u hu
    simp only [raw, List.mem_cons] at hu
    rcases hu with rfl | rfl | rfl | hu
    · rfl
    · rfl
    · rfl
    · exact ih u hu
theorem raw_at {ts : List Tri} {i : Nat} {t : Tri} (h : ts[i]? = some t) : (raw ts)[i * 3]? = some (.int .i64 t.to) ∧ (raw ts)[i * 3 + 1]? = some (.slice t.A t.n t.c) ∧ (raw ts)[i * 3 + 2]? = some (.bool t.sp) := by
  induction ts generalizing i with
  | nil => simp at h
  | cons u ts ih =>
    cases i with
    | zero =>
      simp only [List.getElem?_cons_zero, Option.some.injEq] at h
      subst h
      exact ⟨rfl, rfl, rfl⟩
    | succ i =>
      simp only [List.getElem?_cons_succ] at h
      obtain ⟨h1, h2, h3⟩ := ih h
      have e : (i + 1) * 3 = i * 3 + 1 + 1 + 1 := by omega
      rw [e]
      exact ⟨h1, h2, h3⟩
theorem raw_setB {ts : List Tri} {i : Nat} {t : Tri} (h : ts[i]? = some t) (A : Option Addr) (n c : Nat) : raw (ts.set i ⟨t.to, A, n, c, t.sp⟩) = (raw ts).set (i * 3 + 1) (.slice A n c) := by
  induction ts generalizing i with
  | nil => simp at h
  | cons u ts ih =>
    cases i with
    | zero =>
      simp only [List.getElem?_cons_zero, Option.some.injEq] at h
      subst h
      rfl
    | succ i =>
      simp only [List.getElem?_cons_succ] at h
      have e : (i + 1) * 3 + 1 = (i * 3 + 1) + 1 + 1 + 1 := by omega
      rw [e]
      simp only [List.set_cons_succ, raw]
      rw [ih h]
theorem raw_setS {ts : List Tri} {i : Nat} {t : Tri} (h : ts[i]? = some t) (s : Bool) : raw (ts.set i ⟨t.to, t.A, t.n, t.c, s⟩) = (raw ts).set (i * 3 + 2) (.bool s) := by
  induction ts generalizing i with
  | nil => simp at h
  | cons u ts ih =>
    cases i with
    | zero =>
      simp only [List.getElem?_cons_zero, Option.some.injEq] at h
      subst h
      rfl
    | succ i =>
      simp only [List.getElem?_cons_succ] at h
      have e : (i + 1) * 3 + 2 = (i * 3 + 2) + 1 + 1 + 1 := by omega
      rw [e]
      simp only [List.set_cons_succ, raw]
      rw [ih h]

/-- Cells that are a letter's. -/
def IsL (w : World) (t : Tri) (x : Lt) : Prop := t.to = x.to ∧ t.sp = x.sp ∧ Rd w t.A t.n t.c x.b
theorem IsL.below {w w' : World} {t : Tri} {x : Lt} (h : IsL w t x) (hb : Below w.heap.size w w') : IsL w' t x := ⟨h.1, h.2.1, h.2.2.below hb⟩
def AreL (w : World) (ts : List Tri) (ls : List Lt) : Prop := ts.length = ls.length ∧ ∀ (i : Nat) (t : Tri) (x : Lt), ts[i]? = some t → ls[i]? = some x → IsL w t x
section
variable {w w' : World} {ts us : List Tri} {ls ms : List Lt}
theorem AreL.below (h : AreL w ts ls) (hb : Below w.heap.size w w') : AreL w' ts ls := ⟨h.1, fun i t x h1 h2 => (h.2 i t x h1 h2).below hb⟩
theorem AreL.nil_ (w : World) : AreL w [] [] := ⟨rfl, fun i t x h => by simp at h⟩
theorem AreL.take (h : AreL w ts ls) (k : Nat) : AreL w (ts.take k) (ls.take k) := by
  refine ⟨by simp [h.1], fun i t x h1 h2 => ?_⟩
  rw [List.getElem?_take] at h1 h2
  split at h1
  · rename_i hi
    rw [if_pos hi] at h2
    exact h.2 i t x h1 h2
  · cases h1
theorem AreL.drop (h : AreL w ts ls) (k : Nat) : AreL w (ts.drop k) (ls.drop k) := by
  refine ⟨by simp [h.1], fun i t x h1 h2 => ?_⟩
  rw [List.getElem?_drop] at h1 h2
  exact h.2 _ t x h1 h2
theorem AreL.app (h : AreL w ts ls) (h2 : AreL w us ms) : AreL w (ts ++ us) (ls ++ ms) := by
  refine ⟨by simp [h.1, h2.1], fun i t x h3 h4 => ?_⟩
  by_cases hi : i < ts.length
  · rw [List.getElem?_append_left hi] at h3
    rw [List.getElem?_append_left (by rw [← h.1]; exact hi)] at h4
    exact h.2 i t x h3 h4
  · rw [List.getElem?_append_right (by omega)] at h3
    rw [List.getElem?_append_right (by rw [← h.1]; omega), ← h.1] at h4
    exact h2.2 _ t x h3 h4
theorem AreL.one {t : Tri} {x : Lt} (h : IsL w t x) : AreL w [t] [x] := by
  refine ⟨rfl, fun i t' x' h1 h2 => ?_⟩
  cases i with
  | zero =>
    simp only [List.getElem?_cons_zero, Option.some.injEq] at h1 h2
    subst h1; subst h2
    exact h
  | succ i => simp at h1
theorem AreL.set (h : AreL w ts ls) (i : Nat) {t : Tri} {x : Lt} (hx : IsL w t x) : AreL w (ts.set i t) (ls.set i x) := by
  refine ⟨by simp [h.1], fun j t' x' h1 h2 => ?_⟩
  rw [List.getElem?_set] at h1 h2
  by_cases hij : i = j
  · subst hij
    rw [if_pos rfl] at h1 h2
    split at h1
    · split at h2
      · simp only [Option.some.injEq] at h1 h2
        subst h1; subst h2
        exact hx
      · cases h2
    · cases h1
  · rw [if_neg hij] at h1 h2
    exact h.2 j t' x' h1 h2
end

/-- A slice of letters, its cells. -/
def RdT (w : World) (A : Option Addr) (n c : Nat) (ts : List Tri) : Prop :=
  ts.length = n ∧ n ≤ c ∧ c ≤ maxLen ∧ (A = none → c = 0) ∧
    (0 < n → ∃ b o, A = some ⟨b, o, none⟩ ∧ ∀ i u, (raw ts)[i]? = some u → w.cell? ⟨b, o + i, none⟩ = some u)
/-- A slice of letters. -/
def RdL (w : World) (A : Option Addr) (n c : Nat) (ls : List Lt) : Prop := ∃ ts, RdT w A n c ts ∧ AreL w ts ls
section
variable {w w' : World} {A : Option Addr} {n c : Nat} {ts : List Tri} {ls : List Lt}
theorem RdT.keep (h : RdT w A n c ts) (hk : ∀ p u, w.cell? p = some u → w'.cell? p = some u) : RdT w' A n c ts := by
  obtain ⟨h1, h2, h3, h4, h5⟩ := h
  refine ⟨h1, h2, h3, h4, fun h0 => ?_⟩
  obtain ⟨b, o, hA, hc⟩ := h5 h0
  exact ⟨b, o, hA, fun i x hx => hk _ _ (hc i x hx)⟩
theorem RdT.below (h : RdT w A n c ts) (hb : Below w.heap.size w w') : RdT w' A n c ts :=
  h.keep fun p u hu => (hb.cell (World.block_lt_of_cell? w p hu)).trans hu
theorem RdT.le (h : RdT w A n c ts) : n ≤ 9223372036854775807 := by
  have := h.2.1; have := h.2.2.1; unfold maxLen at this; omega
theorem RdT.take (h : RdT w A n c ts) {k : Nat} (hk : k ≤ n) : RdT w A k c (ts.take k) := by
  obtain ⟨h1, h2, h3, h4, h5⟩ := h
  refine ⟨by rw [List.length_take]; omega, by omega, h3, h4, fun h0 => ?_⟩
  obtain ⟨b, o, hA, hc⟩ := h5 (by omega)
  refine ⟨b, o, hA, fun i x hx => hc i x ?_⟩
  rw [raw_take, List.getElem?_take] at hx
  split at hx
  · exact hx
  · cases hx
theorem RdT.drop {b o : Nat} (h : RdT w (some ⟨b, o, none⟩) n c ts) {k : Nat} (hk : k ≤ n) : RdT w (some ⟨b, o + k * 3, none⟩) (n - k) (c - k) (ts.drop k) := by
  obtain ⟨h1, h2, h3, h4, h5⟩ := h
  refine ⟨by rw [List.length_drop]; omega, by omega, by omega, (fun h => by cases h), fun h0 => ⟨b, o + k * 3, rfl, fun i x hx => ?_⟩⟩
  obtain ⟨b', o', hA, hc⟩ := h5 (by omega)
  injection hA with hA
  injection hA with e1 e2
  subst e1; subst e2
  rw [raw_drop, List.getElem?_drop] at hx
  rw [Nat.add_assoc]
  exact hc _ x hx
theorem RdT.nilA (h : RdT w none n c ts) : n = 0 ∧ c = 0 ∧ ts = [] := by
  obtain ⟨h1, h2, h3, h4, h5⟩ := h
  have hc := h4 rfl
  have hn : n = 0 := by omega
  exact ⟨hn, hc, List.eq_nil_of_length_eq_zero (by omega)⟩
theorem RdL.below (h : RdL w A n c ls) (hb : Below w.heap.size w w') : RdL w' A n c ls := by
  obtain ⟨ts, h1, h2⟩ := h
  exact ⟨ts, h1.below hb, h2.below hb⟩
theorem RdL.drewN (h : RdL w A n c ls) (k : Nat) : RdL (w.drewN k) A n c ls := h
theorem RdL.size (h : RdL w A n c ls) : ls.length = n := by
  obtain ⟨ts, h1, h2⟩ := h
  rw [← h2.1]; exact h1.1
theorem RdL.cap (h : RdL w A n c ls) : n ≤ c ∧ c ≤ maxLen := by
  obtain ⟨ts, h1, h2⟩ := h
  exact ⟨h1.2.1, h1.2.2.1⟩
theorem RdL.le (h : RdL w A n c ls) : n ≤ 9223372036854775807 := by
  obtain ⟨ts, h1, h2⟩ := h
  exact h1.le
theorem RdL.cle (h : RdL w A n c ls) : c ≤ 9223372036854775807 := by
  have := h.cap.2; unfold maxLen at this; omega
theorem RdL.nilA (h : RdL w none n c ls) : n = 0 ∧ c = 0 ∧ ls = [] := by
  have hs := h.size
  obtain ⟨ts, h1, h2⟩ := h
  obtain ⟨rfl, rfl, rfl⟩ := h1.nilA
  exact ⟨rfl, rfl, List.eq_nil_of_length_eq_zero hs⟩
theorem RdL.take (h : RdL w A n c ls) {k : Nat} (hk : k ≤ n) : RdL w A k c (ls.take k) := by
  obtain ⟨ts, h1, h2⟩ := h
  exact ⟨_, h1.take hk, h2.take k⟩
theorem RdL.drop {b o : Nat} (h : RdL w (some ⟨b, o, none⟩) n c ls) {k : Nat} (hk : k ≤ n) : RdL w (some ⟨b, o + k * 3, none⟩) (n - k) (c - k) (ls.drop k) := by
  obtain ⟨ts, h1, h2⟩ := h
  exact ⟨_, h1.drop hk, h2.drop k⟩
theorem RdL.empty (w : World) (A : Option Addr) : RdL w A 0 0 [] := ⟨[], ⟨rfl, Nat.le_refl _, Nat.zero_le _, fun _ => rfl, fun h => absurd h (by omega)⟩, AreL.nil_ w⟩
theorem RdL.addr (h : RdL w A n c ls) (h0 : 0 < n) : ∃ b o, A = some ⟨b, o, none⟩ := by
  obtain ⟨ts, h1, h2⟩ := h
  obtain ⟨b, o, hA, _⟩ := h1.2.2.2.2 h0
  exact ⟨b, o, hA⟩
/-- One of its letters. -/
theorem RdT.at_ {b o : Nat} (h : RdT w (some ⟨b, o, none⟩) n c ts) {k : Nat} {t : Tri} (hk : ts[k]? = some t) :
    w.cell? ⟨b, o + k * 3, none⟩ = some (.int .i64 t.to) ∧ w.cell? ⟨b, o + k * 3 + 1, none⟩ = some (.slice t.A t.n t.c) ∧ w.cell? ⟨b, o + k * 3 + 2, none⟩ = some (.bool t.sp) := by
  have hl : k < ts.length := by
    rcases Nat.lt_or_ge k ts.length with h | h
    · exact h
    · rw [List.getElem?_eq_none h] at hk; cases hk
  obtain ⟨b', o', hA, hc⟩ := h.2.2.2.2 (by have := h.1; omega)
  injection hA with hA
  injection hA with e1 e2
  subst e1; subst e2
  obtain ⟨r1, r2, r3⟩ := raw_at hk
  refine ⟨hc _ _ r1, ?_, ?_⟩
  · rw [Nat.add_assoc]; exact hc _ _ r2
  · rw [Nat.add_assoc]; exact hc _ _ r3
theorem RdL.at_ {b o : Nat} (h : RdL w (some ⟨b, o, none⟩) n c ls) {k : Nat} (hk : k < n) :
    ∃ t x, ls[k]? = some x ∧ IsL w t x ∧ w.cell? ⟨b, o + k * 3, none⟩ = some (.int .i64 t.to) ∧ w.cell? ⟨b, o + k * 3 + 1, none⟩ = some (.slice t.A t.n t.c) ∧ w.cell? ⟨b, o + k * 3 + 2, none⟩ = some (.bool t.sp) := by
  have hs := h.size
  obtain ⟨ts, h1, h2⟩ := h
  have hl : k < ts.length := by rw [h1.1]; exact hk
  have hl2 : k < ls.length := by omega
  have e1 := List.getElem?_eq_getElem hl
  have e2 := List.getElem?_eq_getElem hl2
  exact ⟨_, _, e2, h2.2 k _ _ e1 e2, h1.at_ e1⟩
/-- A row whose cells lie in one block. -/
theorem RdT.of_block {g : Nat} {t : TypeId} {fr : Nat × Nat} (hh : w.heap[g]? = some (.cells (raw ts).toArray t fr)) (hn : ts.length ≤ maxLen) : RdT w (some ⟨g, 0, none⟩) ts.length ts.length ts := by
  refine ⟨rfl, Nat.le_refl _, hn, (fun h => by cases h), fun _ => ⟨g, 0, rfl, fun i u hu => ?_⟩⟩
  rw [cell_of_row _ g _ _ t fr hh]
  simpa using hu
end
/-- One letter, or some, just laid. -/
theorem RdL.lit (w : World) (t : TypeId) (fr : Nat × Nat) (C : Array Value) (ts : List Tri) (ls : List Lt) (hC : C = (raw ts).toArray) (n : Nat) (hn : ts.length = n) (hl : n ≤ maxLen) (h : AreL w ts ls) (g : Nat) (hg : w.heap.size = g) : RdL (w.alloc (.cells C t fr)) (some ⟨g, 0, none⟩) n n ls := by
  subst hC
  subst hn
  subst hg
  refine ⟨ts, ⟨rfl, Nat.le_refl _, hl, (fun h => by cases h), fun _ => ⟨_, _, rfl, fun i x hx => ?_⟩⟩, h.below ((Below.refl _ _).alloc (Nat.le_refl _) _)⟩
  rw [World.cell?_alloc_mark]
  simpa using hx

/-- A letter as a value. -/
def IsLet (w : World) (v : Value) (x : Lt) : Prop := ∃ A n c, v = .agg #[.int .i64 x.to, .slice A n c, .bool x.sp] ∧ Rd w A n c x.b
theorem IsL.val {w : World} {t : Tri} {x : Lt} (h : IsL w t x) : IsLet w (.agg #[.int .i64 t.to, .slice t.A t.n t.c, .bool t.sp]) x := by
  obtain ⟨h1, h2, h3⟩ := h
  rw [h1, h2]
  exact ⟨_, _, _, rfl, h3⟩
theorem IsLet.below {w w' : World} {v : Value} {x : Lt} (h : IsLet w v x) (hb : Below w.heap.size w w') : IsLet w' v x := by
  obtain ⟨A, n, c, rfl, hr⟩ := h
  exact ⟨A, n, c, rfl, hr.below hb⟩

/-- A row of letters of the call's own. -/
abbrev OwnT (w : World) (base : Nat) (e : TypeId) (v : Value) (n : Nat) (ts : List Tri) : Prop := w.ownsRow base e 3 v n (raw ts)
theorem OwnT.size {w : World} {base n : Nat} {e : TypeId} {v : Value} {ts : List Tri} (h : OwnT w base e v n ts) : ts.length = n := by
  have := h.1; rw [raw_length] at this; omega
theorem OwnT.rd {w : World} {base n : Nat} {e : TypeId} {v : Value} {ts : List Tri} (h : OwnT w base e v n ts) : ∃ A c, v = .slice A n c ∧ RdT w A n c ts := by
  have hl := OwnT.size h
  rcases h.2 with ⟨rfl, rfl⟩ | ⟨g, cap, cur, rfl, hb, hh, hn, hm, hs, ht⟩
  · have : ts = [] := List.eq_nil_of_length_eq_zero hl
    subst this
    exact ⟨none, 0, rfl, rfl, Nat.le_refl _, Nat.zero_le _, fun _ => rfl, fun h => absurd h (by omega)⟩
  · refine ⟨some ⟨g, 0, none⟩, cap, rfl, hl, hn, hm, (fun h => by cases h), fun _ => ⟨g, 0, rfl, fun i x hx => ?_⟩⟩
    have := World.ownsRow.cells (g := g) h rfl i _ hx
    rw [add_eq] at this
    exact this
theorem OwnT.below {w w' : World} {base n : Nat} {e : TypeId} {v : Value} {ts : List Tri} (h : OwnT w base e v n ts) (hg : w.grownBy w' v.ownBlock) (hb : base ≤ w.heap.size) : Below base w w' :=
  (Below.refl _ _).grown hg hb (fun k hk => (World.ownsRow.lt h k hk).1)
theorem OwnT.later {w w' : World} {base n : Nat} {e : TypeId} {v : Value} {ts : List Tri} (h : OwnT w base e v n ts) (hb : Below w.heap.size w w') : OwnT w' base e v n ts := by
  refine ⟨h.1, ?_⟩
  rcases h.2 with h2 | ⟨g, cap, cur, hv, hg, hh, r⟩
  · exact .inl h2
  · refine .inr ⟨g, cap, cur, hv, hg, ?_, r⟩
    have hlt : g < w.heap.size := by
      rcases Nat.lt_or_ge g w.heap.size with hlt | hge
      · exact hlt
      · rw [Array.getElem?_eq_none hge] at hh; cases hh
    rw [hb.block g hlt]
    exact hh

/-- append onto a row of the call's own, whatever the source. -/
theorem run_appT {P : Program} (w : World) (base : Nat) (t ty e : TypeId) (i : TypeInfo) (ht : P.underlying t = some (.slice e)) (hi : P.info? e = some i) (z : Value) (hz : i.zero = some z)
    (hsize : i.size = 3) (bytes : Nat) (hby : i.bytes = bytes) (hzc : z.cells.size = 3) (v : Value) (n : Nat) (xs : List Tri) (hown : OwnT w base e v n xs)
    (A : Option Addr) (m c : Nat) (l : List Tri) (hr : RdT w A m c l) (h63 : n + m ≤ 1099511627776) (hb128 : bytes ≤ 128) (hbase : base ≤ w.heap.size) :
    ∃ v' w', (Builtin.append_ #[t, t] ty #[v, .slice A m c]).run P w = .ok v' w' ∧ OwnT w' base e v' (n + m) (xs ++ l) ∧ w.grownBy w' v.ownBlock ∧
      (v'.ownBlock = v.ownBlock ∨ v'.ownBlock = some w.heap.size) := by
  cases A with
  | none =>
    obtain ⟨rfl, rfl, rfl⟩ := hr.nilA
    refine ⟨v, w, ?_, by simpa using hown, World.grownBy.refl w _, .inl rfl⟩
    rcases hown.2 with ⟨rfl, rfl⟩ | ⟨g, cap, cur, rfl, _, _, hnc, _⟩
    · simp [Builtin.append_, run_underlying ht, sizeOf, typeInfo, hi, Builtin.lenOf, Builtin.firstCells]
    · simp [Builtin.append_, run_underlying ht, sizeOf, typeInfo, hi, Builtin.lenOf, Builtin.firstCells, hnc, storeCells]
  | some ad =>
    have hcells : ∀ j u, (raw l)[j]? = some u → w.cell? (ad.add j) = some u := by
      intro j u hu
      have hj : j < (raw l).length := by
        rcases Nat.lt_or_ge j (raw l).length with h | h
        · exact h
        · rw [List.getElem?_eq_none h] at hu; cases hu
      rw [raw_length] at hj
      obtain ⟨b, o, hA, hc⟩ := hr.2.2.2.2 (by have := hr.1; omega)
      injection hA with hA
      subst hA
      rw [add_eq]
      exact hc j u hu
    have hbytes : (n + m) * bytes ≤ 140737488355328 := Nat.le_trans (Nat.mul_le_mul h63 hb128) (by decide)
    obtain ⟨v', w', hrun, h2, h3, _, h5⟩ := run_append_own_at (P := P) w base t ty e i z 3 bytes ht hi hz hsize hby hzc (by omega) v n (raw xs) hown ad m c (raw l) (by rw [raw_length, hr.1]) hcells (raw_one l)
      (by simp only [maxLen]; omega) hbytes hbase
    exact ⟨v', w', hrun, by unfold OwnT; rw [raw_append]; exact h2, h3, h5⟩

theorem wpList_appT {P : Program} {w : World} {ops : Array Oper} {rest : List Oper} {o : Oper} {a : Act} {Q : Exit → Act → World → Prop} (hgd : Region.wanted o (yielded ops a.tmps) = true) (s x : Operand) (t : TypeId)
    (ho : o.op = .call { callee := .builtin .append, args := #[s, x], argTypes := #[t, t] })
    (base : Nat) (e : TypeId) (z : Value) (bytes : Nat) (hi : (P.info? e).map (fun i => (i.zero, i.size, i.bytes)) = some (some z, 3, bytes)) (hzc : z.cells.size = 3) (hb128 : bytes ≤ 128) (ht : P.underlying t = some (.slice e))
    (v : Value) (n : Nat) (xs : List Tri) (hs : a.eval s = v) (hown : OwnT w base e v n xs)
    (A : Option Addr) (m c : Nat) (l : List Tri) (hx : a.eval x = .slice A m c) (hr : RdT w A m c l)
    (h63 : n + m ≤ 1099511627776) (hbase : base ≤ w.heap.size)
    (h : ∀ v' w', OwnT w' base e v' (n + m) (xs ++ l) → Below base w w' → w.grownBy w' v.ownBlock → wpList P ops Q rest (a.put o.dst v') w') : wpList P ops Q (o :: rest) a w := by
  obtain ⟨i0, hi0, hz0, hz1, hz2⟩ := info_parts hi
  refine wpList_step fun K hK => ?_
  rw [if_pos hgd]
  obtain ⟨v', w', hrun, h2, h3, h4⟩ := run_appT (P := P) w base t o.type e i0 ht hi0 z hz0 hz1 bytes hz2 hzc v n xs hown A m c l hr h63 hb128 hbase
  unfold Oper.wp execOp
  simp only [ho, resolve, invoke, builtin, Sem.run_bind, Sem.run_pure, Result.andThen_ok, List.map_toArray, List.map_cons, List.map_nil, hs, hx, hrun]
  exact hK _ _ (h v' w' h2 (hown.below h3 hbase) h3)

/-- The same inside a region that draws its order, its slot written out. -/
theorem step_appT {P : Program} {w : World} {ops : Array Oper} {o : Oper} {a : Act} {K : Act → World → Prop} {Q : Exit → Act → World → Prop} {E : Prop} (d : Tmp) (hd : o.dst = some d) (hw : Region.wanted o (yielded ops a.tmps) = true) (s x : Operand) (t : TypeId)
    (ho : o.op = .call { callee := .builtin .append, args := #[s, x], argTypes := #[t, t] })
    (base : Nat) (e : TypeId) (z : Value) (bytes : Nat) (hi : (P.info? e).map (fun i => (i.zero, i.size, i.bytes)) = some (some z, 3, bytes)) (hzc : z.cells.size = 3) (hb128 : bytes ≤ 128) (ht : P.underlying t = some (.slice e))
    (v : Value) (n : Nat) (xs : List Tri) (hs : a.eval s = v) (hown : OwnT w base e v n xs)
    (A : Option Addr) (m c : Nat) (l : List Tri) (hx : a.eval x = .slice A m c) (hr : RdT w A m c l)
    (h63 : n + m ≤ 1099511627776) (hbase : base ≤ w.heap.size)
    (h : ∀ v' w', OwnT w' base e v' (n + m) (xs ++ l) → Below base w w' → w.grownBy w' v.ownBlock → K (a.put (some d) v') w') : if Region.wanted o (yielded ops a.tmps) = true then Oper.wp P o a w K Q else E := by
  rw [if_pos hw]
  obtain ⟨i0, hi0, hz0, hz1, hz2⟩ := info_parts hi
  obtain ⟨v', w', hrun, h2, h3, h4⟩ := run_appT (P := P) w base t o.type e i0 ht hi0 z hz0 hz1 bytes hz2 hzc v n xs hown A m c l hr h63 hb128 hbase
  unfold Oper.wp execOp
  simp only [ho, resolve, invoke, builtin, Sem.run_bind, Sem.run_pure, Result.andThen_ok, List.map_toArray, List.map_cons, List.map_nil, hs, hx, hrun]
  show K (a.put o.dst v') w'
  rw [hd]
  exact h v' w' h2 (hown.below h3 hbase) h3

/-- copy of structs into a row that is known whole, the place and the cells given. -/
theorem run_copyT {P : Program} (w : World) (dT sT ty elem : TypeId) (k : Nat) (hu : P.underlying dT = some (.slice elem)) (hs : (P.info? elem).map (·.size) = some k)
    (dp sp : Option Addr) (dLen dCap sLen sCap : Nat)
    (g off : Nat) (cur : List Value) (t : TypeId) (hg : w.heap[g]? = some (.cells cur.toArray t (0, 0))) (cs : List Value) (m : Nat) (hm : m = Nat.min sLen dLen) (hn : cs.length = m * k)
    (hpos : 0 < m → dp = some ⟨g, off, none⟩ ∧ ∃ ad, sp = some ad ∧ ∀ j v, cs[j]? = some v → w.cell? (ad.add j) = some v)
    (hfit : off + cs.length ≤ cur.length) (h1 : ∀ v ∈ cs, v.oneCell' = true) :
    ∃ w', (Builtin.copy_ #[dT, sT] ty #[.slice dp dLen dCap, .slice sp sLen sCap]).run P w = .ok (goInt m) w' ∧ w'.heap[g]? = some (.cells (splice cur off cs).toArray t (0, 0)) ∧ (∀ B w0, Below B w0 w → B ≤ g → Below B w0 w') ∧ But g w w' := by
  cases hq : P.info? elem with
  | none => simp [hq] at hs
  | some i =>
    have hi : i.size = k := by simpa [hq] using hs
    by_cases h0 : m = 0
    · have hcs : cs = [] := List.eq_nil_of_length_eq_zero (by rw [hn, h0, Nat.zero_mul])
      subst hcs
      have hl : ∀ (x : Addr), (loadCells x 0).run P w = .ok #[] w := fun x => by simpa using run_loadCells_list (P := P) w x [] (by simp)
      refine ⟨w, ?_, by simpa [splice] using hg, fun B w0 hb _ => hb, rfl, fun _ _ => rfl⟩
      have hm0 : Nat.min sLen dLen = 0 := by omega
      cases dp <;> cases sp <;> simp [Builtin.copy_, run_underlying hu, Builtin.lenOf, Builtin.firstCells, sizeOf, typeInfo, hq, hm0, h0, storeCells, hl]
    · obtain ⟨rfl, ad, rfl, hsrc⟩ := hpos (by omega)
      have hl := run_loadCells_list (P := P) w ad cs hsrc
      have hst := run_storeCells_at P g off t cs 0 cur.toArray w hg (by simpa using hfit) h1
      refine ⟨w.setRow g (splice cur off cs).toArray, ?_, setRow_heap w g _ _ t _ hg, fun B w0 hb hB => below_setRow hb hB _, But.setRow w g _⟩
      rw [hn] at hl
      simp [Builtin.copy_, run_underlying hu, Builtin.lenOf, Builtin.firstCells, sizeOf, typeInfo, hq, hi, ← hm, hl, hst, splice]
theorem wpList_copyT {P : Program} {w : World} {ops : Array Oper} {rest : List Oper} {o : Oper} {a : Act} {Q : Exit → Act → World → Prop} (hgd : o.guard = none) (d s : Operand) (dT sT : TypeId)
    (ho : o.op = .call { callee := .builtin .copy, args := #[d, s], argTypes := #[dT, sT] }) (elem : TypeId) (k : Nat) (hu : P.underlying dT = some (.slice elem)) (hsz : (P.info? elem).map (·.size) = some k)
    (dp sp : Option Addr) (dLen dCap sLen sCap : Nat) (hd : a.eval d = .slice dp dLen dCap) (hs : a.eval s = .slice sp sLen sCap)
    (g off : Nat) (cur : List Value) (t : TypeId) (hg : w.heap[g]? = some (.cells cur.toArray t (0, 0))) (cs : List Value) (m : Nat) (hm : m = Nat.min sLen dLen) (hn : cs.length = m * k)
    (hpos : 0 < m → dp = some ⟨g, off, none⟩ ∧ ∃ ad, sp = some ad ∧ ∀ j v, cs[j]? = some v → w.cell? (ad.add j) = some v)
    (hfit : off + cs.length ≤ cur.length) (h1 : ∀ v ∈ cs, v.oneCell' = true)
    (h : ∀ w', Hid (w'.heap[g]? = some (.cells (splice cur off cs).toArray t (0, 0))) → (∀ B w0, Below B w0 w → B ≤ g → Below B w0 w') → But g w w' → wpList P ops Q rest (a.put o.dst (goInt m)) w') :
    wpList P ops Q (o :: rest) a w := by
  refine wpList_plain hgd fun K hK => ?_
  obtain ⟨w', hrun, h2, h3, h4⟩ := run_copyT (P := P) w dT sT o.type elem k hu hsz dp sp dLen dCap sLen sCap g off cur t hg cs m hm hn hpos hfit h1
  unfold Oper.wp
  simp [execOp, ho, resolve, invoke, builtin, hd, hs, hrun, Result.andThen]
  exact hK _ _ (h w' h2 h3 h4)
/-- Cells that are a letter's, while another block is turned. -/
theorem Rd.but' {w w' : World} {A : Option Addr} {n c g : Nat} {l : List UInt8} (h : Rd w A n c l) (hg : 0 < n → ∀ b o, A = some ⟨b, o, none⟩ → b ≠ g) (hb : But g w w') : Rd w' A n c l := by
  obtain ⟨h1, h2, h3, h4, h5⟩ := h
  refine ⟨h1, h2, h3, h4, fun h0 => ?_⟩
  obtain ⟨b, o, hA, hc⟩ := h5 h0
  exact ⟨b, o, hA, fun i x hx => hb.cell (hg h0 b o hA) (hc i x hx)⟩
/-- None of the letters' bytes lie in a block. -/
def Off (g : Nat) (ts : List Tri) : Prop := ∀ t ∈ ts, 0 < t.n → ∀ b o, t.A = some ⟨b, o, none⟩ → b ≠ g
theorem AreL.but {w w' : World} {ts : List Tri} {ls : List Lt} {g : Nat} (h : AreL w ts ls) (ho : Off g ts) (hb : But g w w') : AreL w' ts ls :=
  ⟨h.1, fun i t x h1 h2 => ⟨(h.2 i t x h1 h2).1, (h.2 i t x h1 h2).2.1, (h.2 i t x h1 h2).2.2.but' (ho t (List.mem_of_getElem? h1)) hb⟩⟩
/-- Bytes that are read lie in elder blocks. -/
theorem Rd.blk {w : World} {A : Option Addr} {n c : Nat} {l : List UInt8} (h : Rd w A n c l) (h0 : 0 < n) : ∀ b o, A = some ⟨b, o, none⟩ → b < w.heap.size := by
  intro b o hA
  obtain ⟨b', o', hA', hc⟩ := h.2.2.2.2 h0
  rw [hA] at hA'
  injection hA' with hA'
  injection hA' with e1 e2
  subst e1; subst e2
  have hl : 0 < l.length := by rw [h.1]; exact h0
  exact World.block_lt_of_cell? w _ (hc 0 _ (List.getElem?_eq_getElem hl))
theorem AreL.off {w : World} {ts : List Tri} {ls : List Lt} {g : Nat} (h : AreL w ts ls) (hg : w.heap.size ≤ g) : Off g ts := by
  intro t ht h0 b o hA
  obtain ⟨i, hi⟩ := List.getElem?_of_mem ht
  have hl : i < ls.length := by
    rw [← h.1]
    rcases Nat.lt_or_ge i ts.length with h | h
    · exact h
    · rw [List.getElem?_eq_none h] at hi; cases hi
  have := (h.2 i t _ hi (List.getElem?_eq_getElem hl)).2.2.blk h0 b o hA
  omega
theorem Off.set {g : Nat} {ts : List Tri} (h : Off g ts) (i : Nat) {t : Tri} (ht : 0 < t.n → ∀ b o, t.A = some ⟨b, o, none⟩ → b ≠ g) : Off g (ts.set i t) := by
  intro u hu
  rcases List.mem_or_eq_of_mem_set hu with hu | rfl
  · exact h u hu
  · exact ht
theorem Off.app {g : Nat} {ts us : List Tri} (h : Off g ts) (h2 : Off g us) : Off g (ts ++ us) := by
  intro u hu
  rcases List.mem_append.1 hu with hu | hu
  · exact h u hu
  · exact h2 u hu
end Go.Proofs.Ytenefjkgnkelgaa
