/- Entries, rows of entries and lanes in memory; S says which blocks they may lie in. No program is named here. -/
import Derived.Test.YtmlmkkfieeaejaaRowK
import Derived.Test.YtmlmkkfieeaejaaLaneMath
set_option maxRecDepth 100000
namespace Go.Proofs.Ytmlmkkfieeaejaa
open Go.RowKit
set_option linter.unusedVariables false

/-- A slice that reads anything lies in such a block. -/
def Within (S : Nat → Prop) (A : Option Addr) (n : Nat) : Prop := 0 < n → ∀ b o, A = some ⟨b, o, none⟩ → S b
theorem Within.zero (S : Nat → Prop) (A : Option Addr) : Within S A 0 := fun h => absurd h (by omega)
theorem Within.none_ (S : Nat → Prop) (n : Nat) : Within S none n := fun _ b o h => by cases h
theorem Within.mono {S T : Nat → Prop} {A : Option Addr} {n : Nat} (h : Within S A n) (hs : ∀ b, S b → T b) : Within T A n := fun h0 b o hA => hs b (h h0 b o hA)
theorem Within.any (A : Option Addr) (n : Nat) : Within (fun _ => True) A n := fun _ _ _ _ => trivial
theorem Within.less {S : Nat → Prop} {A : Option Addr} {n m : Nat} (h : Within S A n) (hm : m ≤ n) : Within S A m := fun h0 => h (by omega)
/-- Cells of such blocks stay. -/
def KeptS (S : Nat → Prop) (w w' : World) : Prop := ∀ b o u, S b → w.cell? ⟨b, o, none⟩ = some u → w'.cell? ⟨b, o, none⟩ = some u
theorem KeptS.below {w w' : World} (S : Nat → Prop) (hb : Below w.heap.size w w') : KeptS S w w' := fun b o u _ hu => (hb.cell (World.block_lt_of_cell? w _ hu)).trans hu
theorem KeptS.grown {w w' : World} {S : Nat → Prop} {row : Option Nat} (hg : w.grownBy w' row) (hs : ∀ b, S b → row ≠ some b) : KeptS S w w' := fun b o u hS hu => by
  have hlt := World.block_lt_of_cell? w _ hu
  have := hg.block b hlt (Ne.symm (hs b hS))
  have e : w'.cell? ⟨b, o, none⟩ = w.cell? ⟨b, o, none⟩ := by simp only [World.cell?, this]
  rw [e]
  exact hu
theorem RdV.keptS {S : Nat → Prop} {w w' : World} {A : Option Addr} {n c : Nat} {l : List Value} (h : RdV w A n c l) (hS : Within S A n) (hk : KeptS S w w') : RdV w' A n c l := by
  obtain ⟨h1, h2, h3, h4, h5⟩ := h
  refine ⟨h1, h2, h3, h4, fun h0 => ?_⟩
  obtain ⟨b, o, hA, hc⟩ := h5 h0
  exact ⟨b, o, hA, fun i x hx => hk b _ _ (hS h0 b o hA) (hc i x hx)⟩
theorem Rd.keptS {S : Nat → Prop} {w w' : World} {A : Option Addr} {n c : Nat} {l : List UInt8} (h : Rd w A n c l) (hS : Within S A n) (hk : KeptS S w w') : Rd w' A n c l :=
  RdV.bytes (RdV.keptS h.v hS hk)
theorem RdK.keptS {k : Nat} {S : Nat → Prop} {w w' : World} {A : Option Addr} {n c : Nat} {rs : List (Array Value)} (h : RdK k w A n c rs) (hS : Within S A n) (hk : KeptS S w w') : RdK k w' A n c rs := by
  obtain ⟨h0, h1, h2, h3, h4, h5⟩ := h
  refine ⟨h0, h1, h2, h3, h4, fun h6 => ?_⟩
  obtain ⟨b, o, hA, hc⟩ := h5 h6
  exact ⟨b, o, hA, fun i x hx => hk b _ _ (hS h6 b o hA) (hc i x hx)⟩

/-- An entry as a value. -/
def IsEn (S : Nat → Prop) (w : World) (v : Value) (x : Lane.En) : Prop :=
  ∃ BA bn bc LA ln lc, v = .agg #[.int .i64 x.k, .int .i64 x.q, .slice BA bn bc, .slice LA ln lc, .bool x.h] ∧ Rd w BA bn bc x.b ∧ RdI w LA ln lc x.l ∧ Within S BA bn ∧ Within S LA ln
section
variable {S T : Nat → Prop} {w w' : World} {v : Value} {x : Lane.En}
theorem IsEn.keptS (h : IsEn S w v x) (hk : KeptS S w w') : IsEn S w' v x := by
  obtain ⟨BA, bn, bc, LA, ln, lc, rfl, h1, h2, h3, h4⟩ := h
  exact ⟨BA, bn, bc, LA, ln, lc, rfl, h1.keptS h3 hk, RdV.keptS h2 h4 hk, h3, h4⟩
theorem IsEn.below (h : IsEn S w v x) (hb : Below w.heap.size w w') : IsEn S w' v x := h.keptS (KeptS.below S hb)
theorem IsEn.mono (h : IsEn S w v x) (hs : ∀ b, S b → T b) : IsEn T w v x := by
  obtain ⟨BA, bn, bc, LA, ln, lc, rfl, h1, h2, h3, h4⟩ := h
  exact ⟨BA, bn, bc, LA, ln, lc, rfl, h1, h2, h3.mono hs, h4.mono hs⟩
theorem IsEn.cells (h : IsEn S w v x) : ∃ r : Array Value, v = .agg r ∧ r.size = 5 ∧ r.all (·.oneCell') = true := by
  obtain ⟨BA, bn, bc, LA, ln, lc, rfl, h1, h2, h3, h4⟩ := h
  exact ⟨_, rfl, rfl, by simp [Value.oneCell']⟩
theorem IsEn.zero (S : Nat → Prop) (w : World) : IsEn S w (.agg #[.int .i64 0, .int .i64 0, .slice none 0 0, .slice none 0 0, .bool false]) Lane.En.zero :=
  ⟨none, 0, 0, none, 0, 0, rfl, Rd.nil_ w, RdV.nil_ w, Within.zero _ _, Within.zero _ _⟩
end

/-- Structs that are entries. -/
def AreE (S : Nat → Prop) (w : World) (rs : List (Array Value)) (xs : List Lane.En) : Prop := rs.length = xs.length ∧ ∀ (i : Nat) (r : Array Value) (x : Lane.En), rs[i]? = some r → xs[i]? = some x → IsEn S w (.agg r) x
section
variable {S T : Nat → Prop} {w w' : World} {rs ss : List (Array Value)} {xs ys : List Lane.En}
theorem AreE.keptS (h : AreE S w rs xs) (hk : KeptS S w w') : AreE S w' rs xs := ⟨h.1, fun i r x h1 h2 => (h.2 i r x h1 h2).keptS hk⟩
theorem AreE.below (h : AreE S w rs xs) (hb : Below w.heap.size w w') : AreE S w' rs xs := h.keptS (KeptS.below S hb)
theorem AreE.mono (h : AreE S w rs xs) (hs : ∀ b, S b → T b) : AreE T w rs xs := ⟨h.1, fun i r x h1 h2 => (h.2 i r x h1 h2).mono hs⟩
theorem AreE.nil_ (S : Nat → Prop) (w : World) : AreE S w [] [] := ⟨rfl, fun i t x h => by simp at h⟩
theorem AreE.take (h : AreE S w rs xs) (k : Nat) : AreE S w (rs.take k) (xs.take k) := by
  refine ⟨by simp [h.1], fun i t x h1 h2 => ?_⟩
  rw [List.getElem?_take] at h1 h2
  split at h1
  · rename_i hi
    rw [if_pos hi] at h2
    exact h.2 i t x h1 h2
  · cases h1
theorem AreE.drop (h : AreE S w rs xs) (k : Nat) : AreE S w (rs.drop k) (xs.drop k) := by
  refine ⟨by simp [h.1], fun i t x h1 h2 => ?_⟩
  rw [List.getElem?_drop] at h1 h2
  exact h.2 _ t x h1 h2
theorem AreE.app (h : AreE S w rs xs) (h2 : AreE S w ss ys) : AreE S w (rs ++ ss) (xs ++ ys) := by
  refine ⟨by simp [h.1, h2.1], fun i t x h3 h4 => ?_⟩
  by_cases hi : i < rs.length
  · rw [List.getElem?_append_left hi] at h3
    rw [List.getElem?_append_left (by rw [← h.1]; exact hi)] at h4
    exact h.2 i t x h3 h4
  · rw [List.getElem?_append_right (by omega)] at h3
    rw [List.getElem?_append_right (by rw [← h.1]; omega), ← h.1] at h4
    exact h2.2 _ t x h3 h4
theorem AreE.one {r : Array Value} {x : Lane.En} (h : IsEn S w (.agg r) x) : AreE S w [r] [x] := by
  refine ⟨rfl, fun i t' x' h1 h2 => ?_⟩
  cases i with
  | zero =>
    simp only [List.getElem?_cons_zero, Option.some.injEq] at h1 h2
    subst h1; subst h2
    exact h
  | succ i => simp at h1
end
/-- A slice of entries. -/
def RdE (S : Nat → Prop) (w : World) (A : Option Addr) (n c : Nat) (xs : List Lane.En) : Prop := ∃ rs, RdK 5 w A n c rs ∧ AreE S w rs xs ∧ Within S A n
section
variable {S T : Nat → Prop} {w w' : World} {A : Option Addr} {n c : Nat} {xs : List Lane.En}
theorem RdE.keptS (h : RdE S w A n c xs) (hk : KeptS S w w') : RdE S w' A n c xs := by
  obtain ⟨rs, h1, h2, h3⟩ := h
  exact ⟨rs, h1.keptS h3 hk, h2.keptS hk, h3⟩
theorem RdE.below (h : RdE S w A n c xs) (hb : Below w.heap.size w w') : RdE S w' A n c xs := h.keptS (KeptS.below S hb)
theorem RdE.mono (h : RdE S w A n c xs) (hs : ∀ b, S b → T b) : RdE T w A n c xs := by
  obtain ⟨rs, h1, h2, h3⟩ := h
  exact ⟨rs, h1, h2.mono hs, h3.mono hs⟩
theorem RdE.size (h : RdE S w A n c xs) : xs.length = n := by
  obtain ⟨rs, h1, h2, _⟩ := h
  rw [← h2.1]; exact h1.size
theorem RdE.cap (h : RdE S w A n c xs) : n ≤ c := by
  obtain ⟨rs, h1, _⟩ := h
  exact h1.cap
theorem RdE.cmax (h : RdE S w A n c xs) : c ≤ 9223372036854775807 := by
  obtain ⟨rs, h1, _⟩ := h
  exact h1.cmax
theorem RdE.le (h : RdE S w A n c xs) : n ≤ 9223372036854775807 := by have := h.cap; have := h.cmax; omega
theorem RdE.nil_ (S : Nat → Prop) (w : World) : RdE S w none 0 0 [] := ⟨[], RdK.nil_ 5 w, AreE.nil_ S w, Within.zero _ _⟩
theorem RdE.empty (S : Nat → Prop) (w : World) (A : Option Addr) : RdE S w A 0 0 [] := ⟨[], RdK.empty 5 w A, AreE.nil_ S w, Within.zero _ _⟩
theorem RdE.nilA (h : RdE S w none n c xs) : n = 0 ∧ c = 0 ∧ xs = [] := by
  have hs := h.size
  obtain ⟨rs, h1, h2, _⟩ := h
  obtain ⟨rfl, rfl, rfl⟩ := h1.nilA
  exact ⟨rfl, rfl, List.eq_nil_of_length_eq_zero hs⟩
theorem RdE.addr (h : RdE S w A n c xs) (h0 : 0 < n) : ∃ b o, A = some ⟨b, o, none⟩ := by
  obtain ⟨rs, h1, _⟩ := h
  exact h1.addr h0
theorem RdE.take (h : RdE S w A n c xs) {k : Nat} (hk : k ≤ n) : RdE S w A k c (xs.take k) := by
  obtain ⟨rs, h1, h2, h3⟩ := h
  exact ⟨_, h1.take hk, h2.take k, h3.less hk⟩
theorem RdE.takeC (h : RdE S w A n c xs) {k d : Nat} (hk : k ≤ n) (hd : k ≤ d) (hdc : d ≤ c) : RdE S w A k d (xs.take k) := by
  obtain ⟨rs, h1, h2, h3⟩ := h
  exact ⟨_, h1.takeC hk hd hdc, h2.take k, h3.less hk⟩
theorem RdE.drop {b o : Nat} (h : RdE S w (some ⟨b, o, none⟩) n c xs) {k : Nat} (hk : k ≤ n) : RdE S w (some ⟨b, o + k * 5, none⟩) (n - k) (c - k) (xs.drop k) := by
  obtain ⟨rs, h1, h2, h3⟩ := h
  refine ⟨_, h1.drop hk, h2.drop k, fun h0 b' o' hA => ?_⟩
  injection hA with hA
  injection hA with e1 e2
  subst e1
  exact h3 (by omega) b o rfl
/-- One of its entries: its cells are letters. -/
theorem RdE.at_ (h : RdE S w A n c xs) {i : Nat} (hi : i < n) :
    ∃ b o r x, A = some ⟨b, o, none⟩ ∧ xs[i]? = some x ∧ r.size = 5 ∧ r.all (·.oneCell') = true ∧ IsEn S w (.agg r) x ∧ ∀ j u, r[j]? = some u → w.cell? ⟨b, o + i * 5 + j, none⟩ = some u := by
  have hs := h.size
  obtain ⟨rs, h1, h2, _⟩ := h
  obtain ⟨b, o, r, hA, hr, hsz, hc⟩ := h1.at_ hi
  have hx := List.getElem?_eq_getElem (show i < xs.length by omega)
  exact ⟨b, o, r, _, hA, hx, hsz, (h1.all.at_ hr).2, h2.2 i r _ hr hx, hc⟩
/-- The same, its cells told one by one, in every later world. -/
theorem RdE.told (h : RdE S w A n c xs) {i : Nat} (hi : i < n) :
    ∃ b o x BA bn bc LA ln lc, A = some ⟨b, o, none⟩ ∧ xs[i]? = some x ∧ Rd w BA bn bc x.b ∧ RdI w LA ln lc x.l ∧ Within S BA bn ∧ Within S LA ln ∧
      ∀ w', Below w.heap.size w w' → w'.cell? ⟨b, o + i * 5, none⟩ = some (.int .i64 x.k) ∧ w'.cell? ⟨b, o + i * 5 + 1, none⟩ = some (.int .i64 x.q) ∧ w'.cell? ⟨b, o + i * 5 + 2, none⟩ = some (.slice BA bn bc) ∧
        w'.cell? ⟨b, o + i * 5 + 3, none⟩ = some (.slice LA ln lc) ∧ w'.cell? ⟨b, o + i * 5 + 4, none⟩ = some (.bool x.h) := by
  obtain ⟨b, o, r, x, hA, hx, hsz, _, hi2, hc⟩ := h.at_ hi
  obtain ⟨BA, bn, bc, LA, ln, lc, hv, h1, h2, h3, h4⟩ := hi2
  injection hv with hv
  subst hv
  refine ⟨b, o, x, BA, bn, bc, LA, ln, lc, hA, hx, h1, h2, h3, h4, fun w' hb => ?_⟩
  have kk : ∀ j u, (#[Value.int .i64 x.k, .int .i64 x.q, .slice BA bn bc, .slice LA ln lc, .bool x.h] : Array Value)[j]? = some u → w'.cell? ⟨b, o + i * 5 + j, none⟩ = some u := fun j u hu => (hb.cell (World.block_lt_of_cell? w _ (hc j u hu))).trans (hc j u hu)
  exact ⟨kk 0 _ rfl, kk 1 _ rfl, kk 2 _ rfl, kk 3 _ rfl, kk 4 _ rfl⟩
end
/-- A row of entries that was just laid, or grown: the call's own. -/
def OwnE (S : Nat → Prop) (w : World) (base : Nat) (t : TypeId) (v : Value) (n : Nat) (xs : List Lane.En) : Prop := ∃ rs, OwnK 5 w base t v n rs ∧ AreE S w rs xs
theorem OwnE.size {S : Nat → Prop} {w : World} {base n : Nat} {t : TypeId} {v : Value} {xs : List Lane.En} (h : OwnE S w base t v n xs) : xs.length = n := by
  obtain ⟨rs, h1, h2⟩ := h
  rw [← h2.1]; exact h1.2.1
theorem OwnE.rd {S : Nat → Prop} {w : World} {base n : Nat} {t : TypeId} {v : Value} {xs : List Lane.En} (h : OwnE S w base t v n xs) (hS : ∀ b, base ≤ b → S b) : ∃ A c, v = .slice A n c ∧ RdE S w A n c xs := by
  obtain ⟨rs, h1, h2⟩ := h
  obtain ⟨A, c, rfl, hr⟩ := h1.rd
  refine ⟨A, c, rfl, rs, hr, h2, fun h0 b o hA => ?_⟩
  rcases h1.2.2.2 with ⟨he, _⟩ | ⟨g, cap, cur, he, hb, _⟩
  · injection he with e1
    rw [e1] at hA
    cases hA
  · injection he with e1
    rw [e1] at hA
    injection hA with hA
    injection hA with e2
    subst e2
    exact hS _ hb

/-- A lane as a value. -/
def IsLane (S : Nat → Prop) (w : World) (v : Value) (l : Lane.Ln) : Prop :=
  ∃ A n c B m d, v = .agg #[.slice A n c, .int .i64 l.p.seq, .int .i64 l.p.total, .int .i64 l.p.got, .slice B m d] ∧ RdE S w A n c l.es ∧ Rd w B m d l.p.b ∧ Within S B m
section
variable {S T : Nat → Prop} {w w' : World} {v : Value} {l : Lane.Ln}
theorem IsLane.keptS (h : IsLane S w v l) (hk : KeptS S w w') : IsLane S w' v l := by
  obtain ⟨A, n, c, B, m, d, rfl, h1, h2, h3⟩ := h
  exact ⟨A, n, c, B, m, d, rfl, h1.keptS hk, h2.keptS h3 hk, h3⟩
theorem IsLane.below (h : IsLane S w v l) (hb : Below w.heap.size w w') : IsLane S w' v l := h.keptS (KeptS.below S hb)
theorem IsLane.mono (h : IsLane S w v l) (hs : ∀ b, S b → T b) : IsLane T w v l := by
  obtain ⟨A, n, c, B, m, d, rfl, h1, h2, h3⟩ := h
  exact ⟨A, n, c, B, m, d, rfl, h1.mono hs, h2, h3.mono hs⟩
theorem IsLane.zero (S : Nat → Prop) (w : World) : IsLane S w (.agg #[.slice none 0 0, .int .i64 0, .int .i64 0, .int .i64 0, .slice none 0 0]) Lane.Ln.zero :=
  ⟨none, 0, 0, none, 0, 0, rfl, RdE.nil_ S w, Rd.nil_ w, Within.zero _ _⟩
theorem IsLane.cells (h : IsLane S w v l) : ∃ r : Array Value, v = .agg r ∧ r.size = 5 ∧ r.all (·.oneCell') = true := by
  obtain ⟨A, n, c, B, m, d, rfl, h1, h2, h3⟩ := h
  exact ⟨_, rfl, rfl, by simp [Value.oneCell']⟩
end
end Go.Proofs.Ytmlmkkfieeaejaa
