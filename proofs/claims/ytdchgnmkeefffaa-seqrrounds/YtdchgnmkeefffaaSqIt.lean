/- Rows of items in memory. -/
import Derived.Test.YtdchgnmkeefffaaSqMem
set_option maxRecDepth 100000
namespace Go.Proofs.Ytdchgnmkeefffaa
open Go.RowKit
set_option linter.unusedVariables false

/-- An item, as a value, whose lists lie in such blocks. -/
def IsItS (S : Nat → Prop) (w : World) (v : Value) (x : Item.It) : Prop := ∃ LA ln lc BA bn bc, v = .agg #[.int .i64 x.k, .int .i64 x.q, .int .i64 x.e, .int .i64 x.i, .int .i64 x.t, .int .i64 x.c, .slice LA ln lc, .slice BA bn bc] ∧ RdI w LA ln lc x.l ∧ Rd w BA bn bc x.b ∧ Within S LA ln ∧ Within S BA bn
section
variable {S T : Nat → Prop} {w w' : World} {v : Value} {x : Item.It}
theorem IsItS.keptS (h : IsItS S w v x) (hk : KeptS S w w') : IsItS S w' v x := by
  obtain ⟨LA, ln, lc, BA, bn, bc, rfl, h1, h2, h3, h4⟩ := h
  exact ⟨LA, ln, lc, BA, bn, bc, rfl, RdV.keptS h1 h3 hk, h2.keptS h4 hk, h3, h4⟩
theorem IsItS.below (h : IsItS S w v x) (hb : Below w.heap.size w w') : IsItS S w' v x := h.keptS (KeptS.below S hb)
theorem IsItS.mono (h : IsItS S w v x) (hs : ∀ b, S b → T b) : IsItS T w v x := by
  obtain ⟨LA, ln, lc, BA, bn, bc, rfl, h1, h2, h3, h4⟩ := h
  exact ⟨LA, ln, lc, BA, bn, bc, rfl, h1, h2, h3.mono hs, h4.mono hs⟩
theorem IsItS.cells (h : IsItS S w v x) : ∃ r : Array Value, v = .agg r ∧ r.size = 8 ∧ r.all (·.oneCell') = true := by
  obtain ⟨LA, ln, lc, BA, bn, bc, rfl, h1, h2, h3, h4⟩ := h
  exact ⟨_, rfl, rfl, by simp [Value.oneCell']⟩
theorem IsItS.item (h : IsItS S w v x) : IsItem w v x := by
  obtain ⟨LA, ln, lc, BA, bn, bc, rfl, h1, h2, h3, h4⟩ := h
  exact ⟨LA, ln, lc, BA, bn, bc, rfl, h1, h2⟩
end
/-- Structs that are items. -/
def AreX (S : Nat → Prop) (w : World) (rs : List (Array Value)) (xs : List Item.It) : Prop := rs.length = xs.length ∧ ∀ (i : Nat) (r : Array Value) (x : Item.It), rs[i]? = some r → xs[i]? = some x → IsItS S w (.agg r) x
section
variable {S T : Nat → Prop} {w w' : World} {rs ss : List (Array Value)} {xs ys : List Item.It}
theorem AreX.keptS (h : AreX S w rs xs) (hk : KeptS S w w') : AreX S w' rs xs := ⟨h.1, fun i r x h1 h2 => (h.2 i r x h1 h2).keptS hk⟩
theorem AreX.below (h : AreX S w rs xs) (hb : Below w.heap.size w w') : AreX S w' rs xs := h.keptS (KeptS.below S hb)
theorem AreX.mono (h : AreX S w rs xs) (hs : ∀ b, S b → T b) : AreX T w rs xs := ⟨h.1, fun i r x h1 h2 => (h.2 i r x h1 h2).mono hs⟩
theorem AreX.nil_ (S : Nat → Prop) (w : World) : AreX S w [] [] := ⟨rfl, fun i t x h => by simp at h⟩
theorem AreX.take (h : AreX S w rs xs) (k : Nat) : AreX S w (rs.take k) (xs.take k) := by
  refine ⟨by simp [h.1], fun i t x h1 h2 => ?_⟩
  rw [List.getElem?_take] at h1 h2
  split at h1
  · rename_i hi
    rw [if_pos hi] at h2
    exact h.2 i t x h1 h2
  · cases h1
theorem AreX.drop (h : AreX S w rs xs) (k : Nat) : AreX S w (rs.drop k) (xs.drop k) := by
  refine ⟨by simp [h.1], fun i t x h1 h2 => ?_⟩
  rw [List.getElem?_drop] at h1 h2
  exact h.2 _ t x h1 h2
theorem AreX.app (h : AreX S w rs xs) (h2 : AreX S w ss ys) : AreX S w (rs ++ ss) (xs ++ ys) := by
  refine ⟨by simp [h.1, h2.1], fun i t x h3 h4 => ?_⟩
  by_cases hi : i < rs.length
  · rw [List.getElem?_append_left hi] at h3
    rw [List.getElem?_append_left (by rw [← h.1]; exact hi)] at h4
    exact h.2 i t x h3 h4
  · rw [List.getElem?_append_right (by omega)] at h3
    rw [List.getElem?_append_right (by rw [← h.1]; omega), ← h.1] at h4
    exact h2.2 _ t x h3 h4
theorem AreX.one {r : Array Value} {x : Item.It} (h : IsItS S w (.agg r) x) : AreX S w [r] [x] := by
  refine ⟨rfl, fun i t' x' h1 h2 => ?_⟩
  cases i with
  | zero =>
    simp only [List.getElem?_cons_zero, Option.some.injEq] at h1 h2
    subst h1; subst h2
    exact h
  | succ i => simp at h1
end
/-- A slice of items. -/
def RdX (S : Nat → Prop) (w : World) (A : Option Addr) (n c : Nat) (xs : List Item.It) : Prop := ∃ rs, RdK 8 w A n c rs ∧ AreX S w rs xs ∧ Within S A n
section
variable {S T : Nat → Prop} {w w' : World} {A : Option Addr} {n c : Nat} {xs : List Item.It}
theorem RdX.keptS (h : RdX S w A n c xs) (hk : KeptS S w w') : RdX S w' A n c xs := by
  obtain ⟨rs, h1, h2, h3⟩ := h
  exact ⟨rs, h1.keptS h3 hk, h2.keptS hk, h3⟩
theorem RdX.below (h : RdX S w A n c xs) (hb : Below w.heap.size w w') : RdX S w' A n c xs := h.keptS (KeptS.below S hb)
theorem RdX.mono (h : RdX S w A n c xs) (hs : ∀ b, S b → T b) : RdX T w A n c xs := by
  obtain ⟨rs, h1, h2, h3⟩ := h
  exact ⟨rs, h1, h2.mono hs, h3.mono hs⟩
theorem RdX.size (h : RdX S w A n c xs) : xs.length = n := by
  obtain ⟨rs, h1, h2, _⟩ := h
  rw [← h2.1]; exact h1.size
theorem RdX.cap (h : RdX S w A n c xs) : n ≤ c := by
  obtain ⟨rs, h1, _⟩ := h
  exact h1.cap
theorem RdX.cmax (h : RdX S w A n c xs) : c ≤ 9223372036854775807 := by
  obtain ⟨rs, h1, _⟩ := h
  exact h1.cmax
theorem RdX.le (h : RdX S w A n c xs) : n ≤ 9223372036854775807 := by have := h.cap; have := h.cmax; omega
theorem RdX.nil_ (S : Nat → Prop) (w : World) : RdX S w none 0 0 [] := ⟨[], RdK.nil_ 8 w, AreX.nil_ S w, Within.zero _ _⟩
theorem RdX.empty (S : Nat → Prop) (w : World) (A : Option Addr) : RdX S w A 0 0 [] := ⟨[], RdK.empty 8 w A, AreX.nil_ S w, Within.zero _ _⟩
theorem RdX.nilA (h : RdX S w none n c xs) : n = 0 ∧ c = 0 ∧ xs = [] := by
  have hs := h.size
  obtain ⟨rs, h1, h2, _⟩ := h
  obtain ⟨rfl, rfl, rfl⟩ := h1.nilA
  exact ⟨rfl, rfl, List.eq_nil_of_length_eq_zero hs⟩
theorem RdX.addr (h : RdX S w A n c xs) (h0 : 0 < n) : ∃ b o, A = some ⟨b, o, none⟩ := by
  obtain ⟨rs, h1, _⟩ := h
  exact h1.addr h0
theorem RdX.take (h : RdX S w A n c xs) {k : Nat} (hk : k ≤ n) : RdX S w A k c (xs.take k) := by
  obtain ⟨rs, h1, h2, h3⟩ := h
  exact ⟨_, h1.take hk, h2.take k, h3.less hk⟩
theorem RdX.takeC (h : RdX S w A n c xs) {k d : Nat} (hk : k ≤ n) (hd : k ≤ d) (hdc : d ≤ c) : RdX S w A k d (xs.take k) := by
  obtain ⟨rs, h1, h2, h3⟩ := h
  exact ⟨_, h1.takeC hk hd hdc, h2.take k, h3.less hk⟩
theorem RdX.drop {b o : Nat} (h : RdX S w (some ⟨b, o, none⟩) n c xs) {k : Nat} (hk : k ≤ n) : RdX S w (some ⟨b, o + k * 8, none⟩) (n - k) (c - k) (xs.drop k) := by
  obtain ⟨rs, h1, h2, h3⟩ := h
  refine ⟨_, h1.drop hk, h2.drop k, fun h0 b' o' hA => ?_⟩
  injection hA with hA
  injection hA with e1 e2
  subst e1
  exact h3 (by omega) b o rfl
/-- One of its items: its cells are letters. -/
theorem RdX.at_ (h : RdX S w A n c xs) {i : Nat} (hi : i < n) :
    ∃ b o r x, A = some ⟨b, o, none⟩ ∧ xs[i]? = some x ∧ r.size = 8 ∧ r.all (·.oneCell') = true ∧ IsItS S w (.agg r) x ∧ ∀ j u, r[j]? = some u → w.cell? ⟨b, o + i * 8 + j, none⟩ = some u := by
  have hs := h.size
  obtain ⟨rs, h1, h2, _⟩ := h
  obtain ⟨b, o, r, hA, hr, hsz, hc⟩ := h1.at_ hi
  have hx := List.getElem?_eq_getElem (show i < xs.length by omega)
  exact ⟨b, o, r, _, hA, hx, hsz, (h1.all.at_ hr).2, h2.2 i r _ hr hx, hc⟩
end

/-- One of its items, its cells told one by one, in every later world. -/
theorem RdX.told {S : Nat → Prop} {w : World} {A : Option Addr} {n c : Nat} {xs : List Item.It} (h : RdX S w A n c xs) {i : Nat} (hi : i < n) :
    ∃ b o x LA ln lc BA bn bc, A = some ⟨b, o, none⟩ ∧ xs[i]? = some x ∧ IsItS S w (.agg #[.int .i64 x.k, .int .i64 x.q, .int .i64 x.e, .int .i64 x.i, .int .i64 x.t, .int .i64 x.c, .slice LA ln lc, .slice BA bn bc]) x ∧
      ∀ w', Below w.heap.size w w' → w'.cell? ⟨b, o + i * 8, none⟩ = some (.int .i64 x.k) ∧ w'.cell? ⟨b, o + i * 8 + 1, none⟩ = some (.int .i64 x.q) ∧ w'.cell? ⟨b, o + i * 8 + 2, none⟩ = some (.int .i64 x.e) ∧ w'.cell? ⟨b, o + i * 8 + 3, none⟩ = some (.int .i64 x.i) ∧
        w'.cell? ⟨b, o + i * 8 + 4, none⟩ = some (.int .i64 x.t) ∧ w'.cell? ⟨b, o + i * 8 + 5, none⟩ = some (.int .i64 x.c) ∧ w'.cell? ⟨b, o + i * 8 + 6, none⟩ = some (.slice LA ln lc) ∧ w'.cell? ⟨b, o + i * 8 + 7, none⟩ = some (.slice BA bn bc) := by
  obtain ⟨b, o, r, x, hA, hx, hsz, _, hi2, hc⟩ := h.at_ hi
  obtain ⟨LA, ln, lc, BA, bn, bc, hv, h1, h2, h3, h4⟩ := id hi2
  injection hv with hv
  subst hv
  refine ⟨b, o, x, LA, ln, lc, BA, bn, bc, hA, hx, hi2, fun w' hb => ?_⟩
  have kk : ∀ j u, (#[.int .i64 x.k, .int .i64 x.q, .int .i64 x.e, .int .i64 x.i, .int .i64 x.t, .int .i64 x.c, .slice LA ln lc, .slice BA bn bc] : Array Value)[j]? = some u → w'.cell? ⟨b, o + i * 8 + j, none⟩ = some u := fun j u hu => (hb.cell (World.block_lt_of_cell? w _ (hc j u hu))).trans (hc j u hu)
  exact ⟨kk 0 _ rfl, kk 1 _ rfl, kk 2 _ rfl, kk 3 _ rfl, kk 4 _ rfl, kk 5 _ rfl, kk 6 _ rfl, kk 7 _ rfl⟩
end Go.Proofs.Ytdchgnmkeefffaa
