/- Rows of items, and streams, in memory. -/
import Derived.Test.YtkkkfaelpmmffaaRowK
import Derived.Test.YtkkkfaelpmmffaaItem5
import Derived.Test.YtkkkfaelpmmffaaKeepMath
set_option maxRecDepth 100000
namespace Go.Proofs.Ytkkkfaelpmmffaa
open Go.RowKit
set_option linter.unusedVariables false

theorem info8 : (Try.prog.info? 28).map (fun i => (i.zero, i.size, i.bytes)) = some (some (.agg #[.int .i64 0, .int .i64 0, .int .i64 0, .int .i64 0, .int .i64 0, .int .i64 0, .slice none 0 0, .slice none 0 0]), 8, 96) := by kernel_rfl
theorem size8 : (Try.prog.info? 28).map (·.size) = some 8 := by kernel_rfl
theorem IsItem.cells {w : World} {v : Value} {x : Item.It} (h : IsItem w v x) : ∃ r : Array Value, v = .agg r ∧ r.size = 8 ∧ r.all (·.oneCell') = true := by
  obtain ⟨LA, ln, lc, BA, bn, bc, rfl, h1, h2⟩ := h
  exact ⟨_, rfl, rfl, by simp [Value.oneCell']⟩
theorem IsItem.zero (w : World) : IsItem w (.agg #[.int .i64 0, .int .i64 0, .int .i64 0, .int .i64 0, .int .i64 0, .int .i64 0, .slice none 0 0, .slice none 0 0]) Item.It.zero := ⟨none, 0, 0, none, 0, 0, rfl, RdV.nil_ w, Rd.nil_ w⟩
/-- The second cell of an item's is its number. -/
theorem IsItem.q {w : World} {r : Array Value} {x : Item.It} (h : IsItem w (.agg r) x) : r[1]? = some (.int .i64 x.q) := by
  obtain ⟨LA, ln, lc, BA, bn, bc, e, h1, h2⟩ := h
  injection e with e
  subst e
  rfl
theorem IsItem.setq {w : World} {k q e i t c : Int} {l b : Value} {x : Item.It} (h : IsItem w (.agg #[.int .i64 k, .int .i64 q, .int .i64 e, .int .i64 i, .int .i64 t, .int .i64 c, l, b]) x) (q' : Int) :
    IsItem w (.agg #[.int .i64 k, .int .i64 q', .int .i64 e, .int .i64 i, .int .i64 t, .int .i64 c, l, b]) (Keep.wq x q') := by
  obtain ⟨LA, ln, lc, BA, bn, bc, e, h1, h2⟩ := h
  injection e with e
  simp only [Array.mk.injEq, List.cons.injEq, Value.int.injEq, true_and, and_true] at e
  obtain ⟨rfl, rfl, rfl, rfl, rfl, rfl, rfl, rfl⟩ := e
  exact ⟨LA, ln, lc, BA, bn, bc, rfl, h1, h2⟩

/-- Structs that are items. -/
def AreI (w : World) (rs : List (Array Value)) (xs : List Item.It) : Prop := rs.length = xs.length ∧ ∀ (i : Nat) (r : Array Value) (x : Item.It), rs[i]? = some r → xs[i]? = some x → IsItem w (.agg r) x
section
variable {w w' : World} {rs ss : List (Array Value)} {xs ys : List Item.It}
theorem AreI.below (h : AreI w rs xs) (hb : Below w.heap.size w w') : AreI w' rs xs := ⟨h.1, fun i r x h1 h2 => (h.2 i r x h1 h2).below hb⟩
theorem AreI.nil_ (w : World) : AreI w [] [] := ⟨rfl, fun i t x h => by simp at h⟩
theorem AreI.take (h : AreI w rs xs) (k : Nat) : AreI w (rs.take k) (xs.take k) := by
  refine ⟨by simp [h.1], fun i t x h1 h2 => ?_⟩
  rw [List.getElem?_take] at h1 h2
  split at h1
  · rename_i hi
    rw [if_pos hi] at h2
    exact h.2 i t x h1 h2
  · cases h1
theorem AreI.drop (h : AreI w rs xs) (k : Nat) : AreI w (rs.drop k) (xs.drop k) := by
  refine ⟨by simp [h.1], fun i t x h1 h2 => ?_⟩
  rw [List.getElem?_drop] at h1 h2
  exact h.2 _ t x h1 h2
theorem AreI.app (h : AreI w rs xs) (h2 : AreI w ss ys) : AreI w (rs ++ ss) (xs ++ ys) := by
  refine ⟨by simp [h.1, h2.1], fun i t x h3 h4 => ?_⟩
  by_cases hi : i < rs.length
  · rw [List.getElem?_append_left hi] at h3
    rw [List.getElem?_append_left (by rw [← h.1]; exact hi)] at h4
    exact h.2 i t x h3 h4
  · rw [List.getElem?_append_right (by omega)] at h3
    rw [List.getElem?_append_right (by rw [← h.1]; omega), ← h.1] at h4
    exact h2.2 _ t x h3 h4
theorem AreI.one {r : Array Value} {x : Item.It} (h : IsItem w (.agg r) x) : AreI w [r] [x] := by
  refine ⟨rfl, fun i t' x' h1 h2 => ?_⟩
  cases i with
  | zero =>
    simp only [List.getElem?_cons_zero, Option.some.injEq] at h1 h2
    subst h1; subst h2
    exact h
  | succ i => simp at h1
end
/-- A slice of items. -/
def RdX (w : World) (A : Option Addr) (n c : Nat) (xs : List Item.It) : Prop := ∃ rs, RdK 8 w A n c rs ∧ AreI w rs xs
section
variable {w w' : World} {A : Option Addr} {n c : Nat} {xs : List Item.It}
theorem RdX.below (h : RdX w A n c xs) (hb : Below w.heap.size w w') : RdX w' A n c xs := by
  obtain ⟨rs, h1, h2⟩ := h
  exact ⟨rs, h1.below hb, h2.below hb⟩
theorem RdX.size (h : RdX w A n c xs) : xs.length = n := by
  obtain ⟨rs, h1, h2⟩ := h
  rw [← h2.1]; exact h1.size
theorem RdX.cap (h : RdX w A n c xs) : n ≤ c := by
  obtain ⟨rs, h1, h2⟩ := h
  exact h1.cap
theorem RdX.cmax (h : RdX w A n c xs) : c ≤ 9223372036854775807 := by
  obtain ⟨rs, h1, h2⟩ := h
  exact h1.cmax
theorem RdX.le (h : RdX w A n c xs) : n ≤ 9223372036854775807 := by have := h.cap; have := h.cmax; omega
theorem RdX.nil_ (w : World) : RdX w none 0 0 [] := ⟨[], RdK.nil_ 8 w, AreI.nil_ w⟩
theorem RdX.nilA (h : RdX w none n c xs) : n = 0 ∧ c = 0 ∧ xs = [] := by
  have hs := h.size
  obtain ⟨rs, h1, h2⟩ := h
  obtain ⟨rfl, rfl, rfl⟩ := h1.nilA
  exact ⟨rfl, rfl, List.eq_nil_of_length_eq_zero hs⟩
theorem RdX.addr (h : RdX w A n c xs) (h0 : 0 < n) : ∃ b o, A = some ⟨b, o, none⟩ := by
  obtain ⟨rs, h1, h2⟩ := h
  exact h1.addr h0
theorem RdX.take (h : RdX w A n c xs) {k : Nat} (hk : k ≤ n) : RdX w A k c (xs.take k) := by
  obtain ⟨rs, h1, h2⟩ := h
  exact ⟨_, h1.take hk, h2.take k⟩
theorem RdX.recap (h : RdX w A n c xs) (d : Nat) (hd : n ≤ d) (hdc : d ≤ c) : RdX w A n d xs := by
  obtain ⟨rs, ⟨h0, h1, h2, h3, h4, h5⟩, h6⟩ := h
  exact ⟨rs, ⟨h0, h1, hd, by omega, fun hA => by have := h4 hA; omega, h5⟩, h6⟩
theorem RdX.drop {b o : Nat} (h : RdX w (some ⟨b, o, none⟩) n c xs) {k : Nat} (hk : k ≤ n) : RdX w (some ⟨b, o + k * 8, none⟩) (n - k) (c - k) (xs.drop k) := by
  obtain ⟨rs, h1, h2⟩ := h
  exact ⟨_, h1.drop hk, h2.drop k⟩
/-- One of its items: its cells are letters. -/
theorem RdX.at_ (h : RdX w A n c xs) {i : Nat} (hi : i < n) :
    ∃ b o r x, A = some ⟨b, o, none⟩ ∧ xs[i]? = some x ∧ r.size = 8 ∧ r.all (·.oneCell') = true ∧ IsItem w (.agg r) x ∧ ∀ j u, r[j]? = some u → w.cell? ⟨b, o + i * 8 + j, none⟩ = some u := by
  have hs := h.size
  obtain ⟨rs, h1, h2⟩ := h
  obtain ⟨b, o, r, hA, hr, hsz, hc⟩ := h1.at_ hi
  have hx := List.getElem?_eq_getElem (show i < xs.length by omega)
  exact ⟨b, o, r, _, hA, hx, hsz, (h1.all.at_ hr).2, h2.2 i r _ hr hx, hc⟩
end
/-- An item is loaded whole, out of the middle of a row. -/
theorem ldX {w : World} {b o : Nat} {r : Array Value} (hs : r.size = 8) (hc : ∀ j u, r[j]? = some u → w.cell? ⟨b, o + j, none⟩ = some u) : (loadVar 28 ⟨b, o, none⟩).run Try.prog w = .ok (.agg r) w :=
  run_ldK hc Try.underlying28 rfl (by rw [hs]; exact size8)

/-- A stream as a value. -/
def IsKeep (w : World) (v : Value) (k : Keep.Kp) : Prop := ∃ A n c, v = .agg #[.int .i64 k.next, .slice A n c] ∧ RdX w A n c k.l
theorem IsKeep.below {w w' : World} {v : Value} {k : Keep.Kp} (h : IsKeep w v k) (hb : Below w.heap.size w w') : IsKeep w' v k := by
  obtain ⟨A, n, c, rfl, hr⟩ := h
  exact ⟨A, n, c, rfl, hr.below hb⟩
end Go.Proofs.Ytkkkfaelpmmffaa
