/- An item that came in, opened to its parts. -/
import Derived.Test.YtkkkfaelpmmffaaItem5
import Derived.Test.YtkkkfaelpmmffaaOpen
set_option maxRecDepth 100000
namespace Go.Proofs.Ytkkkfaelpmmffaa
open Go.RowKit Go.ChangeShapes Go.WideShapes Go.ChangeAt
set_option linter.unusedVariables false

theorem item_open {W : World} {r : Reach} {b0 : Nat} {v : Value} (o : Value.okWide Try.prog W r b0 28 v) (h : Tr Try.prog W 28 v.cells.toList) : ∃ x, IsItem W v x := by
  have c25 : Try.prog.cellsOf 28 = 8 := by kernel_rfl
  obtain ⟨cs, rfl, hsz⟩ := okWide_struct Try.underlying28 o
  obtain ⟨l⟩ := cs
  obtain ⟨_, hall⟩ := h.struct Try.underlying28
  match l, hsz.trans c25 with
  | [v0, v1, v2, v3, v4, v5, v6, v7], _ =>
    have h0 := hall 0 _ rfl
    have h1 := hall 1 _ rfl
    have h2 := hall 2 _ rfl
    have h3 := hall 3 _ rfl
    have h4 := hall 4 _ rfl
    have h5 := hall 5 _ rfl
    have h6 := hall 6 _ rfl
    have h7 := hall 7 _ rfl
    simp only [Value.cells] at h0 h1 h2 h3 h4 h5 h6 h7
    obtain ⟨k, e0, _⟩ := h0.int Try.underlying3
    obtain ⟨q, e1, _⟩ := h1.int Try.underlying3
    obtain ⟨e, e2, _⟩ := h2.int Try.underlying3
    obtain ⟨i, e3, _⟩ := h3.int Try.underlying3
    obtain ⟨t, e4, _⟩ := h4.int Try.underlying3
    obtain ⟨c, e5, _⟩ := h5.int Try.underlying3
    obtain ⟨LA, ln, lc, L, e6, rl⟩ := h6.ints Try.underlying25 Try.underlying3 (by kernel_rfl)
    obtain ⟨BA, bn, bc, B, e7, rb⟩ := h7.bytes Try.underlying26 Try.underlying5 (by kernel_rfl)
    injection e0 with e0
    injection e1 with e1
    injection e2 with e2
    injection e3 with e3
    injection e4 with e4
    injection e5 with e5
    injection e6 with e6
    injection e7 with e7
    subst e0 e1 e2 e3 e4 e5 e6 e7
    exact ⟨⟨k, q, e, i, t, c, L, B⟩, LA, ln, lc, BA, bn, bc, rfl, rl, rb⟩
theorem bytes_open {W : World} {r : Reach} {b0 : Nat} {v : Value} (o : Value.okWide Try.prog W r b0 26 v) (h : Tr Try.prog W 26 v.cells.toList) : ∃ A n c l, v = .slice A n c ∧ Rd W A n c l := by
  obtain ⟨a, m, c, rfl⟩ := okWide_slice Try.underlying26 o
  obtain ⟨A, m', d, l, ha, hr⟩ := h.bytes Try.underlying26 Try.underlying5 (by kernel_rfl)
  obtain ⟨rfl, rfl, rfl⟩ : a = A ∧ m = m' ∧ c = d := by simpa [Value.cells] using ha
  exact ⟨a, m, c, l, rfl, hr⟩
end Go.Proofs.Ytkkkfaelpmmffaa
