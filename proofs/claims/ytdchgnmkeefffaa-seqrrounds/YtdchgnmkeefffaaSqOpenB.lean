/- What comes in of SeqrRounds, opened to its parts. -/
import Derived.Test.YtdchgnmkeefffaaSqOpen
set_option maxRecDepth 100000
namespace Go.Proofs.Ytdchgnmkeefffaa
open Go.RowKit Go.ChangeShapes Go.WideShapes Go.ChangeAt
set_option linter.unusedVariables false

theorem bytes_open {W : World} {r : Reach} {b0 : Nat} {v : Value} (o : Value.okWide Try.prog W r b0 33 v) (h : Tr Try.prog W 33 v.cells.toList) : ∃ A n c l, v = .slice A n c ∧ Rd W A n c l := by
  obtain ⟨a, m, c, rfl⟩ := okWide_slice Try.underlying33 o
  obtain ⟨A, m', d, ls, ha, hr⟩ := h.bytes Try.underlying33 Try.underlying5 (by kernel_rfl)
  obtain ⟨rfl, rfl, rfl⟩ : a = A ∧ m = m' ∧ c = d := by simpa [Value.cells] using ha
  exact ⟨a, m, c, ls, rfl, hr⟩
end Go.Proofs.Ytdchgnmkeefffaa
