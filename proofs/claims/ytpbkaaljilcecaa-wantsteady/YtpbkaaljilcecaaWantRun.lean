/- Want's loops in numbers: windows on end, and runs of windows that ask. No program is named here. -/
import Derived.Test.YtpbkaaljilcecaaWantMath
set_option maxRecDepth 100000
namespace Go.Proofs.Ytpbkaaljilcecaa
open Go.RowKit
set_option linter.unusedVariables false

namespace Want
theorem turn_more {j n k : Int} (h : (j - 1) % n = k) (h0 : 0 ≤ k) (h1 : k + 1 < n) : j % n = k + 1 := by
  have e := Int.emod_add_emod (j - 1) n 1
  rw [h, show j - 1 + 1 = j by omega, Int.emod_eq_of_lt (by omega) h1] at e
  exact e.symm
theorem turn_full {j n k : Int} (h : (j - 1) % n = k) (h1 : k + 1 = n) : j % n = 0 := by
  have e := Int.emod_add_emod (j - 1) n 1
  rw [h, show j - 1 + 1 = j by omega, h1, Int.emod_self] at e
  exact e.symm
/-- Hits ahead of window j, of levels that all ask, or none. -/
def Steady (a : Bool) (n : Int) (j : Nat) (k : Int) : Prop := (a = false ∧ k = 0) ∨ (a = true ∧ ((j : Int) - 1) % n = k)
theorem Steady.start (a : Bool) (n : Int) : Steady a n 1 0 := by
  cases a with
  | false => exact .inl ⟨rfl, rfl⟩
  | true => exact .inr ⟨rfl, by simp⟩
theorem Steady.not (n : Int) (j : Nat) : Steady false n j 0 := .inl ⟨rfl, rfl⟩
theorem Steady.more {n k : Int} {j : Nat} (h : ((j : Int) - 1) % n = k) (h0 : 0 ≤ k) (h1 : k + 1 < n) : Steady true n (j + 1) (k + 1) := by
  have e := turn_more h h0 h1
  exact .inr ⟨rfl, by rw [show ((j + 1 : Nat) : Int) - 1 = (j : Int) by omega]; exact e⟩
theorem Steady.full {n k : Int} {j : Nat} (h : ((j : Int) - 1) % n = k) (h1 : k + 1 = n) : Steady true n (j + 1) 0 := by
  have e := turn_full h h1
  exact .inr ⟨rfl, by rw [show ((j + 1 : Nat) : Int) - 1 = (j : Int) by omega]; exact e⟩
end Want
end Go.Proofs.Ytpbkaaljilcecaa
