/- Which engine a load asks for, in numbers. No program is named here. -/
import Derived.Test.YtpbkaaljilcecaaHeap
set_option maxRecDepth 100000
namespace Go.Proofs.Ytpbkaaljilcecaa
open Go.RowKit
set_option linter.unusedVariables false

namespace Want
/-- Does a level ask for the other engine? -/
def asks (e level high low : Int) : Bool := if e = 0 then decide (high ≤ level) else decide (level ≤ low)
/-- Hits behind a window that asks, or doesn't. -/
def hits (a : Bool) (h n : Int) : Int := if a = true then (if h + 1 < n then h + 1 else 0) else 0
/-- Is a switch asked for? -/
def yes (a : Bool) (h n : Int) : Bool := a && decide (n ≤ h + 1)
theorem asks_seq (level high low : Int) : asks 0 level high low = decide (high ≤ level) := by simp [asks]
theorem asks_pri (level high low : Int) : asks 1 level high low = decide (level ≤ low) := by simp [asks]
theorem hits_no (h n : Int) : hits false h n = 0 := by simp [hits]
theorem yes_no (h n : Int) : yes false h n = false := rfl
theorem hits_more {h n : Int} (g : h + 1 < n) : hits true h n = h + 1 := by simp [hits, g]
theorem yes_more {h n : Int} (g : h + 1 < n) : yes true h n = false := by simp [yes]; omega
theorem hits_full {h n : Int} (g : n ≤ h + 1) : hits true h n = 0 := by
  unfold hits
  rw [if_pos rfl, if_neg (by omega)]
theorem yes_full {h n : Int} (g : n ≤ h + 1) : yes true h n = true := by simp [yes, g]
/-- May an engine, thresholds and a number of windows be? -/
def may (e high low n : Int) : Bool := decide (0 ≤ e) && (decide (e ≤ 1) && (decide (low < high) && decide (1 ≤ n)))
theorem may_iff {e high low n : Int} : may e high low n = true ↔ 0 ≤ e ∧ e ≤ 1 ∧ low < high ∧ 1 ≤ n := by simp [may]
/-- How a level lies to a threshold. -/
def side (a b : Int) : Int := if a < b then -1 else if b < a then 1 else 0
/-- A side as a float's bits. -/
def bits (c : Int) : Nat := if c = 0 then 0 else if c = 1 then 4607182418800017408 else 13830554455654793216
/-- What the parts' product with 1 or i has as its real part. -/
def isAsk (r : Bool) (c : Int) : Bool := if r = true then decide (0 ≤ c) else decide (c ≤ 0)
theorem side_cases (a b : Int) : (a < b ∧ side a b = -1) ∨ (a = b ∧ side a b = 0) ∨ (b < a ∧ side a b = 1) := by
  unfold side
  rcases Int.lt_trichotomy a b with h | h | h
  · exact .inl ⟨h, if_pos h⟩
  · subst h
    exact .inr (.inl ⟨rfl, by simp⟩)
  · exact .inr (.inr ⟨h, by rw [if_neg (by omega), if_pos h]⟩)
end Want
end Go.Proofs.Ytpbkaaljilcecaa
