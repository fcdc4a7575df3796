/- Loads in numbers. No program is named here. -/
import Derived.Test.YtahcofejjfdbbaaOpen
set_option maxRecDepth 100000
namespace Go.Proofs.Ytahcofejjfdbbaa.Meter
open Go.RowKit
set_option linter.unusedVariables false

/-- Is a load right? -/
def right (a m b : Int) : Bool := decide (0 ≤ a) && (decide (a ≤ 1000) && (decide (0 ≤ m) && (decide (m ≤ 1099511627776) && (decide (0 ≤ b) && decide (b ≤ 1099511627776)))))
/-- May numbers be added, and may a window be? -/
def may (m b w : Int) : Bool := decide (0 ≤ m) && (decide (m ≤ 1099511627776) && (decide (0 ≤ b) && (decide (b ≤ 1099511627776) && (decide (1 ≤ w) && decide (w ≤ 1000)))))
theorem right_iff {a m b : Int} : right a m b = true ↔ 0 ≤ a ∧ a ≤ 1000 ∧ 0 ≤ m ∧ m ≤ 1099511627776 ∧ 0 ≤ b ∧ b ≤ 1099511627776 := by simp [right]
theorem may_iff {m b w : Int} : may m b w = true ↔ 0 ≤ m ∧ m ≤ 1099511627776 ∧ 0 ≤ b ∧ b ≤ 1099511627776 ∧ 1 ≤ w ∧ w ≤ 1000 := by simp [may]
/-- A sum, 2^40 at most. -/
def cap (n : Int) : Int := if 1099511627776 < n then 1099511627776 else n
theorem cap_in {n : Int} (h : 0 ≤ n) : 0 ≤ cap n ∧ cap n ≤ 1099511627776 := by
  unfold cap
  split <;> omega
theorem cap_le {n : Int} (h : n ≤ 1099511627776) : cap n = n := by
  unfold cap
  rw [if_neg (by omega)]
theorem cap_cap {n k : Int} (hk : 0 ≤ k) : cap (cap n + k) = cap (n + k) := by
  unfold cap
  repeat' split
  all_goals omega
theorem cap_mono {n k : Int} (h : n ≤ k) : cap n ≤ cap k := by
  unfold cap
  split <;> split <;> omega
theorem cap_more {n k : Int} (h0 : n ≤ 1099511627776) (hk : 0 ≤ k) : n ≤ cap (n + k) := by
  unfold cap
  split <;> omega
end Go.Proofs.Ytahcofejjfdbbaa.Meter
