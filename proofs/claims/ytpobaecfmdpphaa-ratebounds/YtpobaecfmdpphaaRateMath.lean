/- Buckets in numbers. No program is named here. -/
import Derived.Test.YtpobaecfmdpphaaOpen
set_option maxRecDepth 100000
namespace Go.Proofs.Ytpobaecfmdpphaa.Rate
open Go.RowKit
set_option linter.unusedVariables false

/-- May bounds be? -/
def may (least most burst : Int) : Bool := decide (1 ≤ least) && (decide (least ≤ most) && (decide (most ≤ 1048576) && (decide (1 ≤ burst) && decide (burst ≤ 1048576))))
/-- Is a bucket right for them? -/
def right (n l least most burst : Int) : Bool := may least most burst && (decide (least ≤ n) && (decide (n ≤ most) && (decide (0 ≤ l) && decide (l ≤ burst))))
theorem may_iff {least most burst : Int} : may least most burst = true ↔ 1 ≤ least ∧ least ≤ most ∧ most ≤ 1048576 ∧ 1 ≤ burst ∧ burst ≤ 1048576 := by simp [may]
theorem right_iff {n l least most burst : Int} : right n l least most burst = true ↔ (1 ≤ least ∧ least ≤ most ∧ most ≤ 1048576 ∧ 1 ≤ burst ∧ burst ≤ 1048576) ∧ least ≤ n ∧ n ≤ most ∧ 0 ≤ l ∧ l ≤ burst := by simp [right, may]
/-- What is refilled at a tick. -/
def more (n least most naks : Int) : Int := if 0 < naks then (if n / 2 < least then least else n / 2) else (if most < n + 1 then most else n + 1)
/-- What is left behind a tick that refills m. -/
def left (l m burst : Int) : Int := if burst < l + m then burst else l + m
/-- Is there so much? -/
def yes (l n : Int) : Bool := decide (0 ≤ n) && decide (n ≤ l)
def spend (l n : Int) : Int := if yes l n then l - n else l
theorem more_gap {naks : Int} (n least most : Int) (h : 0 < naks) : more n least most naks = if n / 2 < least then least else n / 2 := by rw [more, if_pos h]
theorem more_none {naks : Int} (n least most : Int) (h : ¬ 0 < naks) : more n least most naks = if most < n + 1 then most else n + 1 := by rw [more, if_neg h]
theorem more_in {n least most : Int} (naks : Int) (h : 1 ≤ least) (h1 : least ≤ n) (h2 : n ≤ most) : least ≤ more n least most naks ∧ more n least most naks ≤ most := by
  unfold more
  constructor
  all_goals (split <;> split <;> omega)
theorem left_in {l m burst : Int} (h : 0 ≤ l) (h1 : l ≤ burst) (h2 : 1 ≤ m) : l ≤ left l m burst ∧ left l m burst ≤ burst := by
  unfold left
  constructor
  all_goals (split <;> omega)
theorem right_tick {n l least most burst : Int} (naks : Int) (h : right n l least most burst = true) : right (more n least most naks) (left l (more n least most naks) burst) least most burst = true := by
  obtain ⟨⟨h1, h2, h3, h4, h5⟩, h6, h7, h8, h9⟩ := right_iff.1 h
  obtain ⟨a1, a2⟩ := more_in naks h1 h6 h7
  obtain ⟨b1, b2⟩ := left_in (m := more n least most naks) h8 h9 (by omega)
  exact right_iff.2 ⟨⟨h1, h2, h3, h4, h5⟩, a1, a2, by omega, b2⟩
theorem yes_iff {l n : Int} : yes l n = true ↔ 0 ≤ n ∧ n ≤ l := by simp [yes]
theorem yes_not {l n : Int} (h : yes l n = false) : ¬ (0 ≤ n ∧ n ≤ l) := by
  intro k
  rw [yes_iff.2 k] at h
  cases h
theorem right_spend {n l least most burst : Int} (k : Int) (h : right n l least most burst = true) : right n (spend l k) least most burst = true := by
  obtain ⟨⟨h1, h2, h3, h4, h5⟩, h6, h7, h8, h9⟩ := right_iff.1 h
  unfold spend
  split
  · rename_i e
    obtain ⟨e1, e2⟩ := yes_iff.1 e
    exact right_iff.2 ⟨⟨h1, h2, h3, h4, h5⟩, h6, h7, by omega, by omega⟩
  · exact h
theorem right_start {least most burst : Int} (h : may least most burst = true) : right most burst least most burst = true := by
  obtain ⟨h1, h2, h3, h4, h5⟩ := may_iff.1 h
  exact right_iff.2 ⟨⟨h1, h2, h3, h4, h5⟩, by omega, by omega, by omega, by omega⟩
end Go.Proofs.Ytpobaecfmdpphaa.Rate
