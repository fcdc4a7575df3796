/- Small facts for the laws of net. -/
import Derived.Test.YtenefjkgnkelgaaNetShown
set_option maxRecDepth 100000
namespace Go.Proofs.Ytenefjkgnkelgaa
open Go.RowKit
set_option linter.unusedVariables false

theorem few60 (A : Option Addr) (n c : Nat) (ls : List Lt) (w : World) (h : RdL w A n c ls) (t : Bool) (ht : few ls 60 = t) :
    Calls Try.prog 10 #[.slice A n c, .int .i64 60] w fun e w' => e = .returned (.bool t) ∧ w = w' := by
  have := few_any A n c ls 60 w h
  rw [ht] at this
  exact this
theorem rsame_is' (A : Option Addr) (n c : Nat) (la : List Lt) (B : Option Addr) (m d : Nat) (lb : List Lt) (w : World) (h : RdL w A n c la) (h' : RdL w B m d lb) (t : Bool) (ht : decide (la = lb) = t) :
    Calls Try.prog 19 #[.slice A n c, .slice B m d] w (Says w t) := by
  have := rsame_any A n c la B m d lb w h h'
  rw [ht] at this
  exact this
theorem rsame_yes (A : Option Addr) (n c : Nat) (la : List Lt) (B : Option Addr) (m d : Nat) (w : World) (h : RdL w A n c la) (h' : RdL w B m d la) :
    Calls Try.prog 19 #[.slice A n c, .slice B m d] w (Says w true) := rsame_is' A n c la B m d la w h h' true (by simp)
end Go.Proofs.Ytenefjkgnkelgaa
