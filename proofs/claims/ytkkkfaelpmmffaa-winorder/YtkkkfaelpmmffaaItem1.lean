/- What item.within, the closures of item.asks and slices.ContainsFunc come to. -/
import Derived.Test.YtkkkfaelpmmffaaItemMath
import Derived.Test.YtkkkfaelpmmffaaNumLite
set_option maxRecDepth 100000
namespace Go.Proofs.Ytkkkfaelpmmffaa
open Go.RowKit
set_option linter.unusedVariables false

def BoolIs (w : World) (b : Bool) (e : Ending) (w' : World) : Prop := e = .returned (.bool b) ∧ Below w.heap.size w w'
/-- A bool, and nothing turned or made. -/
def JustIs (w : World) (b : Bool) (e : Ending) (w' : World) : Prop := e = .returned (.bool b) ∧ w = w'

theorem within_is (n a b : Int) (w : World) :
    Calls Try.prog 39 #[.int .i64 n, .int .i64 a, .int .i64 b] w (JustIs w (Item.win n a b)) := by
  by_cases h1 : a ≤ n
  · by_cases h2 : n ≤ b
    · have q1 : decide (a ≤ n) = true := by simpa using h1
      have q2 : decide (n ≤ b) = true := by simpa using h2
      have e : Item.win n a b = true := by simp [Item.win, h1, h2]
      rw [e]
      go_enter Try.func39, Try.ntmps39
      go_wp2
      go_ret
      exact ⟨rfl, rfl⟩
    · have q1 : decide (a ≤ n) = true := by simpa using h1
      have q2 : decide (n ≤ b) = false := by simpa using h2
      have e : Item.win n a b = false := by simp [Item.win, h1, h2]
      rw [e]
      go_enter Try.func39, Try.ntmps39
      go_wp2
      go_ret
      exact ⟨rfl, rfl⟩
  · have q1 : decide (a ≤ n) = false := by simpa using h1
    have e : Item.win n a b = false := by simp [Item.win, h1]
    rw [e]
    go_enter Try.func39, Try.ntmps39
    go_wp2
    go_ret
    exact ⟨rfl, rfl⟩

theorem index_is (n i : Int) (s : Nat) (w : World) (hc : w.cell? ⟨s, 3, none⟩ = some (.int .i64 i)) :
    Calls Try.prog 45 #[.int .i64 n, .pointer (some ⟨s, 0, none⟩)] w (JustIs w (Item.win i 0 n)) := by
  go_enter Try.func45, Try.ntmps45
  go_wp2_with fail
  with_reducible refine (within_is i 0 n _).mono ?_
  rintro e w1 ⟨rfl, rfl⟩
  go_wp2
  go_ret
  exact ⟨rfl, rfl⟩

theorem total_is (a b t : Int) (s : Nat) (w : World) (hc : w.cell? ⟨s, 4, none⟩ = some (.int .i64 t)) :
    Calls Try.prog 46 #[.int .i64 a, .int .i64 b, .pointer (some ⟨s, 0, none⟩)] w (JustIs w (Item.win t a b)) := by
  go_enter Try.func46, Try.ntmps46
  go_wp2_with fail
  with_reducible refine (within_is t a b _).mono ?_
  rintro e w1 ⟨rfl, rfl⟩
  go_wp2
  go_ret
  exact ⟨rfl, rfl⟩

theorem count_is (n c : Int) (s : Nat) (w : World) (hc : w.cell? ⟨s, 5, none⟩ = some (.int .i64 c)) :
    Calls Try.prog 47 #[.int .i64 n, .pointer (some ⟨s, 0, none⟩)] w (JustIs w (Item.win c 0 n)) := by
  go_enter Try.func47, Try.ntmps47
  go_wp2_with fail
  with_reducible refine (within_is c 0 n _).mono ?_
  rintro e w1 ⟨rfl, rfl⟩
  go_wp2
  go_ret
  exact ⟨rfl, rfl⟩

theorem body_is (n : Int) (s : Nat) (A : Option Addr) (m d : Nat) (b : List UInt8) (w : World) (hc : w.cell? ⟨s, 7, none⟩ = some (.slice A m d)) (hl : b.length = m) :
    Calls Try.prog 48 #[.int .i64 n, .pointer (some ⟨s, 0, none⟩)] w (JustIs w (Item.body b n)) := by
  subst hl
  unfold Item.body
  by_cases h : (b.length : Int) ≤ n
  · have q : decide ((b.length : Int) ≤ n) = true := by simpa using h
    rw [q]
    go_enter Try.func48, Try.ntmps48
    go_wp2
    go_ret
    exact ⟨rfl, rfl⟩
  · have q : decide ((b.length : Int) ≤ n) = false := by simpa using h
    rw [q]
    go_enter Try.func48, Try.ntmps48
    go_wp2
    go_ret
    exact ⟨rfl, rfl⟩

theorem unfit_is (n top : Int) (s : Nat) (w : World) (hc : w.cell? ⟨s, 0, none⟩ = some (.int .i64 top)) :
    Calls Try.prog 50 #[.int .i64 n, .pointer (some ⟨s, 0, none⟩)] w (JustIs w (!Item.win n 0 top)) := by
  go_enter Try.func50, Try.ntmps50
  go_wp2_with fail
  with_reducible refine (within_is n 0 top _).mono ?_
  rintro e w1 ⟨rfl, rfl⟩
  go_wp2
  go_ret
  exact ⟨rfl, rfl⟩
end Go.Proofs.Ytkkkfaelpmmffaa
