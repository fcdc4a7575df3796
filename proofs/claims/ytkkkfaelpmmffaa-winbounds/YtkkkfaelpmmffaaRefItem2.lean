/- What the document's Few, in and May come to. -/
import Derived.Test.YtkkkfaelpmmffaaItem5
import Derived.Test.YtkkkfaelpmmffaaItem2
set_option maxRecDepth 100000
namespace Go.Proofs.Ytkkkfaelpmmffaa
open Go.RowKit
set_option linter.unusedVariables false

theorem BoolIs.of {w w' : World} {a b : Bool} (hb : Below w.heap.size w w') (h : b = a) : BoolIs w a (.returned (.bool b)) w' := by subst h; exact ⟨rfl, hb⟩
theorem few_is (v : Value) (x : Item.It) (w : World) (h : IsItem w v x) :
    Calls Try.prog 10 #[v] w (BoolIs w (decide (x.l.length ≤ 80) && decide (x.b.length ≤ 1100))) := by
  obtain ⟨LA, ln, lc, BA, bn, bc, rfl, hl, hb⟩ := h
  have e1 := RdI.size hl
  have e2 := hb.1
  have hb0 : Below w.heap.size w (w.alloc (.cells #[.int .i64 x.k, .int .i64 x.q, .int .i64 x.e, .int .i64 x.i, .int .i64 x.t, .int .i64 x.c, .slice LA ln lc, .slice BA bn bc] 28)) := (Below.refl _ _).alloc (Nat.le_refl _) _
  rw [e1, e2]
  go_enter Try.func10, Try.ntmps10
  go_wp2
  all_goals
    go_ret
    refine BoolIs.of hb0 ?_
    rw [Bool.eq_iff_iff]
    simp only [Bool.and_eq_true, decide_eq_true_eq, Bool.false_eq_true, false_iff]
    omega

theorem in_is (A : Option Addr) (n c : Nat) (l : List Int) (top : Int) (w : World) (h : RdI w A n c l) :
    Calls Try.prog 37 #[.slice A n c, .int .i64 top] w (JustIs w (Item.allIn l top)) := by
  have hn := RdV.le h
  have HL := hidT (RdI.size h)
  go_enter Try.func37, Try.ntmps37
  go_wp2
  go_loop [5] (fun i => ∃ j : Nat, j ≤ n ∧ i = .int .i64 j ∧ Item.allIn (l.take j) top = true) (fun i => n - (intOf i).toNat)
  case atStart => exact ⟨0, Nat.zero_le _, rfl, rfl⟩
  case round =>
    obtain ⟨j, hj, rfl, ha⟩ := hrel
    have HA := hidT ha
    clear ha
    by_cases hjn : j < n
    · obtain ⟨b, o, x, rfl, hx, hc⟩ := RdI.at_ h hjn
      have HX := hidT hx
      clear hx
      by_cases h0 : x < 0
      · have HW : Hid (Item.win x 0 top = false) := hidT (by simp [Item.win]; omega)
        go_wp2
        go_ret
        rw [allIn_not HX.out HW.out]
        exact ⟨rfl, rfl⟩
      · by_cases h1 : top < x
        · have HW : Hid (Item.win x 0 top = false) := hidT (by simp [Item.win]; omega)
          go_wp2
          go_ret
          rw [allIn_not HX.out HW.out]
          exact ⟨rfl, rfl⟩
        · have HW : Hid (Item.win x 0 top = true) := hidT (by simp [Item.win]; omega)
          go_wp2
          go_round
          case rel => exact ⟨j + 1, by omega, by go_num, allIn_succ HX.out HA.out HW.out⟩
          case measure => simp [intOf]; omega
    · obtain rfl : j = n := by omega
      go_wp2
      go_ret
      have ha := HA.out
      rw [List.take_of_length_le (by rw [HL.out]; omega)] at ha
      rw [ha]
      exact ⟨rfl, rfl⟩

end Go.Proofs.Ytkkkfaelpmmffaa
