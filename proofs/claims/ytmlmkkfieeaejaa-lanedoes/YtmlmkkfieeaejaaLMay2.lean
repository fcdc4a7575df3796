/- What the document's in comes to. -/
import Derived.Test.YtmlmkkfieeaejaaLB0
set_option maxRecDepth 100000
namespace Go.Proofs.Ytmlmkkfieeaejaa
open Go.RowKit
set_option linter.unusedVariables false



theorem in_is (A : Option Addr) (n c : Nat) (l : List Int) (top : Int) (w : World) (h : RdI w A n c l) :
    Calls Try.prog 47 #[.slice A n c, .int .i64 top] w (JustIs w (Item.allIn l top)) := by
  have hn := RdV.le h
  have HL := hidT (RdI.size h)
  go_enter Try.func47, Try.ntmps47
  go_wp2
  go_loop [5] (fun i => ∃ j : Nat, j ≤ n ∧ i = .int .i64 j ∧ Item.allIn (l.take j) top = true) (fun i => n - (intOf i).toNat)
  case atStart => exact ⟨0, Nat.zero_le _, rfl, rfl⟩
  case round =>
    obtain ⟨j, hj, rfl, ha⟩ := hrel
    have HA := hidT ha
    clear ha
    by_cases hjn : j < n
    · obtain ⟨b, o, x, rfl, hx, hc⟩ := RdI.at_ h hjn
      have HX := hidT hx
      clear hx
      by_cases h0 : x < 0
      · have HW : Hid (Item.win x 0 top = false) := hidT (by simp [Item.win]; omega)
        go_wp2
        go_ret
        rw [allIn_not HX.out HW.out]
        exact ⟨rfl, rfl⟩
      · by_cases h1 : top < x
        · have HW : Hid (Item.win x 0 top = false) := hidT (by simp [Item.win]; omega)
          go_wp2
          go_ret
          rw [allIn_not HX.out HW.out]
          exact ⟨rfl, rfl⟩
        · have HW : Hid (Item.win x 0 top = true) := hidT (by simp [Item.win]; omega)
          go_wp2
          go_round
          case rel => exact ⟨j + 1, by omega, by go_num, allIn_succ HX.out HA.out HW.out⟩
          case measure => simp [intOf]; omega
    · obtain rfl : j = n := by omega
      go_wp2
      go_ret
      have ha := HA.out
      rw [List.take_of_length_le (by rw [HL.out]; omega)] at ha
      rw [ha]
      exact ⟨rfl, rfl⟩

end Go.Proofs.Ytmlmkkfieeaejaa
