/- What the document's own Same of rows of numbers comes to. -/
import Derived.Test.YtmlmkkfieeaejaaNumLite
import Derived.Deep.QuietTactic
import Derived.BigQuiet
set_option maxRecDepth 100000
namespace Go.Proofs.Ytmlmkkfieeaejaa
open Go.RowKit
set_option linter.unusedVariables false

theorem take_ne {a b : List Int} {j : Nat} {x y : Int} (ha : a[j]? = some x) (hb : b[j]? = some y) (h : x ≠ y) : decide (a = b) = false := by
  rw [decide_eq_false_iff_not]
  rintro rfl
  rw [ha] at hb
  injection hb with hb
  exact h hb
theorem take_snocI {a b : List Int} {j : Nat} {x : Int} (ha : a[j]? = some x) (hb : b[j]? = some x) (h : a.take j = b.take j) : a.take (j + 1) = b.take (j + 1) := by
  rw [List.take_add_one, List.take_add_one, h, ha, hb]

set_option maxHeartbeats 400000 in
theorem rsame_any (A : Option Addr) (n c : Nat) (a : List Int) (B : Option Addr) (m d : Nat) (b : List Int) (w : World) (ha : RdI w A n c a) (hb : RdI w B m d b) :
    Calls Try.prog 34 #[.slice A n c, .slice B m d] w fun e w' => e = .returned (.bool (decide (a = b))) ∧ ∃ k, w' = w.drewN k := by
  have hn := RdV.le ha
  have hla := RdI.size ha
  have hlb := RdI.size hb
  by_cases hnm : n = m
  · subst hnm
    have HA := hidT hla
    have HB := hidT hlb
    clear hla hlb
    go_enter Try.func34, Try.ntmps34
    go_wp2
    go_loopw [5] (fun i w' => ∃ j : Nat, j ≤ n ∧ i = .int .i64 j ∧ Hid (a.take j = b.take j) ∧ ∃ k, w' = w.drewN k) (fun i _ => n - (intOf i).toNat)
    case atStart => exact ⟨0, Nat.zero_le _, rfl, hidT rfl, 0, rfl⟩
    case round =>
      obtain ⟨j, hj, rfl, HT, kk, rfl⟩ := hrel
      by_cases hjn : j < n
      · obtain ⟨b1, o1, x, rfl, hx, hcx⟩ := RdI.at_ ha hjn
        obtain ⟨b2, o2, y, rfl, hy, hcy⟩ := RdI.at_ hb hjn
        have HX := hidT hx
        have HY := hidT hy
        clear hx hy
        by_cases hxy : x = y
        · subst hxy
          go_wp2
          go_quiet (fail)
          go_wp2
          exact ⟨⟨j + 1, by omega, by go_num, hidT (take_snocI HX.out HY.out HT.out), _, rfl⟩, by simp [intOf]; omega⟩
        · have q1 : (x != y) = true := by simpa using hxy
          have q2 : (x == y) = false := by simpa using hxy
          go_wp2
          go_quiet (fail)
          have HD := hidT (take_ne HX.out HY.out hxy)
          go_wp2
          go_ret
          rw [HD.out]
          exact ⟨rfl, _, World.drewN_drewN _ _ _⟩
      · obtain rfl : j = n := by omega
        have HD : Hid (decide (a = b) = true) := by
          have h1 := HT.out
          rw [List.take_of_length_le (by rw [HA.out]; omega), List.take_of_length_le (by rw [HB.out]; omega)] at h1
          exact hidT (by simpa using h1)
        go_wp2
        go_ret
        rw [HD.out]
        exact ⟨rfl, _, rfl⟩
  · have HD : Hid (decide (a = b) = false) := by
      refine hidT ?_
      rw [decide_eq_false_iff_not]
      rintro rfl
      omega
    have q1 : ((n : Int) != (m : Int)) = true := by simp; omega
    have q2 : ((n : Int) == (m : Int)) = false := by simp; omega
    have q3 : (n == m) = false := by simpa using hnm
    have q4 : (n != m) = true := by simpa using hnm
    clear hla hlb
    go_enter Try.func34, Try.ntmps34
    go_wp2
    go_ret
    rw [HD.out]
    exact ⟨rfl, 0, rfl⟩

theorem rsame_is (A : Option Addr) (n c : Nat) (a : List Int) (B : Option Addr) (m d : Nat) (b : List Int) (w : World) (ha : RdI w A n c a) (hb : RdI w B m d b) (t : Bool) (ht : decide (a = b) = t) :
    Calls Try.prog 34 #[.slice A n c, .slice B m d] w fun e w' => e = .returned (.bool t) ∧ Below w.heap.size w w' := by
  refine (rsame_any A n c a B m d b w ha hb).mono ?_
  rintro e w' ⟨rfl, k, rfl⟩
  rw [ht]
  exact ⟨rfl, drawn_below _ _⟩
end Go.Proofs.Ytmlmkkfieeaejaa
