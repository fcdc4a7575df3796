/- What vec's at, Max's and Min's closures, Below and Sum come to. -/
import Derived.Test.YtghcpfdmdhdcgaaRows
import Derived.Test.YtghcpfdmdhdcgaaMemV
import Derived.Test.YtghcpfdmdhdcgaaVecMath
import Derived.WalkKit
import Derived.WalkLawsBesides
import Derived.WalkMore
import Derived.IntWalk
set_option maxRecDepth 100000
namespace Go.Proofs.Ytghcpfdmdhdcgaa
open Go.RowKit
set_option linter.unusedVariables false

/-- A call that says a number and turns nothing at all. -/
abbrev SaysI (w : World) (x : Int) (e : Ending) (w' : World) : Prop := e = .returned (.int .i64 x) ∧ w' = w
abbrev SaysB (w : World) (x : Bool) (e : Ending) (w' : World) : Prop := e = .returned (.bool x) ∧ w' = w

theorem at_any (A : Option Addr) (n c : Nat) (l : List Int) (i : Int) (w : World) (h : RdI w A n c l) :
    Calls Try.prog 26 #[.slice A n c, .int .i64 i] w (SaysI w (atI l i)) := by
  have hl := RdI.size h
  by_cases h0 : i < 0
  · have e : atI l i = 0 := by unfold atI; rw [if_pos h0]
    rw [e]
    have q : decide (i < 0) = true := by simpa using h0
    clear e hl
    go_enter Try.func26, Try.ntmps26
    go_wp2
    go_ret
    exact ⟨rfl, rfl⟩
  · obtain ⟨k, rfl⟩ : ∃ k : Nat, i = (k : Int) := ⟨i.toNat, by omega⟩
    have q : decide ((k : Int) < 0) = false := by simp
    rw [atI_nat]
    clear h0
    by_cases hk : k < n
    · obtain ⟨b, o, x, rfl, hx, hc⟩ := RdI.at_ h hk
      rw [at0_of hx]
      have q1 : decide ((n : Int) ≤ (k : Int)) = false := by simp; omega
      have q2 : decide (n ≤ k) = false := by simp; omega
      clear hx hl h
      go_enter Try.func26, Try.ntmps26
      go_wp2
      go_ret
      exact ⟨rfl, rfl⟩
    · rw [at0_beyond (by omega)]
      have q1 : decide ((n : Int) ≤ (k : Int)) = true := by simp; omega
      have q2 : decide (n ≤ k) = true := by simp; omega
      clear hl h
      go_enter Try.func26, Try.ntmps26
      go_wp2
      go_ret
      exact ⟨rfl, rfl⟩
theorem at_nat (A : Option Addr) (n c : Nat) (l : List Int) (i : Nat) (w : World) (h : RdI w A n c l) :
    Calls Try.prog 26 #[.slice A n c, .int .i64 (i : Int)] w (SaysI w (at0 l i)) := by
  have := at_any A n c l (i : Int) w h
  rwa [atI_nat] at this

theorem max1_any (x y : Int) (w : World) : Calls Try.prog 22 #[.int .i64 x, .int .i64 y] w (SaysI w (big x y)) := by
  obtain ⟨z, HZ⟩ : ∃ z, Hid (big x y = z) := ⟨_, hidT rfl⟩
  rw [HZ.out]
  have q : (if y > x then y else x) = z := HZ.out
  have q' : (if x < y then y else x) = z := HZ.out
  go_enter Try.func22, Try.ntmps22
  go_wp2
  go_ret
  exact ⟨rfl, rfl⟩
theorem min1_any (x y : Int) (w : World) : Calls Try.prog 25 #[.int .i64 x, .int .i64 y] w (SaysI w (les x y)) := by
  obtain ⟨z, HZ⟩ : ∃ z, Hid (les x y = z) := ⟨_, hidT rfl⟩
  rw [HZ.out]
  have q : (if y < x then y else x) = z := HZ.out
  go_enter Try.func25, Try.ntmps25
  go_wp2
  go_ret
  exact ⟨rfl, rfl⟩

theorem sum_any (A : Option Addr) (n c : Nat) (l : List Int) (w : World) (h : RdI w A n c l) :
    Calls Try.prog 19 #[.slice A n c] w (SaysI w (sm l)) := by
  have hl := RdI.size h
  have hn := RdV.le h
  have HL := hidT hl
  clear hl
  obtain ⟨z, HZ⟩ : ∃ z, Hid (sm l = z) := ⟨_, hidT rfl⟩
  rw [HZ.out]
  go_enter Try.func19, Try.ntmps19
  go_wp2
  go_loopw [3, 8] (fun s i w' => ∃ (j : Nat) (x : Int), j ≤ n ∧ i = .int .i64 j ∧ s = .int .i64 x ∧ Hid (x = sm (l.take j)) ∧ w' = w) (fun _ i _ => n - (intOf i).toNat)
  case atStart => exact ⟨0, 0, Nat.zero_le _, rfl, rfl, hidT rfl, rfl⟩
  case round =>
    obtain ⟨j, x, hj, rfl, rfl, HX, rfl⟩ := hrel
    by_cases hjn : j < n
    · obtain ⟨b, o, y, rfl, hy, hc⟩ := RdI.at_ h hjn
      have HY := hidT hy
      clear hy
      go_wp2
      refine ⟨⟨j + 1, wrap64 (x + y), by omega, by go_num, rfl, hidT ?_, trivial⟩, by simp [intOf]; omega⟩
      rw [List.take_add_one, HY.out, Option.toList_some, sm_snoc, HX.out]
    · obtain rfl : j = n := by omega
      have e : x = z := by rw [HX.out, List.take_of_length_le (by rw [HL.out]; omega), HZ.out]
      subst e
      go_wp2
      go_ret
      exact ⟨rfl, rfl⟩

theorem below_any (A : Option Addr) (n c : Nat) (a : List Int) (B : Option Addr) (m d : Nat) (b : List Int) (w : World) (h : RdI w A n c a) (h' : RdI w B m d b) (t : Bool) (ht : blw a b = t) :
    Calls Try.prog 15 #[.slice A n c, .slice B m d] w (SaysB w t) := by
  have hla := RdI.size h
  have hlb := RdI.size h'
  have hn := RdV.le h
  have hm := RdV.le h'
  obtain ⟨N, hN, hN1, hN2, q⟩ : ∃ N : Nat, max n m = N ∧ N ≤ 9223372036854775807 ∧ Hid (max a.length b.length ≤ N) ∧ (if n < m then (m : Int) else (n : Int)) = (N : Int) := ⟨_, rfl, by omega, hidT (by omega), by split <;> omega⟩
  have HT := hidT ht
  clear ht hla hlb
  go_enter Try.func15, Try.ntmps15
  go_wp2
  go_loopw [11] (fun i w' => ∃ j : Nat, j ≤ N ∧ i = .int .i64 j ∧ Hid (∀ k, k < j → at0 a k ≤ at0 b k) ∧ w' = w) (fun i _ => N - (intOf i).toNat)
  case atStart => exact ⟨0, Nat.zero_le _, rfl, hidT (fun k hk => by omega), rfl⟩
  case round =>
    obtain ⟨j, hj, rfl, HJ, rfl⟩ := hrel
    by_cases hjn : j < N
    · obtain ⟨x, HX⟩ : ∃ x, Hid (at0 a j = x) := ⟨_, hidT rfl⟩
      obtain ⟨y, HY⟩ : ∃ y, Hid (at0 b j = y) := ⟨_, hidT rfl⟩
      have p1 := at_nat A n c a j _ h
      have p2 := at_nat B m d b j _ h'
      rw [HX.out] at p1
      rw [HY.out] at p2
      go_wp2_with fail
      with_reducible refine p1.mono ?_
      rintro e w1 ⟨rfl, rfl⟩
      go_wp2_with fail
      with_reducible refine p2.mono ?_
      rintro e w1 ⟨rfl, rfl⟩
      by_cases hxy : y < x
      · obtain rfl : t = false := by rw [← HT.out]; exact blw_not (i := j) (by rw [HX.out, HY.out]; exact hxy)
        have qq : decide (y < x) = true := by simpa using hxy
        go_wp2
        go_ret
        exact ⟨rfl, rfl⟩
      · have qq : decide (y < x) = false := by simpa using hxy
        have HK : Hid (∀ k, k < j + 1 → at0 a k ≤ at0 b k) := hidT (fun k hk => by
          rcases Nat.lt_or_ge k j with h1 | h1
          · exact HJ.out k h1
          · obtain rfl : k = j := by omega
            rw [HX.out, HY.out]; omega)
        go_wp2
        exact ⟨⟨j + 1, by omega, by go_num, HK, trivial⟩, by simp [intOf]; omega⟩
    · obtain rfl : j = N := by omega
      obtain rfl : t = true := by rw [← HT.out]; exact blw_all hN2.out HJ.out
      go_wp2
      go_ret
      exact ⟨rfl, rfl⟩
end Go.Proofs.Ytghcpfdmdhdcgaa
