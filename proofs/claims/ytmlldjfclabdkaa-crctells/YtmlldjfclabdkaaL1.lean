/- The walk of CrcTells: it returns true, for every two slices of bytes and every int. -/
import Derived.Test.YtmlldjfclabdkaaR2
namespace Go.Proofs.Ytmlldjfclabdkaa
open Go.RowKit
set_option linter.unusedVariables false

theorem tells_out (A : Option Addr) (n c : Nat) (at_ : Int) (B : Option Addr) (m d : Nat) (w : World) (h : 2000 < n ∨ 2000 < m) :
    Calls Try.prog 3 #[.slice A n c, .int .i64 at_, .slice B m d] w (Yes w) := by
  go_enter Try.func3, Try.ntmps3
  go_wp2_with fail
  with_reducible refine (shown_any _).mono ?_
  rintro e w1 ⟨rfl, hb1⟩
  by_cases h1 : 2000 < n
  · have q1 : decide ((2000 : Int) < (n : Int)) = true := by simp; omega
    go_wp2
    go_ret
    exact ⟨rfl, hb1⟩
  · have q1 : decide ((2000 : Int) < (n : Int)) = false := by simp; omega
    have q2 : decide ((2000 : Int) < (m : Int)) = true := by simp; omega
    go_wp2
    go_ret
    exact ⟨rfl, hb1⟩

set_option maxHeartbeats 4000000 in
theorem tells_in (A : Option Addr) (n c : Nat) (at_ : Int) (B : Option Addr) (m d : Nat) (x y : List UInt8) (w : World)
    (hx : Rd w A n c x) (hy : Rd w B m d y) (h1 : n ≤ 2000) (h2 : m ≤ 2000) (ha : at_ ≤ 9223372036854775807) :
    Calls Try.prog 3 #[.slice A n c, .int .i64 at_, .slice B m d] w (Yes w) := by
  have q1 : decide ((2000 : Int) < (n : Int)) = false := by simp; omega
  have q2 : decide ((2000 : Int) < (m : Int)) = false := by simp; omega
  go_enter Try.func3, Try.ntmps3
  go_wp2_with fail
  with_reducible refine (shown_any _).mono ?_
  rintro e w1 ⟨rfl, hb1⟩
  go_wp2_with fail
  with_reducible refine (open_any _ _ _ x _ (hx.below hb1) (by omega)).mono ?_
  rintro e w2 ⟨A2, c2, rfl, hr2, hb2⟩
  have hb12 := bthen hb1 hb2
  go_wp2_with fail
  with_reducible refine (ropen_any _ _ _ x _ (hx.below hb12) (by omega)).mono ?_
  rintro e w3 ⟨A3, c3, rfl, hr3, hb3⟩
  have hb13 := bthen hb12 hb3
  have hx3 := hx.below hb13
  have hy3 := hy.below hb13
  have s2 := strs (hr2.below hb3)
  have s3 := strs hr3
  clear hx hy hb1 hb2 hb12 hb3 hr2 hr3
  go_wp2
  go_region_held (fun w' => Below w3.heap.size w3 w')
    (first | exact (Below.refl _ _).drew | assumption | exact bthen (by assumption) hb4 | exact bthen (by assumption) hb5 | exact bthen (by assumption) hb6 | exact bthen (by assumption) hb7)
    (first
      | (go_at_call 13; ((with_reducible refine (sum_any _ _ _ x _ (hx3.below (by assumption))).mono ?_); rintro e w' ⟨rfl, rfl⟩))
      | (go_at_call 14; ((with_reducible refine (rsum_any _ _ _ x _ (hx3.below (by assumption))).mono ?_); rintro e w' ⟨rfl, rfl⟩))
      | (go_at_call 15; ((with_reducible refine (seal_any _ _ _ x _ (hx3.below (by assumption)) (by omega)).mono ?_); rintro e w4 ⟨A4, c4, rfl, ho4, hb4⟩; have s4 := strs ho4.same; have r4 := Below.refl w4.heap.size w4))
      | (go_at_call 16; ((with_reducible refine (rseal_any _ _ _ x _ (hx3.below (by assumption)) (by omega)).mono ?_); rintro e w5 ⟨A5, c5, rfl, ho5, hb5⟩; have s5 := strs ho5.same; have r5 := Below.refl w5.heap.size w5))
      | (go_at_call 17; ((with_reducible refine (spoil_any _ _ _ x at_ _ _ _ y _ (hx3.below (by assumption)) (hy3.below (by assumption)) (by omega)).mono ?_); rintro e w6 ⟨A6, c6, rfl, ho6, hb6⟩; have s6 := strs ho6.same; have r6 := Below.refl w6.heap.size w6))
      | (go_at_call 18; ((with_reducible refine (rspoil_any _ _ _ x at_ _ _ _ y _ (hx3.below (by assumption)) (hy3.below (by assumption)) (by omega) (by omega) ha).mono ?_); rintro e w7 ⟨A7, c7, rfl, ho7, hb7⟩; have s7 := strs ho7.same; have r7 := Below.refl w7.heap.size w7)))
  all_goals
    go_wp2
    go_ret
    exact ⟨rfl, bthen hb13 (by assumption)⟩

theorem tells_any (A : Option Addr) (n c : Nat) (at_ : Int) (B : Option Addr) (m d : Nat) (x y : List UInt8) (w : World)
    (hx : Rd w A n c x) (hy : Rd w B m d y) (ha : at_ ≤ 9223372036854775807) :
    Calls Try.prog 3 #[.slice A n c, .int .i64 at_, .slice B m d] w (Yes w) := by
  by_cases h : 2000 < n ∨ 2000 < m
  · exact tells_out A n c at_ B m d w h
  · exact tells_in A n c at_ B m d x y w hx hy (by omega) (by omega) ha
end Go.Proofs.Ytmlldjfclabdkaa
