/- The walk of CrcBack: it returns true, for every two slices of bytes. -/
import Derived.Test.YtmlldjfclabdkaaT4
import Derived.IntWalk
namespace Go.Proofs.Ytmlldjfclabdkaa
open Go.RowKit
set_option linter.unusedVariables false

theorem back_out (A : Option Addr) (n c : Nat) (B : Option Addr) (m d : Nat) (w : World) (h : 2000 < n ∨ 2000 < m) :
    Calls Try.prog 4 #[.slice A n c, .slice B m d] w (Yes w) := by
  go_enter Try.func4, Try.ntmps4
  go_wp2_with fail
  with_reducible refine (shown_any _).mono ?_
  rintro e w1 ⟨rfl, hb1⟩
  by_cases h1 : 2000 < n
  · have q1 : decide ((2000 : Int) < (n : Int)) = true := by simp; omega
    go_wp2
    go_ret
    exact ⟨rfl, hb1⟩
  · have q1 : decide ((2000 : Int) < (n : Int)) = false := by simp; omega
    have q2 : decide ((2000 : Int) < (m : Int)) = true := by simp; omega
    go_wp2
    go_ret
    exact ⟨rfl, hb1⟩

set_option maxHeartbeats 1000000 in
theorem back_in (A : Option Addr) (n c : Nat) (B : Option Addr) (m d : Nat) (x y : List UInt8) (w : World)
    (hx : Rd w A n c x) (hy : Rd w B m d y) (h1 : n ≤ 2000) (h2 : m ≤ 2000) :
    Calls Try.prog 4 #[.slice A n c, .slice B m d] w (Yes w) := by
  have q1 : decide ((2000 : Int) < (n : Int)) = false := by simp; omega
  have q2 : decide ((2000 : Int) < (m : Int)) = false := by simp; omega
  have lx := hidT hx.1
  have ly := hidT hy.1
  go_enter Try.func4, Try.ntmps4
  go_wp2_with fail
  with_reducible refine (shown_any _).mono ?_
  rintro e w1 ⟨rfl, hb1⟩
  go_wp2_with fail
  with_reducible refine (seal_any _ _ _ x _ (hx.below hb1) (by omega)).mono ?_
  rintro e w2 ⟨A2, c2, rfl, ho2, hb2⟩
  rw [show (Crc.sealB x).length = n + 4 from by rw [seal_length, lx.out]] at ho2 ⊢
  go_wp2_with fail
  with_reducible refine (open_any _ _ _ _ _ ho2.same (by omega)).mono ?_
  rw [opened_seal, code_seal]
  rintro e w3 ⟨A3, c3, rfl, hr3, hb3⟩
  rw [lx.out] at hr3 ⊢
  have hb13 := bthen hb1 (bthen hb2 hb3)
  have s0 := strs (hx.below hb13)
  have s1 := strs (hy.below hb13)
  have s2 := strs (ho2.same.below hb3)
  have s3 := strs hr3
  have hy3 := hy.below hb13
  clear hb1 hb2 hb3 hr3 ho2 hx hy
  have hw4 : IntKind.i64.wrap ((n : Int) + 4) = (n : Int) + 4 := IntWalk.i64_in _ (by omega)
  go_wp2
  go_region_held (fun w' => Below w3.heap.size w3 w')
    (first | exact (Below.refl _ _).drew | exact undrew hb4)
    (first | (go_at_call 15; ((with_reducible refine (seal_any _ _ _ y _ hy3.drew (by omega)).mono ?_); rintro e w4 ⟨A4, c4, rfl, ho4, hb4⟩; have s4 := strs ho4.same w4 (Below.refl _ _))))
  go_wp2
  go_ret
  refine ⟨?_, bthen hb13 (undrew hb4)⟩
  simp
  rw [str_beq, str_beq, Bool.eq_iff_iff, decide_eq_true_eq, decide_eq_true_eq]
  exact ⟨seal_inj, fun h => by rw [h]⟩

theorem back_any (A : Option Addr) (n c : Nat) (B : Option Addr) (m d : Nat) (x y : List UInt8) (w : World)
    (hx : Rd w A n c x) (hy : Rd w B m d y) :
    Calls Try.prog 4 #[.slice A n c, .slice B m d] w (Yes w) := by
  by_cases h : 2000 < n ∨ 2000 < m
  · exact back_out A n c B m d w h
  · exact back_in A n c B m d x y w hx hy (by omega) (by omega)
end Go.Proofs.Ytmlldjfclabdkaa
