/- The walk of CrcBurst: it returns true, for every slice of bytes, every int, and every four bytes. -/
import Derived.Test.YtmlldjfclabdkaaT4
import Derived.IntWalk
namespace Go.Proofs.Ytmlldjfclabdkaa
open Go.RowKit
set_option linter.unusedVariables false

theorem burst_out (A : Option Addr) (n c : Nat) (at_ : Int) (y0 y1 y2 y3 : UInt8) (w : World) (h : 2000 < n) :
    Calls Try.prog 5 #[.slice A n c, .int .i64 at_, .agg #[.int .u8 (y0.toNat : Int), .int .u8 (y1.toNat : Int), .int .u8 (y2.toNat : Int), .int .u8 (y3.toNat : Int)]] w (Yes w) := by
  go_enter Try.func5, Try.ntmps5
  go_wp2_with fail
  with_reducible refine (shown_any _).mono ?_
  rintro e w1 ⟨rfl, hb1⟩
  have hb1' := bthen ((Below.refl w.heap.size w).alloc (Nat.le_refl _) _) hb1
  have q1 : decide ((2000 : Int) < (n : Int)) = true := by simp; omega
  go_wp2
  go_ret
  exact ⟨rfl, hb1'⟩

set_option maxHeartbeats 1000000 in
theorem burst_in (A : Option Addr) (n c : Nat) (at_ : Int) (y0 y1 y2 y3 : UInt8) (x : List UInt8) (w : World) (hx : Rd w A n c x) (h : n ≤ 2000) :
    Calls Try.prog 5 #[.slice A n c, .int .i64 at_, .agg #[.int .u8 (y0.toNat : Int), .int .u8 (y1.toNat : Int), .int .u8 (y2.toNat : Int), .int .u8 (y3.toNat : Int)]] w (Yes w) := by
  have q1 : decide ((2000 : Int) < (n : Int)) = false := by simp; omega
  have lx := hidT hx.1
  have hy : Rd (w.alloc (.cells #[.int .u8 (y0.toNat : Int), .int .u8 (y1.toNat : Int), .int .u8 (y2.toNat : Int), .int .u8 (y3.toNat : Int)] 35)) (some ⟨w.heap.size, 0, none⟩) 4 4 [y0, y1, y2, y3] := Rd.lit _ _ _ _ _ rfl 4 rfl (by decide)
  go_enter Try.func5, Try.ntmps5
  go_wp2_with fail
  with_reducible refine (shown_any _).mono ?_
  rintro e w1 ⟨rfl, hb1⟩
  have hb0 := (Below.refl w.heap.size w).alloc (Nat.le_refl _) (.cells #[.int .u8 (y0.toNat : Int), .int .u8 (y1.toNat : Int), .int .u8 (y2.toNat : Int), .int .u8 (y3.toNat : Int)] 35)
  have hb1' := bthen hb0 hb1
  have hx1 := hx.below hb1'
  have hy1 := hy.below hb1
  clear hx hy hb0 hb1
  go_wp2_with fail
  with_reducible refine (seal_any _ _ _ x _ hx1 (by omega)).mono ?_
  rintro e w2 ⟨A2, c2, rfl, ho2, hb2⟩
  rw [show (Crc.sealB x).length = n + 4 from by rw [seal_length, lx.out]] at ho2 ⊢
  go_wp2_with fail
  with_reducible refine (spoil_any _ _ _ _ at_ _ _ _ [y0, y1, y2, y3] _ ho2.same (hy1.below hb2) (by omega)).mono ?_
  rintro e w3 ⟨A3, c3, rfl, ho3, hb3⟩
  rw [show (Crc.spoil (Crc.sealB x) at_ [y0, y1, y2, y3]).length = n + 4 from by rw [Crc.spoil_length, seal_length, lx.out]] at ho3 ⊢
  have s2 := strs (ho2.same.below hb3) w3 (Below.refl _ _)
  have s3 := strs ho3.same w3 (Below.refl _ _)
  have hy3 := (hy1.below hb2).below hb3
  have hb13 := bthen (bthen hb1' hb2) hb3
  by_cases hst : Crc.sealB x = Crc.spoil (Crc.sealB x) at_ [y0, y1, y2, y3]
  · have e1 := str_same hst
    obtain ⟨b', o', hA, hc⟩ := hy3.2.2.2.2 (by omega)
    injection hA with hA
    injection hA with hA1 hA2
    subst hA1
    subst hA2
    have c0 : w3.cell? ⟨w.heap.size, 0, none⟩ = some (.int .u8 (y0.toNat : Int)) := hc 0 y0 rfl
    clear hc
    by_cases h0 : at_ < 0
    · have e2 : decide (at_ < 0) = true := by simpa using h0
      clear hst
      go_wp2
      go_ret
      exact ⟨rfl, hb13⟩
    · have e2 : decide (at_ < 0) = false := by simp; omega
      by_cases h1 : (n : Int) + 4 ≤ at_
      · have e3 : decide ((n : Int) + 4 ≤ at_) = true := by simpa using h1
        clear hst
        go_wp2
        go_ret
        exact ⟨rfl, hb13⟩
      · have e3 : decide ((n : Int) + 4 ≤ at_) = false := by simpa using h1
        have hy0 : y0 = 0 := Crc.spoil_still _ at_ y0 [y1, y2, y3] hst (by omega) (by rw [seal_length, lx.out]; omega)
        have e4 : ((y0.toNat : Int) == 0) = true := by rw [hy0]; rfl
        clear hst hy0
        go_wp2
        go_ret
        exact ⟨rfl, hb13⟩
  · have e1 := str_other hst
    have hop : Crc.spoil (Crc.sealB x) at_ [y0, y1, y2, y3] = Crc.sealB ((Crc.spoil (Crc.sealB x) at_ [y0, y1, y2, y3]).take n) → False := fun hh => hst (Crc.spoilt_no_seal x at_ [y0, y1, y2, y3] _ hh).symm
    go_wp2_with fail
    with_reducible refine (open_any _ _ _ _ _ ho3.same (by omega)).mono ?_
    have hcode : openCode (Crc.spoil (Crc.sealB x) at_ [y0, y1, y2, y3]) = 3 := by
      unfold openCode
      have hl : (Crc.spoil (Crc.sealB x) at_ [y0, y1, y2, y3]).length = n + 4 := by rw [Crc.spoil_length, seal_length, lx.out]
      rw [if_neg (by omega), if_neg (by rw [hl, Nat.add_sub_cancel]; exact hop)]
    rw [hcode]
    rintro e w4 ⟨A4, c4, rfl, hr4, hb4⟩
    go_wp2
    go_ret
    exact ⟨rfl, bthen hb13 hb4⟩

theorem burst_any (A : Option Addr) (n c : Nat) (at_ : Int) (y0 y1 y2 y3 : UInt8) (x : List UInt8) (w : World) (hx : Rd w A n c x) :
    Calls Try.prog 5 #[.slice A n c, .int .i64 at_, .agg #[.int .u8 (y0.toNat : Int), .int .u8 (y1.toNat : Int), .int .u8 (y2.toNat : Int), .int .u8 (y3.toNat : Int)]] w (Yes w) := by
  by_cases h : 2000 < n
  · exact burst_out A n c at_ y0 y1 y2 y3 w h
  · exact burst_in A n c at_ y0 y1 y2 y3 x w hx (by omega)
end Go.Proofs.Ytmlldjfclabdkaa
