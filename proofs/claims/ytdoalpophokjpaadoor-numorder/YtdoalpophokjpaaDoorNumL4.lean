/- The walk of NumOrder: it returns true, for every two numbers and every byte. -/
import Derived.Test.YtdoalpophokjpaaDoorNumShown
import Derived.Deep.RegionHeld3
namespace Go.Proofs.YtdoalpophokjpaaDoor
open Go.RowKit
set_option linter.unusedVariables false

set_option maxRecDepth 100000 in
set_option maxHeartbeats 1000000 in
theorem order_any (n m kk : Int) (w : World) (hw : Wd w) (h0 : 0 ≤ kk) (h1 : kk < 256) :
    Calls Tryd.prog 6 #[.int .i64 n, .int .i64 m, .int .u8 kk] w (Yes w) := by
  obtain ⟨kn, k, hkn, hk3, hk, hat⟩ := wide_of kk h0
  have hcell := hat hk3
  clear hat
  by_cases hf1 : Num.fits n k = true
  · by_cases hf2 : Num.fits m k = true
    · obtain ⟨x, rfl, hx, _, _⟩ := Num.fits_nat hk hf1
      obtain ⟨y, rfl, hy, _, _⟩ := Num.fits_nat hk hf2
      have e1 : Num.put x k = Num.be k x := by rw [Num.put, if_pos hf1, Int.toNat_natCast, Int.toNat_natCast]
      have e2 : Num.put y k = Num.be k y := by rw [Num.put, if_pos hf2, Int.toNat_natCast, Int.toNat_natCast]
      have HLess : Hid (Op.bytesLess (str (Num.put x k)).toList (str (Num.put y k)).toList = decide (x < y)) := by rw [str_list, str_list, e1, e2]; exact Num.less_be hx hy
      have HEq : Hid (((str (Num.put x k)).toList == (str (Num.put y k)).toList) = decide (x = y)) := by
        rw [str_beq, e1, e2]
        exact hidT (by rw [Bool.eq_iff_iff, decide_eq_true_eq, decide_eq_true_eq, Num.be_inj hx hy])
      have HF1 := hidT hf1
      have HF2 := hidT hf2
      clear hf1 hf2 e1 e2 hx hy
      go_enter Tryd.func6, Tryd.ntmps6
      go_wp2_with fail
      with_reducible refine (shown_any _ hw).mono ?_
      rintro e w1 ⟨rfl, hb1⟩
      go_wp2_with fail
      with_reducible refine (fits_is x k true _ ((hw.below hb1).alloc _) HF1.out).mono ?_
      rintro e w2 ⟨rfl, hb2'⟩
      have hb2 := bthen hb1 (bthen ((Below.refl _ _).alloc (Nat.le_refl _) _) hb2')
      clear hb2'
      go_wp2_with fail
      with_reducible refine (fits_is y k true _ (hw.below hb2) HF2.out).mono ?_
      rintro e w3 ⟨rfl, hb23⟩
      have hb3 := bthen hb2 hb23
      go_wp2_with fail
      with_reducible refine (put_any x k _ (hw.below hb3)).mono ?_
      rintro e w4 ⟨A4, c4, rfl, ho4, hb34⟩
      have hb4 := bthen hb3 hb34
      have s4 := strs ho4.same w4 (Below.refl _ _)
      go_wp2_with fail
      with_reducible refine (put_any y k _ (hw.below hb4)).mono ?_
      rintro e w5 ⟨A5, c5, rfl, ho5, hb45⟩
      have hb5 := bthen hb4 hb45
      have s5 := strs ho5.same w5 (Below.refl _ _)
      go_wp2_with fail
      go_ret
      have HE2 : (((str (Num.put x k)).toList == (str (Num.put y k)).toList) == ((x : Int) == (y : Int))) = true := by
        rw [HEq.out]
        by_cases hxy : x = y
        · simp [hxy]
        · simp [hxy]
          omega
      exact ⟨congrArg (fun b => Ending.returned (.bool b)) HE2, hb5⟩
    · have hf2' : Num.fits m k = false := by simpa using hf2
      have HF1 := hidT hf1
      clear hf1 hf2
      go_enter Tryd.func6, Tryd.ntmps6
      go_wp2_with fail
      with_reducible refine (shown_any _ hw).mono ?_
      rintro e w1 ⟨rfl, hb1⟩
      go_wp2_with fail
      with_reducible refine (fits_is n k true _ ((hw.below hb1).alloc _) HF1.out).mono ?_
      rintro e w2 ⟨rfl, hb2'⟩
      have hb2 := bthen hb1 (bthen ((Below.refl _ _).alloc (Nat.le_refl _) _) hb2')
      clear hb2'
      go_wp2_with fail
      with_reducible refine (fits_is m k false _ (hw.below hb2) hf2').mono ?_
      rintro e w3 ⟨rfl, hb23⟩
      go_wp2
      go_ret
      exact ⟨rfl, bthen hb2 hb23⟩
  · have hf1' : Num.fits n k = false := by simpa using hf1
    clear hf1
    go_enter Tryd.func6, Tryd.ntmps6
    go_wp2_with fail
    with_reducible refine (shown_any _ hw).mono ?_
    rintro e w1 ⟨rfl, hb1⟩
    go_wp2_with fail
    with_reducible refine (fits_is n k false _ ((hw.below hb1).alloc _) hf1').mono ?_
    rintro e w2 ⟨rfl, hb2'⟩
    have hb2 := bthen hb1 (bthen ((Below.refl _ _).alloc (Nat.le_refl _) _) hb2')
    go_wp2
    go_ret
    exact ⟨rfl, hb2⟩
end Go.Proofs.YtdoalpophokjpaaDoor
