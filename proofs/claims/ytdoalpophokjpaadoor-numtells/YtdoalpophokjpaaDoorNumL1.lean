/- The walk of NumTells: it returns true, for every two numbers, every slice of bytes and every slice of ints. -/
import Derived.Test.YtdoalpophokjpaaDoorNumShown
import Derived.Deep.RegionHeld3
namespace Go.Proofs.YtdoalpophokjpaaDoor
open Go.RowKit
set_option linter.unusedVariables false

theorem tells_out (N K : Int) (A : Option Addr) (n c : Nat) (B : Option Addr) (m d : Nat) (w : World) (hw : Wd w) (h : 300 < n ∨ 100 < m) :
    Calls Tryd.prog 3 #[.agg #[.int .i64 N, .int .i64 K, .slice A n c, .slice B m d]] w (Yes w) := by
  by_cases h1 : 300 < n
  · have q1 : decide ((300 : Int) < (n : Int)) = true := by simp; omega
    go_enter Tryd.func3, Tryd.ntmps3
    go_wp2_with fail
    with_reducible refine (shown_any _ (hw.alloc _)).mono ?_
    rintro e w1 ⟨rfl, hb1⟩
    go_wp2
    go_ret
    exact ⟨rfl, bthen ((Below.refl _ _).alloc (Nat.le_refl _) _) hb1⟩
  · have q1 : decide ((300 : Int) < (n : Int)) = false := by simp; omega
    have q2 : decide ((100 : Int) < (m : Int)) = true := by simp; omega
    go_enter Tryd.func3, Tryd.ntmps3
    go_wp2_with fail
    with_reducible refine (shown_any _ (hw.alloc _)).mono ?_
    rintro e w1 ⟨rfl, hb1⟩
    go_wp2
    go_ret
    exact ⟨rfl, bthen ((Below.refl _ _).alloc (Nat.le_refl _) _) hb1⟩

set_option maxRecDepth 100000 in
set_option maxHeartbeats 4000000 in
theorem tells_in (N K : Int) (A : Option Addr) (n c : Nat) (B : Option Addr) (m d : Nat) (l : List UInt8) (ns : List Int) (w : World) (hw : Wd w) (hr : Rd w A n c l) (hi : RdI w B m d ns) (h1 : n ≤ 300) (h2 : m ≤ 100) :
    Calls Tryd.prog 3 #[.agg #[.int .i64 N, .int .i64 K, .slice A n c, .slice B m d]] w (Yes w) := by
  have q1 : decide ((300 : Int) < (n : Int)) = false := by simp; omega
  have q2 : decide ((100 : Int) < (m : Int)) = false := by simp; omega
  have ht := fun w' (h : Below w.heap.size w w') => take_any A n c l K w' (hw.below h) (hr.below h) (by omega)
  have hrt := fun w' (h : Below w.heap.size w w') => rtake_any A n c l K w' (hr.below h) (by omega)
  have hx := fun w' (h : Below w.heap.size w w') => takeRow_any A n c l N K w' (hw.below h) (hr.below h) (by omega)
  have hrx := fun w' (h : Below w.heap.size w w') => rtakeRow_any A n c l N K w' (hr.below h) (by omega)
  generalize Num.num l K = x at ht hrt
  generalize Num.rest l K = r at ht hrt
  generalize Num.code l K = k at ht hrt
  generalize Num.rowOf l N K = y at hx hrx
  obtain ⟨a, r2, k2⟩ := y
  obtain ⟨f, HF⟩ : ∃ f, Hid (Num.fits N K = f) := ⟨_, hidT rfl⟩
  go_enter Tryd.func3, Tryd.ntmps3
  go_wp2_with fail
  with_reducible refine (shown_any _ (hw.alloc _)).mono ?_
  rintro e w1 ⟨rfl, hb1'⟩
  have hb1 := bthen ((Below.refl _ _).alloc (Nat.le_refl _) _) hb1'
  clear hb1'
  go_wp2_with fail
  with_reducible refine (ht _ hb1).mono ?_
  rintro e w2 ⟨A2, c2, rfl, ho2, hb12⟩
  have hb2 := bthen hb1 hb12
  go_wp2_with fail
  with_reducible refine (hrt _ hb2).mono ?_
  rintro e w3 ⟨A3, c3, rfl, ho3, hb23⟩
  have hb3 := bthen hb2 hb23
  go_wp2_with fail
  with_reducible refine (hx _ hb3).mono ?_
  rintro e w4 ⟨A4, c4, B4, d4, rfl, hi4, ho4, hb34⟩
  have hb4 := bthen hb3 hb34
  go_wp2_with fail
  with_reducible refine (hrx _ hb4).mono ?_
  rintro e w5 ⟨A5, c5, B5, d5, rfl, hi5, ho5, hb45⟩
  have hb5 := bthen hb4 hb45
  have s2 := strs (ho2.same.below (bthen hb23 (bthen hb34 hb45))) w5 (Below.refl _ _)
  have s3 := strs (ho3.same.below (bthen hb34 hb45)) w5 (Below.refl _ _)
  have i4 : RdI w5 A4 a.length c4 a := (OwnV.same hi4).below hb45
  have i5 : RdI w5 A5 a.length c5 a := OwnV.same hi5
  have s4 := strs (ho4.same.below hb45)
  have s5 := strs ho5.same
  clear hi4 hi5 ho2 ho3 ho4 ho5 ht hrt hx hrx
  go_wp2_with fail
  with_reducible refine (rsame_is _ _ _ a _ _ _ a _ i4 i5 true (by simp)).mono ?_
  rintro e w6 ⟨rfl, hb56⟩
  have hb6 := bthen hb5 hb56
  have s4' := s4 w6 hb56
  have s5' := s5 w6 hb56
  clear s4 s5 s2 s3 i4 i5
  have hw6 := hw.below hb6
  have hi6 := hi.below hb6
  clear hb1 hb2 hb3 hb4 hb5 hb12 hb23 hb34 hb45 hb56 hi hr hw
  go_wp2
  go_region_held (fun w' => Below w6.heap.size w6 w')
    (first | exact (Below.refl _ _).drew | assumption | exact bthen (by assumption) hb7 | exact bthen (by assumption) hb8 | exact bthen (by assumption) hb9 | exact bthen (by assumption) hb10 | exact bthen (by assumption) hb11)
    (first
      | (go_at_call 15; ((with_reducible refine (fits_is _ _ f _ (hw6.below (by assumption)) HF.out).mono ?_); rintro e w7 ⟨rfl, hb7⟩))
      | (go_at_call 16; ((with_reducible refine (rfits_is _ _ f _ HF.out).mono ?_); rintro e w' ⟨rfl, rfl⟩))
      | (go_at_call 17; ((with_reducible refine (put_any _ _ _ (hw6.below (by assumption))).mono ?_); rintro e w8 ⟨A8, c8, rfl, ho8, hb8⟩; have s8 := strs ho8.same; have r8 := Below.refl w8.heap.size w8))
      | (go_at_call 18; ((with_reducible refine (rput_any _ _ _).mono ?_); rintro e w9 ⟨A9, c9, rfl, ho9, hb9⟩; have s9 := strs ho9.same; have r9 := Below.refl w9.heap.size w9))
      | (go_at_call 19; ((with_reducible refine (putRow_any _ _ _ ns _ _ (hw6.below (by assumption)) (hi6.below (by assumption)) (by omega)).mono ?_); rintro e w10 ⟨A10, c10, rfl, ho10, hb10⟩; have s10 := strs ho10.same; have r10 := Below.refl w10.heap.size w10))
      | (go_at_call 20; ((with_reducible refine (rputRow_any _ _ _ ns _ _ (hi6.below (by assumption)) (by omega)).mono ?_); rintro e w11 ⟨A11, c11, rfl, ho11, hb11⟩; have s11 := strs ho11.same; have r11 := Below.refl w11.heap.size w11)))
  all_goals
    go_wp2
    go_ret
    exact ⟨rfl, bthen hb6 (by assumption)⟩

theorem tells_any (N K : Int) (A : Option Addr) (n c : Nat) (B : Option Addr) (m d : Nat) (l : List UInt8) (ns : List Int) (w : World) (hw : Wd w) (hr : Rd w A n c l) (hi : RdI w B m d ns) :
    Calls Tryd.prog 3 #[.agg #[.int .i64 N, .int .i64 K, .slice A n c, .slice B m d]] w (Yes w) := by
  by_cases h : 300 < n ∨ 100 < m
  · exact tells_out N K A n c B m d w hw h
  · exact tells_in N K A n c B m d l ns w hw hr hi (by omega) (by omega)
end Go.Proofs.YtdoalpophokjpaaDoor
