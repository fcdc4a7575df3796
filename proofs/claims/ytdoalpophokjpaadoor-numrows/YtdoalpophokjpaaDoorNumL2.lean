/- The walk of NumBack: it returns true, for every number, every byte and every slice of bytes. -/
import Derived.Test.YtdoalpophokjpaaDoorNumShown
import Derived.Deep.RegionHeld3
namespace Go.Proofs.YtdoalpophokjpaaDoor
open Go.RowKit
set_option linter.unusedVariables false

theorem str_append (a b : List UInt8) : str a ++ str b = str (a ++ b) := by
  apply ByteArray.ext
  simp [str]
theorem str_size (a : List UInt8) : (str a).size = a.length := by simp [str, ByteArray.size]

theorem back_out (n kk : Int) (A : Option Addr) (m c : Nat) (w : World) (hw : Wd w) (h : 300 < m) :
    Calls Tryd.prog 4 #[.int .i64 n, .int .u8 kk, .slice A m c] w (Yes w) := by
  have q1 : decide ((300 : Int) < (m : Int)) = true := by simp; omega
  go_enter Tryd.func4, Tryd.ntmps4
  go_wp2_with fail
  with_reducible refine (shown_any _ hw).mono ?_
  rintro e w1 ⟨rfl, hb1⟩
  go_wp2
  go_ret
  exact ⟨rfl, hb1⟩

set_option maxRecDepth 100000 in
set_option maxHeartbeats 1000000 in
theorem back_not (n kk : Int) (A : Option Addr) (m c kn k : Nat) (w : World) (hw : Wd w) (h : m ≤ 300) (h0 : 0 ≤ kk) (h1 : kk < 256) (hkn : kk % 3 = (kn : Int)) (hk3 : kn < 3) (hk : Num.IsW k)
    (hcell : [Value.int .i64 1, Value.int .i64 2, Value.int .i64 8][kn]'hk3 = .int .i64 (k : Int)) (hf : Num.fits n k = false) :
    Calls Tryd.prog 4 #[.int .i64 n, .int .u8 kk, .slice A m c] w (Yes w) := by
  have q1 : decide ((300 : Int) < (m : Int)) = false := by simp; omega
  go_enter Tryd.func4, Tryd.ntmps4
  go_wp2_with fail
  with_reducible refine (shown_any _ hw).mono ?_
  rintro e w1 ⟨rfl, hb1⟩
  go_wp2_with fail
  with_reducible refine (put_any n k _ ((hw.below hb1).alloc _)).mono ?_
  rw [Num.put_not hf]
  rintro e w2 ⟨A2, c2, rfl, ho2, hb2'⟩
  have hb2 := bthen hb1 (bthen ((Below.refl _ _).alloc (Nat.le_refl _) _) hb2')
  go_wp2_with fail
  with_reducible refine (fits_is n k false _ (hw.below hb2) hf).mono ?_
  rintro e w3 ⟨rfl, hb3⟩
  go_wp2
  go_ret
  exact ⟨rfl, bthen hb2 hb3⟩

set_option maxRecDepth 100000 in
set_option maxHeartbeats 2000000 in
theorem back_fit (n kk : Int) (A : Option Addr) (m c : Nat) (l : List UInt8) (kn k : Nat) (w : World) (hw : Wd w) (hr : Rd w A m c l) (h : m ≤ 300) (h0 : 0 ≤ kk) (h1 : kk < 256) (hkn : kk % 3 = (kn : Int)) (hk3 : kn < 3) (hk : Num.IsW k)
    (hcell : [Value.int .i64 1, Value.int .i64 2, Value.int .i64 8][kn]'hk3 = .int .i64 (k : Int)) (hf : Num.fits n k = true) :
    Calls Tryd.prog 4 #[.int .i64 n, .int .u8 kk, .slice A m c] w (Yes w) := by
  have q1 : decide ((300 : Int) < (m : Int)) = false := by simp; omega
  have hk8 := hk.pos
  have HL := hidT hr.1
  have hpl : (Num.put n k).length = k := by rw [Num.put_length hf, Int.toNat_natCast]
  obtain ⟨pb1, pb2, pb3⟩ := Num.put_back hf l
  have HF := hidT hf
  clear hf
  go_enter Tryd.func4, Tryd.ntmps4
  go_wp2_with fail
  with_reducible refine (shown_any _ hw).mono ?_
  rintro e w1 ⟨rfl, hb1⟩
  go_wp2_with fail
  have hput := put_any n k _ ((hw.below hb1).alloc (.cells #[.int .i64 1, .int .i64 2, .int .i64 8] 3))
  have HPL := hidT hpl
  obtain ⟨p, HP⟩ : ∃ p, Hid (Num.put n k = p) := ⟨_, hidT rfl⟩
  rw [HP.out] at hput pb1 pb2 pb3 HPL
  clear hpl
  with_reducible refine hput.mono ?_
  rintro e w2 ⟨A2, c2, rfl, ho2, hb2'⟩
  rw [HPL.out] at ho2 ⊢
  have hb2 := bthen hb1 (bthen ((Below.refl _ _).alloc (Nat.le_refl _) _) hb2')
  clear hb2' hput
  go_wp2_with fail
  with_reducible refine (fits_is n k true _ (hw.below hb2) HF.out).mono ?_
  rintro e w3 ⟨rfl, hb23⟩
  have hb3 := bthen hb2 hb23
  have hr3 := hr.below hb3
  have hp3 := ho2.same.below hb23
  go_wp2_with (first
    | (at_builtin
       refine wpList_app rfl (.tmp 40) (.tmp 41) 22 rfl w3.heap.size 5 info5 Tryd.underlying22 (.slice (some ⟨w3.heap.size, 0, none⟩) 0 0) 0 [] rfl ?own A2 k c2 p rfl (hp3.alloc _) (by omega) ?hb ?_
       case own => exact World.ownsRow_made (base := w3.heap.size) (e := 5) (size := 1) w3 #[] 0 (Nat.le_refl _) (Nat.zero_le _) rfl
       case hb => simp
       intro v4 w4 hown4 hb4)
    | (at_builtin
       refine wpList_app rfl (.tmp 42) (.tmp 43) 22 rfl w3.heap.size 5 info5 Tryd.underlying22 v4 (0 + k) ([] ++ p) rfl hown4 A m c l rfl ?rd (by omega) ?hb ?_
       case rd => exact hr3.below (((Below.refl _ _).alloc (Nat.le_refl _) _).trans hb4)
       case hb => exact Nat.le_trans (by simp) hb4.size
       intro v5 w5 hown5 hb5))
  have hb35 : Below w3.heap.size w3 w5 := (((Below.refl _ _).alloc (Nat.le_refl _) _).trans hb4).trans hb5
  have hb5' := bthen hb3 hb35
  obtain ⟨A5, c5, rfl, hr5⟩ := hown5.rd
  rw [List.nil_append] at hr5
  have ht5 := take_any A5 (0 + k + m) c5 (p ++ l) k w5 (hw.below hb5') hr5 (by omega)
  rw [pb1, pb2, pb3] at ht5
  clear pb1 pb2 pb3 hown5 hown4 hb4 hb5
  with_reducible refine ht5.mono ?_
  rintro e w6 ⟨A6, c6, rfl, ho6, hb56⟩
  have hb6 := bthen hb5' hb56
  have hr6 := hr.below hb6
  have ht6 := take_any A m c l k w6 (hw.below hb6) hr6 (by omega)
  rw [HL.out] at ho6 ⊢
  clear ht5
  by_cases hc : Num.code l k = 0
  · have HB := hidT (Num.put_num hc)
    rw [hc] at ht6
    obtain ⟨x, HX⟩ : ∃ x, Hid (Num.num l k = x) := ⟨_, hidT rfl⟩
    obtain ⟨r, HR⟩ : ∃ r, Hid (Num.rest l k = r) := ⟨_, hidT rfl⟩
    rw [HX.out, HR.out] at ht6 HB
    clear hc
    go_wp2_with fail
    with_reducible refine ht6.mono ?_
    rintro e w7 ⟨A7, c7, rfl, ho7, hb67⟩
    have hb7 := bthen hb6 hb67
    have s7 := strs ho7.same
    have sl := strs (hr.below hb7)
    have s6 := strs (ho6.same.below hb67)
    have hw7 := hw.below hb7
    have e1 : (str (Num.put x k) ++ str r).toList = l := by rw [str_append, str_list, HB.out]
    have e2 : (str l).toList = l := str_list l
    have e3 : (str (Num.put x k)).size + (str r).size = m := by rw [str_size, str_size, ← List.length_append, HB.out, HL.out]
    have e4 : (l == l) = true := by simp
    have e5 : (l != l) = false := by simp
    go_wp2
    go_region_held (fun w' => Below w7.heap.size w7 w')
      (first | exact (Below.refl _ _).drew | exact undrew hb8)
      (first | (go_at_call 17; ((with_reducible refine (put_any _ _ _ hw7.drew).mono ?_); rintro e w8 ⟨A8, c8, rfl, ho8, hb8⟩; have s8 := strs ho8.same w8 (Below.refl _ _))))
    have s6' := s6 w8 (undrew hb8)
    have sl' := sl w8 (undrew hb8)
    go_wp2
    go_ret
    exact ⟨rfl, bthen hb7 (undrew hb8)⟩
  · obtain ⟨c1, c2'⟩ := Num.code_bad hc
    have h2 := Num.code_width (l := l) (k := (k : Int)) (by have := (Num.most_lt hk).1; omega) hc
    rw [c1, c2', h2] at ht6
    clear c1 c2' h2 hc
    go_wp2_with fail
    with_reducible refine ht6.mono ?_
    rintro e w7 ⟨A7, c7, rfl, ho7, hb67⟩
    have hb7 := bthen hb6 hb67
    have sl := fun k => strs (hr.below hb7) (w7.drewN k) (drawn_below _ _)
    have s6 := fun k => strs (ho6.same.below hb67) (w7.drewN k) (drawn_below _ _)
    have hdn := drawn_below w7
    have e2 : (str l).toList = l := str_list l
    have e4 : (l == l) = true := by simp
    go_wp2
    go_quiet (fail)
    go_wp2
    go_ret
    exact ⟨rfl, bthen hb7 (hdn _)⟩

theorem back_any (n kk : Int) (A : Option Addr) (m c : Nat) (l : List UInt8) (w : World) (hw : Wd w) (hr : Rd w A m c l) (h0 : 0 ≤ kk) (h1 : kk < 256) :
    Calls Tryd.prog 4 #[.int .i64 n, .int .u8 kk, .slice A m c] w (Yes w) := by
  by_cases h : 300 < m
  · exact back_out n kk A m c w hw h
  · obtain ⟨kn, k, hkn, hk3, hk, hat⟩ := wide_of kk h0
    by_cases hf : Num.fits n k = true
    · exact back_fit n kk A m c l kn k w hw hr (by omega) h0 h1 hkn hk3 hk (hat hk3) hf
    · exact back_not n kk A m c kn k w hw (by omega) h0 h1 hkn hk3 hk (hat hk3) (by simpa using hf)
end Go.Proofs.YtdoalpophokjpaaDoor
