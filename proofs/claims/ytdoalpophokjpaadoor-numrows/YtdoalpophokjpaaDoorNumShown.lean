/- The document's examples of num, at the head of each law of its layer: they come out true. -/
import Derived.Test.YtdoalpophokjpaaDoorRefNum2
namespace Go.Proofs.YtdoalpophokjpaaDoor
open Go.RowKit
set_option linter.unusedVariables false

theorem ex1 (A : Option Addr) (c : Nat) (w : World) (hw : Wd w) (h : Rd w A 3 c [1, 2, 3]) : Calls Tryd.prog 10 #[.slice A 3 c, .int .i64 2] w (TakeIs w 258 [3] 0) := by
  have := take_any A 3 c [1, 2, 3] 2 w hw h (by omega)
  rw [show Num.num [1, 2, 3] 2 = 258 from by decide, show Num.rest [1, 2, 3] 2 = [3] from by decide, show Num.code [1, 2, 3] 2 = 0 from by decide] at this
  exact this
theorem ex2 (A : Option Addr) (c : Nat) (w : World) (hw : Wd w) (h : Rd w A 3 c [1, 2, 3]) : Calls Tryd.prog 12 #[.slice A 3 c, .int .i64 2, .int .i64 1] w (RowIs w ([1, 2], [3], 0)) := by
  have := takeRow_any A 3 c [1, 2, 3] 2 1 w hw h (by omega)
  rw [show Num.rowOf [1, 2, 3] 2 1 = ([1, 2], [3], 0) from by decide] at this
  exact this
theorem ex3 (w : World) (hw : Wd w) : Calls Tryd.prog 10 #[.slice none 0 0, .int .i64 1] w (TakeIs w 0 [] 2) := by
  have := take_any none 0 0 [] 1 w hw (Rd.nil_ _) (by omega)
  rw [show Num.num [] 1 = 0 from by decide, show Num.rest [] 1 = [] from by decide, show Num.code [] 1 = 2 from by decide] at this
  exact this
theorem ex4 (A : Option Addr) (c : Nat) (w : World) (hw : Wd w) (h : Rd w A 3 c [1, 2, 3]) : Calls Tryd.prog 10 #[.slice A 3 c, .int .i64 3] w (TakeIs w 0 [] 1) := by
  have := take_any A 3 c [1, 2, 3] 3 w hw h (by omega)
  rw [show Num.num [1, 2, 3] 3 = 0 from by decide, show Num.rest [1, 2, 3] 3 = [] from by decide, show Num.code [1, 2, 3] 3 = 1 from by decide] at this
  exact this
theorem ex5 (w : World) (hw : Wd w) : Calls Tryd.prog 17 #[.int .i64 258, .int .i64 2] w (Gives w 5 [1, 2]) := by
  have := put_any 258 2 w hw
  rw [show Num.put 258 2 = [1, 2] from by decide] at this
  exact this
theorem ex6 (A : Option Addr) (c : Nat) (w : World) (hw : Wd w) (h : RdI w A 2 c [1, 2]) : Calls Tryd.prog 19 #[.slice A 2 c, .int .i64 1] w (Gives w 5 [1, 2]) := by
  have := putRow_any A 2 c [1, 2] 1 w hw h (by omega)
  rw [show Num.putRow [1, 2] 1 = [1, 2] from by decide] at this
  exact this
theorem rd123 (w : World) : Rd (w.alloc (.cells #[.int .u8 1, .int .u8 2, .int .u8 3] 5)) (some ⟨w.heap.size, 0, none⟩) 3 3 [1, 2, 3] := Rd.lit w _ _ _ [1, 2, 3] rfl 3 rfl (by decide)
theorem rd12 (w : World) : RdI (w.alloc (.cells #[.int .i64 1, .int .i64 2] 3)) (some ⟨w.heap.size, 0, none⟩) 2 2 [1, 2] := RdV.lit w _ _ _ (is [1, 2]) rfl 2 rfl (by decide) _ rfl
theorem str_list (l : List UInt8) : (str l).toList = l := by rw [ByteArray.toList_eq]; rfl

set_option maxRecDepth 100000 in
set_option maxHeartbeats 2000000 in
theorem shown_any (w : World) (hw : Wd w) : Calls Tryd.prog 9 #[] w (Yes w) := by
  have hs12 := str_list [1, 2]
  have hs3 := str_list [3]
  go_enter Tryd.func9, Tryd.ntmps9
  go_wp2_with fail
  with_reducible refine (ex1 _ _ _ (hw.alloc _) (rd123 _)).mono ?_
  rintro e w1 ⟨A1, c1, rfl, ho1, hb1'⟩
  have hb1 : Below w.heap.size w w1 := bthen ((Below.refl _ _).alloc (Nat.le_refl _) _) hb1'
  clear hb1'
  go_wp2_with fail
  with_reducible refine (ex2 _ _ _ ((hw.below hb1).alloc _) (rd123 _)).mono ?_
  rintro e w2 ⟨A2, c2, B2, d2, rfl, hi2, ho2, hb2'⟩
  have hb12 : Below w1.heap.size w1 w2 := bthen ((Below.refl _ _).alloc (Nat.le_refl _) _) hb2'
  have hb2 := bthen hb1 hb12
  clear hb2'
  go_wp2_with fail
  with_reducible refine (ex3 _ (hw.below hb2)).mono ?_
  rintro e w3 ⟨A3, c3, rfl, ho3, hb23⟩
  have hb3 := bthen hb2 hb23
  go_wp2_with fail
  with_reducible refine (ex4 _ _ _ ((hw.below hb3).alloc _) (rd123 _)).mono ?_
  rintro e w4 ⟨A4, c4, rfl, ho4, hb4'⟩
  have hb34 : Below w3.heap.size w3 w4 := bthen ((Below.refl _ _).alloc (Nat.le_refl _) _) hb4'
  have hb4 := bthen hb3 hb34
  clear hb4'
  go_wp2_with fail
  with_reducible refine (ex5 _ (hw.below hb4)).mono ?_
  rintro e w5 ⟨A5, c5, rfl, ho5, hb45⟩
  have hb5 := bthen hb4 hb45
  have hr5 : Rd w5 A5 2 c5 [1, 2] := ho5.same
  have hr1 : Rd w5 A1 1 c1 [3] := ho1.same.below (bthen hb12 (bthen hb23 (bthen hb34 hb45)))
  have hr2 : Rd w5 B2 1 d2 [3] := ho2.same.below (bthen hb23 (bthen hb34 hb45))
  have hi5 : RdI w5 A2 2 c2 [1, 2] := (OwnV.same hi2).below (bthen hb23 (bthen hb34 hb45))
  have st5 := strs hr5 w5 (Below.refl _ _)
  have st1 := strs hr1 w5 (Below.refl _ _)
  have st2 := strs hr2
  clear hr5 hr1 hr2 hi2 ho1 ho2 ho3 ho4 ho5
  go_wp2_with fail
  with_reducible refine (rsame_is _ _ _ [1, 2] _ _ _ [1, 2] _ (hi5.alloc _) (rd12 _) true rfl).mono ?_
  rintro e w6 ⟨rfl, hb6'⟩
  have hb56 : Below w5.heap.size w5 w6 := bthen ((Below.refl _ _).alloc (Nat.le_refl _) _) hb6'
  have hb6 := bthen hb5 hb56
  have st6 := st2 w6 hb56
  go_wp2_with fail
  with_reducible refine (fits_is 255 1 true _ (hw.below hb6) rfl).mono ?_
  rintro e w7 ⟨rfl, hb67⟩
  have hb7 := bthen hb6 hb67
  go_wp2_with fail
  with_reducible refine (fits_is 256 1 false _ (hw.below hb7) rfl).mono ?_
  rintro e w8 ⟨rfl, hb78⟩
  have hb8 := bthen hb7 hb78
  go_wp2_with fail
  with_reducible refine (fits_is 1 4 false _ (hw.below hb8) rfl).mono ?_
  rintro e w9 ⟨rfl, hb89⟩
  have hb9 := bthen hb8 hb89
  go_wp2_with fail
  with_reducible refine (ex6 _ _ _ ((hw.below hb9).alloc _) (rd12 _)).mono ?_
  rintro e w10 ⟨A10, c10, rfl, ho10, hb10'⟩
  have hb10 : Below w.heap.size w w10 := bthen hb9 (bthen ((Below.refl _ _).alloc (Nat.le_refl _) _) hb10')
  have hr10 : Rd w10 A10 2 c10 [1, 2] := ho10.same
  have st10 := strs hr10 w10 (Below.refl _ _)
  go_wp2
  go_ret
  exact ⟨rfl, hb10⟩

/-- The width that a byte names, as the laws draw it. -/
theorem wide_of (kk : Int) (h0 : 0 ≤ kk) : ∃ kn k : Nat, kk % 3 = (kn : Int) ∧ kn < 3 ∧ Num.IsW k ∧ ∀ h : kn < 3, [Value.int .i64 1, Value.int .i64 2, Value.int .i64 8][kn]'h = .int .i64 (k : Int) := by
  obtain ⟨kn, hkn, hk3⟩ : ∃ kn : Nat, kk % 3 = (kn : Int) ∧ kn < 3 := ⟨(kk % 3).toNat, by omega, by omega⟩
  obtain rfl | rfl | rfl : kn = 0 ∨ kn = 1 ∨ kn = 2 := by omega
  · exact ⟨0, 1, hkn, hk3, .inl rfl, fun _ => rfl⟩
  · exact ⟨1, 2, hkn, hk3, .inr (.inl rfl), fun _ => rfl⟩
  · exact ⟨2, 8, hkn, hk3, .inr (.inr rfl), fun _ => rfl⟩
end Go.Proofs.YtdoalpophokjpaaDoor
