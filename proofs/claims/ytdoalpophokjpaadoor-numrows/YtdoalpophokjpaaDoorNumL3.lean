/- The walk of NumRows: it returns true, for every two slices of ints, every byte and every slice of bytes. -/
import Derived.Test.YtdoalpophokjpaaDoorNumL2
import Derived.Deep.RegionHeldLaw
namespace Go.Proofs.YtdoalpophokjpaaDoor
open Go.RowKit
set_option linter.unusedVariables false

theorem rows_out (A : Option Addr) (n c : Nat) (B : Option Addr) (m d : Nat) (kk : Int) (D : Option Addr) (t e : Nat) (w : World) (hw : Wd w) (h : 60 < n ∨ 60 < m ∨ 100 < t) :
    Calls Tryd.prog 5 #[.agg #[.slice A n c, .slice B m d, .int .u8 kk, .slice D t e]] w (Yes w) := by
  by_cases h1 : 60 < n
  · have q1 : decide ((60 : Int) < (n : Int)) = true := by simp; omega
    go_enter Tryd.func5, Tryd.ntmps5
    go_wp2_with fail
    with_reducible refine (shown_any _ (hw.alloc _)).mono ?_
    rintro e w1 ⟨rfl, hb1⟩
    go_wp2
    go_ret
    exact ⟨rfl, bthen ((Below.refl _ _).alloc (Nat.le_refl _) _) hb1⟩
  · have q1 : decide ((60 : Int) < (n : Int)) = false := by simp; omega
    by_cases h2 : 60 < m
    · have q2 : decide ((60 : Int) < (m : Int)) = true := by simp; omega
      go_enter Tryd.func5, Tryd.ntmps5
      go_wp2_with fail
      with_reducible refine (shown_any _ (hw.alloc _)).mono ?_
      rintro e w1 ⟨rfl, hb1⟩
      go_wp2
      go_ret
      exact ⟨rfl, bthen ((Below.refl _ _).alloc (Nat.le_refl _) _) hb1⟩
    · have q2 : decide ((60 : Int) < (m : Int)) = false := by simp; omega
      have q3 : decide ((100 : Int) < (t : Int)) = true := by simp; omega
      go_enter Tryd.func5, Tryd.ntmps5
      go_wp2_with fail
      with_reducible refine (shown_any _ (hw.alloc _)).mono ?_
      rintro e w1 ⟨rfl, hb1⟩
      go_wp2
      go_ret
      exact ⟨rfl, bthen ((Below.refl _ _).alloc (Nat.le_refl _) _) hb1⟩

theorem keep_alloc {W w' : World} (h : Below W.heap.size W w') (o : Obj) : Below W.heap.size W (w'.alloc o) := h.alloc h.size o
theorem all_not {l : List Int} {k : Int} {j : Nat} {x : Int} (hx : l[j]? = some x) (hf : Num.fits x k = false) : Num.putRow l k = [] := by
  unfold Num.putRow
  rw [if_neg]
  intro hh
  rw [List.all_eq_true] at hh
  rw [hh x (List.mem_of_getElem? hx)] at hf
  cases hf
theorem all_succ {l : List Int} {k : Int} {j : Nat} {x : Int} (hx : l[j]? = some x) (hf : Num.fits x k = true) (h : ((l.take j).all fun n => Num.fits n k) = true) : ((l.take (j + 1)).all fun n => Num.fits n k) = true := by
  rw [List.take_add_one, List.all_append, h, hx]
  simpa using hf

set_option maxRecDepth 100000 in
set_option maxHeartbeats 8000000 in
theorem rows_in (A : Option Addr) (n c : Nat) (B : Option Addr) (m d : Nat) (kk : Int) (D : Option Addr) (t ec : Nat) (xs ys : List Int) (tl : List UInt8) (w : World) (hw : Wd w)
    (hx : RdI w A n c xs) (hy : RdI w B m d ys) (ht : Rd w D t ec tl) (h1 : n ≤ 60) (h2 : m ≤ 60) (h3 : t ≤ 100) (hk0 : 0 ≤ kk) (hk1 : kk < 256)
    (kn k : Nat) (hkn : kk % 3 = (kn : Int)) (hk3 : kn < 3) (hk : Num.IsW k) (hcell : [Value.int .i64 1, Value.int .i64 2, Value.int .i64 8][kn]'hk3 = .int .i64 (k : Int)) :
    Calls Tryd.prog 5 #[.agg #[.slice A n c, .slice B m d, .int .u8 kk, .slice D t ec]] w (Yes w) := by
  have q1 : decide ((60 : Int) < (n : Int)) = false := by simp; omega
  have q2 : decide ((60 : Int) < (m : Int)) = false := by simp; omega
  have q3 : decide ((100 : Int) < (t : Int)) = false := by simp; omega
  have hk8 := hk.pos
  have HLX := hidT (RdI.size hx)
  have HLY := hidT (RdI.size hy)
  have HLT := hidT ht.1
  go_enter Tryd.func5, Tryd.ntmps5
  go_wp2_with fail
  with_reducible refine (shown_any _ (hw.alloc _)).mono ?_
  rintro e w1 ⟨rfl, hb1'⟩
  have hb1 := bthen ((Below.refl _ _).alloc (Nat.le_refl _) _) hb1'
  clear hb1'
  have hb2 := hb1.alloc hb1.size (.cells #[.int .i64 1, .int .i64 2, .int .i64 8] 3)
  go_wp2
  clear hkn hcell
  go_loopw [9] (fun i w' => ∃ j : Nat, j ≤ n ∧ i = .int .i64 j ∧ Hid (((xs.take j).all fun n => Num.fits n k) = true) ∧ Below w.heap.size w w') (fun i _ => n - (intOf i).toNat)
  case atStart => exact ⟨0, Nat.zero_le _, rfl, hidT rfl, hb2⟩
  case round =>
    obtain ⟨j, hj, rfl, HA, hb⟩ := hrel
    by_cases hjn : j < n
    · obtain ⟨b, o, x, rfl, hx1, hc⟩ := RdI.at_ (RdV.below hx hb) hjn
      have HX := hidT hx1
      clear hx1
      by_cases hf : Num.fits x k = true
      · have HA2 := hidT (all_succ HX.out hf HA.out)
        go_wp2_with fail
        with_reducible refine (fits_is x k true _ (hw.below hb) hf).mono ?_
        rintro e w3 ⟨rfl, hb3⟩
        go_wp2
        go_roundw
        case rel => exact ⟨j + 1, by omega, by go_num, HA2, bthen hb hb3⟩
        case measure => simp [intOf]; omega
      · have hf2 : Num.fits x k = false := by simpa using hf
        have HP := hidT (all_not HX.out hf2)
        go_wp2_with fail
        with_reducible refine (fits_is x k false _ (hw.below hb) hf2).mono ?_
        rintro e w3 ⟨rfl, hb3⟩
        have hb4 := bthen hb hb3
        go_wp2_with fail
        with_reducible refine (putRow_any _ _ _ xs _ _ (hw.below hb4) (RdV.below hx hb4) (by omega)).mono ?_
        rw [HP.out]
        rintro e w5 ⟨A5, c5, rfl, ho5, hb5⟩
        go_wp2
        go_ret
        exact ⟨rfl, bthen hb4 hb5⟩
    · obtain rfl : j = n := by omega
      have HAX : Hid ((xs.all fun n => Num.fits n k) = true) := by
        have ha := HA.out
        rw [List.take_of_length_le (by rw [HLX.out]; omega)] at ha
        exact hidT ha
      clear HA
      go_wp2
      go_loopw [10] (fun i w' => ∃ q : Nat, q ≤ m ∧ i = .int .i64 q ∧ Hid (((ys.take q).all fun n => Num.fits n k) = true) ∧ Below w.heap.size w w') (fun i _ => m - (intOf i).toNat)
      case atStart => exact ⟨0, Nat.zero_le _, rfl, hidT rfl, hb⟩
      case round =>
        obtain ⟨q, hq, rfl, HB, hb3⟩ := hrel
        by_cases hqm : q < m
        · obtain ⟨b, o, x, rfl, hx1, hc⟩ := RdI.at_ (RdV.below hy hb3) hqm
          have HX := hidT hx1
          clear hx1
          by_cases hf : Num.fits x k = true
          · have HA2 := hidT (all_succ HX.out hf HB.out)
            go_wp2_with fail
            with_reducible refine (fits_is x k true _ (hw.below hb3) hf).mono ?_
            rintro e w4 ⟨rfl, hb4⟩
            go_wp2
            go_roundw
            case rel => exact ⟨q + 1, by omega, by go_num, HA2, bthen hb3 hb4⟩
            case measure => simp [intOf]; omega
          · have hf2 : Num.fits x k = false := by simpa using hf
            go_wp2_with fail
            with_reducible refine (fits_is x k false _ (hw.below hb3) hf2).mono ?_
            rintro e w4 ⟨rfl, hb4⟩
            go_wp2
            go_ret
            exact ⟨rfl, bthen hb3 hb4⟩
        · obtain rfl : q = m := by omega
          have HAY : Hid ((ys.all fun n => Num.fits n k) = true) := by
            have ha := HB.out
            rw [List.take_of_length_le (by rw [HLY.out]; omega)] at ha
            exact hidT ha
          clear HB
          obtain ⟨X, HX⟩ : ∃ X, Hid (Num.putRow xs k = X) := ⟨_, hidT rfl⟩
          obtain ⟨Y, HY⟩ : ∃ Y, Hid (Num.putRow ys k = Y) := ⟨_, hidT rfl⟩
          obtain ⟨z, HZ⟩ : ∃ z, Hid (z = k * j) := ⟨_, hidT rfl⟩
          have HXL : Hid (X.length = z) := by
            rw [← HX.out, HZ.out, Num.putRow, if_pos HAX.out, Num.flat_length _ HAX.out, HLX.out, Int.toNat_natCast]
            exact hidT rfl
          have HYL : Hid (Y.length = k * q) := by
            rw [← HY.out, Num.putRow, if_pos HAY.out, Num.flat_length _ HAY.out, HLY.out, Int.toNat_natCast]
            exact hidT rfl
          have hz : z ≤ 480 := by rw [HZ.out]; exact Nat.mul_le_mul hk8.2 h1
          have hyl : Y.length ≤ 480 := by rw [HYL.out]; exact Nat.mul_le_mul hk8.2 h2
          have HROW : Hid (Num.rowOf (X ++ tl) (j : Int) k = (xs, tl, 0)) := by
            have hmo : ¬ Num.most k < 0 := by have := (Num.most_lt hk).1; omega
            have ht1 := Num.takes_put (k := (k : Int)) tl xs HAX.out
            rw [HLX.out] at ht1
            have hX : X = (xs.map fun n => Num.put n k).flatten := by rw [← HX.out, Num.putRow, if_pos HAX.out]
            rw [hX]
            exact hidT (Num.rowOf_some hmo ht1)
          have HAPP : Hid (Num.putRow (xs ++ ys) k = X ++ Y) := by
            rw [Num.putRow_append _ _ _ HAX.out HAY.out, HX.out, HY.out]
            exact hidT rfl
          have cx := fun w' (h : Below w.heap.size w w') => putRow_any A j c xs k w' (hw.below h) (RdV.below hx h) (by omega)
          have cy := fun w' (h : Below w.heap.size w w') => putRow_any B q d ys k w' (hw.below h) (RdV.below hy h) (by omega)
          rw [HX.out] at cx
          rw [HY.out] at cy
          go_wp2_with fail
          with_reducible refine (cx _ hb3).mono ?_
          rintro e w4 ⟨A4, c4, rfl, ho4, hb34⟩
          rw [HXL.out] at ho4 ⊢
          have hb4 := bthen hb3 hb34
          go_wp2_with fail
          with_reducible refine (cy _ hb4).mono ?_
          rintro e w5 ⟨A5, c5, rfl, ho5, hb45⟩
          have hb5 := bthen hb4 hb45
          have hx5 := ho4.same.below hb45
          have ht5 := ht.below hb5
          clear cx cy
          go_wp2_with (first
            | (at_builtin
               refine wpList_app rfl (.tmp 86) (.tmp 87) 22 rfl w5.heap.size 5 info5 Tryd.underlying22 (.slice (some ⟨w5.heap.size, 0, none⟩) 0 0) 0 [] rfl ?own A4 z c4 X rfl (hx5.alloc _) (by omega) ?hb ?_
               case own => exact World.ownsRow_made (base := w5.heap.size) (e := 5) (size := 1) w5 #[] 0 (Nat.le_refl _) (Nat.zero_le _) rfl
               case hb => simp
               intro v6 w6 hown6 hb6)
            | (at_builtin
               refine wpList_app rfl (.tmp 88) (.tmp 89) 22 rfl w5.heap.size 5 info5 Tryd.underlying22 v6 (0 + z) ([] ++ X) rfl hown6 D t ec tl rfl ?rd (by omega) ?hb ?_
               case rd => exact ht5.below (((Below.refl _ _).alloc (Nat.le_refl _) _).trans hb6)
               case hb => exact Nat.le_trans (by simp) hb6.size
               intro v7 w7 hown7 hb7))
          have hb57 : Below w5.heap.size w5 w7 := (((Below.refl _ _).alloc (Nat.le_refl _) _).trans hb6).trans hb7
          have hb7' := bthen hb5 hb57
          obtain ⟨A7, c7, rfl, hr7⟩ := hown7.rd
          rw [List.nil_append] at hr7
          have ctk := takeRow_any A7 (0 + z + t) c7 (X ++ tl) (j : Int) k w7 (hw.below hb7') hr7 (by omega)
          rw [HROW.out] at ctk
          clear hown7 hown6 hb6 hb7
          with_reducible refine ctk.mono ?_
          rintro e w8 ⟨A8, c8, B8, d8, rfl, hi8', ho8', hb78⟩
          have hb8 := bthen hb7' hb78
          have hi8 : RdI w8 A8 j c8 xs := by
            have hh := OwnV.same hi8'
            simp only [HLX.out] at hh
            exact hh
          have ho8 : Rd w8 B8 t d8 tl := by
            have hh := ho8'.same
            simp only [HLT.out] at hh
            exact hh
          simp only [HLX.out, HLT.out]
          have hb58 := bthen hb57 hb78
          have sX := strs (hx5.below hb58)
          have sY := strs (ho5.same.below hb58)
          have sT := strs (ht.below hb8)
          have sR := strs ho8
          have hxa8 := RdV.below hx hb8
          have hyc8 := RdV.below hy hb8
          have hw8 := hw.below hb8
          clear hi8' ho8' ctk hr7 ho4 ho5 hx5 ht5 hb57 hb58 hb7' hb34 hb45 hb78
          have e1 : (str X ++ str Y).toList = X ++ Y := by rw [str_append, str_list]
          have e2 : (str (X ++ Y)).toList = X ++ Y := str_list _
          have e3 : (str tl).toList = tl := str_list _
          have e4 : (tl == tl) = true := by simp
          have e5 : (X ++ Y == X ++ Y) = true := by simp
          obtain ⟨z2, e6, hz2⟩ : ∃ z2, (str X).size + (str Y).size = z2 ∧ z2 ≤ 960 := ⟨_, rfl, by rw [str_size, str_size, HXL.out]; omega⟩
          have hz3 : ¬ 9223372036854775807 < z2 := by omega
          have e7 : IntKind.i64.wrap ((k : Int) * (j : Int)) = (z : Int) := by
            rw [HZ.out, ← Int.natCast_mul]
            exact IntWalk.i64_in _ (by have hh := HZ.out; omega)
          have e8 : ((z : Int) == (z : Int)) = true := by simp
          have e9 : wrap64 ((k : Int) * (j : Int)) = (z : Int) := by
            rw [HZ.out, ← Int.natCast_mul]
            exact IntWalk.wrap64_in _ (by have hh := HZ.out; omega)
          go_wp2
          go_region_held_law (fun w' => Below w8.heap.size w8 w')
            (first | exact (Below.refl _ _).drew | exact hb12' | exact hb11' | exact hb10' | exact keep_alloc hb9' _ | exact hb9' | assumption)
            (first
              | (go_at_call 14; ((with_reducible refine (rsame_is _ _ _ xs _ _ _ xs _ (hi8.below ((Below.refl _ _).drew)) (hxa8.below ((Below.refl _ _).drew)) true (by simp)).mono ?_); rintro e w9 ⟨rfl, hb9⟩; have hb9' : Below w8.heap.size w8 w9 := undrew hb9))
              | (refine step_appV rfl (.tmp 125) (.tmp 126) 23 rfl w8.heap.size 3 (.int .i64 0) 8 info3 rfl (by omega) Tryd.underlying23 (.slice (some ⟨w9.heap.size, 0, none⟩) 0 0) 0 [] rfl (World.ownsRow_made (base := w8.heap.size) (e := 3) (size := 1) w9 #[] 0 hb9'.size (Nat.zero_le _) rfl) A j c (is xs) rfl (RdV.alloc (hxa8.below hb9') _) (is_one _) (by omega) ((keep_alloc hb9' _).size) ?_
                 intro v10 w10 hown10 hb10 hg10
                 have hb10' : Below w8.heap.size w8 w10 := (keep_alloc hb9' _).trans hb10)
              | (refine step_appV rfl (.tmp 127) (.tmp 128) 23 rfl w8.heap.size 3 (.int .i64 0) 8 info3 rfl (by omega) Tryd.underlying23 v10 (0 + j) ([] ++ is xs) rfl hown10 B q d (is ys) rfl (hyc8.below hb10') (is_one _) (by omega) hb10'.size ?_
                 intro v11 w11 hown11 hb11 hg11
                 have hb11' : Below w8.heap.size w8 w11 := hb10'.trans hb11
                 obtain ⟨A11, c11, rfl, hr11⟩ := OwnV.rd hown11
                 rw [List.nil_append, ← is_append, Nat.zero_add] at hr11)
              | (go_at_call 19; ((with_reducible refine (putRow_any _ _ _ (xs ++ ys) _ _ (hw8.below hb11') hr11 (by omega)).mono ?_); rw [HAPP.out]; rintro e w12 ⟨A12, c12, rfl, ho12, hb12⟩; have hb12' : Below w8.heap.size w8 w12 := bthen hb11' hb12; have hr12 : Rd w12 A12 (X.length + Y.length) c12 (X ++ Y) := (by have hh := ho12.same; rwa [List.length_append] at hh); have s12 := strs hr12 w12 (Below.refl _ _))))
          all_goals
            go_wp2
            go_ret
            exact ⟨rfl, bthen hb8 hb12'⟩

theorem rows_any (A : Option Addr) (n c : Nat) (B : Option Addr) (m d : Nat) (kk : Int) (D : Option Addr) (t ec : Nat) (xs ys : List Int) (tl : List UInt8) (w : World) (hw : Wd w)
    (hx : RdI w A n c xs) (hy : RdI w B m d ys) (ht : Rd w D t ec tl) (hk0 : 0 ≤ kk) (hk1 : kk < 256) :
    Calls Tryd.prog 5 #[.agg #[.slice A n c, .slice B m d, .int .u8 kk, .slice D t ec]] w (Yes w) := by
  by_cases h : 60 < n ∨ 60 < m ∨ 100 < t
  · exact rows_out A n c B m d kk D t ec w hw h
  · obtain ⟨kn, k, hkn, hk3, hk, hat⟩ := wide_of kk hk0
    exact rows_in A n c B m d kk D t ec xs ys tl w hw hx hy ht (by omega) (by omega) (by omega) hk0 hk1 kn k hkn hk3 hk (hat hk3)
end Go.Proofs.YtdoalpophokjpaaDoor
