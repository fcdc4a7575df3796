/- The walk of NumSplit: it returns true, for every slice of bytes and every three bytes. -/
import Derived.Test.YtdoalpophokjpaaDoorNumShown
import Derived.Deep.RegionHeld3
namespace Go.Proofs.YtdoalpophokjpaaDoor
open Go.RowKit
set_option linter.unusedVariables false

theorem split_out (A : Option Addr) (n c : Nat) (kk mm nn : Int) (w : World) (hw : Wd w) (h : 300 < n) :
    Calls Tryd.prog 7 #[.agg #[.slice A n c, .int .u8 kk, .int .u8 mm, .int .u8 nn]] w (Yes w) := by
  have q1 : decide ((300 : Int) < (n : Int)) = true := by simp; omega
  go_enter Tryd.func7, Tryd.ntmps7
  go_wp2_with fail
  with_reducible refine (shown_any _ (hw.alloc _)).mono ?_
  rintro e w1 ⟨rfl, hb1⟩
  go_wp2
  go_ret
  exact ⟨rfl, bthen ((Below.refl _ _).alloc (Nat.le_refl _) _) hb1⟩

theorem takeRow_is (A : Option Addr) (n c : Nat) (l : List UInt8) (many k : Int) (w : World) (hw : Wd w) (h : Rd w A n c l) (hn : n ≤ 65536) (x : List Int × List UInt8 × Int) (hx : Num.rowOf l many k = x) :
    Calls Tryd.prog 12 #[.slice A n c, .int .i64 many, .int .i64 k] w (RowIs w x) := by
  have := takeRow_any A n c l many k w hw h hn
  rwa [hx] at this

set_option maxRecDepth 100000 in
set_option maxHeartbeats 2000000 in
theorem split_none (A : Option Addr) (n c : Nat) (kk mm nn : Int) (l : List UInt8) (w : World) (hw : Wd w) (hr : Rd w A n c l) (h : n ≤ 300)
    (hk0 : 0 ≤ kk) (hk1 : kk < 256) (hm0 : 0 ≤ mm) (hm1 : mm < 256) (hn0 : 0 ≤ nn) (hn1 : nn < 256)
    (kn k p q : Nat) (hkn : kk % 3 = (kn : Int)) (hk3 : kn < 3) (hk : Num.IsW k) (hcell : [Value.int .i64 1, Value.int .i64 2, Value.int .i64 8][kn]'hk3 = .int .i64 (k : Int))
    (hp : mm % 20 = (p : Int)) (hp20 : p < 20) (hq : nn % 20 = (q : Int)) (hq20 : q < 20) (H0 : Hid (Num.rowOf l ((p : Int) + (q : Int)) k = ([], [], 2))) (H1 : Hid (Num.rowOf l (p : Int) k = ([], [], 2))) :
    Calls Tryd.prog 7 #[.agg #[.slice A n c, .int .u8 kk, .int .u8 mm, .int .u8 nn]] w (Yes w) := by
  have q1 : decide ((300 : Int) < (n : Int)) = false := by simp; omega
  go_enter Tryd.func7, Tryd.ntmps7
  go_wp2_with fail
  with_reducible refine (shown_any _ (hw.alloc _)).mono ?_
  rintro e w1 ⟨rfl, hb1'⟩
  have hb1 := bthen ((Below.refl _ _).alloc (Nat.le_refl _) _) hb1'
  clear hb1'
  have hb2 := hb1.alloc hb1.size (.cells #[.int .i64 1, .int .i64 2, .int .i64 8] 3)
  go_wp2_with fail
  with_reducible refine (takeRow_is _ _ _ l _ _ _ (hw.below hb2) (hr.below hb2) (by omega) _ H0.out).mono ?_
  rintro e w3 ⟨A3, c3, B3, d3, rfl, hi3, ho3, hb3'⟩
  have hb3 := bthen hb2 hb3'
  clear hb3'
  go_wp2_with fail
  with_reducible refine (takeRow_is _ _ _ l _ _ _ (hw.below hb3) (hr.below hb3) (by omega) _ H1.out).mono ?_
  rintro e w4 ⟨A4, c4, B4, d4, rfl, hi4, ho4, hb34⟩
  have hb4 := bthen hb3 hb34
  go_wp2
  go_ret
  exact ⟨rfl, hb4⟩

set_option maxRecDepth 100000 in
set_option maxHeartbeats 2000000 in
theorem split_half (A : Option Addr) (n c : Nat) (kk mm nn : Int) (l : List UInt8) (w : World) (hw : Wd w) (hr : Rd w A n c l) (h : n ≤ 300)
    (hk0 : 0 ≤ kk) (hk1 : kk < 256) (hm0 : 0 ≤ mm) (hm1 : mm < 256) (hn0 : 0 ≤ nn) (hn1 : nn < 256)
    (kn k p q : Nat) (hkn : kk % 3 = (kn : Int)) (hk3 : kn < 3) (hk : Num.IsW k) (hcell : [Value.int .i64 1, Value.int .i64 2, Value.int .i64 8][kn]'hk3 = .int .i64 (k : Int))
    (hp : mm % 20 = (p : Int)) (hp20 : p < 20) (hq : nn % 20 = (q : Int)) (hq20 : q < 20) (a : List Int) (r1 : List UInt8) (hr1 : r1.length ≤ 300) (H0 : Hid (Num.rowOf l ((p : Int) + (q : Int)) k = ([], [], 2))) (H1 : Hid (Num.rowOf l (p : Int) k = (a, r1, 0))) (H2 : Hid (Num.rowOf r1 (q : Int) k = ([], [], 2))) :
    Calls Tryd.prog 7 #[.agg #[.slice A n c, .int .u8 kk, .int .u8 mm, .int .u8 nn]] w (Yes w) := by
  have q1 : decide ((300 : Int) < (n : Int)) = false := by simp; omega
  go_enter Tryd.func7, Tryd.ntmps7
  go_wp2_with fail
  with_reducible refine (shown_any _ (hw.alloc _)).mono ?_
  rintro e w1 ⟨rfl, hb1'⟩
  have hb1 := bthen ((Below.refl _ _).alloc (Nat.le_refl _) _) hb1'
  clear hb1'
  have hb2 := hb1.alloc hb1.size (.cells #[.int .i64 1, .int .i64 2, .int .i64 8] 3)
  go_wp2_with fail
  with_reducible refine (takeRow_is _ _ _ l _ _ _ (hw.below hb2) (hr.below hb2) (by omega) _ H0.out).mono ?_
  rintro e w3 ⟨A3, c3, B3, d3, rfl, hi3, ho3, hb3'⟩
  have hb3 := bthen hb2 hb3'
  clear hb3'
  go_wp2_with fail
  with_reducible refine (takeRow_is _ _ _ l _ _ _ (hw.below hb3) (hr.below hb3) (by omega) _ H1.out).mono ?_
  rintro e w4 ⟨A4, c4, B4, d4, rfl, hi4, ho4, hb34⟩
  have hb4 := bthen hb3 hb34
  go_wp2_with fail
  with_reducible refine (takeRow_is _ _ _ r1 _ _ _ (hw.below hb4) ho4.same (by omega) _ H2.out).mono ?_
  rintro e w5 ⟨A5, c5, B5, d5, rfl, hi5, ho5, hb45⟩
  have hb5 := bthen hb4 hb45
  go_wp2
  go_ret
  exact ⟨rfl, hb5⟩

set_option maxRecDepth 100000 in
set_option maxHeartbeats 2000000 in
theorem split_both (A : Option Addr) (n c : Nat) (kk mm nn : Int) (l : List UInt8) (w : World) (hw : Wd w) (hr : Rd w A n c l) (h : n ≤ 300)
    (hk0 : 0 ≤ kk) (hk1 : kk < 256) (hm0 : 0 ≤ mm) (hm1 : mm < 256) (hn0 : 0 ≤ nn) (hn1 : nn < 256)
    (kn k p q : Nat) (hkn : kk % 3 = (kn : Int)) (hk3 : kn < 3) (hk : Num.IsW k) (hcell : [Value.int .i64 1, Value.int .i64 2, Value.int .i64 8][kn]'hk3 = .int .i64 (k : Int))
    (hp : mm % 20 = (p : Int)) (hp20 : p < 20) (hq : nn % 20 = (q : Int)) (hq20 : q < 20) (a b : List Int) (r1 r2 : List UInt8) (hr1 : r1.length ≤ 300) (hla : a.length ≤ 20) (hlb : b.length ≤ 20) (H0 : Hid (Num.rowOf l ((p : Int) + (q : Int)) k = (a ++ b, r2, 0))) (H1 : Hid (Num.rowOf l (p : Int) k = (a, r1, 0))) (H2 : Hid (Num.rowOf r1 (q : Int) k = (b, r2, 0))) :
    Calls Tryd.prog 7 #[.agg #[.slice A n c, .int .u8 kk, .int .u8 mm, .int .u8 nn]] w (Yes w) := by
  have q1 : decide ((300 : Int) < (n : Int)) = false := by simp; omega
  go_enter Tryd.func7, Tryd.ntmps7
  go_wp2_with fail
  with_reducible refine (shown_any _ (hw.alloc _)).mono ?_
  rintro e w1 ⟨rfl, hb1'⟩
  have hb1 := bthen ((Below.refl _ _).alloc (Nat.le_refl _) _) hb1'
  clear hb1'
  have hb2 := hb1.alloc hb1.size (.cells #[.int .i64 1, .int .i64 2, .int .i64 8] 3)
  go_wp2_with fail
  with_reducible refine (takeRow_is _ _ _ l _ _ _ (hw.below hb2) (hr.below hb2) (by omega) _ H0.out).mono ?_
  rintro e w3 ⟨A3, c3, B3, d3, rfl, hi3, ho3, hb3'⟩
  have hb3 := bthen hb2 hb3'
  clear hb3'
  go_wp2_with fail
  with_reducible refine (takeRow_is _ _ _ l _ _ _ (hw.below hb3) (hr.below hb3) (by omega) _ H1.out).mono ?_
  rintro e w4 ⟨A4, c4, B4, d4, rfl, hi4, ho4, hb34⟩
  have hb4 := bthen hb3 hb34
  go_wp2_with fail
  with_reducible refine (takeRow_is _ _ _ r1 _ _ _ (hw.below hb4) ho4.same (by omega) _ H2.out).mono ?_
  rintro e w5 ⟨A5, c5, B5, d5, rfl, hi5, ho5, hb45⟩
  have hb5 := bthen hb4 hb45
  have hx5 : RdI w5 A3 (a.length + b.length) c3 (a ++ b) := by
    have hx : RdI w5 A3 (a ++ b).length c3 (a ++ b) := (OwnV.same hi3).below (bthen hb34 hb45)
    rwa [List.length_append] at hx
  have hy5 : RdI w5 A4 a.length c4 a := (OwnV.same hi4).below hb45
  have hz5 : RdI w5 A5 b.length c5 b := OwnV.same hi5
  have hr5 : Rd w5 B3 r2.length d3 r2 := ho3.same.below (bthen hb34 hb45)
  have hl5 : Rd w5 B5 r2.length d5 r2 := ho5.same
  have sr := strs hr5
  have sl := strs hl5
  have e2 : (str r2).toList = r2 := str_list r2
  have e4 : (r2 == r2) = true := by simp
  clear hi3 hi4 hi5 ho3 ho4 ho5
  go_wp2_with (first
    | (at_builtin
       refine wpList_appV rfl (.tmp 86) (.tmp 87) 23 rfl w5.heap.size 3 (.int .i64 0) 8 info3 rfl (by omega) Tryd.underlying23 (.slice (some ⟨w5.heap.size, 0, none⟩) 0 0) 0 [] rfl ?own A4 a.length c4 (is a) rfl (hy5.alloc _) (is_one _) (by omega) ?hb ?_
       case own => exact World.ownsRow_made (base := w5.heap.size) (e := 3) (size := 1) w5 #[] 0 (Nat.le_refl _) (Nat.zero_le _) rfl
       case hb => simp
       intro v6 w6 hown6 hb6 hg6)
    | (at_builtin
       refine wpList_appV rfl (.tmp 88) (.tmp 89) 23 rfl w5.heap.size 3 (.int .i64 0) 8 info3 rfl (by omega) Tryd.underlying23 v6 (0 + a.length) ([] ++ is a) rfl hown6 A5 b.length c5 (is b) rfl ?rd (is_one _) (by omega) ?hb ?_
       case rd => exact hz5.below (((Below.refl _ _).alloc (Nat.le_refl _) _).trans hb6)
       case hb => exact Nat.le_trans (by simp) hb6.size
       intro v7 w7 hown7 hb7 hg7))
  have hb57 : Below w5.heap.size w5 w7 := (((Below.refl _ _).alloc (Nat.le_refl _) _).trans hb6).trans hb7
  obtain ⟨A7, c7, rfl, hr7⟩ := OwnV.rd hown7
  rw [List.nil_append, ← is_append] at hr7
  with_reducible refine (rsame_is _ _ _ (a ++ b) _ _ _ (a ++ b) _ (hx5.below hb57) hr7 true (by simp)).mono ?_
  rintro e w8 ⟨rfl, hb78⟩
  have hb58 := bthen hb57 hb78
  have sr8 := sr w8 hb58
  have sl8 := sl w8 hb58
  go_wp2
  go_ret
  exact ⟨rfl, bthen hb5 hb58⟩

theorem split_any (A : Option Addr) (n c : Nat) (kk mm nn : Int) (l : List UInt8) (w : World) (hw : Wd w) (hr : Rd w A n c l)
    (hk0 : 0 ≤ kk) (hk1 : kk < 256) (hm0 : 0 ≤ mm) (hm1 : mm < 256) (hn0 : 0 ≤ nn) (hn1 : nn < 256) :
    Calls Tryd.prog 7 #[.agg #[.slice A n c, .int .u8 kk, .int .u8 mm, .int .u8 nn]] w (Yes w) := by
  by_cases h : 300 < n
  · exact split_out A n c kk mm nn w hw h
  obtain ⟨kn, k, hkn, hk3, hk, hat⟩ := wide_of kk hk0
  obtain ⟨p, hp, hp20⟩ : ∃ p : Nat, mm % 20 = (p : Int) ∧ p < 20 := ⟨(mm % 20).toNat, by omega, by omega⟩
  obtain ⟨q, hq, hq20⟩ : ∃ q : Nat, nn % 20 = (q : Int) ∧ q < 20 := ⟨(nn % 20).toNat, by omega, by omega⟩
  have hmo : ¬ Num.most k < 0 := by have := (Num.most_lt hk).1; omega
  have hadd := Num.takes_add k q p l
  have epq : ((p : Int) + (q : Int)) = ((p + q : Nat) : Int) := by omega
  have hl := hr.1
  cases h1 : Num.takes k p l with
  | none =>
    rw [h1] at hadd
    refine split_none A n c kk mm nn l w hw hr (by omega) hk0 hk1 hm0 hm1 hn0 hn1 kn k p q hkn hk3 hk (hat hk3) hp hp20 hq hq20 ?_ (hidT (Num.rowOf_none hmo h1))
    rw [epq]
    exact hidT (Num.rowOf_none hmo hadd)
  | some x =>
    obtain ⟨a, r1⟩ := x
    have hlen := Num.takes_rest h1
    have hal := Num.takes_length h1
    rw [h1] at hadd
    simp only [Option.bind_some] at hadd
    cases h2 : Num.takes k q r1 with
    | none =>
      rw [h2] at hadd
      refine split_half A n c kk mm nn l w hw hr (by omega) hk0 hk1 hm0 hm1 hn0 hn1 kn k p q hkn hk3 hk (hat hk3) hp hp20 hq hq20 a r1 (by omega) ?_ (hidT (Num.rowOf_some hmo h1)) (hidT (Num.rowOf_none hmo h2))
      rw [epq]
      exact hidT (Num.rowOf_none hmo hadd)
    | some y =>
      obtain ⟨b, r2⟩ := y
      have hbl := Num.takes_length h2
      rw [h2] at hadd
      refine split_both A n c kk mm nn l w hw hr (by omega) hk0 hk1 hm0 hm1 hn0 hn1 kn k p q hkn hk3 hk (hat hk3) hp hp20 hq hq20 a b r1 r2 (by omega) (by omega) (by omega) ?_ (hidT (Num.rowOf_some hmo h1)) (hidT (Num.rowOf_some hmo h2))
      rw [epq]
      exact hidT (Num.rowOf_some hmo hadd)
end Go.Proofs.YtdoalpophokjpaaDoor
