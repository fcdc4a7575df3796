/- The walk of the law ItemCut. (Written by wip/gen/laws.py.) -/
import Derived.Test.YtpahkkblkdkefaaDoorItemShown
import Derived.Test.YtpahkkblkdkefaaDoorRefItem3
import Derived.Test.YtpahkkblkdkefaaDoorRefItem1
import Derived.Deep.RegionHeld3
import Derived.Test.YtpahkkblkdkefaaDoorItemCuts
namespace Go.Proofs.YtpahkkblkdkefaaDoor
open Go.RowKit
set_option linter.unusedVariables false

set_option maxRecDepth 100000 in
set_option maxHeartbeats 4000000 in
theorem cut_b (u : Value) (x : Item.It) (cu k : Nat) (m : UInt8) (w : World) (hw : Wd w) (hu : IsItem w u x) (hfew : (decide (x.l.length ≤ 80) && decide (x.b.length ≤ 1100)) = true) (hm : Item.may x = true) (hcu : cu < 65536) (h17 : 17 ≤ (Item.bytes x).length) (hs : (Item.bytes x).length ≤ 1043) (hrem : cu % ((Item.bytes x).length + 1) = k) (hk : k ≤ (Item.bytes x).length) (z : Item.It)
    (HE : Hid (Item.takeOf ((Item.bytes x).take k) = none)) (HF : Hid (Item.takeOf (Item.bytes x ++ [m]) = some z)) (HG : Hid (x.k ≠ 3 ∧ x.k ≠ 4 ∧ x.k ≠ 5 ∧ x.k ≠ 6)) :
    Calls Tryd.prog 6 #[u, .int .u16 (cu : Int), .int .u8 (m.toNat : Int)] w (Yes w) := by
  obtain ⟨LA, ln, lc, BA, bn, bc, rfl, hl, hb⟩ := hu
  have hb0 : Below w.heap.size w (w.alloc (.cells #[.int .i64 x.k, .int .i64 x.q, .int .i64 x.e, .int .i64 x.i, .int .i64 x.t, .int .i64 x.c, .slice LA ln lc, .slice BA bn bc] 25)) := (Below.refl _ _).alloc (Nat.le_refl _) _
  have g0 := alloc_at w (.cells #[.int .i64 x.k, .int .i64 x.q, .int .i64 x.e, .int .i64 x.i, .int .i64 x.t, .int .i64 x.c, .slice LA ln lc, .slice BA bn bc] 25) _ rfl
  obtain ⟨a0, a1, a2, a3, a4, a5, a6, a7⟩ := cells8 g0
  have hit : ∀ w', Below w.heap.size w w' → IsItem w' (.agg #[.int .i64 x.k, .int .i64 x.q, .int .i64 x.e, .int .i64 x.i, .int .i64 x.t, .int .i64 x.c, .slice LA ln lc, .slice BA bn bc]) x := fun w' h => ⟨LA, ln, lc, BA, bn, bc, rfl, RdV.below hl h, hb.below h⟩
  have HRL : Hid (∀ w', Below w.heap.size w w' → RdI w' LA ln lc x.l) := hidT fun w' h => RdV.below hl h
  have HRB : Hid (∀ w', Below w.heap.size w w' → Rd w' BA bn bc x.b) := hidT fun w' h => hb.below h
  have HRN := hidT hb.1
  have hS := shown_any _ (hw.below hb0)
  clear hl hb g0
  go_enter Tryd.func6, Tryd.ntmps6
  go_wp2_with fail
  with_reducible refine hS.mono ?_
  rintro en w1 ⟨rfl, hw1⟩
  have bw1 := bthen hb0 hw1
  clear hS
  have a1_0 := keepC hw1 a0
  have a1_1 := keepC hw1 a1
  have a1_2 := keepC hw1 a2
  have a1_3 := keepC hw1 a3
  have a1_4 := keepC hw1 a4
  have a1_5 := keepC hw1 a5
  have a1_6 := keepC hw1 a6
  have a1_7 := keepC hw1 a7
  clear a0 a1 a2 a3 a4 a5 a6 a7
  have hF := few_is _ x w1 (hit _ bw1)
  rw [hfew] at hF
  go_wp2_with fail
  with_reducible refine hF.mono ?_
  rintro en w2 ⟨rfl, hw2⟩
  have bw2 := bthen bw1 hw2
  clear hF
  have a2_0 := keepC hw2 a1_0
  have a2_1 := keepC hw2 a1_1
  have a2_2 := keepC hw2 a1_2
  have a2_3 := keepC hw2 a1_3
  have a2_4 := keepC hw2 a1_4
  have a2_5 := keepC hw2 a1_5
  have a2_6 := keepC hw2 a1_6
  have a2_7 := keepC hw2 a1_7
  clear a1_0 a1_1 a1_2 a1_3 a1_4 a1_5 a1_6 a1_7
  have hM := rmay_any _ x w2 (hit _ bw2)
  rw [hm] at hM
  go_wp2_with fail
  with_reducible refine hM.mono ?_
  rintro en w3 ⟨rfl, hw3⟩
  have bw3 := bthen bw2 hw3
  clear hM
  have a3_0 := keepC hw3 a2_0
  have a3_1 := keepC hw3 a2_1
  have a3_2 := keepC hw3 a2_2
  have a3_3 := keepC hw3 a2_3
  have a3_4 := keepC hw3 a2_4
  have a3_5 := keepC hw3 a2_5
  have a3_6 := keepC hw3 a2_6
  have a3_7 := keepC hw3 a2_7
  clear a2_0 a2_1 a2_2 a2_3 a2_4 a2_5 a2_6 a2_7
  have hB := bytes_any _ x w3 (hw.below bw3) (hit _ bw3)
  generalize Item.bytes x = X at *
  go_wp2_with fail
  with_reducible refine hB.mono ?_
  rintro en w4 ⟨A4, c4, rfl, o4, hw4⟩
  have bw4 := bthen bw3 hw4
  clear hB
  have a4_0 := keepC hw4 a3_0
  have a4_1 := keepC hw4 a3_1
  have a4_2 := keepC hw4 a3_2
  have a4_3 := keepC hw4 a3_3
  have a4_4 := keepC hw4 a3_4
  have a4_5 := keepC hw4 a3_5
  have a4_6 := keepC hw4 a3_6
  have a4_7 := keepC hw4 a3_7
  clear a3_0 a3_1 a3_2 a3_3 a3_4 a3_5 a3_6 a3_7
  have r4 := o4.same
  have hcap := r4.2.1
  obtain ⟨gb, go_, hA4, _⟩ := r4.at_ (by omega)
  subst hA4
  have hT := takeI_any _ k c4 (X.take k) w4 (hw.below bw4) (r4.take hk) (by omega)
  rw [HE.out] at hT
  have t1 : (0 : Int) ≤ (k : Int) := by omega
  have t2 : (k : Int) ≤ (c4 : Int) := by omega
  have t3 : k ≤ c4 := by omega
  have HRM : ((cu : Int) % ((X.length : Int) + 1)) = (k : Int) := by rw [← hrem]; push_cast; rfl
  go_wp2_with fail
  with_reducible refine hT.mono ?_
  rintro en w5 ⟨rfl, hw5⟩
  have bw5 := bthen bw4 hw5
  clear hT
  have a5_0 := keepC hw5 a4_0
  have a5_1 := keepC hw5 a4_1
  have a5_2 := keepC hw5 a4_2
  have a5_3 := keepC hw5 a4_3
  have a5_4 := keepC hw5 a4_4
  have a5_5 := keepC hw5 a4_5
  have a5_6 := keepC hw5 a4_6
  have a5_7 := keepC hw5 a4_7
  clear a4_0 a4_1 a4_2 a4_3 a4_4 a4_5 a4_6 a4_7
  have sx := size_alloc w5 (.cells #[.int .i64 0, .int .i64 0, .int .i64 0, .int .i64 0, .int .i64 0, .int .i64 0, .slice none 0 0, .slice none 0 0] 25)
  have owx : Own ((w5.alloc (.cells #[.int .i64 0, .int .i64 0, .int .i64 0, .int .i64 0, .int .i64 0, .int .i64 0, .slice none 0 0, .slice none 0 0] 25)).alloc (.cells #[] 5)) (w5.heap.size + 1) 5 (.slice (some ⟨w5.heap.size + 1, 0, none⟩) 0 0) 0 [] := by
    have hh := World.ownsRow_made (base := w5.heap.size + 1) (e := 5) (size := 1) (w5.alloc (.cells #[.int .i64 0, .int .i64 0, .int .i64 0, .int .i64 0, .int .i64 0, .int .i64 0, .slice none 0 0, .slice none 0 0] 25)) #[] 0 (by rw [sx]; exact Nat.le_refl _) (Nat.zero_le _) rfl
    rw [sx] at hh
    exact hh
  have b56 : Below w5.heap.size w5 ((w5.alloc (.cells #[.int .i64 0, .int .i64 0, .int .i64 0, .int .i64 0, .int .i64 0, .int .i64 0, .slice none 0 0, .slice none 0 0] 25)).alloc (.cells #[] 5)) := ((Below.refl _ _).alloc (Nat.le_refl _) _).alloc (by rw [sx]; omega) _
  have sz6 : w5.heap.size + 1 ≤ ((w5.alloc (.cells #[.int .i64 0, .int .i64 0, .int .i64 0, .int .i64 0, .int .i64 0, .int .i64 0, .slice none 0 0, .slice none 0 0] 25)).alloc (.cells #[] 5)).heap.size := by rw [size_alloc, sx]; omega
  have r6 := (r4.below hw5).below b56
  go_wp2_with (first
    | (at_builtin
       refine wpList_app rfl (.tmp 41) (.tmp 42) 23 rfl (w5.heap.size + 1) 5 info5 Tryd.underlying23 _ 0 [] rfl owx _ X.length c4 X rfl r6 (by omega) sz6 ?_
       intro v7 w7 ho7 hb7
       rw [Nat.zero_add, List.nil_append] at ho7
       have sz7 := Nat.le_trans sz6 hb7.size
       have b57 : Below w5.heap.size w5 w7 := b56.trans (hb7.mono (Nat.le_succ _)))
    | (at_builtin
       refine wpList_app rfl (.tmp 43) (.tmp 45) 23 rfl (w5.heap.size + 1) 5 info5 Tryd.underlying23 _ X.length X rfl ?own2 _ 1 1 [m] rfl ?rd2 (by omega) ?hb2 ?_
       case own2 => exact ho7.later ((Below.refl _ _).alloc (Nat.le_refl _) _)
       case rd2 => exact Rd.litAt _ _ _ _ _ rfl 1 rfl (by decide) _ rfl
       case hb2 => rw [size_alloc]; omega
       intro v8 w8 ho8 hb8
       have b58 : Below w5.heap.size w5 w8 := (b57.alloc (by omega) _).trans (hb8.mono (Nat.le_succ _))
       obtain ⟨A8, n8, rfl, hr8⟩ := ho8.rd))
  have bw8 := bthen bw5 b58
  have a6_0 := keepC b58 a5_0
  have a6_1 := keepC b58 a5_1
  have a6_2 := keepC b58 a5_2
  have a6_3 := keepC b58 a5_3
  have a6_4 := keepC b58 a5_4
  have a6_5 := keepC b58 a5_5
  have a6_6 := keepC b58 a5_6
  have a6_7 := keepC b58 a5_7
  clear a5_0 a5_1 a5_2 a5_3 a5_4 a5_5 a5_6 a5_7
  have hT2 := takeI_any A8 (X.length + 1) n8 (X ++ [m]) w8 (hw.below bw8) hr8 (by omega)
  rw [HF.out] at hT2
  with_reducible refine hT2.mono ?_
  rintro en w9 ⟨v9, rfl, ⟨L9, l9, k9, B9, b9, d9, rfl, rl9, rb9⟩, hw9⟩
  have bw9 := bthen bw8 hw9
  clear hT2 hr8 ho8 owx r6 r4 o4
  have a7_0 := keepC hw9 a6_0
  have a7_1 := keepC hw9 a6_1
  have a7_2 := keepC hw9 a6_2
  have a7_3 := keepC hw9 a6_3
  have a7_4 := keepC hw9 a6_4
  have a7_5 := keepC hw9 a6_5
  have a7_6 := keepC hw9 a6_6
  have a7_7 := keepC hw9 a6_7
  clear a6_0 a6_1 a6_2 a6_3 a6_4 a6_5 a6_6 a6_7
  have wzb : Below w9.heap.size w9 (w9.alloc (.cells #[.int .i64 z.k, .int .i64 z.q, .int .i64 z.e, .int .i64 z.i, .int .i64 z.t, .int .i64 z.c, .slice L9 l9 k9, .slice B9 b9 d9] 25)) := (Below.refl _ _).alloc (Nat.le_refl _) _
  have wzg := alloc_at w9 (.cells #[.int .i64 z.k, .int .i64 z.q, .int .i64 z.e, .int .i64 z.i, .int .i64 z.t, .int .i64 z.c, .slice L9 l9 k9, .slice B9 b9 d9] 25) _ rfl
  obtain ⟨zz0, zz1, zz2, zz3, zz4, zz5, zz6, zz7⟩ := cells8 wzg
  have bwz := bthen bw9 wzb
  have a8_0 := keepC wzb a7_0
  have a8_1 := keepC wzb a7_1
  have a8_2 := keepC wzb a7_2
  have a8_3 := keepC wzb a7_3
  have a8_4 := keepC wzb a7_4
  have a8_5 := keepC wzb a7_5
  have a8_6 := keepC wzb a7_6
  have a8_7 := keepC wzb a7_7
  clear a7_0 a7_1 a7_2 a7_3 a7_4 a7_5 a7_6 a7_7
  clear wzg
  have q17 : decide ((X.length : Int) < 17) = false := by simp; omega
  have q17n : decide (X.length < 17) = false := by simp; omega
  obtain ⟨e3, e4, e5, e6⟩ := HG.out
  have qk3 : (x.k == 3) = false := by simpa using e3
  have qk4 : (x.k == 4) = false := by simpa using e4
  have qk5 : (x.k == 5) = false := by simpa using e5
  have qk6 : (x.k == 6) = false := by simpa using e6
  have qn6 : (x.k != 6) = true := by simpa using e6
  go_wp2
  all_goals
    go_ret
    exact ⟨rfl, bwz⟩

end Go.Proofs.YtpahkkblkdkefaaDoor
