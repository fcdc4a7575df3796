/- The walk of the law ItemBack: an item that may be, bytes that are none's. (Written by wip/gen/laws.py.) -/
import Derived.Test.YtpahkkblkdkefaaDoorItemShown
import Derived.Test.YtpahkkblkdkefaaDoorRefItem3
import Derived.Test.YtpahkkblkdkefaaDoorRefItem1
import Derived.Deep.RegionHeld3
namespace Go.Proofs.YtpahkkblkdkefaaDoor
open Go.RowKit
set_option linter.unusedVariables false

set_option maxRecDepth 100000 in
set_option maxHeartbeats 4000000 in
theorem back_tf (u : Value) (x : Item.It) (A : Option Addr) (n c : Nat) (l : List UInt8) (w : World) (hw : Wd w) (hu : IsItem w u x) (h : Rd w A n c l) (hq : (decide (x.l.length ≤ 80) && decide (x.b.length ≤ 1100)) = true ∧ n ≤ 1200) (hm : Item.may x = true)
    (HL : Hid ((Item.bytes x).length ≤ 65536)) (HT : Hid (Item.takeOf (Item.bytes x) = some x)) (HU : Hid (Item.takeOf l = none)) (HN : Hid (17 ≤ (Item.bytes x).length)) :
    Calls Tryd.prog 4 #[u, .slice A n c] w (Yes w) := by
  obtain ⟨hfew, hn⟩ := hq
  obtain ⟨LA, ln, lc, BA, bn, bc, rfl, hl, hb⟩ := hu
  have hb0 : Below w.heap.size w (w.alloc (.cells #[.int .i64 x.k, .int .i64 x.q, .int .i64 x.e, .int .i64 x.i, .int .i64 x.t, .int .i64 x.c, .slice LA ln lc, .slice BA bn bc] 25)) := (Below.refl _ _).alloc (Nat.le_refl _) _
  have g0 := alloc_at w (.cells #[.int .i64 x.k, .int .i64 x.q, .int .i64 x.e, .int .i64 x.i, .int .i64 x.t, .int .i64 x.c, .slice LA ln lc, .slice BA bn bc] 25) _ rfl
  obtain ⟨a0, a1, a2, a3, a4, a5, a6, a7⟩ := cells8 g0
  have hit : ∀ w', Below w.heap.size w w' → IsItem w' (.agg #[.int .i64 x.k, .int .i64 x.q, .int .i64 x.e, .int .i64 x.i, .int .i64 x.t, .int .i64 x.c, .slice LA ln lc, .slice BA bn bc]) x := fun w' h => ⟨LA, ln, lc, BA, bn, bc, rfl, RdV.below hl h, hb.below h⟩
  have hS := shown_any _ (hw.below hb0)
  clear hl hb g0
  go_enter Tryd.func4, Tryd.ntmps4
  go_wp2_with fail
  with_reducible refine hS.mono ?_
  rintro en w1 ⟨rfl, hw1⟩
  have bw1 := bthen hb0 hw1
  clear hS
  have a1_0 := keepC hw1 a0
  have a1_1 := keepC hw1 a1
  have a1_2 := keepC hw1 a2
  have a1_3 := keepC hw1 a3
  have a1_4 := keepC hw1 a4
  have a1_5 := keepC hw1 a5
  have a1_6 := keepC hw1 a6
  have a1_7 := keepC hw1 a7
  clear a0 a1 a2 a3 a4 a5 a6 a7
  go_wp2_with fail
  with_reducible refine (few_is _ x w1 (hit _ bw1)).mono ?_
  rintro en w2 ⟨rfl, hw2⟩
  have bw2 := bthen bw1 hw2
  have a2_0 := keepC hw2 a1_0
  have a2_1 := keepC hw2 a1_1
  have a2_2 := keepC hw2 a1_2
  have a2_3 := keepC hw2 a1_3
  have a2_4 := keepC hw2 a1_4
  have a2_5 := keepC hw2 a1_5
  have a2_6 := keepC hw2 a1_6
  have a2_7 := keepC hw2 a1_7
  clear a1_0 a1_1 a1_2 a1_3 a1_4 a1_5 a1_6 a1_7
  rw [hfew]
  have hBy := bytes_any _ x w2 (hw.below bw2) (hit _ bw2)
  go_wp2_with fail
  with_reducible refine hBy.mono ?_
  rintro en w3 ⟨A3, n3, rfl, o3, hw3⟩
  have bw3 := bthen bw2 hw3
  have a3_0 := keepC hw3 a2_0
  have a3_1 := keepC hw3 a2_1
  have a3_2 := keepC hw3 a2_2
  have a3_3 := keepC hw3 a2_3
  have a3_4 := keepC hw3 a2_4
  have a3_5 := keepC hw3 a2_5
  have a3_6 := keepC hw3 a2_6
  have a3_7 := keepC hw3 a2_7
  clear a2_0 a2_1 a2_2 a2_3 a2_4 a2_5 a2_6 a2_7
  clear hBy
  have r3 := o3.same
  have hB := takeI_any A3 _ n3 (Item.bytes x) w3 (hw.below bw3) r3 (by have := HL.out; omega)
  rw [HT.out] at hB
  go_wp2_with fail
  with_reducible refine hB.mono ?_
  rintro en w4 ⟨v4, rfl, ⟨L4, l4, k4, B4, b4, d4, rfl, rl4, rb4⟩, hw4⟩
  have bw4 := bthen bw3 hw4
  have a4_0 := keepC hw4 a3_0
  have a4_1 := keepC hw4 a3_1
  have a4_2 := keepC hw4 a3_2
  have a4_3 := keepC hw4 a3_3
  have a4_4 := keepC hw4 a3_4
  have a4_5 := keepC hw4 a3_5
  have a4_6 := keepC hw4 a3_6
  have a4_7 := keepC hw4 a3_7
  clear a3_0 a3_1 a3_2 a3_3 a3_4 a3_5 a3_6 a3_7
  clear hB
  have wxb : Below w4.heap.size w4 (w4.alloc (.cells #[.int .i64 x.k, .int .i64 x.q, .int .i64 x.e, .int .i64 x.i, .int .i64 x.t, .int .i64 x.c, .slice L4 l4 k4, .slice B4 b4 d4] 25)) := (Below.refl _ _).alloc (Nat.le_refl _) _
  have wxg := alloc_at w4 (.cells #[.int .i64 x.k, .int .i64 x.q, .int .i64 x.e, .int .i64 x.i, .int .i64 x.t, .int .i64 x.c, .slice L4 l4 k4, .slice B4 b4 d4] 25) _ rfl
  obtain ⟨xx0, xx1, xx2, xx3, xx4, xx5, xx6, xx7⟩ := cells8 wxg
  have bwx := bthen bw4 wxb
  have a5_0 := keepC wxb a4_0
  have a5_1 := keepC wxb a4_1
  have a5_2 := keepC wxb a4_2
  have a5_3 := keepC wxb a4_3
  have a5_4 := keepC wxb a4_4
  have a5_5 := keepC wxb a4_5
  have a5_6 := keepC wxb a4_6
  have a5_7 := keepC wxb a4_7
  clear a4_0 a4_1 a4_2 a4_3 a4_4 a4_5 a4_6 a4_7
  clear wxg
  have hT := takeI_any A n c l _ (hw.below bwx) (h.below bwx) (by omega)
  rw [HU.out] at hT
  go_wp2_with fail
  with_reducible refine hT.mono ?_
  rintro en w5 ⟨rfl, hw5⟩
  have bw5 := bthen bwx hw5
  have a6_0 := keepC hw5 a5_0
  have a6_1 := keepC hw5 a5_1
  have a6_2 := keepC hw5 a5_2
  have a6_3 := keepC hw5 a5_3
  have a6_4 := keepC hw5 a5_4
  have a6_5 := keepC hw5 a5_5
  have a6_6 := keepC hw5 a5_6
  have a6_7 := keepC hw5 a5_7
  clear a5_0 a5_1 a5_2 a5_3 a5_4 a5_5 a5_6 a5_7
  have xx6_0 := keepC hw5 xx0
  have xx6_1 := keepC hw5 xx1
  have xx6_2 := keepC hw5 xx2
  have xx6_3 := keepC hw5 xx3
  have xx6_4 := keepC hw5 xx4
  have xx6_5 := keepC hw5 xx5
  have xx6_6 := keepC hw5 xx6
  have xx6_7 := keepC hw5 xx7
  clear xx0 xx1 xx2 xx3 xx4 xx5 xx6 xx7
  clear hT
  have wyb : Below w5.heap.size w5 (w5.alloc (.cells #[.int .i64 0, .int .i64 0, .int .i64 0, .int .i64 0, .int .i64 0, .int .i64 0, .slice none 0 0, .slice none 0 0] 25)) := (Below.refl _ _).alloc (Nat.le_refl _) _
  have wyg := alloc_at w5 (.cells #[.int .i64 0, .int .i64 0, .int .i64 0, .int .i64 0, .int .i64 0, .int .i64 0, .slice none 0 0, .slice none 0 0] 25) _ rfl
  obtain ⟨yy0, yy1, yy2, yy3, yy4, yy5, yy6, yy7⟩ := cells8 wyg
  have bwy := bthen bw5 wyb
  have a7_0 := keepC wyb a6_0
  have a7_1 := keepC wyb a6_1
  have a7_2 := keepC wyb a6_2
  have a7_3 := keepC wyb a6_3
  have a7_4 := keepC wyb a6_4
  have a7_5 := keepC wyb a6_5
  have a7_6 := keepC wyb a6_6
  have a7_7 := keepC wyb a6_7
  clear a6_0 a6_1 a6_2 a6_3 a6_4 a6_5 a6_6 a6_7
  have xx7_0 := keepC wyb xx6_0
  have xx7_1 := keepC wyb xx6_1
  have xx7_2 := keepC wyb xx6_2
  have xx7_3 := keepC wyb xx6_3
  have xx7_4 := keepC wyb xx6_4
  have xx7_5 := keepC wyb xx6_5
  have xx7_6 := keepC wyb xx6_6
  have xx7_7 := keepC wyb xx6_7
  clear xx6_0 xx6_1 xx6_2 xx6_3 xx6_4 xx6_5 xx6_6 xx6_7
  clear wyg
  have sl := strs (h.below bwy)
  go_wp2
  generalize hWY : (w5.alloc (.cells #[.int .i64 0, .int .i64 0, .int .i64 0, .int .i64 0, .int .i64 0, .int .i64 0, .slice none 0 0, .slice none 0 0] 25)) = WY at *
  go_quiet (fail)
  have bwd := fun k => bthen bwy (drawn_below WY k)
  have hM := fun k => may_any _ x _ (hit _ (bwd k))
  simp only [hm] at hM
  go_wp2_with fail
  with_reducible refine (hM _).mono ?_
  rintro en w8 ⟨rfl, hw8⟩
  have hx8 := bthen (drawn_below WY _) hw8
  have bw8 := bthen bwy hx8
  have a8_0 := keepC hx8 a7_0
  have a8_1 := keepC hx8 a7_1
  have a8_2 := keepC hx8 a7_2
  have a8_3 := keepC hx8 a7_3
  have a8_4 := keepC hx8 a7_4
  have a8_5 := keepC hx8 a7_5
  have a8_6 := keepC hx8 a7_6
  have a8_7 := keepC hx8 a7_7
  clear a7_0 a7_1 a7_2 a7_3 a7_4 a7_5 a7_6 a7_7
  have xx8_0 := keepC hx8 xx7_0
  have xx8_1 := keepC hx8 xx7_1
  have xx8_2 := keepC hx8 xx7_2
  have xx8_3 := keepC hx8 xx7_3
  have xx8_4 := keepC hx8 xx7_4
  have xx8_5 := keepC hx8 xx7_5
  have xx8_6 := keepC hx8 xx7_6
  have xx8_7 := keepC hx8 xx7_7
  clear xx7_0 xx7_1 xx7_2 xx7_3 xx7_4 xx7_5 xx7_6 xx7_7
  have ix : IsItem w8 (.agg #[.int .i64 x.k, .int .i64 x.q, .int .i64 x.e, .int .i64 x.i, .int .i64 x.t, .int .i64 x.c, .slice L4 l4 k4, .slice B4 b4 d4]) x := IsItem.below ⟨L4, l4, k4, B4, b4, d4, rfl, rl4, rb4⟩ (bthen wxb (bthen hw5 (bthen wyb hx8)))
  have hR := rsameI_is _ _ x x w8 ix (hit _ bw8) true (by simp)
  have q17 : decide ((17 : Int) ≤ ((Item.bytes x).length : Int)) = true := by have := HN.out; simp; omega
  have q17n : decide (17 ≤ (Item.bytes x).length) = true := by have := HN.out; simpa using this
  go_wp2_with fail
  with_reducible refine hR.mono ?_
  rintro en w9 ⟨rfl, hw9⟩
  have bw9 := bthen bw8 hw9
  go_wp2
  go_ret
  exact ⟨rfl, bw9⟩

end Go.Proofs.YtpahkkblkdkefaaDoor
