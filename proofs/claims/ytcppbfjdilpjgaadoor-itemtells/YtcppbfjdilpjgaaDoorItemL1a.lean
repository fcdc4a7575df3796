/- The walk of the law ItemTells. (Written by wip/gen/laws.py.) -/
import Derived.Test.YtcppbfjdilpjgaaDoorItemShown
import Derived.Test.YtcppbfjdilpjgaaDoorRD
import Derived.Test.YtcppbfjdilpjgaaDoorIE
import Derived.Test.YtcppbfjdilpjgaaDoorRefItem8
import Derived.Deep.RegionHeld3
set_option maxRecDepth 100000
namespace Go.Proofs.YtcppbfjdilpjgaaDoor
open Go.RowKit
set_option linter.unusedVariables false

set_option maxRecDepth 100000 in
set_option maxHeartbeats 40000000 in
theorem tells_a (u v : Value) (x y : Item.It) (A : Option Addr) (n c : Nat) (l : List UInt8) (w : World) (hw : Wd w) (hu : IsItem w u x) (hv : IsItem w v y) (h : Rd w A n c l) (f1 : (decide (x.l.length ≤ 80) && decide (x.b.length ≤ 1100)) = true) (f2 : (decide (y.l.length ≤ 80) && decide (y.b.length ≤ 1100)) = true) (hn : n ≤ 1200) (z : Item.It) (HU : Hid (Item.takeOf l = some z)) :
    Calls Tryd.prog 3 #[u, v, .slice A n c] w (Yes w) := by
  obtain ⟨LA, ln, lc, BA, bn, bc, rfl, hl, hb⟩ := hu
  obtain ⟨LA', ln', lc', BA', bn', bc', rfl, hl', hb'⟩ := hv
  obtain ⟨g0, g1, hb0⟩ := two_alloc w (.cells #[.int .i64 x.k, .int .i64 x.q, .int .i64 x.e, .int .i64 x.i, .int .i64 x.t, .int .i64 x.c, .slice LA ln lc, .slice BA bn bc] 25) (.cells #[.int .i64 y.k, .int .i64 y.q, .int .i64 y.e, .int .i64 y.i, .int .i64 y.t, .int .i64 y.c, .slice LA' ln' lc', .slice BA' bn' bc'] 25)
  obtain ⟨a0, a1, a2, a3, a4, a5, a6, a7⟩ := cells8 g0
  obtain ⟨b0, b1, b2, b3, b4, b5, b6, b7⟩ := cells8 g1
  have hit : ∀ w', Below w.heap.size w w' → IsItem w' (.agg #[.int .i64 x.k, .int .i64 x.q, .int .i64 x.e, .int .i64 x.i, .int .i64 x.t, .int .i64 x.c, .slice LA ln lc, .slice BA bn bc]) x := fun w' h => ⟨LA, ln, lc, BA, bn, bc, rfl, RdV.below hl h, hb.below h⟩
  have hjt : ∀ w', Below w.heap.size w w' → IsItem w' (.agg #[.int .i64 y.k, .int .i64 y.q, .int .i64 y.e, .int .i64 y.i, .int .i64 y.t, .int .i64 y.c, .slice LA' ln' lc', .slice BA' bn' bc']) y := fun w' h => ⟨LA', ln', lc', BA', bn', bc', rfl, RdV.below hl' h, hb'.below h⟩
  have hS := shown_any _ (hw.below hb0)
  clear hl hb hl' hb' g0 g1
  go_enter Tryd.func3, Tryd.ntmps3
  go_wp2_with fail
  with_reducible refine hS.mono ?_
  rintro en w1 ⟨rfl, hw1⟩
  have bw1 := bthen hb0 hw1
  clear hS
  have a1_0 := keepC hw1 a0
  have a1_1 := keepC hw1 a1
  have a1_2 := keepC hw1 a2
  have a1_3 := keepC hw1 a3
  have a1_4 := keepC hw1 a4
  have a1_5 := keepC hw1 a5
  have a1_6 := keepC hw1 a6
  have a1_7 := keepC hw1 a7
  clear a0 a1 a2 a3 a4 a5 a6 a7
  have b1_0 := keepC hw1 b0
  have b1_1 := keepC hw1 b1
  have b1_2 := keepC hw1 b2
  have b1_3 := keepC hw1 b3
  have b1_4 := keepC hw1 b4
  have b1_5 := keepC hw1 b5
  have b1_6 := keepC hw1 b6
  have b1_7 := keepC hw1 b7
  clear b0 b1 b2 b3 b4 b5 b6 b7
  have hF1 := few_is _ x w1 (hit _ bw1)
  rw [f1] at hF1
  go_wp2_with fail
  with_reducible refine hF1.mono ?_
  rintro en w2 ⟨rfl, hw2⟩
  have bw2 := bthen bw1 hw2
  clear hF1
  have a2_0 := keepC hw2 a1_0
  have a2_1 := keepC hw2 a1_1
  have a2_2 := keepC hw2 a1_2
  have a2_3 := keepC hw2 a1_3
  have a2_4 := keepC hw2 a1_4
  have a2_5 := keepC hw2 a1_5
  have a2_6 := keepC hw2 a1_6
  have a2_7 := keepC hw2 a1_7
  clear a1_0 a1_1 a1_2 a1_3 a1_4 a1_5 a1_6 a1_7
  have b2_0 := keepC hw2 b1_0
  have b2_1 := keepC hw2 b1_1
  have b2_2 := keepC hw2 b1_2
  have b2_3 := keepC hw2 b1_3
  have b2_4 := keepC hw2 b1_4
  have b2_5 := keepC hw2 b1_5
  have b2_6 := keepC hw2 b1_6
  have b2_7 := keepC hw2 b1_7
  clear b1_0 b1_1 b1_2 b1_3 b1_4 b1_5 b1_6 b1_7
  have hF2 := few_is _ y w2 (hjt _ bw2)
  rw [f2] at hF2
  go_wp2_with fail
  with_reducible refine hF2.mono ?_
  rintro en w3 ⟨rfl, hw3⟩
  have bw3 := bthen bw2 hw3
  clear hF2
  have a3_0 := keepC hw3 a2_0
  have a3_1 := keepC hw3 a2_1
  have a3_2 := keepC hw3 a2_2
  have a3_3 := keepC hw3 a2_3
  have a3_4 := keepC hw3 a2_4
  have a3_5 := keepC hw3 a2_5
  have a3_6 := keepC hw3 a2_6
  have a3_7 := keepC hw3 a2_7
  clear a2_0 a2_1 a2_2 a2_3 a2_4 a2_5 a2_6 a2_7
  have b3_0 := keepC hw3 b2_0
  have b3_1 := keepC hw3 b2_1
  have b3_2 := keepC hw3 b2_2
  have b3_3 := keepC hw3 b2_3
  have b3_4 := keepC hw3 b2_4
  have b3_5 := keepC hw3 b2_5
  have b3_6 := keepC hw3 b2_6
  have b3_7 := keepC hw3 b2_7
  clear b2_0 b2_1 b2_2 b2_3 b2_4 b2_5 b2_6 b2_7
  have hT := takeI_any A n c l w3 (hw.below bw3) (h.below bw3) (by omega)
  rw [HU.out] at hT
  go_wp2_with fail
  with_reducible refine hT.mono ?_
  rintro en w4 ⟨v4, rfl, ⟨L4, l4, k4, B4, b4, d4, rfl, rl4, rb4⟩, hw4⟩
  have bw4 := bthen bw3 hw4
  clear hT
  have a4_0 := keepC hw4 a3_0
  have a4_1 := keepC hw4 a3_1
  have a4_2 := keepC hw4 a3_2
  have a4_3 := keepC hw4 a3_3
  have a4_4 := keepC hw4 a3_4
  have a4_5 := keepC hw4 a3_5
  have a4_6 := keepC hw4 a3_6
  have a4_7 := keepC hw4 a3_7
  clear a3_0 a3_1 a3_2 a3_3 a3_4 a3_5 a3_6 a3_7
  have b4_0 := keepC hw4 b3_0
  have b4_1 := keepC hw4 b3_1
  have b4_2 := keepC hw4 b3_2
  have b4_3 := keepC hw4 b3_3
  have b4_4 := keepC hw4 b3_4
  have b4_5 := keepC hw4 b3_5
  have b4_6 := keepC hw4 b3_6
  have b4_7 := keepC hw4 b3_7
  clear b3_0 b3_1 b3_2 b3_3 b3_4 b3_5 b3_6 b3_7
  have wxb : Below w4.heap.size w4 (w4.alloc (.cells #[.int .i64 z.k, .int .i64 z.q, .int .i64 z.e, .int .i64 z.i, .int .i64 z.t, .int .i64 z.c, .slice L4 l4 k4, .slice B4 b4 d4] 25)) := (Below.refl _ _).alloc (Nat.le_refl _) _
  have wxg := alloc_at w4 (.cells #[.int .i64 z.k, .int .i64 z.q, .int .i64 z.e, .int .i64 z.i, .int .i64 z.t, .int .i64 z.c, .slice L4 l4 k4, .slice B4 b4 d4] 25) _ rfl
  obtain ⟨xx0, xx1, xx2, xx3, xx4, xx5, xx6, xx7⟩ := cells8 wxg
  have bwx := bthen bw4 wxb
  have a5_0 := keepC wxb a4_0
  have a5_1 := keepC wxb a4_1
  have a5_2 := keepC wxb a4_2
  have a5_3 := keepC wxb a4_3
  have a5_4 := keepC wxb a4_4
  have a5_5 := keepC wxb a4_5
  have a5_6 := keepC wxb a4_6
  have a5_7 := keepC wxb a4_7
  clear a4_0 a4_1 a4_2 a4_3 a4_4 a4_5 a4_6 a4_7
  have b5_0 := keepC wxb b4_0
  have b5_1 := keepC wxb b4_1
  have b5_2 := keepC wxb b4_2
  have b5_3 := keepC wxb b4_3
  have b5_4 := keepC wxb b4_4
  have b5_5 := keepC wxb b4_5
  have b5_6 := keepC wxb b4_6
  have b5_7 := keepC wxb b4_7
  clear b4_0 b4_1 b4_2 b4_3 b4_4 b4_5 b4_6 b4_7
  clear wxg
  have hT := rtakeI_any A n c l _ (h.below bwx) (by omega)
  rw [HU.out] at hT
  go_wp2_with fail
  with_reducible refine hT.mono ?_
  rintro en w5 ⟨v5, rfl, ⟨L5, l5, k5, B5, b5, d5, rfl, rl5, rb5⟩, hw5⟩
  have bw5 := bthen bwx hw5
  clear hT
  have a6_0 := keepC hw5 a5_0
  have a6_1 := keepC hw5 a5_1
  have a6_2 := keepC hw5 a5_2
  have a6_3 := keepC hw5 a5_3
  have a6_4 := keepC hw5 a5_4
  have a6_5 := keepC hw5 a5_5
  have a6_6 := keepC hw5 a5_6
  have a6_7 := keepC hw5 a5_7
  clear a5_0 a5_1 a5_2 a5_3 a5_4 a5_5 a5_6 a5_7
  have b6_0 := keepC hw5 b5_0
  have b6_1 := keepC hw5 b5_1
  have b6_2 := keepC hw5 b5_2
  have b6_3 := keepC hw5 b5_3
  have b6_4 := keepC hw5 b5_4
  have b6_5 := keepC hw5 b5_5
  have b6_6 := keepC hw5 b5_6
  have b6_7 := keepC hw5 b5_7
  clear b5_0 b5_1 b5_2 b5_3 b5_4 b5_5 b5_6 b5_7
  have xx6_0 := keepC hw5 xx0
  have xx6_1 := keepC hw5 xx1
  have xx6_2 := keepC hw5 xx2
  have xx6_3 := keepC hw5 xx3
  have xx6_4 := keepC hw5 xx4
  have xx6_5 := keepC hw5 xx5
  have xx6_6 := keepC hw5 xx6
  have xx6_7 := keepC hw5 xx7
  clear xx0 xx1 xx2 xx3 xx4 xx5 xx6 xx7
  have wyb : Below w5.heap.size w5 (w5.alloc (.cells #[.int .i64 z.k, .int .i64 z.q, .int .i64 z.e, .int .i64 z.i, .int .i64 z.t, .int .i64 z.c, .slice L5 l5 k5, .slice B5 b5 d5] 25)) := (Below.refl _ _).alloc (Nat.le_refl _) _
  have wyg := alloc_at w5 (.cells #[.int .i64 z.k, .int .i64 z.q, .int .i64 z.e, .int .i64 z.i, .int .i64 z.t, .int .i64 z.c, .slice L5 l5 k5, .slice B5 b5 d5] 25) _ rfl
  obtain ⟨yy0, yy1, yy2, yy3, yy4, yy5, yy6, yy7⟩ := cells8 wyg
  have bwy := bthen bw5 wyb
  have a7_0 := keepC wyb a6_0
  have a7_1 := keepC wyb a6_1
  have a7_2 := keepC wyb a6_2
  have a7_3 := keepC wyb a6_3
  have a7_4 := keepC wyb a6_4
  have a7_5 := keepC wyb a6_5
  have a7_6 := keepC wyb a6_6
  have a7_7 := keepC wyb a6_7
  clear a6_0 a6_1 a6_2 a6_3 a6_4 a6_5 a6_6 a6_7
  have b7_0 := keepC wyb b6_0
  have b7_1 := keepC wyb b6_1
  have b7_2 := keepC wyb b6_2
  have b7_3 := keepC wyb b6_3
  have b7_4 := keepC wyb b6_4
  have b7_5 := keepC wyb b6_5
  have b7_6 := keepC wyb b6_6
  have b7_7 := keepC wyb b6_7
  clear b6_0 b6_1 b6_2 b6_3 b6_4 b6_5 b6_6 b6_7
  have xx7_0 := keepC wyb xx6_0
  have xx7_1 := keepC wyb xx6_1
  have xx7_2 := keepC wyb xx6_2
  have xx7_3 := keepC wyb xx6_3
  have xx7_4 := keepC wyb xx6_4
  have xx7_5 := keepC wyb xx6_5
  have xx7_6 := keepC wyb xx6_6
  have xx7_7 := keepC wyb xx6_7
  clear xx6_0 xx6_1 xx6_2 xx6_3 xx6_4 xx6_5 xx6_6 xx6_7
  clear wyg
  have i4 : IsItem (w5.alloc (.cells #[.int .i64 z.k, .int .i64 z.q, .int .i64 z.e, .int .i64 z.i, .int .i64 z.t, .int .i64 z.c, .slice L5 l5 k5, .slice B5 b5 d5] 25)) (.agg #[.int .i64 z.k, .int .i64 z.q, .int .i64 z.e, .int .i64 z.i, .int .i64 z.t, .int .i64 z.c, .slice L4 l4 k4, .slice B4 b4 d4]) z := IsItem.below ⟨L4, l4, k4, B4, b4, d4, rfl, rl4, rb4⟩ (bthen wxb (bthen hw5 wyb))
  have i5 : IsItem (w5.alloc (.cells #[.int .i64 z.k, .int .i64 z.q, .int .i64 z.e, .int .i64 z.i, .int .i64 z.t, .int .i64 z.c, .slice L5 l5 k5, .slice B5 b5 d5] 25)) (.agg #[.int .i64 z.k, .int .i64 z.q, .int .i64 z.e, .int .i64 z.i, .int .i64 z.t, .int .i64 z.c, .slice L5 l5 k5, .slice B5 b5 d5]) z := IsItem.below ⟨L5, l5, k5, B5, b5, d5, rfl, rl5, rb5⟩ wyb
  clear rl4 rb4 rl5 rb5
  go_wp2
  generalize (w5.alloc (.cells #[.int .i64 z.k, .int .i64 z.q, .int .i64 z.e, .int .i64 z.i, .int .i64 z.t, .int .i64 z.c, .slice L5 l5 k5, .slice B5 b5 d5] 25)) = WY at *
  have hwY := hw.below bwy
  obtain ⟨bm, hbm⟩ : ∃ bm, Hid (Item.may x = bm) := ⟨_, hidT rfl⟩
  obtain ⟨ts, hts⟩ : ∃ ts, Hid (decide (x = y) = ts) := ⟨_, hidT rfl⟩
  obtain ⟨X, hX⟩ : ∃ X, Hid (Item.bytes x = X) := ⟨_, hidT rfl⟩
  have e1 : (bm == bm) = true := by simp
  have e2 : (ts == ts) = true := by simp
  have e3 : ((str X).toList == (str X).toList) = true := by simp
  have KS : Hid (∀ w', Below WY.heap.size WY w' → w'.cell? ⟨w.heap.size, 0, none⟩ = some (.int .i64 x.k) ∧ w'.cell? ⟨w.heap.size, 1, none⟩ = some (.int .i64 x.q) ∧ w'.cell? ⟨w.heap.size, 2, none⟩ = some (.int .i64 x.e) ∧ w'.cell? ⟨w.heap.size, 3, none⟩ = some (.int .i64 x.i) ∧ w'.cell? ⟨w.heap.size, 4, none⟩ = some (.int .i64 x.t) ∧ w'.cell? ⟨w.heap.size, 5, none⟩ = some (.int .i64 x.c) ∧ w'.cell? ⟨w.heap.size, 6, none⟩ = some (.slice LA ln lc) ∧ w'.cell? ⟨w.heap.size, 7, none⟩ = some (.slice BA bn bc) ∧ w'.cell? ⟨w.heap.size + 1, 0, none⟩ = some (.int .i64 y.k) ∧ w'.cell? ⟨w.heap.size + 1, 1, none⟩ = some (.int .i64 y.q) ∧ w'.cell? ⟨w.heap.size + 1, 2, none⟩ = some (.int .i64 y.e) ∧ w'.cell? ⟨w.heap.size + 1, 3, none⟩ = some (.int .i64 y.i) ∧ w'.cell? ⟨w.heap.size + 1, 4, none⟩ = some (.int .i64 y.t) ∧ w'.cell? ⟨w.heap.size + 1, 5, none⟩ = some (.int .i64 y.c) ∧ w'.cell? ⟨w.heap.size + 1, 6, none⟩ = some (.slice LA' ln' lc') ∧ w'.cell? ⟨w.heap.size + 1, 7, none⟩ = some (.slice BA' bn' bc') ∧ w'.cell? ⟨w4.heap.size, 0, none⟩ = some (.int .i64 z.k) ∧ w'.cell? ⟨w4.heap.size, 1, none⟩ = some (.int .i64 z.q) ∧ w'.cell? ⟨w4.heap.size, 2, none⟩ = some (.int .i64 z.e) ∧ w'.cell? ⟨w4.heap.size, 3, none⟩ = some (.int .i64 z.i) ∧ w'.cell? ⟨w4.heap.size, 4, none⟩ = some (.int .i64 z.t) ∧ w'.cell? ⟨w4.heap.size, 5, none⟩ = some (.int .i64 z.c) ∧ w'.cell? ⟨w4.heap.size, 6, none⟩ = some (.slice L4 l4 k4) ∧ w'.cell? ⟨w4.heap.size, 7, none⟩ = some (.slice B4 b4 d4) ∧ w'.cell? ⟨w5.heap.size, 0, none⟩ = some (.int .i64 z.k) ∧ w'.cell? ⟨w5.heap.size, 1, none⟩ = some (.int .i64 z.q) ∧ w'.cell? ⟨w5.heap.size, 2, none⟩ = some (.int .i64 z.e) ∧ w'.cell? ⟨w5.heap.size, 3, none⟩ = some (.int .i64 z.i) ∧ w'.cell? ⟨w5.heap.size, 4, none⟩ = some (.int .i64 z.t) ∧ w'.cell? ⟨w5.heap.size, 5, none⟩ = some (.int .i64 z.c) ∧ w'.cell? ⟨w5.heap.size, 6, none⟩ = some (.slice L5 l5 k5) ∧ w'.cell? ⟨w5.heap.size, 7, none⟩ = some (.slice B5 b5 d5) ∧ Below WY.heap.size WY w') := hidT fun w' h => ⟨keepC h a7_0, keepC h a7_1, keepC h a7_2, keepC h a7_3, keepC h a7_4, keepC h a7_5, keepC h a7_6, keepC h a7_7, keepC h b7_0, keepC h b7_1, keepC h b7_2, keepC h b7_3, keepC h b7_4, keepC h b7_5, keepC h b7_6, keepC h b7_7, keepC h xx7_0, keepC h xx7_1, keepC h xx7_2, keepC h xx7_3, keepC h xx7_4, keepC h xx7_5, keepC h xx7_6, keepC h xx7_7, keepC h yy0, keepC h yy1, keepC h yy2, keepC h yy3, keepC h yy4, keepC h yy5, keepC h yy6, keepC h yy7, h⟩
  have KB : Hid (∀ w', (w'.cell? ⟨w.heap.size, 0, none⟩ = some (.int .i64 x.k) ∧ w'.cell? ⟨w.heap.size, 1, none⟩ = some (.int .i64 x.q) ∧ w'.cell? ⟨w.heap.size, 2, none⟩ = some (.int .i64 x.e) ∧ w'.cell? ⟨w.heap.size, 3, none⟩ = some (.int .i64 x.i) ∧ w'.cell? ⟨w.heap.size, 4, none⟩ = some (.int .i64 x.t) ∧ w'.cell? ⟨w.heap.size, 5, none⟩ = some (.int .i64 x.c) ∧ w'.cell? ⟨w.heap.size, 6, none⟩ = some (.slice LA ln lc) ∧ w'.cell? ⟨w.heap.size, 7, none⟩ = some (.slice BA bn bc) ∧ w'.cell? ⟨w.heap.size + 1, 0, none⟩ = some (.int .i64 y.k) ∧ w'.cell? ⟨w.heap.size + 1, 1, none⟩ = some (.int .i64 y.q) ∧ w'.cell? ⟨w.heap.size + 1, 2, none⟩ = some (.int .i64 y.e) ∧ w'.cell? ⟨w.heap.size + 1, 3, none⟩ = some (.int .i64 y.i) ∧ w'.cell? ⟨w.heap.size + 1, 4, none⟩ = some (.int .i64 y.t) ∧ w'.cell? ⟨w.heap.size + 1, 5, none⟩ = some (.int .i64 y.c) ∧ w'.cell? ⟨w.heap.size + 1, 6, none⟩ = some (.slice LA' ln' lc') ∧ w'.cell? ⟨w.heap.size + 1, 7, none⟩ = some (.slice BA' bn' bc') ∧ w'.cell? ⟨w4.heap.size, 0, none⟩ = some (.int .i64 z.k) ∧ w'.cell? ⟨w4.heap.size, 1, none⟩ = some (.int .i64 z.q) ∧ w'.cell? ⟨w4.heap.size, 2, none⟩ = some (.int .i64 z.e) ∧ w'.cell? ⟨w4.heap.size, 3, none⟩ = some (.int .i64 z.i) ∧ w'.cell? ⟨w4.heap.size, 4, none⟩ = some (.int .i64 z.t) ∧ w'.cell? ⟨w4.heap.size, 5, none⟩ = some (.int .i64 z.c) ∧ w'.cell? ⟨w4.heap.size, 6, none⟩ = some (.slice L4 l4 k4) ∧ w'.cell? ⟨w4.heap.size, 7, none⟩ = some (.slice B4 b4 d4) ∧ w'.cell? ⟨w5.heap.size, 0, none⟩ = some (.int .i64 z.k) ∧ w'.cell? ⟨w5.heap.size, 1, none⟩ = some (.int .i64 z.q) ∧ w'.cell? ⟨w5.heap.size, 2, none⟩ = some (.int .i64 z.e) ∧ w'.cell? ⟨w5.heap.size, 3, none⟩ = some (.int .i64 z.i) ∧ w'.cell? ⟨w5.heap.size, 4, none⟩ = some (.int .i64 z.t) ∧ w'.cell? ⟨w5.heap.size, 5, none⟩ = some (.int .i64 z.c) ∧ w'.cell? ⟨w5.heap.size, 6, none⟩ = some (.slice L5 l5 k5) ∧ w'.cell? ⟨w5.heap.size, 7, none⟩ = some (.slice B5 b5 d5) ∧ Below WY.heap.size WY w') → Below WY.heap.size WY w') := hidT fun w' h => h.2.2.2.2.2.2.2.2.2.2.2.2.2.2.2.2.2.2.2.2.2.2.2.2.2.2.2.2.2.2.2.2
  have KC : Hid (∀ (u v : World), (u.cell? ⟨w.heap.size, 0, none⟩ = some (.int .i64 x.k) ∧ u.cell? ⟨w.heap.size, 1, none⟩ = some (.int .i64 x.q) ∧ u.cell? ⟨w.heap.size, 2, none⟩ = some (.int .i64 x.e) ∧ u.cell? ⟨w.heap.size, 3, none⟩ = some (.int .i64 x.i) ∧ u.cell? ⟨w.heap.size, 4, none⟩ = some (.int .i64 x.t) ∧ u.cell? ⟨w.heap.size, 5, none⟩ = some (.int .i64 x.c) ∧ u.cell? ⟨w.heap.size, 6, none⟩ = some (.slice LA ln lc) ∧ u.cell? ⟨w.heap.size, 7, none⟩ = some (.slice BA bn bc) ∧ u.cell? ⟨w.heap.size + 1, 0, none⟩ = some (.int .i64 y.k) ∧ u.cell? ⟨w.heap.size + 1, 1, none⟩ = some (.int .i64 y.q) ∧ u.cell? ⟨w.heap.size + 1, 2, none⟩ = some (.int .i64 y.e) ∧ u.cell? ⟨w.heap.size + 1, 3, none⟩ = some (.int .i64 y.i) ∧ u.cell? ⟨w.heap.size + 1, 4, none⟩ = some (.int .i64 y.t) ∧ u.cell? ⟨w.heap.size + 1, 5, none⟩ = some (.int .i64 y.c) ∧ u.cell? ⟨w.heap.size + 1, 6, none⟩ = some (.slice LA' ln' lc') ∧ u.cell? ⟨w.heap.size + 1, 7, none⟩ = some (.slice BA' bn' bc') ∧ u.cell? ⟨w4.heap.size, 0, none⟩ = some (.int .i64 z.k) ∧ u.cell? ⟨w4.heap.size, 1, none⟩ = some (.int .i64 z.q) ∧ u.cell? ⟨w4.heap.size, 2, none⟩ = some (.int .i64 z.e) ∧ u.cell? ⟨w4.heap.size, 3, none⟩ = some (.int .i64 z.i) ∧ u.cell? ⟨w4.heap.size, 4, none⟩ = some (.int .i64 z.t) ∧ u.cell? ⟨w4.heap.size, 5, none⟩ = some (.int .i64 z.c) ∧ u.cell? ⟨w4.heap.size, 6, none⟩ = some (.slice L4 l4 k4) ∧ u.cell? ⟨w4.heap.size, 7, none⟩ = some (.slice B4 b4 d4) ∧ u.cell? ⟨w5.heap.size, 0, none⟩ = some (.int .i64 z.k) ∧ u.cell? ⟨w5.heap.size, 1, none⟩ = some (.int .i64 z.q) ∧ u.cell? ⟨w5.heap.size, 2, none⟩ = some (.int .i64 z.e) ∧ u.cell? ⟨w5.heap.size, 3, none⟩ = some (.int .i64 z.i) ∧ u.cell? ⟨w5.heap.size, 4, none⟩ = some (.int .i64 z.t) ∧ u.cell? ⟨w5.heap.size, 5, none⟩ = some (.int .i64 z.c) ∧ u.cell? ⟨w5.heap.size, 6, none⟩ = some (.slice L5 l5 k5) ∧ u.cell? ⟨w5.heap.size, 7, none⟩ = some (.slice B5 b5 d5) ∧ Below WY.heap.size WY u) → Below u.heap.size u v → v.cell? ⟨w.heap.size, 0, none⟩ = some (.int .i64 x.k) ∧ v.cell? ⟨w.heap.size, 1, none⟩ = some (.int .i64 x.q) ∧ v.cell? ⟨w.heap.size, 2, none⟩ = some (.int .i64 x.e) ∧ v.cell? ⟨w.heap.size, 3, none⟩ = some (.int .i64 x.i) ∧ v.cell? ⟨w.heap.size, 4, none⟩ = some (.int .i64 x.t) ∧ v.cell? ⟨w.heap.size, 5, none⟩ = some (.int .i64 x.c) ∧ v.cell? ⟨w.heap.size, 6, none⟩ = some (.slice LA ln lc) ∧ v.cell? ⟨w.heap.size, 7, none⟩ = some (.slice BA bn bc) ∧ v.cell? ⟨w.heap.size + 1, 0, none⟩ = some (.int .i64 y.k) ∧ v.cell? ⟨w.heap.size + 1, 1, none⟩ = some (.int .i64 y.q) ∧ v.cell? ⟨w.heap.size + 1, 2, none⟩ = some (.int .i64 y.e) ∧ v.cell? ⟨w.heap.size + 1, 3, none⟩ = some (.int .i64 y.i) ∧ v.cell? ⟨w.heap.size + 1, 4, none⟩ = some (.int .i64 y.t) ∧ v.cell? ⟨w.heap.size + 1, 5, none⟩ = some (.int .i64 y.c) ∧ v.cell? ⟨w.heap.size + 1, 6, none⟩ = some (.slice LA' ln' lc') ∧ v.cell? ⟨w.heap.size + 1, 7, none⟩ = some (.slice BA' bn' bc') ∧ v.cell? ⟨w4.heap.size, 0, none⟩ = some (.int .i64 z.k) ∧ v.cell? ⟨w4.heap.size, 1, none⟩ = some (.int .i64 z.q) ∧ v.cell? ⟨w4.heap.size, 2, none⟩ = some (.int .i64 z.e) ∧ v.cell? ⟨w4.heap.size, 3, none⟩ = some (.int .i64 z.i) ∧ v.cell? ⟨w4.heap.size, 4, none⟩ = some (.int .i64 z.t) ∧ v.cell? ⟨w4.heap.size, 5, none⟩ = some (.int .i64 z.c) ∧ v.cell? ⟨w4.heap.size, 6, none⟩ = some (.slice L4 l4 k4) ∧ v.cell? ⟨w4.heap.size, 7, none⟩ = some (.slice B4 b4 d4) ∧ v.cell? ⟨w5.heap.size, 0, none⟩ = some (.int .i64 z.k) ∧ v.cell? ⟨w5.heap.size, 1, none⟩ = some (.int .i64 z.q) ∧ v.cell? ⟨w5.heap.size, 2, none⟩ = some (.int .i64 z.e) ∧ v.cell? ⟨w5.heap.size, 3, none⟩ = some (.int .i64 z.i) ∧ v.cell? ⟨w5.heap.size, 4, none⟩ = some (.int .i64 z.t) ∧ v.cell? ⟨w5.heap.size, 5, none⟩ = some (.int .i64 z.c) ∧ v.cell? ⟨w5.heap.size, 6, none⟩ = some (.slice L5 l5 k5) ∧ v.cell? ⟨w5.heap.size, 7, none⟩ = some (.slice B5 b5 d5) ∧ Below WY.heap.size WY v) := hidT fun u v h hb => KS.out _ (bthen (KB.out _ h) hb)
  have hitH := hidT hit
  have hjtH := hidT hjt
  clear hit hjt
  go_region_held (fun w' => w'.cell? ⟨w.heap.size, 0, none⟩ = some (.int .i64 x.k) ∧ w'.cell? ⟨w.heap.size, 1, none⟩ = some (.int .i64 x.q) ∧ w'.cell? ⟨w.heap.size, 2, none⟩ = some (.int .i64 x.e) ∧ w'.cell? ⟨w.heap.size, 3, none⟩ = some (.int .i64 x.i) ∧ w'.cell? ⟨w.heap.size, 4, none⟩ = some (.int .i64 x.t) ∧ w'.cell? ⟨w.heap.size, 5, none⟩ = some (.int .i64 x.c) ∧ w'.cell? ⟨w.heap.size, 6, none⟩ = some (.slice LA ln lc) ∧ w'.cell? ⟨w.heap.size, 7, none⟩ = some (.slice BA bn bc) ∧ w'.cell? ⟨w.heap.size + 1, 0, none⟩ = some (.int .i64 y.k) ∧ w'.cell? ⟨w.heap.size + 1, 1, none⟩ = some (.int .i64 y.q) ∧ w'.cell? ⟨w.heap.size + 1, 2, none⟩ = some (.int .i64 y.e) ∧ w'.cell? ⟨w.heap.size + 1, 3, none⟩ = some (.int .i64 y.i) ∧ w'.cell? ⟨w.heap.size + 1, 4, none⟩ = some (.int .i64 y.t) ∧ w'.cell? ⟨w.heap.size + 1, 5, none⟩ = some (.int .i64 y.c) ∧ w'.cell? ⟨w.heap.size + 1, 6, none⟩ = some (.slice LA' ln' lc') ∧ w'.cell? ⟨w.heap.size + 1, 7, none⟩ = some (.slice BA' bn' bc') ∧ w'.cell? ⟨w4.heap.size, 0, none⟩ = some (.int .i64 z.k) ∧ w'.cell? ⟨w4.heap.size, 1, none⟩ = some (.int .i64 z.q) ∧ w'.cell? ⟨w4.heap.size, 2, none⟩ = some (.int .i64 z.e) ∧ w'.cell? ⟨w4.heap.size, 3, none⟩ = some (.int .i64 z.i) ∧ w'.cell? ⟨w4.heap.size, 4, none⟩ = some (.int .i64 z.t) ∧ w'.cell? ⟨w4.heap.size, 5, none⟩ = some (.int .i64 z.c) ∧ w'.cell? ⟨w4.heap.size, 6, none⟩ = some (.slice L4 l4 k4) ∧ w'.cell? ⟨w4.heap.size, 7, none⟩ = some (.slice B4 b4 d4) ∧ w'.cell? ⟨w5.heap.size, 0, none⟩ = some (.int .i64 z.k) ∧ w'.cell? ⟨w5.heap.size, 1, none⟩ = some (.int .i64 z.q) ∧ w'.cell? ⟨w5.heap.size, 2, none⟩ = some (.int .i64 z.e) ∧ w'.cell? ⟨w5.heap.size, 3, none⟩ = some (.int .i64 z.i) ∧ w'.cell? ⟨w5.heap.size, 4, none⟩ = some (.int .i64 z.t) ∧ w'.cell? ⟨w5.heap.size, 5, none⟩ = some (.int .i64 z.c) ∧ w'.cell? ⟨w5.heap.size, 6, none⟩ = some (.slice L5 l5 k5) ∧ w'.cell? ⟨w5.heap.size, 7, none⟩ = some (.slice B5 b5 d5) ∧ Below WY.heap.size WY w')
    (first | exact KS.out _ (Below.refl _ _).drew | exact KC.out _ _ (by assumption) t7 | exact KC.out _ _ (by assumption) t6 | exact KC.out _ _ (by assumption) t5 | exact KC.out _ _ (by assumption) t4 | exact KC.out _ _ (by assumption) t3 | exact KC.out _ _ (by assumption) t2 | exact KC.out _ _ (by assumption) t1 | assumption)
    (first
      | (go_at_call 14; ((with_reducible refine (may_any _ x _ (hitH.out _ (bthen bwy (KB.out _ (by assumption))))).mono ?_); rw [hbm.out]; rintro en u1 ⟨rfl, t1⟩))
      | (go_at_call 15; ((with_reducible refine (rmay_any _ x _ (hitH.out _ (bthen bwy (KB.out _ (by assumption))))).mono ?_); rw [hbm.out]; rintro en u2 ⟨rfl, t2⟩))
      | (go_at_call 16; ((with_reducible refine (same_is _ _ x y _ (hitH.out _ (bthen bwy (KB.out _ (by assumption)))) (hjtH.out _ (bthen bwy (KB.out _ (by assumption)))) ts hts.out).mono ?_); rintro en u3 ⟨rfl, t3⟩))
      | (go_at_call 17; ((with_reducible refine (rsameI_is _ _ x y _ (hitH.out _ (bthen bwy (KB.out _ (by assumption)))) (hjtH.out _ (bthen bwy (KB.out _ (by assumption)))) ts hts.out).mono ?_); rintro en u4 ⟨rfl, t4⟩))
      | (go_at_call 18; ((with_reducible refine (bytes_any _ x _ (hwY.below (KB.out _ (by assumption))) (hitH.out _ (bthen bwy (KB.out _ (by assumption))))).mono ?_); rw [hX.out]; rintro en u5 ⟨A5x, n5x, rfl, o5x, t5⟩; have s5x := strs o5x.same; have r5x := Below.refl u5.heap.size u5))
      | (go_at_call 19; ((with_reducible refine (rbytes_any _ x _ (hitH.out _ (bthen bwy (KB.out _ (by assumption))))).mono ?_); rw [hX.out]; rintro en u6 ⟨A6x, n6x, rfl, o6x, t6⟩; have s6x := strs o6x.same; have r6x := Below.refl u6.heap.size u6))
      | (go_at_call 17; ((with_reducible refine (rsameI_is _ _ z z _ (i4.below (KB.out _ (by assumption))) (i5.below (KB.out _ (by assumption))) true (by simp)).mono ?_); rintro en u7 ⟨rfl, t7⟩)))
  all_goals
    have hfin := bthen bwy (KB.out _ (by assumption))
    go_wp2
    go_ret
    exact ⟨rfl, hfin⟩
end Go.Proofs.YtcppbfjdilpjgaaDoor
