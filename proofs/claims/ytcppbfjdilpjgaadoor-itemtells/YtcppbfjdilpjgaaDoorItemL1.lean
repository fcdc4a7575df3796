/- The law ItemTells. (Written by wip/gen/laws.py.) -/
import Derived.Test.YtcppbfjdilpjgaaDoorItemShown
import Derived.Test.YtcppbfjdilpjgaaDoorRD
import Derived.Test.YtcppbfjdilpjgaaDoorIE
import Derived.Test.YtcppbfjdilpjgaaDoorItemL1a
import Derived.Test.YtcppbfjdilpjgaaDoorItemL1b
import Derived.Deep.RegionHeld3
set_option maxRecDepth 100000
namespace Go.Proofs.YtcppbfjdilpjgaaDoor
open Go.RowKit
set_option linter.unusedVariables false

set_option maxRecDepth 100000 in
set_option maxHeartbeats 4000000 in
theorem tells_o1 (u v : Value) (x y : Item.It) (A : Option Addr) (n c : Nat) (l : List UInt8) (w : World) (hw : Wd w) (hu : IsItem w u x) (hv : IsItem w v y) (h : Rd w A n c l) (f1 : (decide (x.l.length ≤ 80) && decide (x.b.length ≤ 1100)) = false) :
    Calls Tryd.prog 3 #[u, v, .slice A n c] w (Yes w) := by
  obtain ⟨LA, ln, lc, BA, bn, bc, rfl, hl, hb⟩ := hu
  obtain ⟨LA', ln', lc', BA', bn', bc', rfl, hl', hb'⟩ := hv
  obtain ⟨g0, g1, hb0⟩ := two_alloc w (.cells #[.int .i64 x.k, .int .i64 x.q, .int .i64 x.e, .int .i64 x.i, .int .i64 x.t, .int .i64 x.c, .slice LA ln lc, .slice BA bn bc] 25) (.cells #[.int .i64 y.k, .int .i64 y.q, .int .i64 y.e, .int .i64 y.i, .int .i64 y.t, .int .i64 y.c, .slice LA' ln' lc', .slice BA' bn' bc'] 25)
  obtain ⟨a0, a1, a2, a3, a4, a5, a6, a7⟩ := cells8 g0
  obtain ⟨b0, b1, b2, b3, b4, b5, b6, b7⟩ := cells8 g1
  have hit : ∀ w', Below w.heap.size w w' → IsItem w' (.agg #[.int .i64 x.k, .int .i64 x.q, .int .i64 x.e, .int .i64 x.i, .int .i64 x.t, .int .i64 x.c, .slice LA ln lc, .slice BA bn bc]) x := fun w' h => ⟨LA, ln, lc, BA, bn, bc, rfl, RdV.below hl h, hb.below h⟩
  have hjt : ∀ w', Below w.heap.size w w' → IsItem w' (.agg #[.int .i64 y.k, .int .i64 y.q, .int .i64 y.e, .int .i64 y.i, .int .i64 y.t, .int .i64 y.c, .slice LA' ln' lc', .slice BA' bn' bc']) y := fun w' h => ⟨LA', ln', lc', BA', bn', bc', rfl, RdV.below hl' h, hb'.below h⟩
  have hS := shown_any _ (hw.below hb0)
  clear hl hb hl' hb' g0 g1
  go_enter Tryd.func3, Tryd.ntmps3
  go_wp2_with fail
  with_reducible refine hS.mono ?_
  rintro en w1 ⟨rfl, hw1⟩
  have bw1 := bthen hb0 hw1
  clear hS
  have a1_0 := keepC hw1 a0
  have a1_1 := keepC hw1 a1
  have a1_2 := keepC hw1 a2
  have a1_3 := keepC hw1 a3
  have a1_4 := keepC hw1 a4
  have a1_5 := keepC hw1 a5
  have a1_6 := keepC hw1 a6
  have a1_7 := keepC hw1 a7
  clear a0 a1 a2 a3 a4 a5 a6 a7
  have b1_0 := keepC hw1 b0
  have b1_1 := keepC hw1 b1
  have b1_2 := keepC hw1 b2
  have b1_3 := keepC hw1 b3
  have b1_4 := keepC hw1 b4
  have b1_5 := keepC hw1 b5
  have b1_6 := keepC hw1 b6
  have b1_7 := keepC hw1 b7
  clear b0 b1 b2 b3 b4 b5 b6 b7
  have hF1 := few_is _ x w1 (hit _ bw1)
  rw [f1] at hF1
  go_wp2_with fail
  with_reducible refine hF1.mono ?_
  rintro en w2 ⟨rfl, hw2⟩
  have bw2 := bthen bw1 hw2
  clear hF1
  have a2_0 := keepC hw2 a1_0
  have a2_1 := keepC hw2 a1_1
  have a2_2 := keepC hw2 a1_2
  have a2_3 := keepC hw2 a1_3
  have a2_4 := keepC hw2 a1_4
  have a2_5 := keepC hw2 a1_5
  have a2_6 := keepC hw2 a1_6
  have a2_7 := keepC hw2 a1_7
  clear a1_0 a1_1 a1_2 a1_3 a1_4 a1_5 a1_6 a1_7
  have b2_0 := keepC hw2 b1_0
  have b2_1 := keepC hw2 b1_1
  have b2_2 := keepC hw2 b1_2
  have b2_3 := keepC hw2 b1_3
  have b2_4 := keepC hw2 b1_4
  have b2_5 := keepC hw2 b1_5
  have b2_6 := keepC hw2 b1_6
  have b2_7 := keepC hw2 b1_7
  clear b1_0 b1_1 b1_2 b1_3 b1_4 b1_5 b1_6 b1_7
  go_wp2
  go_ret
  exact ⟨rfl, bw2⟩

set_option maxRecDepth 100000 in
set_option maxHeartbeats 4000000 in
theorem tells_o2 (u v : Value) (x y : Item.It) (A : Option Addr) (n c : Nat) (l : List UInt8) (w : World) (hw : Wd w) (hu : IsItem w u x) (hv : IsItem w v y) (h : Rd w A n c l) (f1 : (decide (x.l.length ≤ 80) && decide (x.b.length ≤ 1100)) = true) (f2 : (decide (y.l.length ≤ 80) && decide (y.b.length ≤ 1100)) = false) :
    Calls Tryd.prog 3 #[u, v, .slice A n c] w (Yes w) := by
  obtain ⟨LA, ln, lc, BA, bn, bc, rfl, hl, hb⟩ := hu
  obtain ⟨LA', ln', lc', BA', bn', bc', rfl, hl', hb'⟩ := hv
  obtain ⟨g0, g1, hb0⟩ := two_alloc w (.cells #[.int .i64 x.k, .int .i64 x.q, .int .i64 x.e, .int .i64 x.i, .int .i64 x.t, .int .i64 x.c, .slice LA ln lc, .slice BA bn bc] 25) (.cells #[.int .i64 y.k, .int .i64 y.q, .int .i64 y.e, .int .i64 y.i, .int .i64 y.t, .int .i64 y.c, .slice LA' ln' lc', .slice BA' bn' bc'] 25)
  obtain ⟨a0, a1, a2, a3, a4, a5, a6, a7⟩ := cells8 g0
  obtain ⟨b0, b1, b2, b3, b4, b5, b6, b7⟩ := cells8 g1
  have hit : ∀ w', Below w.heap.size w w' → IsItem w' (.agg #[.int .i64 x.k, .int .i64 x.q, .int .i64 x.e, .int .i64 x.i, .int .i64 x.t, .int .i64 x.c, .slice LA ln lc, .slice BA bn bc]) x := fun w' h => ⟨LA, ln, lc, BA, bn, bc, rfl, RdV.below hl h, hb.below h⟩
  have hjt : ∀ w', Below w.heap.size w w' → IsItem w' (.agg #[.int .i64 y.k, .int .i64 y.q, .int .i64 y.e, .int .i64 y.i, .int .i64 y.t, .int .i64 y.c, .slice LA' ln' lc', .slice BA' bn' bc']) y := fun w' h => ⟨LA', ln', lc', BA', bn', bc', rfl, RdV.below hl' h, hb'.below h⟩
  have hS := shown_any _ (hw.below hb0)
  clear hl hb hl' hb' g0 g1
  go_enter Tryd.func3, Tryd.ntmps3
  go_wp2_with fail
  with_reducible refine hS.mono ?_
  rintro en w1 ⟨rfl, hw1⟩
  have bw1 := bthen hb0 hw1
  clear hS
  have a1_0 := keepC hw1 a0
  have a1_1 := keepC hw1 a1
  have a1_2 := keepC hw1 a2
  have a1_3 := keepC hw1 a3
  have a1_4 := keepC hw1 a4
  have a1_5 := keepC hw1 a5
  have a1_6 := keepC hw1 a6
  have a1_7 := keepC hw1 a7
  clear a0 a1 a2 a3 a4 a5 a6 a7
  have b1_0 := keepC hw1 b0
  have b1_1 := keepC hw1 b1
  have b1_2 := keepC hw1 b2
  have b1_3 := keepC hw1 b3
  have b1_4 := keepC hw1 b4
  have b1_5 := keepC hw1 b5
  have b1_6 := keepC hw1 b6
  have b1_7 := keepC hw1 b7
  clear b0 b1 b2 b3 b4 b5 b6 b7
  have hF1 := few_is _ x w1 (hit _ bw1)
  rw [f1] at hF1
  go_wp2_with fail
  with_reducible refine hF1.mono ?_
  rintro en w2 ⟨rfl, hw2⟩
  have bw2 := bthen bw1 hw2
  clear hF1
  have a2_0 := keepC hw2 a1_0
  have a2_1 := keepC hw2 a1_1
  have a2_2 := keepC hw2 a1_2
  have a2_3 := keepC hw2 a1_3
  have a2_4 := keepC hw2 a1_4
  have a2_5 := keepC hw2 a1_5
  have a2_6 := keepC hw2 a1_6
  have a2_7 := keepC hw2 a1_7
  clear a1_0 a1_1 a1_2 a1_3 a1_4 a1_5 a1_6 a1_7
  have b2_0 := keepC hw2 b1_0
  have b2_1 := keepC hw2 b1_1
  have b2_2 := keepC hw2 b1_2
  have b2_3 := keepC hw2 b1_3
  have b2_4 := keepC hw2 b1_4
  have b2_5 := keepC hw2 b1_5
  have b2_6 := keepC hw2 b1_6
  have b2_7 := keepC hw2 b1_7
  clear b1_0 b1_1 b1_2 b1_3 b1_4 b1_5 b1_6 b1_7
  have hF2 := few_is _ y w2 (hjt _ bw2)
  rw [f2] at hF2
  go_wp2_with fail
  with_reducible refine hF2.mono ?_
  rintro en w3 ⟨rfl, hw3⟩
  have bw3 := bthen bw2 hw3
  clear hF2
  go_wp2
  go_ret
  exact ⟨rfl, bw3⟩

set_option maxRecDepth 100000 in
set_option maxHeartbeats 4000000 in
theorem tells_o3 (u v : Value) (x y : Item.It) (A : Option Addr) (n c : Nat) (l : List UInt8) (w : World) (hw : Wd w) (hu : IsItem w u x) (hv : IsItem w v y) (h : Rd w A n c l) (f1 : (decide (x.l.length ≤ 80) && decide (x.b.length ≤ 1100)) = true) (f2 : (decide (y.l.length ≤ 80) && decide (y.b.length ≤ 1100)) = true) (hn : 1200 < n) :
    Calls Tryd.prog 3 #[u, v, .slice A n c] w (Yes w) := by
  obtain ⟨LA, ln, lc, BA, bn, bc, rfl, hl, hb⟩ := hu
  obtain ⟨LA', ln', lc', BA', bn', bc', rfl, hl', hb'⟩ := hv
  obtain ⟨g0, g1, hb0⟩ := two_alloc w (.cells #[.int .i64 x.k, .int .i64 x.q, .int .i64 x.e, .int .i64 x.i, .int .i64 x.t, .int .i64 x.c, .slice LA ln lc, .slice BA bn bc] 25) (.cells #[.int .i64 y.k, .int .i64 y.q, .int .i64 y.e, .int .i64 y.i, .int .i64 y.t, .int .i64 y.c, .slice LA' ln' lc', .slice BA' bn' bc'] 25)
  obtain ⟨a0, a1, a2, a3, a4, a5, a6, a7⟩ := cells8 g0
  obtain ⟨b0, b1, b2, b3, b4, b5, b6, b7⟩ := cells8 g1
  have hit : ∀ w', Below w.heap.size w w' → IsItem w' (.agg #[.int .i64 x.k, .int .i64 x.q, .int .i64 x.e, .int .i64 x.i, .int .i64 x.t, .int .i64 x.c, .slice LA ln lc, .slice BA bn bc]) x := fun w' h => ⟨LA, ln, lc, BA, bn, bc, rfl, RdV.below hl h, hb.below h⟩
  have hjt : ∀ w', Below w.heap.size w w' → IsItem w' (.agg #[.int .i64 y.k, .int .i64 y.q, .int .i64 y.e, .int .i64 y.i, .int .i64 y.t, .int .i64 y.c, .slice LA' ln' lc', .slice BA' bn' bc']) y := fun w' h => ⟨LA', ln', lc', BA', bn', bc', rfl, RdV.below hl' h, hb'.below h⟩
  have hS := shown_any _ (hw.below hb0)
  clear hl hb hl' hb' g0 g1
  go_enter Tryd.func3, Tryd.ntmps3
  go_wp2_with fail
  with_reducible refine hS.mono ?_
  rintro en w1 ⟨rfl, hw1⟩
  have bw1 := bthen hb0 hw1
  clear hS
  have a1_0 := keepC hw1 a0
  have a1_1 := keepC hw1 a1
  have a1_2 := keepC hw1 a2
  have a1_3 := keepC hw1 a3
  have a1_4 := keepC hw1 a4
  have a1_5 := keepC hw1 a5
  have a1_6 := keepC hw1 a6
  have a1_7 := keepC hw1 a7
  clear a0 a1 a2 a3 a4 a5 a6 a7
  have b1_0 := keepC hw1 b0
  have b1_1 := keepC hw1 b1
  have b1_2 := keepC hw1 b2
  have b1_3 := keepC hw1 b3
  have b1_4 := keepC hw1 b4
  have b1_5 := keepC hw1 b5
  have b1_6 := keepC hw1 b6
  have b1_7 := keepC hw1 b7
  clear b0 b1 b2 b3 b4 b5 b6 b7
  have hF1 := few_is _ x w1 (hit _ bw1)
  rw [f1] at hF1
  go_wp2_with fail
  with_reducible refine hF1.mono ?_
  rintro en w2 ⟨rfl, hw2⟩
  have bw2 := bthen bw1 hw2
  clear hF1
  have a2_0 := keepC hw2 a1_0
  have a2_1 := keepC hw2 a1_1
  have a2_2 := keepC hw2 a1_2
  have a2_3 := keepC hw2 a1_3
  have a2_4 := keepC hw2 a1_4
  have a2_5 := keepC hw2 a1_5
  have a2_6 := keepC hw2 a1_6
  have a2_7 := keepC hw2 a1_7
  clear a1_0 a1_1 a1_2 a1_3 a1_4 a1_5 a1_6 a1_7
  have b2_0 := keepC hw2 b1_0
  have b2_1 := keepC hw2 b1_1
  have b2_2 := keepC hw2 b1_2
  have b2_3 := keepC hw2 b1_3
  have b2_4 := keepC hw2 b1_4
  have b2_5 := keepC hw2 b1_5
  have b2_6 := keepC hw2 b1_6
  have b2_7 := keepC hw2 b1_7
  clear b1_0 b1_1 b1_2 b1_3 b1_4 b1_5 b1_6 b1_7
  have hF2 := few_is _ y w2 (hjt _ bw2)
  rw [f2] at hF2
  go_wp2_with fail
  with_reducible refine hF2.mono ?_
  rintro en w3 ⟨rfl, hw3⟩
  have bw3 := bthen bw2 hw3
  clear hF2
  go_wp2
  go_ret
  exact ⟨rfl, bw3⟩

theorem tells_any (u v : Value) (x y : Item.It) (A : Option Addr) (n c : Nat) (l : List UInt8) (w : World) (hw : Wd w) (hu : IsItem w u x) (hv : IsItem w v y) (h : Rd w A n c l) : Calls Tryd.prog 3 #[u, v, .slice A n c] w (Yes w) := by
  cases f1 : (decide (x.l.length ≤ 80) && decide (x.b.length ≤ 1100)) with
  | false => exact tells_o1 u v x y A n c l w hw hu hv h f1
  | true =>
    cases f2 : (decide (y.l.length ≤ 80) && decide (y.b.length ≤ 1100)) with
    | false => exact tells_o2 u v x y A n c l w hw hu hv h f1 f2
    | true =>
      by_cases hn : 1200 < n
      · exact tells_o3 u v x y A n c l w hw hu hv h f1 f2 hn
      · cases ht : Item.takeOf l with
        | some z => exact tells_a u v x y A n c l w hw hu hv h f1 f2 (by omega) z (hidT ht)
        | none => exact tells_b u v x y A n c l w hw hu hv h f1 f2 (by omega) (hidT ht)
end Go.Proofs.YtcppbfjdilpjgaaDoor
