/- The law ItemCut. (Written by wip/gen/laws.py.) -/
import Derived.Test.YtpahkkblkdkefaaDoorItemShown
import Derived.Test.YtpahkkblkdkefaaDoorRefItem3
import Derived.Test.YtpahkkblkdkefaaDoorRefItem1
import Derived.Deep.RegionHeld3
import Derived.Test.YtpahkkblkdkefaaDoorItemL4a
import Derived.Test.YtpahkkblkdkefaaDoorItemL4b
import Derived.Test.YtpahkkblkdkefaaDoorItemL4c
import Derived.Test.YtpahkkblkdkefaaDoorItemL4d
namespace Go.Proofs.YtpahkkblkdkefaaDoor
open Go.RowKit
set_option linter.unusedVariables false

set_option maxRecDepth 100000 in
set_option maxHeartbeats 4000000 in
theorem cut_out1 (u : Value) (x : Item.It) (cu : Nat) (m : UInt8) (w : World) (hw : Wd w) (hu : IsItem w u x) (hf : (decide (x.l.length ≤ 80) && decide (x.b.length ≤ 1100)) = false) : Calls Tryd.prog 6 #[u, .int .u16 (cu : Int), .int .u8 (m.toNat : Int)] w (Yes w) := by
  obtain ⟨LA, ln, lc, BA, bn, bc, rfl, hl, hb⟩ := hu
  have hb0 : Below w.heap.size w (w.alloc (.cells #[.int .i64 x.k, .int .i64 x.q, .int .i64 x.e, .int .i64 x.i, .int .i64 x.t, .int .i64 x.c, .slice LA ln lc, .slice BA bn bc] 25)) := (Below.refl _ _).alloc (Nat.le_refl _) _
  have g0 := alloc_at w (.cells #[.int .i64 x.k, .int .i64 x.q, .int .i64 x.e, .int .i64 x.i, .int .i64 x.t, .int .i64 x.c, .slice LA ln lc, .slice BA bn bc] 25) _ rfl
  obtain ⟨a0, a1, a2, a3, a4, a5, a6, a7⟩ := cells8 g0
  have hit : ∀ w', Below w.heap.size w w' → IsItem w' (.agg #[.int .i64 x.k, .int .i64 x.q, .int .i64 x.e, .int .i64 x.i, .int .i64 x.t, .int .i64 x.c, .slice LA ln lc, .slice BA bn bc]) x := fun w' h => ⟨LA, ln, lc, BA, bn, bc, rfl, RdV.below hl h, hb.below h⟩
  have HRL : Hid (∀ w', Below w.heap.size w w' → RdI w' LA ln lc x.l) := hidT fun w' h => RdV.below hl h
  have HRB : Hid (∀ w', Below w.heap.size w w' → Rd w' BA bn bc x.b) := hidT fun w' h => hb.below h
  have HRN := hidT hb.1
  have hS := shown_any _ (hw.below hb0)
  clear hl hb g0
  go_enter Tryd.func6, Tryd.ntmps6
  go_wp2_with fail
  with_reducible refine hS.mono ?_
  rintro en w1 ⟨rfl, hw1⟩
  have bw1 := bthen hb0 hw1
  clear hS
  have a1_0 := keepC hw1 a0
  have a1_1 := keepC hw1 a1
  have a1_2 := keepC hw1 a2
  have a1_3 := keepC hw1 a3
  have a1_4 := keepC hw1 a4
  have a1_5 := keepC hw1 a5
  have a1_6 := keepC hw1 a6
  have a1_7 := keepC hw1 a7
  clear a0 a1 a2 a3 a4 a5 a6 a7
  have hF := few_is _ x w1 (hit _ bw1)
  rw [hf] at hF
  go_wp2_with fail
  with_reducible refine hF.mono ?_
  rintro en w2 ⟨rfl, hw2⟩
  have bw2 := bthen bw1 hw2
  go_wp2
  go_ret
  exact ⟨rfl, bw2⟩

set_option maxRecDepth 100000 in
set_option maxHeartbeats 4000000 in
theorem cut_out2 (u : Value) (x : Item.It) (cu : Nat) (m : UInt8) (w : World) (hw : Wd w) (hu : IsItem w u x) (hf : (decide (x.l.length ≤ 80) && decide (x.b.length ≤ 1100)) = true) (hm : Item.may x = false) : Calls Tryd.prog 6 #[u, .int .u16 (cu : Int), .int .u8 (m.toNat : Int)] w (Yes w) := by
  obtain ⟨LA, ln, lc, BA, bn, bc, rfl, hl, hb⟩ := hu
  have hb0 : Below w.heap.size w (w.alloc (.cells #[.int .i64 x.k, .int .i64 x.q, .int .i64 x.e, .int .i64 x.i, .int .i64 x.t, .int .i64 x.c, .slice LA ln lc, .slice BA bn bc] 25)) := (Below.refl _ _).alloc (Nat.le_refl _) _
  have g0 := alloc_at w (.cells #[.int .i64 x.k, .int .i64 x.q, .int .i64 x.e, .int .i64 x.i, .int .i64 x.t, .int .i64 x.c, .slice LA ln lc, .slice BA bn bc] 25) _ rfl
  obtain ⟨a0, a1, a2, a3, a4, a5, a6, a7⟩ := cells8 g0
  have hit : ∀ w', Below w.heap.size w w' → IsItem w' (.agg #[.int .i64 x.k, .int .i64 x.q, .int .i64 x.e, .int .i64 x.i, .int .i64 x.t, .int .i64 x.c, .slice LA ln lc, .slice BA bn bc]) x := fun w' h => ⟨LA, ln, lc, BA, bn, bc, rfl, RdV.below hl h, hb.below h⟩
  have HRL : Hid (∀ w', Below w.heap.size w w' → RdI w' LA ln lc x.l) := hidT fun w' h => RdV.below hl h
  have HRB : Hid (∀ w', Below w.heap.size w w' → Rd w' BA bn bc x.b) := hidT fun w' h => hb.below h
  have HRN := hidT hb.1
  have hS := shown_any _ (hw.below hb0)
  clear hl hb g0
  go_enter Tryd.func6, Tryd.ntmps6
  go_wp2_with fail
  with_reducible refine hS.mono ?_
  rintro en w1 ⟨rfl, hw1⟩
  have bw1 := bthen hb0 hw1
  clear hS
  have a1_0 := keepC hw1 a0
  have a1_1 := keepC hw1 a1
  have a1_2 := keepC hw1 a2
  have a1_3 := keepC hw1 a3
  have a1_4 := keepC hw1 a4
  have a1_5 := keepC hw1 a5
  have a1_6 := keepC hw1 a6
  have a1_7 := keepC hw1 a7
  clear a0 a1 a2 a3 a4 a5 a6 a7
  have hF := few_is _ x w1 (hit _ bw1)
  rw [hf] at hF
  go_wp2_with fail
  with_reducible refine hF.mono ?_
  rintro en w2 ⟨rfl, hw2⟩
  have bw2 := bthen bw1 hw2
  have a2_0 := keepC hw2 a1_0
  have a2_1 := keepC hw2 a1_1
  have a2_2 := keepC hw2 a1_2
  have a2_3 := keepC hw2 a1_3
  have a2_4 := keepC hw2 a1_4
  have a2_5 := keepC hw2 a1_5
  have a2_6 := keepC hw2 a1_6
  have a2_7 := keepC hw2 a1_7
  clear a1_0 a1_1 a1_2 a1_3 a1_4 a1_5 a1_6 a1_7
  have hM := rmay_any _ x w2 (hit _ bw2)
  rw [hm] at hM
  go_wp2_with fail
  with_reducible refine hM.mono ?_
  rintro en w3 ⟨rfl, hw3⟩
  have bw3 := bthen bw2 hw3
  go_wp2
  go_ret
  exact ⟨rfl, bw3⟩

theorem bytes_small4 {x : Item.It} : (Item.bytes x).length ≤ 1043 := by
  cases hm : Item.may x with
  | true =>
    have h1 := Item.bytes_len hm
    have h2 := (Item.tail_len (Item.may_kinds hm)).2.2.2.2
    omega
  | false => rw [Item.bytes, hm]; simp
theorem cut_any (u : Value) (x : Item.It) (cu : Nat) (m : UInt8) (w : World) (hw : Wd w) (hu : IsItem w u x) (hcu : cu < 65536) : Calls Tryd.prog 6 #[u, .int .u16 (cu : Int), .int .u8 (m.toNat : Int)] w (Yes w) := by
  cases hf : (decide (x.l.length ≤ 80) && decide (x.b.length ≤ 1100)) with
  | false => exact cut_out1 u x cu m w hw hu hf
  | true =>
    cases hm : Item.may x with
    | false => exact cut_out2 u x cu m w hw hu hf hm
    | true =>
      have h17 := (Item.len_of hm).2.2.2.2
      have hs := bytes_small4 (x := x)
      have hk : cu % ((Item.bytes x).length + 1) ≤ (Item.bytes x).length := Nat.le_of_lt_succ (Nat.mod_lt _ (by omega))
      cases he : Item.takeOf ((Item.bytes x).take (cu % ((Item.bytes x).length + 1))) with
      | none =>
        cases hg : Item.takeOf (Item.bytes x ++ [m]) with
        | none => exact cut_a u x cu _ m w hw hu hf hm hcu h17 hs rfl hk (hidT he) (hidT hg)
        | some z => exact cut_b u x cu _ m w hw hu hf hm hcu h17 hs rfl hk z (hidT he) (hidT hg) (hidT (Item.more_some hm hg))
      | some y =>
        cases hg : Item.takeOf (Item.bytes x ++ [m]) with
        | none => exact cut_c u x cu _ m w hw hu hf hm hcu h17 hs rfl hk y (hidT he) (hidT hg) (hidT (Item.cut_some hm hk he))
        | some z => exact cut_d u x cu _ m w hw hu hf hm hcu h17 hs rfl hk y z (hidT he) (hidT hg) (hidT (Item.cut_some hm hk he)) (hidT (Item.more_some hm hg))
end Go.Proofs.YtpahkkblkdkefaaDoor
