/- The law ItemBack. (Written by wip/gen/laws.py.) -/
import Derived.Test.YtpahkkblkdkefaaDoorItemShown
import Derived.Test.YtpahkkblkdkefaaDoorRefItem3
import Derived.Test.YtpahkkblkdkefaaDoorRefItem1
import Derived.Deep.RegionHeld3
import Derived.Test.YtpahkkblkdkefaaDoorItemL2a
import Derived.Test.YtpahkkblkdkefaaDoorItemL2b
import Derived.Test.YtpahkkblkdkefaaDoorItemL2c
namespace Go.Proofs.YtpahkkblkdkefaaDoor
open Go.RowKit
set_option linter.unusedVariables false

set_option maxRecDepth 100000 in
set_option maxHeartbeats 4000000 in
theorem back_out1 (u : Value) (x : Item.It) (A : Option Addr) (n c : Nat) (l : List UInt8) (w : World) (hw : Wd w) (hu : IsItem w u x) (h : Rd w A n c l) (hf : (decide (x.l.length ≤ 80) && decide (x.b.length ≤ 1100)) = false) :
    Calls Tryd.prog 4 #[u, .slice A n c] w (Yes w) := by
  obtain ⟨LA, ln, lc, BA, bn, bc, rfl, hl, hb⟩ := hu
  have hb0 : Below w.heap.size w (w.alloc (.cells #[.int .i64 x.k, .int .i64 x.q, .int .i64 x.e, .int .i64 x.i, .int .i64 x.t, .int .i64 x.c, .slice LA ln lc, .slice BA bn bc] 25)) := (Below.refl _ _).alloc (Nat.le_refl _) _
  have g0 := alloc_at w (.cells #[.int .i64 x.k, .int .i64 x.q, .int .i64 x.e, .int .i64 x.i, .int .i64 x.t, .int .i64 x.c, .slice LA ln lc, .slice BA bn bc] 25) _ rfl
  obtain ⟨a0, a1, a2, a3, a4, a5, a6, a7⟩ := cells8 g0
  have hit : ∀ w', Below w.heap.size w w' → IsItem w' (.agg #[.int .i64 x.k, .int .i64 x.q, .int .i64 x.e, .int .i64 x.i, .int .i64 x.t, .int .i64 x.c, .slice LA ln lc, .slice BA bn bc]) x := fun w' h => ⟨LA, ln, lc, BA, bn, bc, rfl, RdV.below hl h, hb.below h⟩
  have hS := shown_any _ (hw.below hb0)
  clear hl hb g0
  go_enter Tryd.func4, Tryd.ntmps4
  go_wp2_with fail
  with_reducible refine hS.mono ?_
  rintro en w1 ⟨rfl, hw1⟩
  have bw1 := bthen hb0 hw1
  clear hS
  have a1_0 := keepC hw1 a0
  have a1_1 := keepC hw1 a1
  have a1_2 := keepC hw1 a2
  have a1_3 := keepC hw1 a3
  have a1_4 := keepC hw1 a4
  have a1_5 := keepC hw1 a5
  have a1_6 := keepC hw1 a6
  have a1_7 := keepC hw1 a7
  clear a0 a1 a2 a3 a4 a5 a6 a7
  have hF := few_is _ x w1 (hit _ bw1)
  rw [hf] at hF
  go_wp2_with fail
  with_reducible refine hF.mono ?_
  rintro en w2 ⟨rfl, hw2⟩
  have bw2 := bthen bw1 hw2
  go_wp2
  go_ret
  exact ⟨rfl, bw2⟩

set_option maxRecDepth 100000 in
set_option maxHeartbeats 4000000 in
theorem back_out2 (u : Value) (x : Item.It) (A : Option Addr) (n c : Nat) (l : List UInt8) (w : World) (hw : Wd w) (hu : IsItem w u x) (h : Rd w A n c l) (hf : (decide (x.l.length ≤ 80) && decide (x.b.length ≤ 1100)) = true) (hn : 1200 < n) :
    Calls Tryd.prog 4 #[u, .slice A n c] w (Yes w) := by
  obtain ⟨LA, ln, lc, BA, bn, bc, rfl, hl, hb⟩ := hu
  have hb0 : Below w.heap.size w (w.alloc (.cells #[.int .i64 x.k, .int .i64 x.q, .int .i64 x.e, .int .i64 x.i, .int .i64 x.t, .int .i64 x.c, .slice LA ln lc, .slice BA bn bc] 25)) := (Below.refl _ _).alloc (Nat.le_refl _) _
  have g0 := alloc_at w (.cells #[.int .i64 x.k, .int .i64 x.q, .int .i64 x.e, .int .i64 x.i, .int .i64 x.t, .int .i64 x.c, .slice LA ln lc, .slice BA bn bc] 25) _ rfl
  obtain ⟨a0, a1, a2, a3, a4, a5, a6, a7⟩ := cells8 g0
  have hit : ∀ w', Below w.heap.size w w' → IsItem w' (.agg #[.int .i64 x.k, .int .i64 x.q, .int .i64 x.e, .int .i64 x.i, .int .i64 x.t, .int .i64 x.c, .slice LA ln lc, .slice BA bn bc]) x := fun w' h => ⟨LA, ln, lc, BA, bn, bc, rfl, RdV.below hl h, hb.below h⟩
  have hS := shown_any _ (hw.below hb0)
  clear hl hb g0
  go_enter Tryd.func4, Tryd.ntmps4
  go_wp2_with fail
  with_reducible refine hS.mono ?_
  rintro en w1 ⟨rfl, hw1⟩
  have bw1 := bthen hb0 hw1
  clear hS
  have a1_0 := keepC hw1 a0
  have a1_1 := keepC hw1 a1
  have a1_2 := keepC hw1 a2
  have a1_3 := keepC hw1 a3
  have a1_4 := keepC hw1 a4
  have a1_5 := keepC hw1 a5
  have a1_6 := keepC hw1 a6
  have a1_7 := keepC hw1 a7
  clear a0 a1 a2 a3 a4 a5 a6 a7
  have hF := few_is _ x w1 (hit _ bw1)
  rw [hf] at hF
  go_wp2_with fail
  with_reducible refine hF.mono ?_
  rintro en w2 ⟨rfl, hw2⟩
  have bw2 := bthen bw1 hw2
  go_wp2
  go_ret
  exact ⟨rfl, bw2⟩

theorem bytes_small {x : Item.It} : (Item.bytes x).length ≤ 1043 := by
  cases hm : Item.may x with
  | true =>
    have h1 := Item.bytes_len hm
    have h2 := (Item.tail_len (Item.may_kinds hm)).2.2.2.2
    omega
  | false => rw [Item.bytes, hm]; simp
theorem take_nil : Item.takeOf [] = none := by kernel_rfl
theorem back_any (u : Value) (x : Item.It) (A : Option Addr) (n c : Nat) (l : List UInt8) (w : World) (hw : Wd w) (hu : IsItem w u x) (h : Rd w A n c l) : Calls Tryd.prog 4 #[u, .slice A n c] w (Yes w) := by
  cases hf : (decide (x.l.length ≤ 80) && decide (x.b.length ≤ 1100)) with
  | false => exact back_out1 u x A n c l w hw hu h hf
  | true =>
    by_cases hn : 1200 < n
    · exact back_out2 u x A n c l w hw hu h hf hn
    have hs : (Item.bytes x).length ≤ 65536 := Nat.le_trans bytes_small (by omega)
    cases hm : Item.may x with
    | true =>
      have h17 : 17 ≤ (Item.bytes x).length := by rw [Item.bytes_len hm]; omega
      cases ht : Item.takeOf l with
      | some y => exact back_tt u x A n c l w hw hu h ⟨hf, by omega⟩ hm y (hidT (Item.take_inv ht)) (hidT hs) (hidT (Item.take_put hm)) (hidT ht) (hidT h17)
      | none => exact back_tf u x A n c l w hw hu h ⟨hf, by omega⟩ hm (hidT hs) (hidT (Item.take_put hm)) (hidT ht) (hidT h17)
    | false =>
      have h0 : Item.bytes x = [] := by rw [Item.bytes, hm]; rfl
      cases ht : Item.takeOf l with
      | some y => exact back_ft u x A n c l w hw hu h ⟨hf, by omega⟩ hm y (hidT (Item.take_inv ht)) (hidT hs) (hidT take_nil) (hidT ht) (hidT h0)
      | none => exact back_ff u x A n c l w hw hu h ⟨hf, by omega⟩ hm (hidT hs) (hidT take_nil) (hidT ht) (hidT h0)
end Go.Proofs.YtpahkkblkdkefaaDoor
