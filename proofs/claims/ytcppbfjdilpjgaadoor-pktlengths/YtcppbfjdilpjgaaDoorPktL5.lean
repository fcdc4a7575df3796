/- The walk of the law PktLengths. (Written by wip/gen/pktlaws.py.) -/
import Derived.Test.YtcppbfjdilpjgaaDoorPktShown
import Derived.Test.YtcppbfjdilpjgaaDoorRefPkt4
import Derived.Test.YtcppbfjdilpjgaaDoorRefPkt1
import Derived.Deep.RegionHeld3
import Derived.Deep.RegionHeldLaw
import Derived.Deep.RegionWith
import Derived.Lib.SlBytesConst
set_option maxRecDepth 100000
namespace Go.Proofs.YtcppbfjdilpjgaaDoor
open Go.RowKit
set_option linter.unusedVariables false

theorem Pkt.pn_le {p : Pkt.Pk} (h : Pkt.may p = true) : p.l.length ≤ 64 := by
  cases Pkt.may_kinds h with
  | item => simp
  | nak => simp
  | stable f top l h1 h2 h3 h4 h5 =>
    have := (Item.listN h5).1
    dsimp only
    omega
theorem item_of {w : World} {k f to lo many top : Int} {x : Item.It} {l : List Int} {c0 c1 c2 c3 c4 c5 : Int} {LA : Option Addr} {ln lc : Nat} {BA : Option Addr} {bn bc : Nat} {PA : Option Addr} {pn pc : Nat} {a0 a1 a2 a3 a4 a5 : Int}
    (h : IsPkt w (.agg #[.int .i64 a0, .int .i64 a1, .int .i64 c0, .int .i64 c1, .int .i64 c2, .int .i64 c3, .int .i64 c4, .int .i64 c5, .slice LA ln lc, .slice BA bn bc, .int .i64 a2, .int .i64 a3, .int .i64 a4, .int .i64 a5, .slice PA pn pc]) ⟨k, f, x, to, lo, many, top, l⟩) :
    IsItem w (.agg #[.int .i64 c0, .int .i64 c1, .int .i64 c2, .int .i64 c3, .int .i64 c4, .int .i64 c5, .slice LA ln lc, .slice BA bn bc]) x := by
  obtain ⟨LA', ln', lc', BA', bn', bc', PA', pn', pc', e, h1, h2, h3⟩ := h
  simp only [Value.agg.injEq, Array.mk.injEq, List.cons.injEq, Value.int.injEq, Value.slice.injEq, true_and, and_true] at e
  obtain ⟨_, _, rfl, rfl, rfl, rfl, rfl, rfl, ⟨rfl, rfl, rfl⟩, ⟨rfl, rfl, rfl⟩, _⟩ := e
  exact ⟨_, _, _, _, _, _, rfl, h1, h2⟩

set_option maxHeartbeats 16000000 in
theorem plen_any (u : Value) (x : Pkt.Pk) (w : World) (hw : Wd w) (hu : IsPkt w u x) : Calls Tryd.prog 8 #[u] w (Yes w) := by
  obtain ⟨LA, lA, kA, BA, bA, dA, PA, pA, qA, rfl, hl, hb, hp⟩ := hu
  have hb0 : Below w.heap.size w (w.alloc (.cells #[.int .i64 x.k, .int .i64 x.f, .int .i64 x.it.k, .int .i64 x.it.q, .int .i64 x.it.e, .int .i64 x.it.i, .int .i64 x.it.t, .int .i64 x.it.c, .slice LA lA kA, .slice BA bA dA, .int .i64 x.to, .int .i64 x.lo, .int .i64 x.many, .int .i64 x.top, .slice PA pA qA] 37)) := (Below.refl _ _).alloc (Nat.le_refl _) _
  have g0 := alloc_at w (.cells #[.int .i64 x.k, .int .i64 x.f, .int .i64 x.it.k, .int .i64 x.it.q, .int .i64 x.it.e, .int .i64 x.it.i, .int .i64 x.it.t, .int .i64 x.it.c, .slice LA lA kA, .slice BA bA dA, .int .i64 x.to, .int .i64 x.lo, .int .i64 x.many, .int .i64 x.top, .slice PA pA qA] 37) _ rfl
  obtain ⟨⟨a0, a1⟩, ⟨a2, a3, a4, a5, a6, a7, a8, a9⟩, ⟨a10, a11, a12, a13, a14⟩⟩ := cells15 g0
  have hit : Hid (∀ w', Below w.heap.size w w' → IsPkt w' (.agg #[.int .i64 x.k, .int .i64 x.f, .int .i64 x.it.k, .int .i64 x.it.q, .int .i64 x.it.e, .int .i64 x.it.i, .int .i64 x.it.t, .int .i64 x.it.c, .slice LA lA kA, .slice BA bA dA, .int .i64 x.to, .int .i64 x.lo, .int .i64 x.many, .int .i64 x.top, .slice PA pA qA]) x) := hidT fun w' h => ⟨LA, lA, kA, BA, bA, dA, PA, pA, qA, rfl, RdV.below hl h, hb.below h, RdV.below hp h⟩
  have HPN := hidT (RdI.size hp)
  have hS := pshown_any _ (hw.below hb0)
  clear hl hb hp g0
  go_enter Tryd.func8, Tryd.ntmps8
  go_wp2_with fail
  with_reducible refine hS.mono ?_
  rintro en w1 ⟨rfl, hw1⟩
  have bw1 := bthen hb0 hw1
  clear hS
  have a1_0 := keepC hw1 a0
  have a1_1 := keepC hw1 a1
  have a1_2 := keepC hw1 a2
  have a1_3 := keepC hw1 a3
  have a1_4 := keepC hw1 a4
  have a1_5 := keepC hw1 a5
  have a1_6 := keepC hw1 a6
  have a1_7 := keepC hw1 a7
  have a1_8 := keepC hw1 a8
  have a1_9 := keepC hw1 a9
  have a1_10 := keepC hw1 a10
  have a1_11 := keepC hw1 a11
  have a1_12 := keepC hw1 a12
  have a1_13 := keepC hw1 a13
  have a1_14 := keepC hw1 a14
  clear a0 a1 a2 a3 a4 a5 a6 a7 a8 a9 a10 a11 a12 a13 a14
  go_wp2_with fail
  with_reducible refine (rpfew_is _ x w1 (hit.out _ bw1)).mono ?_
  rintro en w2 ⟨rfl, hw2⟩
  have bw2 := bthen bw1 hw2
  have a2_0 := keepC hw2 a1_0
  have a2_1 := keepC hw2 a1_1
  have a2_2 := keepC hw2 a1_2
  have a2_3 := keepC hw2 a1_3
  have a2_4 := keepC hw2 a1_4
  have a2_5 := keepC hw2 a1_5
  have a2_6 := keepC hw2 a1_6
  have a2_7 := keepC hw2 a1_7
  have a2_8 := keepC hw2 a1_8
  have a2_9 := keepC hw2 a1_9
  have a2_10 := keepC hw2 a1_10
  have a2_11 := keepC hw2 a1_11
  have a2_12 := keepC hw2 a1_12
  have a2_13 := keepC hw2 a1_13
  have a2_14 := keepC hw2 a1_14
  clear a1_0 a1_1 a1_2 a1_3 a1_4 a1_5 a1_6 a1_7 a1_8 a1_9 a1_10 a1_11 a1_12 a1_13 a1_14
  cases f1 : ((decide (x.it.l.length ≤ 80) && decide (x.it.b.length ≤ 1100)) && decide (x.l.length ≤ 80)) with
  | false =>
    go_wp2
    go_ret
    exact ⟨rfl, bw2⟩
  | true =>
    go_wp2_with fail
    with_reducible refine (rpmay_any _ x w2 (hit.out _ bw2)).mono ?_
    rintro en w3 ⟨rfl, hw3⟩
    have bw3 := bthen bw2 hw3
    have a3_0 := keepC hw3 a2_0
    have a3_1 := keepC hw3 a2_1
    have a3_2 := keepC hw3 a2_2
    have a3_3 := keepC hw3 a2_3
    have a3_4 := keepC hw3 a2_4
    have a3_5 := keepC hw3 a2_5
    have a3_6 := keepC hw3 a2_6
    have a3_7 := keepC hw3 a2_7
    have a3_8 := keepC hw3 a2_8
    have a3_9 := keepC hw3 a2_9
    have a3_10 := keepC hw3 a2_10
    have a3_11 := keepC hw3 a2_11
    have a3_12 := keepC hw3 a2_12
    have a3_13 := keepC hw3 a2_13
    have a3_14 := keepC hw3 a2_14
    clear a2_0 a2_1 a2_2 a2_3 a2_4 a2_5 a2_6 a2_7 a2_8 a2_9 a2_10 a2_11 a2_12 a2_13 a2_14
    cases m1 : Pkt.may x with
    | false =>
      go_wp2
      go_ret
      exact ⟨rfl, bw3⟩
    | true =>
      have hB := pbytes_any _ x w3 (hw.below bw3) (hit.out _ bw3)
      go_wp2_with fail
      with_reducible refine hB.mono ?_
      rintro en w4 ⟨A4, n4, rfl, o4, hw4⟩
      have bw4 := bthen bw3 hw4
      clear hB
      have a4_0 := keepC hw4 a3_0
      have a4_1 := keepC hw4 a3_1
      have a4_2 := keepC hw4 a3_2
      have a4_3 := keepC hw4 a3_3
      have a4_4 := keepC hw4 a3_4
      have a4_5 := keepC hw4 a3_5
      have a4_6 := keepC hw4 a3_6
      have a4_7 := keepC hw4 a3_7
      have a4_8 := keepC hw4 a3_8
      have a4_9 := keepC hw4 a3_9
      have a4_10 := keepC hw4 a3_10
      have a4_11 := keepC hw4 a3_11
      have a4_12 := keepC hw4 a3_12
      have a4_13 := keepC hw4 a3_13
      have a4_14 := keepC hw4 a3_14
      clear a3_0 a3_1 a3_2 a3_3 a3_4 a3_5 a3_6 a3_7 a3_8 a3_9 a3_10 a3_11 a3_12 a3_13 a3_14
      obtain ⟨l3, l4, l5, l6, l7⟩ := Pkt.raw_len m1
      have hlen : (Pkt.bytes x).length = (Pkt.raw x).length + 4 := by unfold Pkt.bytes; rw [if_pos m1, seal_length]
      have hit4 := hit.out _ bw4
      obtain ⟨k, f, ⟨ik, iq, ie, ii, it, ic, il, ib⟩, to, lo, many, top, l⟩ := x
      dsimp only at *
      have hpn := HPN.out
      generalize (Pkt.bytes _).length = N at *
      generalize (Pkt.raw _).length = N0 at *
      by_cases k3 : k = 3
      case pos =>
        subst k3
        have e : N = 17 := by rw [hlen, l3 rfl]
        subst e
        clear l3 l4 l5 l6 l7 hlen o4 hit4
        go_wp2
        go_ret
        exact ⟨rfl, bw4⟩
      by_cases k4 : k = 4
      case pos =>
        subst k4
        have hk := (Pkt.pn_le m1)
        dsimp only at hk
        have e : N = 15 + 8 * l.length := by rw [hlen, l4 rfl]; omega
        rw [hpn] at e hk
        subst e
        clear l3 l4 l5 l6 l7 hlen o4 hit4
        go_wp2
        go_ret
        refine ⟨?_, bw4⟩
        simp
      have hI := rbytes_any (.agg #[.int .i64 ik, .int .i64 iq, .int .i64 ie, .int .i64 ii, .int .i64 it, .int .i64 ic, .slice LA lA kA, .slice BA bA dA]) ⟨ik, iq, ie, ii, it, ic, il, ib⟩ w4 (item_of hit4)
      have e : N = 7 + (Item.bytes ⟨ik, iq, ie, ii, it, ic, il, ib⟩).length := by rw [hlen, l5 k3 k4]; omega
      have e9 : (Item.bytes ⟨ik, iq, ie, ii, it, ic, il, ib⟩).length ≤ 1104 := by omega
      generalize (Item.bytes ⟨ik, iq, ie, ii, it, ic, il, ib⟩) = IB at *
      subst e
      have q3 : (k == 3) = false := by simpa using k3
      have q4 : (k == 4) = false := by simpa using k4
      clear l3 l4 l5 l6 l7 hlen o4 hit4
      go_wp2_with fail
      with_reducible refine hI.mono ?_
      rintro en w5 ⟨A5, n5, rfl, o5, hw5⟩
      have bw5 := bthen bw4 hw5
      clear hI
      go_wp2
      go_ret
      refine ⟨?_, bw5⟩
      simp
end Go.Proofs.YtcppbfjdilpjgaaDoor
