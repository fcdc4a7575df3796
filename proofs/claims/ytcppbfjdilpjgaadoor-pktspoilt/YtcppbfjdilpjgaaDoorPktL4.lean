/- The walk of the law PktSpoilt. (Written by wip/gen/pktlaws.py.) -/
import Derived.Test.YtcppbfjdilpjgaaDoorPktShown
import Derived.Test.YtcppbfjdilpjgaaDoorRefPkt3
import Derived.Test.YtcppbfjdilpjgaaDoorCB
import Derived.Deep.RegionHeld3
import Derived.Deep.RegionHeldLaw
import Derived.Deep.RegionWith
import Derived.Lib.SlBytesConst
set_option maxRecDepth 100000
namespace Go.Proofs.YtcppbfjdilpjgaaDoor
open Go.RowKit
set_option linter.unusedVariables false

theorem spoilt_code (x : List UInt8) (a : Int) (b : List UInt8) (h : Crc.spoil (Crc.sealB x) a b ≠ Crc.sealB x) : readCode (Crc.spoil (Crc.sealB x) a b) = 3 := by
  have hl : (Crc.spoil (Crc.sealB x) a b).length = x.length + 4 := by rw [Crc.spoil_length, seal_length]
  have hc : openCode (Crc.spoil (Crc.sealB x) a b) = 3 := by
    unfold openCode
    rw [if_neg (by omega), if_neg (fun e => h (Crc.spoilt_no_seal x a b _ e))]
  rw [(read_shut (by rw [hc]; decide)).2, hc]

set_option maxHeartbeats 16000000 in
theorem pspoilt_any (u : Value) (x : Pkt.Pk) (at_ : Int) (y0 y1 y2 y3 : UInt8) (w : World) (hw : Wd w) (hu : IsPkt w u x) (hat : at_ ≤ 9223372036854775807) : Calls Tryd.prog 7 #[u, .int .i64 at_, .agg #[.int .u8 (y0.toNat : Int), .int .u8 (y1.toNat : Int), .int .u8 (y2.toNat : Int), .int .u8 (y3.toNat : Int)]] w (Yes w) := by
  obtain ⟨LA, lA, kA, BA, bA, dA, PA, pA, qA, rfl, hl, hb, hp⟩ := hu
  obtain ⟨g0, g1, hb0⟩ := two_alloc w (.cells #[.int .i64 x.k, .int .i64 x.f, .int .i64 x.it.k, .int .i64 x.it.q, .int .i64 x.it.e, .int .i64 x.it.i, .int .i64 x.it.t, .int .i64 x.it.c, .slice LA lA kA, .slice BA bA dA, .int .i64 x.to, .int .i64 x.lo, .int .i64 x.many, .int .i64 x.top, .slice PA pA qA] 37) (.cells #[.int .u8 (y0.toNat : Int), .int .u8 (y1.toNat : Int), .int .u8 (y2.toNat : Int), .int .u8 (y3.toNat : Int)] 48)
  obtain ⟨⟨a0, a1⟩, ⟨a2, a3, a4, a5, a6, a7, a8, a9⟩, ⟨a10, a11, a12, a13, a14⟩⟩ := cells15 g0
  have hy : Rd ((w.alloc (.cells #[.int .i64 x.k, .int .i64 x.f, .int .i64 x.it.k, .int .i64 x.it.q, .int .i64 x.it.e, .int .i64 x.it.i, .int .i64 x.it.t, .int .i64 x.it.c, .slice LA lA kA, .slice BA bA dA, .int .i64 x.to, .int .i64 x.lo, .int .i64 x.many, .int .i64 x.top, .slice PA pA qA] 37)).alloc (.cells #[.int .u8 (y0.toNat : Int), .int .u8 (y1.toNat : Int), .int .u8 (y2.toNat : Int), .int .u8 (y3.toNat : Int)] 48)) (some ⟨w.heap.size + 1, 0, none⟩) 4 4 [y0, y1, y2, y3] := Rd.litAt _ _ _ _ _ rfl 4 rfl (by decide) _ (size_alloc _ _)
  have hit : Hid (∀ w', Below w.heap.size w w' → IsPkt w' (.agg #[.int .i64 x.k, .int .i64 x.f, .int .i64 x.it.k, .int .i64 x.it.q, .int .i64 x.it.e, .int .i64 x.it.i, .int .i64 x.it.t, .int .i64 x.it.c, .slice LA lA kA, .slice BA bA dA, .int .i64 x.to, .int .i64 x.lo, .int .i64 x.many, .int .i64 x.top, .slice PA pA qA]) x) := hidT fun w' h => ⟨LA, lA, kA, BA, bA, dA, PA, pA, qA, rfl, RdV.below hl h, hb.below h, RdV.below hp h⟩
  have hS := pshown_any _ (hw.below hb0)
  clear hl hb hp g0 g1
  go_enter Tryd.func7, Tryd.ntmps7
  go_wp2_with fail
  with_reducible refine hS.mono ?_
  rintro en w1 ⟨rfl, hw1⟩
  have bw1 := bthen hb0 hw1
  clear hS
  have a1_0 := keepC hw1 a0
  have a1_1 := keepC hw1 a1
  have a1_2 := keepC hw1 a2
  have a1_3 := keepC hw1 a3
  have a1_4 := keepC hw1 a4
  have a1_5 := keepC hw1 a5
  have a1_6 := keepC hw1 a6
  have a1_7 := keepC hw1 a7
  have a1_8 := keepC hw1 a8
  have a1_9 := keepC hw1 a9
  have a1_10 := keepC hw1 a10
  have a1_11 := keepC hw1 a11
  have a1_12 := keepC hw1 a12
  have a1_13 := keepC hw1 a13
  have a1_14 := keepC hw1 a14
  clear a0 a1 a2 a3 a4 a5 a6 a7 a8 a9 a10 a11 a12 a13 a14
  go_wp2_with fail
  with_reducible refine (rpfew_is _ x w1 (hit.out _ bw1)).mono ?_
  rintro en w2 ⟨rfl, hw2⟩
  have bw2 := bthen bw1 hw2
  have a2_0 := keepC hw2 a1_0
  have a2_1 := keepC hw2 a1_1
  have a2_2 := keepC hw2 a1_2
  have a2_3 := keepC hw2 a1_3
  have a2_4 := keepC hw2 a1_4
  have a2_5 := keepC hw2 a1_5
  have a2_6 := keepC hw2 a1_6
  have a2_7 := keepC hw2 a1_7
  have a2_8 := keepC hw2 a1_8
  have a2_9 := keepC hw2 a1_9
  have a2_10 := keepC hw2 a1_10
  have a2_11 := keepC hw2 a1_11
  have a2_12 := keepC hw2 a1_12
  have a2_13 := keepC hw2 a1_13
  have a2_14 := keepC hw2 a1_14
  clear a1_0 a1_1 a1_2 a1_3 a1_4 a1_5 a1_6 a1_7 a1_8 a1_9 a1_10 a1_11 a1_12 a1_13 a1_14
  cases f1 : ((decide (x.it.l.length ≤ 80) && decide (x.it.b.length ≤ 1100)) && decide (x.l.length ≤ 80)) with
  | false =>
    go_wp2
    go_ret
    exact ⟨rfl, bw2⟩
  | true =>
    go_wp2_with fail
    with_reducible refine (pmay_any _ x w2 (hit.out _ bw2)).mono ?_
    rintro en w3 ⟨rfl, hw3⟩
    have bw3 := bthen bw2 hw3
    have a3_0 := keepC hw3 a2_0
    have a3_1 := keepC hw3 a2_1
    have a3_2 := keepC hw3 a2_2
    have a3_3 := keepC hw3 a2_3
    have a3_4 := keepC hw3 a2_4
    have a3_5 := keepC hw3 a2_5
    have a3_6 := keepC hw3 a2_6
    have a3_7 := keepC hw3 a2_7
    have a3_8 := keepC hw3 a2_8
    have a3_9 := keepC hw3 a2_9
    have a3_10 := keepC hw3 a2_10
    have a3_11 := keepC hw3 a2_11
    have a3_12 := keepC hw3 a2_12
    have a3_13 := keepC hw3 a2_13
    have a3_14 := keepC hw3 a2_14
    clear a2_0 a2_1 a2_2 a2_3 a2_4 a2_5 a2_6 a2_7 a2_8 a2_9 a2_10 a2_11 a2_12 a2_13 a2_14
    cases m1 : Pkt.may x with
    | false =>
      go_wp2
      go_ret
      exact ⟨rfl, bw3⟩
    | true =>
      have hB := pbytes_any _ x w3 (hw.below bw3) (hit.out _ bw3)
      go_wp2_with fail
      with_reducible refine hB.mono ?_
      rintro en w4 ⟨A4, n4, rfl, o4, hw4⟩
      have bw4 := bthen bw3 hw4
      clear hB
      have hbl := bytes_len_le x
      have HB : Hid (Pkt.bytes x = Crc.sealB (Pkt.raw x)) := by unfold Pkt.bytes; rw [if_pos m1]; exact hidT rfl
      have hsc : Hid (Crc.spoil (Pkt.bytes x) at_ [y0, y1, y2, y3] ≠ Pkt.bytes x → readCode (Crc.spoil (Pkt.bytes x) at_ [y0, y1, y2, y3]) = 3) := hidT (by rw [HB.out]; exact spoilt_code _ _ _)
      have hbl2 : (Crc.spoil (Pkt.bytes x) at_ [y0, y1, y2, y3]).length ≤ 1104 := by rw [Crc.spoil_length]; exact hbl
      have hSp := rspoil_any A4 _ n4 (Pkt.bytes x) at_ _ 4 4 [y0, y1, y2, y3] w4 o4.same (hy.below (bthen hw1 (bthen hw2 (bthen hw3 hw4)))) (by omega) (by omega) hat
      clear HB
      generalize Pkt.bytes x = R at *
      generalize Crc.spoil R at_ [y0, y1, y2, y3] = C at *
      go_wp2_with fail
      with_reducible refine hSp.mono ?_
      rintro en w5 ⟨A5, n5, rfl, o5, hw5⟩
      have bw5 := bthen bw4 hw5
      clear hSp
      have s1 := strs (o4.same.below hw5) w5 (Below.refl _ _)
      have s2 := strs o5.same w5 (Below.refl _ _)
      by_cases hst : R = C
      case pos =>
        have e1 := str_same hst
        clear hst hsc
        go_wp2
        go_ret
        exact ⟨rfl, bw5⟩
      have e1 := str_other hst
      have hR := pread_any A5 _ n5 C w5 (hw.below bw5) o5.same (by omega)
      rw [hsc.out (fun e => hst e.symm)] at hR
      clear hst hsc
      go_wp2_with fail
      with_reducible refine hR.mono ?_
      rintro en w6 ⟨v6, rfl, ⟨L6, l6, k6, B6, b6, d6, P6, p6, q6, rfl, rl6, rb6, rp6⟩, hw6⟩
      have bw6 := bthen bw5 hw6
      go_wp2
      go_ret
      exact ⟨rfl, bw6.alloc bw6.size _⟩
end Go.Proofs.YtcppbfjdilpjgaaDoor
