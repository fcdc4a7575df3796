/- What the document's Bytes of packets comes to. (Written by wip/gen/refpkt4.py.) -/
import Derived.Test.YtahkhideepncfaaDoorRefPkt3
import Derived.Test.YtahkhideepncfaaDoorRG
import Derived.Test.YtahkhideepncfaaDoorNB
import Derived.Test.YtahkhideepncfaaDoorCB
import Derived.Test.YtahkhideepncfaaDoorIF
set_option maxRecDepth 100000
namespace Go.Proofs.YtahkhideepncfaaDoor
open Go.RowKit
set_option linter.unusedVariables false

theorem byteV {i : Int} (h : 0 ≤ i) (h2 : i ≤ 255) : Value.int .u8 ((UInt8.ofNat i.toNat).toNat : Int) = .int .u8 i := by rw [Item.byte_at h h2]
theorem lit1 (w : World) (t : TypeId) {i : Int} (h : 0 ≤ i) (h2 : i ≤ 255) : Rd (w.alloc (.cells #[.int .u8 i] t)) (some ⟨w.heap.size, 0, none⟩) 1 1 [UInt8.ofNat i.toNat] := by
  have := Rd.new w t [UInt8.ofNat i.toNat] (show 1 ≤ maxLen by decide)
  simp only [bs, List.map_cons, List.map_nil, byteV h h2] at this
  exact this
theorem lit3 (w : World) (t : TypeId) {i j k : Int} (h : 0 ≤ i) (h2 : i ≤ 255) (h3 : 0 ≤ j) (h4 : j ≤ 255) (h5 : 0 ≤ k) (h6 : k ≤ 255) : Own (w.alloc (.cells #[.int .u8 i, .int .u8 j, .int .u8 k] t)) w.heap.size t (.slice (some ⟨w.heap.size, 0, none⟩) 3 3) 3 [UInt8.ofNat i.toNat, UInt8.ofNat j.toNat, UInt8.ofNat k.toNat] := by
  have := World.ownsRow_lit (base := w.heap.size) (e := t) (size := 1) w #[.int .u8 i, .int .u8 j, .int .u8 k] 3 (Nat.le_refl _) (by decide) rfl
  unfold Own
  simp only [bs, List.map_cons, List.map_nil, byteV h h2, byteV h3 h4, byteV h5 h6]
  exact this

set_option maxHeartbeats 4000000 in
theorem rpbytes_1 (f to lo many top : Int) (l : List Int) (ik iq ie ii it ic : Int) (il : List Int) (ib : List UInt8) (LA : Option Addr) (ln lc : Nat) (BA : Option Addr) (bn bc : Nat) (PA : Option Addr) (pn pc : Nat) (w : World) (hl : RdI w LA ln lc il) (hb : Rd w BA bn bc ib) (hp : RdI w PA pn pc l) (hm : Pkt.may ⟨1, f, ⟨ik, iq, ie, ii, it, ic, il, ib⟩, to, lo, many, top, l⟩ = true) (f1 : 0 ≤ f) (f2 : f ≤ 63) (hlen : (Item.bytes ⟨ik, iq, ie, ii, it, ic, il, ib⟩).length ≤ 1100) :
    Calls Tryd.prog 16 #[.agg #[.int .i64 1, .int .i64 f, .int .i64 ik, .int .i64 iq, .int .i64 ie, .int .i64 ii, .int .i64 it, .int .i64 ic, .slice LA ln lc, .slice BA bn bc, .int .i64 to, .int .i64 lo, .int .i64 many, .int .i64 top, .slice PA pn pc]] w (Gives w 5 (Crc.sealB ([UInt8.ofNat (165 : Int).toNat, UInt8.ofNat (1 : Int).toNat, UInt8.ofNat f.toNat] ++ Item.bytes ⟨ik, iq, ie, ii, it, ic, il, ib⟩))) := by
  have hg := alloc_at w (.cells #[.int .i64 1, .int .i64 f, .int .i64 ik, .int .i64 iq, .int .i64 ie, .int .i64 ii, .int .i64 it, .int .i64 ic, .slice LA ln lc, .slice BA bn bc, .int .i64 to, .int .i64 lo, .int .i64 many, .int .i64 top, .slice PA pn pc] 27) _ rfl
  have hb0 : Below w.heap.size w (w.alloc (.cells #[.int .i64 1, .int .i64 f, .int .i64 ik, .int .i64 iq, .int .i64 ie, .int .i64 ii, .int .i64 it, .int .i64 ic, .slice LA ln lc, .slice BA bn bc, .int .i64 to, .int .i64 lo, .int .i64 many, .int .i64 top, .slice PA pn pc] 27)) := (Below.refl _ _).alloc (Nat.le_refl _) _
  obtain ⟨⟨c0, c1⟩, ⟨c2, c3, c4, c5, c6, c7, c8, c9⟩, c10, c11, c12, c13, c14⟩ := cells15 hg
  have hmay := rpmay_any (.agg #[.int .i64 1, .int .i64 f, .int .i64 ik, .int .i64 iq, .int .i64 ie, .int .i64 ii, .int .i64 it, .int .i64 ic, .slice LA ln lc, .slice BA bn bc, .int .i64 to, .int .i64 lo, .int .i64 many, .int .i64 top, .slice PA pn pc]) ⟨1, f, ⟨ik, iq, ie, ii, it, ic, il, ib⟩, to, lo, many, top, l⟩ _ ⟨LA, ln, lc, BA, bn, bc, PA, pn, pc, rfl, RdV.below hl hb0, hb.below hb0, RdV.below hp hb0⟩
  rw [hm] at hmay
  clear hg
  go_enter Tryd.func16, Tryd.ntmps16
  go_wp2_with fail
  with_reducible refine hmay.mono ?_
  rintro e w1 ⟨rfl, hb1⟩
  have d0 := keepC hb1 c0
  have d1 := keepC hb1 c1
  have d2 := keepC hb1 c2
  have d3 := keepC hb1 c3
  have d4 := keepC hb1 c4
  have d5 := keepC hb1 c5
  have d6 := keepC hb1 c6
  have d7 := keepC hb1 c7
  have d8 := keepC hb1 c8
  have d9 := keepC hb1 c9
  have d10 := keepC hb1 c10
  have d11 := keepC hb1 c11
  have d12 := keepC hb1 c12
  have d13 := keepC hb1 c13
  have d14 := keepC hb1 c14
  have hb01 := bthen hb0 hb1
  have own3 := lit3 w1 5 (i := 165) (j := 1) (k := f) (by omega) (by omega) (by omega) (by omega) f1 (by omega)
  have ba : Below w1.heap.size w1 (w1.alloc (.cells #[.int .u8 165, .int .u8 1, .int .u8 f] 5)) := (Below.refl _ _).alloc (Nat.le_refl _) _
  clear hmay hb1 hb0 c0 c1 c2 c3 c4 c5 c6 c7 c8 c9 c10 c11 c12 c13 c14
  have e0 := keepC ba d0
  have e1 := keepC ba d1
  have e2 := keepC ba d2
  have e3 := keepC ba d3
  have e4 := keepC ba d4
  have e5 := keepC ba d5
  have e6 := keepC ba d6
  have e7 := keepC ba d7
  have e8 := keepC ba d8
  have e9 := keepC ba d9
  have e10 := keepC ba d10
  have e11 := keepC ba d11
  have e12 := keepC ba d12
  have e13 := keepC ba d13
  have e14 := keepC ba d14
  have hby := rbytes_any (.agg #[.int .i64 ik, .int .i64 iq, .int .i64 ie, .int .i64 ii, .int .i64 it, .int .i64 ic, .slice LA ln lc, .slice BA bn bc]) ⟨ik, iq, ie, ii, it, ic, il, ib⟩ _ ⟨LA, ln, lc, BA, bn, bc, rfl, RdV.below hl (bthen hb01 ba), hb.below (bthen hb01 ba)⟩
  go_wp2_with fail
  with_reducible refine hby.mono ?_
  rintro e w2 ⟨A2, x2, rfl, o2, b2⟩
  have bb := bthen ba b2
  have u0 := keepC b2 e0
  clear hby e0 e1 e2 e3 e4 e5 e6 e7 e8 e9 e10 e11 e12 e13 e14 d1 d2 d3 d4 d5 d6 d7 d8 d9 d10 d11 d12 d13 d14
  go_wp2_with (first
    | (at_builtin
       refine wpList_app rfl (.tmp 19) (.tmp 22) 23 rfl w1.heap.size 5 info5 Tryd.underlying23 (.slice (some ⟨w1.heap.size, 0, none⟩) 3 3) 3 [UInt8.ofNat (165 : Int).toNat, UInt8.ofNat (1 : Int).toNat, UInt8.ofNat f.toNat] rfl (own3.later b2) A2 (Item.bytes ⟨ik, iq, ie, ii, it, ic, il, ib⟩).length x2 (Item.bytes ⟨ik, iq, ie, ii, it, ic, il, ib⟩) rfl o2.same (by omega) bb.size ?_
       intro v4 w4 ho4 hb4
       have bc4 : Below w1.heap.size w1 w4 := bb.trans hb4
       have u0' := keepC (bb.trans hb4) d0))
  obtain ⟨A9, c9, rfl, r9⟩ := ho4.rd
  with_reducible refine (rseal_any A9 _ c9 _ _ r9 (by omega)).mono ?_
  rintro e w9 ⟨Az, dz, rfl, sz, hz⟩
  go_wp2
  go_ret
  exact ⟨_, _, rfl, sz.mono (bthen hb01 bc4).size, bthen hb01 (bthen bc4 hz)⟩

set_option maxHeartbeats 4000000 in
theorem rpbytes_2 (f to lo many top : Int) (l : List Int) (ik iq ie ii it ic : Int) (il : List Int) (ib : List UInt8) (LA : Option Addr) (ln lc : Nat) (BA : Option Addr) (bn bc : Nat) (PA : Option Addr) (pn pc : Nat) (w : World) (hl : RdI w LA ln lc il) (hb : Rd w BA bn bc ib) (hp : RdI w PA pn pc l) (hm : Pkt.may ⟨2, f, ⟨ik, iq, ie, ii, it, ic, il, ib⟩, to, lo, many, top, l⟩ = true) (f1 : 0 ≤ f) (f2 : f ≤ 63) (hlen : (Item.bytes ⟨ik, iq, ie, ii, it, ic, il, ib⟩).length ≤ 1100) :
    Calls Tryd.prog 16 #[.agg #[.int .i64 2, .int .i64 f, .int .i64 ik, .int .i64 iq, .int .i64 ie, .int .i64 ii, .int .i64 it, .int .i64 ic, .slice LA ln lc, .slice BA bn bc, .int .i64 to, .int .i64 lo, .int .i64 many, .int .i64 top, .slice PA pn pc]] w (Gives w 5 (Crc.sealB ([UInt8.ofNat (165 : Int).toNat, UInt8.ofNat (2 : Int).toNat, UInt8.ofNat f.toNat] ++ Item.bytes ⟨ik, iq, ie, ii, it, ic, il, ib⟩))) := by
  have hg := alloc_at w (.cells #[.int .i64 2, .int .i64 f, .int .i64 ik, .int .i64 iq, .int .i64 ie, .int .i64 ii, .int .i64 it, .int .i64 ic, .slice LA ln lc, .slice BA bn bc, .int .i64 to, .int .i64 lo, .int .i64 many, .int .i64 top, .slice PA pn pc] 27) _ rfl
  have hb0 : Below w.heap.size w (w.alloc (.cells #[.int .i64 2, .int .i64 f, .int .i64 ik, .int .i64 iq, .int .i64 ie, .int .i64 ii, .int .i64 it, .int .i64 ic, .slice LA ln lc, .slice BA bn bc, .int .i64 to, .int .i64 lo, .int .i64 many, .int .i64 top, .slice PA pn pc] 27)) := (Below.refl _ _).alloc (Nat.le_refl _) _
  obtain ⟨⟨c0, c1⟩, ⟨c2, c3, c4, c5, c6, c7, c8, c9⟩, c10, c11, c12, c13, c14⟩ := cells15 hg
  have hmay := rpmay_any (.agg #[.int .i64 2, .int .i64 f, .int .i64 ik, .int .i64 iq, .int .i64 ie, .int .i64 ii, .int .i64 it, .int .i64 ic, .slice LA ln lc, .slice BA bn bc, .int .i64 to, .int .i64 lo, .int .i64 many, .int .i64 top, .slice PA pn pc]) ⟨2, f, ⟨ik, iq, ie, ii, it, ic, il, ib⟩, to, lo, many, top, l⟩ _ ⟨LA, ln, lc, BA, bn, bc, PA, pn, pc, rfl, RdV.below hl hb0, hb.below hb0, RdV.below hp hb0⟩
  rw [hm] at hmay
  clear hg
  go_enter Tryd.func16, Tryd.ntmps16
  go_wp2_with fail
  with_reducible refine hmay.mono ?_
  rintro e w1 ⟨rfl, hb1⟩
  have d0 := keepC hb1 c0
  have d1 := keepC hb1 c1
  have d2 := keepC hb1 c2
  have d3 := keepC hb1 c3
  have d4 := keepC hb1 c4
  have d5 := keepC hb1 c5
  have d6 := keepC hb1 c6
  have d7 := keepC hb1 c7
  have d8 := keepC hb1 c8
  have d9 := keepC hb1 c9
  have d10 := keepC hb1 c10
  have d11 := keepC hb1 c11
  have d12 := keepC hb1 c12
  have d13 := keepC hb1 c13
  have d14 := keepC hb1 c14
  have hb01 := bthen hb0 hb1
  have own3 := lit3 w1 5 (i := 165) (j := 2) (k := f) (by omega) (by omega) (by omega) (by omega) f1 (by omega)
  have ba : Below w1.heap.size w1 (w1.alloc (.cells #[.int .u8 165, .int .u8 2, .int .u8 f] 5)) := (Below.refl _ _).alloc (Nat.le_refl _) _
  clear hmay hb1 hb0 c0 c1 c2 c3 c4 c5 c6 c7 c8 c9 c10 c11 c12 c13 c14
  have e0 := keepC ba d0
  have e1 := keepC ba d1
  have e2 := keepC ba d2
  have e3 := keepC ba d3
  have e4 := keepC ba d4
  have e5 := keepC ba d5
  have e6 := keepC ba d6
  have e7 := keepC ba d7
  have e8 := keepC ba d8
  have e9 := keepC ba d9
  have e10 := keepC ba d10
  have e11 := keepC ba d11
  have e12 := keepC ba d12
  have e13 := keepC ba d13
  have e14 := keepC ba d14
  have hby := rbytes_any (.agg #[.int .i64 ik, .int .i64 iq, .int .i64 ie, .int .i64 ii, .int .i64 it, .int .i64 ic, .slice LA ln lc, .slice BA bn bc]) ⟨ik, iq, ie, ii, it, ic, il, ib⟩ _ ⟨LA, ln, lc, BA, bn, bc, rfl, RdV.below hl (bthen hb01 ba), hb.below (bthen hb01 ba)⟩
  go_wp2_with fail
  with_reducible refine hby.mono ?_
  rintro e w2 ⟨A2, x2, rfl, o2, b2⟩
  have bb := bthen ba b2
  have u0 := keepC b2 e0
  clear hby e0 e1 e2 e3 e4 e5 e6 e7 e8 e9 e10 e11 e12 e13 e14 d1 d2 d3 d4 d5 d6 d7 d8 d9 d10 d11 d12 d13 d14
  go_wp2_with (first
    | (at_builtin
       refine wpList_app rfl (.tmp 19) (.tmp 22) 23 rfl w1.heap.size 5 info5 Tryd.underlying23 (.slice (some ⟨w1.heap.size, 0, none⟩) 3 3) 3 [UInt8.ofNat (165 : Int).toNat, UInt8.ofNat (2 : Int).toNat, UInt8.ofNat f.toNat] rfl (own3.later b2) A2 (Item.bytes ⟨ik, iq, ie, ii, it, ic, il, ib⟩).length x2 (Item.bytes ⟨ik, iq, ie, ii, it, ic, il, ib⟩) rfl o2.same (by omega) bb.size ?_
       intro v4 w4 ho4 hb4
       have bc4 : Below w1.heap.size w1 w4 := bb.trans hb4
       have u0' := keepC (bb.trans hb4) d0))
  obtain ⟨A9, c9, rfl, r9⟩ := ho4.rd
  with_reducible refine (rseal_any A9 _ c9 _ _ r9 (by omega)).mono ?_
  rintro e w9 ⟨Az, dz, rfl, sz, hz⟩
  go_wp2
  go_ret
  exact ⟨_, _, rfl, sz.mono (bthen hb01 bc4).size, bthen hb01 (bthen bc4 hz)⟩

set_option maxHeartbeats 4000000 in
theorem rpbytes_3 (f to lo many top : Int) (l : List Int) (ik iq ie ii it ic : Int) (il : List Int) (ib : List UInt8) (LA : Option Addr) (ln lc : Nat) (BA : Option Addr) (bn bc : Nat) (PA : Option Addr) (pn pc : Nat) (w : World) (hl : RdI w LA ln lc il) (hb : Rd w BA bn bc ib) (hp : RdI w PA pn pc l) (hm : Pkt.may ⟨3, f, ⟨ik, iq, ie, ii, it, ic, il, ib⟩, to, lo, many, top, l⟩ = true) (f1 : 0 ≤ f) (f2 : f ≤ 63) (t1 : 0 ≤ to) (t2 : to ≤ 63) (m1 : 1 ≤ many) (m2 : many ≤ 64) :
    Calls Tryd.prog 16 #[.agg #[.int .i64 3, .int .i64 f, .int .i64 ik, .int .i64 iq, .int .i64 ie, .int .i64 ii, .int .i64 it, .int .i64 ic, .slice LA ln lc, .slice BA bn bc, .int .i64 to, .int .i64 lo, .int .i64 many, .int .i64 top, .slice PA pn pc]] w (Gives w 5 (Crc.sealB ((([UInt8.ofNat (165 : Int).toNat, UInt8.ofNat (3 : Int).toNat, UInt8.ofNat f.toNat] ++ [UInt8.ofNat to.toNat]) ++ Num.put lo 8) ++ [UInt8.ofNat many.toNat]))) := by
  have hg := alloc_at w (.cells #[.int .i64 3, .int .i64 f, .int .i64 ik, .int .i64 iq, .int .i64 ie, .int .i64 ii, .int .i64 it, .int .i64 ic, .slice LA ln lc, .slice BA bn bc, .int .i64 to, .int .i64 lo, .int .i64 many, .int .i64 top, .slice PA pn pc] 27) _ rfl
  have hb0 : Below w.heap.size w (w.alloc (.cells #[.int .i64 3, .int .i64 f, .int .i64 ik, .int .i64 iq, .int .i64 ie, .int .i64 ii, .int .i64 it, .int .i64 ic, .slice LA ln lc, .slice BA bn bc, .int .i64 to, .int .i64 lo, .int .i64 many, .int .i64 top, .slice PA pn pc] 27)) := (Below.refl _ _).alloc (Nat.le_refl _) _
  obtain ⟨⟨c0, c1⟩, ⟨c2, c3, c4, c5, c6, c7, c8, c9⟩, c10, c11, c12, c13, c14⟩ := cells15 hg
  have hmay := rpmay_any (.agg #[.int .i64 3, .int .i64 f, .int .i64 ik, .int .i64 iq, .int .i64 ie, .int .i64 ii, .int .i64 it, .int .i64 ic, .slice LA ln lc, .slice BA bn bc, .int .i64 to, .int .i64 lo, .int .i64 many, .int .i64 top, .slice PA pn pc]) ⟨3, f, ⟨ik, iq, ie, ii, it, ic, il, ib⟩, to, lo, many, top, l⟩ _ ⟨LA, ln, lc, BA, bn, bc, PA, pn, pc, rfl, RdV.below hl hb0, hb.below hb0, RdV.below hp hb0⟩
  rw [hm] at hmay
  clear hg
  go_enter Tryd.func16, Tryd.ntmps16
  go_wp2_with fail
  with_reducible refine hmay.mono ?_
  rintro e w1 ⟨rfl, hb1⟩
  have d0 := keepC hb1 c0
  have d1 := keepC hb1 c1
  have d2 := keepC hb1 c2
  have d3 := keepC hb1 c3
  have d4 := keepC hb1 c4
  have d5 := keepC hb1 c5
  have d6 := keepC hb1 c6
  have d7 := keepC hb1 c7
  have d8 := keepC hb1 c8
  have d9 := keepC hb1 c9
  have d10 := keepC hb1 c10
  have d11 := keepC hb1 c11
  have d12 := keepC hb1 c12
  have d13 := keepC hb1 c13
  have d14 := keepC hb1 c14
  have hb01 := bthen hb0 hb1
  have own3 := lit3 w1 5 (i := 165) (j := 3) (k := f) (by omega) (by omega) (by omega) (by omega) f1 (by omega)
  have ba : Below w1.heap.size w1 (w1.alloc (.cells #[.int .u8 165, .int .u8 3, .int .u8 f] 5)) := (Below.refl _ _).alloc (Nat.le_refl _) _
  clear hmay hb1 hb0 c0 c1 c2 c3 c4 c5 c6 c7 c8 c9 c10 c11 c12 c13 c14
  have ss : w1.heap.size + 1 = (w1.alloc (.cells #[.int .u8 165, .int .u8 3, .int .u8 f] 5)).heap.size := (size_alloc _ _).symm
  have ba2 : Below w1.heap.size w1 ((w1.alloc (.cells #[.int .u8 165, .int .u8 3, .int .u8 f] 5)).alloc (.cells #[.int .u8 to] 5)) := ba.alloc ba.size _
  have own3' : Own ((w1.alloc (.cells #[.int .u8 165, .int .u8 3, .int .u8 f] 5)).alloc (.cells #[.int .u8 to] 5)) w1.heap.size 5 (.slice (some ⟨w1.heap.size, 0, none⟩) 3 3) 3 [UInt8.ofNat (165 : Int).toNat, UInt8.ofNat (3 : Int).toNat, UInt8.ofNat f.toNat] := own3.later ((Below.refl _ _).alloc (Nat.le_refl _) _)
  have rd1 : Rd ((w1.alloc (.cells #[.int .u8 165, .int .u8 3, .int .u8 f] 5)).alloc (.cells #[.int .u8 to] 5)) (some ⟨w1.heap.size + 1, 0, none⟩) 1 1 [UInt8.ofNat to.toNat] := by
    have := lit1 (w1.alloc (.cells #[.int .u8 165, .int .u8 3, .int .u8 f] 5)) 5 (i := to) t1 (by omega)
    rw [← ss] at this
    exact this
  have hp8 := put_len8 lo
  clear own3 ss
  have e0 := keepC ba d0
  have e10 := keepC ba d10
  go_wp2_with (first
    | (at_builtin
       refine wpList_app rfl (.tmp 27) (.tmp 31) 23 rfl w1.heap.size 5 info5 Tryd.underlying23 (.slice (some ⟨w1.heap.size, 0, none⟩) 3 3) 3 [UInt8.ofNat (165 : Int).toNat, UInt8.ofNat (3 : Int).toNat, UInt8.ofNat f.toNat] rfl own3' (some ⟨w1.heap.size + 1, 0, none⟩) 1 1 [UInt8.ofNat to.toNat] rfl rd1 (by omega) ba2.size ?_
       intro v2 w2 ho2 hb2
       have bb2 : Below w1.heap.size w1 w2 := ba2.trans hb2
       have u11 := keepC bb2 d11
       have u12 := keepC bb2 d12
       have u0 := keepC bb2 d0))
  with_reducible refine (rput_any lo 8 _).mono ?_
  rintro e w3 ⟨A3, x3, rfl, o3, b3⟩
  have bb3 := bthen bb2 b3
  have ho3 := ho2.later b3
  have w0 := keepC bb3 d0
  have w12 := keepC bb3 d12
  clear u11 u12 u0 e0 e10 own3' rd1 ba2 ho2 hb2
  go_wp2_with (first
    | (at_builtin
       refine wpList_app rfl (.tmp 33) (.tmp 36) 23 rfl w1.heap.size 5 info5 Tryd.underlying23 v2 (3 + 1) ([UInt8.ofNat (165 : Int).toNat, UInt8.ofNat (3 : Int).toNat, UInt8.ofNat f.toNat] ++ [UInt8.ofNat to.toNat]) rfl ho3 A3 (Num.put lo 8).length x3 (Num.put lo 8) rfl o3.same (by omega) bb3.size ?_
       intro v4 w4 ho4 hb4
       have bb4 : Below w1.heap.size w1 w4 := bb3.trans hb4
       have p0 := keepC bb4 d0
       have p12 := keepC bb4 d12
       have own4 : Own (w4.alloc (.cells #[.int .u8 many] 5)) w1.heap.size 5 v4 _ _ := ho4.later ((Below.refl _ _).alloc (Nat.le_refl _) _)
       have rd4 := lit1 w4 5 (i := many) (by omega) (by omega)
       have bb4' : Below w1.heap.size w1 (w4.alloc (.cells #[.int .u8 many] 5)) := bb4.alloc bb4.size _)
    | (at_builtin
       refine wpList_app rfl (.tmp 38) (.tmp 42) 23 rfl w1.heap.size 5 info5 Tryd.underlying23 v4 (3 + 1 + (Num.put lo 8).length) (([UInt8.ofNat (165 : Int).toNat, UInt8.ofNat (3 : Int).toNat, UInt8.ofNat f.toNat] ++ [UInt8.ofNat to.toNat]) ++ Num.put lo 8) rfl own4 (some ⟨w4.heap.size, 0, none⟩) 1 1 [UInt8.ofNat many.toNat] rfl rd4 (by omega) bb4'.size ?_
       intro v5 w5 ho5 hb5
       have bb5 : Below w1.heap.size w1 w5 := bb4'.trans hb5
       have s0 := keepC bb5 d0))
  obtain ⟨A9, c9, rfl, r9⟩ := ho5.rd
  with_reducible refine (rseal_any A9 _ c9 _ _ r9 (by omega)).mono ?_
  rintro e w9 ⟨Az, dz, rfl, sz, hz⟩
  go_wp2
  go_ret
  exact ⟨_, _, rfl, sz.mono (bthen hb01 bb5).size, bthen hb01 (bthen bb5 hz)⟩

set_option maxHeartbeats 4000000 in
theorem rpbytes_4 (f to lo many top : Int) (l : List Int) (ik iq ie ii it ic : Int) (il : List Int) (ib : List UInt8) (LA : Option Addr) (ln lc : Nat) (BA : Option Addr) (bn bc : Nat) (PA : Option Addr) (pn pc : Nat) (w : World) (hl : RdI w LA ln lc il) (hb : Rd w BA bn bc ib) (hp : RdI w PA pn pc l) (hm : Pkt.may ⟨4, f, ⟨ik, iq, ie, ii, it, ic, il, ib⟩, to, lo, many, top, l⟩ = true) (f1 : 0 ≤ f) (f2 : f ≤ 63) (hpn : pn ≤ 64) :
    Calls Tryd.prog 16 #[.agg #[.int .i64 4, .int .i64 f, .int .i64 ik, .int .i64 iq, .int .i64 ie, .int .i64 ii, .int .i64 it, .int .i64 ic, .slice LA ln lc, .slice BA bn bc, .int .i64 to, .int .i64 lo, .int .i64 many, .int .i64 top, .slice PA pn pc]] w (Gives w 5 (Crc.sealB (([UInt8.ofNat (165 : Int).toNat, UInt8.ofNat (4 : Int).toNat, UInt8.ofNat f.toNat] ++ Num.put top 8) ++ Num.putRow l 8))) := by
  have hg := alloc_at w (.cells #[.int .i64 4, .int .i64 f, .int .i64 ik, .int .i64 iq, .int .i64 ie, .int .i64 ii, .int .i64 it, .int .i64 ic, .slice LA ln lc, .slice BA bn bc, .int .i64 to, .int .i64 lo, .int .i64 many, .int .i64 top, .slice PA pn pc] 27) _ rfl
  have hb0 : Below w.heap.size w (w.alloc (.cells #[.int .i64 4, .int .i64 f, .int .i64 ik, .int .i64 iq, .int .i64 ie, .int .i64 ii, .int .i64 it, .int .i64 ic, .slice LA ln lc, .slice BA bn bc, .int .i64 to, .int .i64 lo, .int .i64 many, .int .i64 top, .slice PA pn pc] 27)) := (Below.refl _ _).alloc (Nat.le_refl _) _
  obtain ⟨⟨c0, c1⟩, ⟨c2, c3, c4, c5, c6, c7, c8, c9⟩, c10, c11, c12, c13, c14⟩ := cells15 hg
  have hmay := rpmay_any (.agg #[.int .i64 4, .int .i64 f, .int .i64 ik, .int .i64 iq, .int .i64 ie, .int .i64 ii, .int .i64 it, .int .i64 ic, .slice LA ln lc, .slice BA bn bc, .int .i64 to, .int .i64 lo, .int .i64 many, .int .i64 top, .slice PA pn pc]) ⟨4, f, ⟨ik, iq, ie, ii, it, ic, il, ib⟩, to, lo, many, top, l⟩ _ ⟨LA, ln, lc, BA, bn, bc, PA, pn, pc, rfl, RdV.below hl hb0, hb.below hb0, RdV.below hp hb0⟩
  rw [hm] at hmay
  clear hg
  go_enter Tryd.func16, Tryd.ntmps16
  go_wp2_with fail
  with_reducible refine hmay.mono ?_
  rintro e w1 ⟨rfl, hb1⟩
  have d0 := keepC hb1 c0
  have d1 := keepC hb1 c1
  have d2 := keepC hb1 c2
  have d3 := keepC hb1 c3
  have d4 := keepC hb1 c4
  have d5 := keepC hb1 c5
  have d6 := keepC hb1 c6
  have d7 := keepC hb1 c7
  have d8 := keepC hb1 c8
  have d9 := keepC hb1 c9
  have d10 := keepC hb1 c10
  have d11 := keepC hb1 c11
  have d12 := keepC hb1 c12
  have d13 := keepC hb1 c13
  have d14 := keepC hb1 c14
  have hb01 := bthen hb0 hb1
  have own3 := lit3 w1 5 (i := 165) (j := 4) (k := f) (by omega) (by omega) (by omega) (by omega) f1 (by omega)
  have ba : Below w1.heap.size w1 (w1.alloc (.cells #[.int .u8 165, .int .u8 4, .int .u8 f] 5)) := (Below.refl _ _).alloc (Nat.le_refl _) _
  clear hmay hb1 hb0 c0 c1 c2 c3 c4 c5 c6 c7 c8 c9 c10 c11 c12 c13 c14
  have hp8 := put_len8 top
  have hpr : (Num.putRow l 8).length ≤ 512 := by
    have := RdI.size hp
    exact putRow_len l 8 512 (by simp; omega)
  have hpl := fun w' (hb' : Below w1.heap.size w1 w') => rputRow_any PA pn pc l 8 w' (RdV.below hp (bthen hb01 hb')) (by omega)
  have e0 := keepC ba d0
  have e13 := keepC ba d13
  go_wp2_with fail
  with_reducible refine (rput_any top 8 _).mono ?_
  rintro e w2 ⟨A2, x2, rfl, o2, b2⟩
  have bb2 := bthen ba b2
  have u0 := keepC bb2 d0
  have u14 := keepC bb2 d14
  clear e0 e13
  go_wp2_with (first
    | (at_builtin
       refine wpList_app rfl (.tmp 47) (.tmp 50) 23 rfl w1.heap.size 5 info5 Tryd.underlying23 (.slice (some ⟨w1.heap.size, 0, none⟩) 3 3) 3 [UInt8.ofNat (165 : Int).toNat, UInt8.ofNat (4 : Int).toNat, UInt8.ofNat f.toNat] rfl (own3.later b2) A2 (Num.put top 8).length x2 (Num.put top 8) rfl o2.same (by omega) bb2.size ?_
       intro v3 w3 ho3 hb3
       have bb3 : Below w1.heap.size w1 w3 := bb2.trans hb3
       have p14 := keepC bb3 d14
       have hpl3 := hpl w3 bb3))
  with_reducible refine hpl3.mono ?_
  rintro e w4 ⟨A4, x4, rfl, o4, b4⟩
  have bb4 := bthen bb3 b4
  clear hpl hpl3 p14 u0 u14
  go_wp2_with (first
    | (at_builtin
       refine wpList_app rfl (.tmp 52) (.tmp 55) 23 rfl w1.heap.size 5 info5 Tryd.underlying23 v3 (3 + (Num.put top 8).length) ([UInt8.ofNat (165 : Int).toNat, UInt8.ofNat (4 : Int).toNat, UInt8.ofNat f.toNat] ++ Num.put top 8) rfl (ho3.later b4) A4 (Num.putRow l 8).length x4 (Num.putRow l 8) rfl o4.same (by omega) bb4.size ?_
       intro v5 w5 ho5 hb5
       have bb5 : Below w1.heap.size w1 w5 := bb4.trans hb5))
  obtain ⟨A9, c9, rfl, r9⟩ := ho5.rd
  with_reducible refine (rseal_any A9 _ c9 _ _ r9 (by omega)).mono ?_
  rintro e w9 ⟨Az, dz, rfl, sz, hz⟩
  go_wp2
  go_ret
  exact ⟨_, _, rfl, sz.mono (bthen hb01 bb5).size, bthen hb01 (bthen bb5 hz)⟩

theorem rpbytes_any (v : Value) (p : Pkt.Pk) (w : World) (h : IsPkt w v p) : Calls Tryd.prog 16 #[v] w (Gives w 5 (Pkt.bytes p)) := by
  obtain ⟨LA, ln, lc, BA, bn, bc, PA, pn, pc, rfl, hl, hb, hp⟩ := h
  unfold Pkt.bytes
  cases hm : Pkt.may p with
  | true =>
    rw [if_pos rfl]
    cases Pkt.may_kinds hm with
    | item k f it hk h1 h2 h3 =>
      have hlen := Item.bytes_len h3
      have htl := (Item.tail_len (Item.may_kinds h3)).2.2.2.2
      obtain ⟨ik, iq, ie, ii, it, ic, il, ib⟩ := it
      rcases hk with rfl | rfl
      · have e : Pkt.raw ⟨1, f, ⟨ik, iq, ie, ii, it, ic, il, ib⟩, 0, 0, 0, 0, []⟩ = [165, UInt8.ofNat (1 : Int).toNat, UInt8.ofNat f.toNat] ++ Item.bytes ⟨ik, iq, ie, ii, it, ic, il, ib⟩ := by
          show Num.putRow [165, 1, f] 1 ++ _ = _
          rw [Pkt.head_three (by decide) (by decide) h1 (by omega)]
          rfl
        rw [e]
        exact rpbytes_1 f 0 0 0 0 [] ik iq ie ii it ic il ib LA ln lc BA bn bc PA pn pc w hl hb hp hm h1 h2 (by omega)
      · have e : Pkt.raw ⟨2, f, ⟨ik, iq, ie, ii, it, ic, il, ib⟩, 0, 0, 0, 0, []⟩ = [165, UInt8.ofNat (2 : Int).toNat, UInt8.ofNat f.toNat] ++ Item.bytes ⟨ik, iq, ie, ii, it, ic, il, ib⟩ := by
          show Num.putRow [165, 2, f] 1 ++ _ = _
          rw [Pkt.head_three (by decide) (by decide) h1 (by omega)]
          rfl
        rw [e]
        exact rpbytes_2 f 0 0 0 0 [] ik iq ie ii it ic il ib LA ln lc BA bn bc PA pn pc w hl hb hp hm h1 h2 (by omega)
    | nak f to lo many h1 h2 h3 h4 h5 h6 h7 h8 =>
      have e : Pkt.raw ⟨3, f, Item.It.zero, to, lo, many, 0, []⟩ = (([165, UInt8.ofNat (3 : Int).toNat, UInt8.ofNat f.toNat] ++ [UInt8.ofNat to.toNat]) ++ Num.put lo 8) ++ [UInt8.ofNat many.toNat] := by
        show Num.putRow [165, 3, f] 1 ++ ((Num.put to 1 ++ Num.put lo 8) ++ Num.put many 1) = _
        rw [Pkt.head_three (by decide) (by decide) h1 (by omega)]
        show _ ++ ((Num.put to 1 ++ Num.put lo 8) ++ Num.put many 1) = _
        rw [Item.put1 h3 (by omega), Item.put1 (i := many) (by omega) (by omega)]
        simp
      rw [e]
      exact rpbytes_3 f to lo many 0 [] 0 0 0 0 0 0 [] [] LA ln lc BA bn bc PA pn pc w hl hb hp hm h1 h2 h3 h4 h7 h8
    | stable f top l h1 h2 h3 h4 h5 =>
      have hn := (Item.listN h5).1
      have hs := RdI.size hp
      dsimp only at hs
      have e : Pkt.raw ⟨4, f, Item.It.zero, 0, 0, 0, top, l⟩ = ([165, UInt8.ofNat (4 : Int).toNat, UInt8.ofNat f.toNat] ++ Num.put top 8) ++ Num.putRow l 8 := by
        show Num.putRow [165, 4, f] 1 ++ (Num.put top 8 ++ Num.putRow l 8) = _
        rw [Pkt.head_three (by decide) (by decide) h1 (by omega)]
        show _ ++ (Num.put top 8 ++ Num.putRow l 8) = _
        simp
      rw [e]
      exact rpbytes_4 f 0 0 0 top l 0 0 0 0 0 0 [] [] LA ln lc BA bn bc PA pn pc w hl hb hp hm h1 h2 (by omega)
  | false =>
    rw [if_neg (by simp)]
    have hg := alloc_at w (.cells #[.int .i64 p.k, .int .i64 p.f, .int .i64 p.it.k, .int .i64 p.it.q, .int .i64 p.it.e, .int .i64 p.it.i, .int .i64 p.it.t, .int .i64 p.it.c, .slice LA ln lc, .slice BA bn bc, .int .i64 p.to, .int .i64 p.lo, .int .i64 p.many, .int .i64 p.top, .slice PA pn pc] 27) _ rfl
    have hb0 : Below w.heap.size w (w.alloc (.cells #[.int .i64 p.k, .int .i64 p.f, .int .i64 p.it.k, .int .i64 p.it.q, .int .i64 p.it.e, .int .i64 p.it.i, .int .i64 p.it.t, .int .i64 p.it.c, .slice LA ln lc, .slice BA bn bc, .int .i64 p.to, .int .i64 p.lo, .int .i64 p.many, .int .i64 p.top, .slice PA pn pc] 27)) := (Below.refl _ _).alloc (Nat.le_refl _) _
    have hmay := rpmay_any (.agg #[.int .i64 p.k, .int .i64 p.f, .int .i64 p.it.k, .int .i64 p.it.q, .int .i64 p.it.e, .int .i64 p.it.i, .int .i64 p.it.t, .int .i64 p.it.c, .slice LA ln lc, .slice BA bn bc, .int .i64 p.to, .int .i64 p.lo, .int .i64 p.many, .int .i64 p.top, .slice PA pn pc]) p _ ⟨LA, ln, lc, BA, bn, bc, PA, pn, pc, rfl, RdV.below hl hb0, hb.below hb0, RdV.below hp hb0⟩
    rw [hm] at hmay
    obtain ⟨⟨c0, c1⟩, ⟨c2, c3, c4, c5, c6, c7, c8, c9⟩, c10, c11, c12, c13, c14⟩ := cells15 hg
    clear hg
    go_enter Tryd.func16, Tryd.ntmps16
    go_wp2_with fail
    with_reducible refine hmay.mono ?_
    rintro e w1 ⟨rfl, hb1⟩
    go_wp2
    go_ret
    exact ⟨none, 0, rfl, World.ownsRow_nil _ _ _ _, bthen hb0 hb1⟩
end Go.Proofs.YtahkhideepncfaaDoor
