/- What pkt.May comes to. (Written by wip/gen/pkt2.py.) -/
import Derived.Test.YtahkhideepncfaaDoorPkt1
set_option maxRecDepth 100000
namespace Go.Proofs.YtahkhideepncfaaDoor
open Go.RowKit
set_option linter.unusedVariables false

theorem But.trans' {g : Nat} {w1 w2 w3 : World} (h : But g w1 w2) (h2 : But g w2 w3) : But g w1 w3 := h.trans h2
set_option maxHeartbeats 4000000 in
theorem pmay_none (k f to lo many top : Int) (l : List Int) (x : Item.It) (LA : Option Addr) (ln lc : Nat) (BA : Option Addr) (bn bc : Nat) (PA : Option Addr) (pn pc : Nat) (w : World) (hl : RdI w LA ln lc x.l) (hb : Rd w BA bn bc x.b) (hp : RdI w PA pn pc l) (k1 : k ≠ 1) (k2 : k ≠ 2) (k3 : k ≠ 3) (k4 : k ≠ 4) :
    Calls Tryd.prog 11 #[.agg #[.int .i64 k, .int .i64 f, .int .i64 x.k, .int .i64 x.q, .int .i64 x.e, .int .i64 x.i, .int .i64 x.t, .int .i64 x.c, .slice LA ln lc, .slice BA bn bc, .int .i64 to, .int .i64 lo, .int .i64 many, .int .i64 top, .slice PA pn pc]] w (BoolIs w (Pkt.may ⟨k, f, x, to, lo, many, top, l⟩)) := by
  obtain ⟨ik, iq, ie, ii, it, ic, il, ib⟩ := x
  dsimp only at hl hb hp ⊢
  obtain ⟨g0, g1, hw⟩ := two_alloc w (.cells #[.int .i64 k, .int .i64 f, .int .i64 ik, .int .i64 iq, .int .i64 ie, .int .i64 ii, .int .i64 it, .int .i64 ic, .slice LA ln lc, .slice BA bn bc, .int .i64 to, .int .i64 lo, .int .i64 many, .int .i64 top, .slice PA pn pc] 27) (.cells #[.int .i64 k, .int .i64 f, .int .i64 0, .int .i64 0, .int .i64 0, .int .i64 0, .int .i64 0, .int .i64 0, .slice none 0 0, .slice none 0 0, .int .i64 0, .int .i64 0, .int .i64 0, .int .i64 0, .slice none 0 0] 27)
  have sz : w.heap.size ≠ w.heap.size + 1 := by omega
  have sle : w.heap.size ≤ w.heap.size + 1 := by omega
  obtain ⟨⟨c0, c1⟩, ⟨c2, c3, c4, c5, c6, c7, c8, c9⟩, ⟨c10, c11, c12, c13, c14⟩⟩ := cells15 g0
  have q1 : (k == 1) = false := by simpa using k1
  have q2 : (k == 2) = false := by simpa using k2
  have q3 : (k == 3) = false := by simpa using k3
  have q4 : (k == 4) = false := by simpa using k4
  have e : Pkt.may ⟨k, f, ⟨ik, iq, ie, ii, it, ic, il, ib⟩, to, lo, many, top, l⟩ = false := by simp [Pkt.may, Pkt.fit, k1, k2, k3, k4]
  rw [e]
  go_enter Tryd.func11, Tryd.ntmps11
  go_wp2
  go_ret
  exact ⟨rfl, hw⟩

set_option maxHeartbeats 4000000 in
theorem pmay_1 (k f to lo many top : Int) (l : List Int) (x : Item.It) (LA : Option Addr) (ln lc : Nat) (BA : Option Addr) (bn bc : Nat) (PA : Option Addr) (pn pc : Nat) (w : World) (hl : RdI w LA ln lc x.l) (hb : Rd w BA bn bc x.b) (hp : RdI w PA pn pc l) (k1 : k = 1) :
    Calls Tryd.prog 11 #[.agg #[.int .i64 k, .int .i64 f, .int .i64 x.k, .int .i64 x.q, .int .i64 x.e, .int .i64 x.i, .int .i64 x.t, .int .i64 x.c, .slice LA ln lc, .slice BA bn bc, .int .i64 to, .int .i64 lo, .int .i64 many, .int .i64 top, .slice PA pn pc]] w (BoolIs w (Pkt.may ⟨k, f, x, to, lo, many, top, l⟩)) := by
  obtain ⟨ik, iq, ie, ii, it, ic, il, ib⟩ := x
  dsimp only at hl hb hp ⊢
  obtain ⟨g0, g1, hw⟩ := two_alloc w (.cells #[.int .i64 k, .int .i64 f, .int .i64 ik, .int .i64 iq, .int .i64 ie, .int .i64 ii, .int .i64 it, .int .i64 ic, .slice LA ln lc, .slice BA bn bc, .int .i64 to, .int .i64 lo, .int .i64 many, .int .i64 top, .slice PA pn pc] 27) (.cells #[.int .i64 k, .int .i64 f, .int .i64 0, .int .i64 0, .int .i64 0, .int .i64 0, .int .i64 0, .int .i64 0, .slice none 0 0, .slice none 0 0, .int .i64 0, .int .i64 0, .int .i64 0, .int .i64 0, .slice none 0 0] 27)
  have sz : w.heap.size ≠ w.heap.size + 1 := by omega
  have sle : w.heap.size ≤ w.heap.size + 1 := by omega
  subst k1
  obtain ⟨⟨c0, c1⟩, ⟨c2, c3, c4, c5, c6, c7, c8, c9⟩, ⟨c10, c11, c12, c13, c14⟩⟩ := cells15 g0
  go_enter Tryd.func11, Tryd.ntmps11
  go_wp2_with fail
  clear c0 c1 c2 c3 c4 c5 c6 c7 c8 c9 c10 c11 c12 c13 c14 g0 g1 hw
  obtain ⟨k0, k1, hw2⟩ := two_alloc w (.cells #[.int .i64 1, .int .i64 f, .int .i64 ik, .int .i64 iq, .int .i64 ie, .int .i64 ii, .int .i64 it, .int .i64 ic, .slice LA ln lc, .slice BA bn bc, .int .i64 to, .int .i64 lo, .int .i64 many, .int .i64 top, .slice PA pn pc] 27) (.cells #[.int .i64 1, .int .i64 f, .int .i64 ik, .int .i64 iq, .int .i64 ie, .int .i64 ii, .int .i64 it, .int .i64 ic, .slice LA ln lc, .slice BA bn bc, .int .i64 0, .int .i64 0, .int .i64 0, .int .i64 0, .slice none 0 0] 27)
  revert k0 k1 hw2
  generalize ((w.alloc (.cells #[.int .i64 1, .int .i64 f, .int .i64 ik, .int .i64 iq, .int .i64 ie, .int .i64 ii, .int .i64 it, .int .i64 ic, .slice LA ln lc, .slice BA bn bc, .int .i64 to, .int .i64 lo, .int .i64 many, .int .i64 top, .slice PA pn pc] 27)).alloc (.cells #[.int .i64 1, .int .i64 f, .int .i64 ik, .int .i64 iq, .int .i64 ie, .int .i64 ii, .int .i64 it, .int .i64 ic, .slice LA ln lc, .slice BA bn bc, .int .i64 0, .int .i64 0, .int .i64 0, .int .i64 0, .slice none 0 0] 27)) = w2
  intro k0 k1 hw2
  obtain ⟨⟨c0, c1⟩, ⟨c2, c3, c4, c5, c6, c7, c8, c9⟩, ⟨c10, c11, c12, c13, c14⟩⟩ := cells15 k0
  obtain ⟨⟨d0, d1⟩, ⟨d2, d3, d4, d5, d6, d7, d8, d9⟩, ⟨d10, d11, d12, d13, d14⟩⟩ := cells15 k1
  have im := may_any (.agg #[.int .i64 ik, .int .i64 iq, .int .i64 ie, .int .i64 ii, .int .i64 it, .int .i64 ic, .slice LA ln lc, .slice BA bn bc]) ⟨ik, iq, ie, ii, it, ic, il, ib⟩ w2 ⟨LA, ln, lc, BA, bn, bc, rfl, RdV.below hl hw2, hb.below hw2⟩
  clear k0 k1
  with_reducible refine im.mono ?_
  rintro e w3 ⟨rfl, hb3⟩
  have hw3 := bthen hw2 hb3
  have HM : Hid (Pkt.may ⟨1, f, ⟨ik, iq, ie, ii, it, ic, il, ib⟩, to, lo, many, top, l⟩ = (Item.may ⟨ik, iq, ie, ii, it, ic, il, ib⟩ && (Item.win f 0 63 && decide ((⟨1, f, ⟨ik, iq, ie, ii, it, ic, il, ib⟩, to, lo, many, top, l⟩ : Pkt.Pk) = ⟨1, f, ⟨ik, iq, ie, ii, it, ic, il, ib⟩, 0, 0, 0, 0, []⟩)))) := hidT rfl
  have c0u := keepC hb3 c0
  have c1u := keepC hb3 c1
  have c2u := keepC hb3 c2
  have c3u := keepC hb3 c3
  have c4u := keepC hb3 c4
  have c5u := keepC hb3 c5
  have c6u := keepC hb3 c6
  have c7u := keepC hb3 c7
  have c8u := keepC hb3 c8
  have c9u := keepC hb3 c9
  have c10u := keepC hb3 c10
  have c11u := keepC hb3 c11
  have c12u := keepC hb3 c12
  have c13u := keepC hb3 c13
  have c14u := keepC hb3 c14
  have d0u := keepC hb3 d0
  have d1u := keepC hb3 d1
  have d2u := keepC hb3 d2
  have d3u := keepC hb3 d3
  have d4u := keepC hb3 d4
  have d5u := keepC hb3 d5
  have d6u := keepC hb3 d6
  have d7u := keepC hb3 d7
  have d8u := keepC hb3 d8
  have d9u := keepC hb3 d9
  have d10u := keepC hb3 d10
  have d11u := keepC hb3 d11
  have d12u := keepC hb3 d12
  have d13u := keepC hb3 d13
  have d14u := keepC hb3 d14
  clear im hb3 hw2 c0 c1 c2 c3 c4 c5 c6 c7 c8 c9 c10 c11 c12 c13 c14 d0 d1 d2 d3 d4 d5 d6 d7 d8 d9 d10 d11 d12 d13 d14
  cases hi : Item.may ⟨ik, iq, ie, ii, it, ic, il, ib⟩ with
  | false =>
    rw [hi] at HM
    go_wp2
    go_ret
    exact ⟨by rw [HM.out]; rfl, hw3⟩
  | true =>
    rw [hi] at HM
    go_wp2_with fail
    with_reducible refine (pwithin_is f 0 63 _).mono ?_
    rintro e w0 ⟨rfl, rfl⟩
    cases hf : Item.win f 0 63 with
    | false =>
      rw [hf] at HM
      go_wp2
      go_ret
      exact ⟨by rw [HM.out]; rfl, hw3⟩
    | true =>
      rw [hf] at HM
      have i1 : IsPkt w3 (.agg #[.int .i64 1, .int .i64 f, .int .i64 ik, .int .i64 iq, .int .i64 ie, .int .i64 ii, .int .i64 it, .int .i64 ic, .slice LA ln lc, .slice BA bn bc, .int .i64 to, .int .i64 lo, .int .i64 many, .int .i64 top, .slice PA pn pc]) ⟨1, f, ⟨ik, iq, ie, ii, it, ic, il, ib⟩, to, lo, many, top, l⟩ := ⟨LA, ln, lc, BA, bn, bc, PA, pn, pc, rfl, RdV.below hl hw3, hb.below hw3, RdV.below hp hw3⟩
      have i2 : IsPkt w3 (.agg #[.int .i64 1, .int .i64 f, .int .i64 ik, .int .i64 iq, .int .i64 ie, .int .i64 ii, .int .i64 it, .int .i64 ic, .slice LA ln lc, .slice BA bn bc, .int .i64 0, .int .i64 0, .int .i64 0, .int .i64 0, .slice none 0 0]) ⟨1, f, ⟨ik, iq, ie, ii, it, ic, il, ib⟩, 0, 0, 0, 0, []⟩ := ⟨LA, ln, lc, BA, bn, bc, none, 0, 0, rfl, RdV.below hl hw3, hb.below hw3, RdV.nil_ _⟩
      obtain ⟨tt, htt⟩ : ∃ t, decide ((⟨1, f, ⟨ik, iq, ie, ii, it, ic, il, ib⟩, to, lo, many, top, l⟩ : Pkt.Pk) = ⟨1, f, ⟨ik, iq, ie, ii, it, ic, il, ib⟩, 0, 0, 0, 0, []⟩) = t := ⟨_, rfl⟩
      rw [htt] at HM
      have hs := psame_is _ _ _ _ _ i1 i2 tt htt
      clear i1 i2 hl hb hp htt
      go_wp2_with fail
      with_reducible refine hs.mono ?_
      rintro e w9 ⟨rfl, hb9⟩
      go_wp2
      go_ret
      exact ⟨by rw [HM.out]; rfl, bthen hw3 hb9⟩

set_option maxHeartbeats 4000000 in
theorem pmay_2 (k f to lo many top : Int) (l : List Int) (x : Item.It) (LA : Option Addr) (ln lc : Nat) (BA : Option Addr) (bn bc : Nat) (PA : Option Addr) (pn pc : Nat) (w : World) (hl : RdI w LA ln lc x.l) (hb : Rd w BA bn bc x.b) (hp : RdI w PA pn pc l) (k1 : k = 2) :
    Calls Tryd.prog 11 #[.agg #[.int .i64 k, .int .i64 f, .int .i64 x.k, .int .i64 x.q, .int .i64 x.e, .int .i64 x.i, .int .i64 x.t, .int .i64 x.c, .slice LA ln lc, .slice BA bn bc, .int .i64 to, .int .i64 lo, .int .i64 many, .int .i64 top, .slice PA pn pc]] w (BoolIs w (Pkt.may ⟨k, f, x, to, lo, many, top, l⟩)) := by
  obtain ⟨ik, iq, ie, ii, it, ic, il, ib⟩ := x
  dsimp only at hl hb hp ⊢
  obtain ⟨g0, g1, hw⟩ := two_alloc w (.cells #[.int .i64 k, .int .i64 f, .int .i64 ik, .int .i64 iq, .int .i64 ie, .int .i64 ii, .int .i64 it, .int .i64 ic, .slice LA ln lc, .slice BA bn bc, .int .i64 to, .int .i64 lo, .int .i64 many, .int .i64 top, .slice PA pn pc] 27) (.cells #[.int .i64 k, .int .i64 f, .int .i64 0, .int .i64 0, .int .i64 0, .int .i64 0, .int .i64 0, .int .i64 0, .slice none 0 0, .slice none 0 0, .int .i64 0, .int .i64 0, .int .i64 0, .int .i64 0, .slice none 0 0] 27)
  have sz : w.heap.size ≠ w.heap.size + 1 := by omega
  have sle : w.heap.size ≤ w.heap.size + 1 := by omega
  subst k1
  obtain ⟨⟨c0, c1⟩, ⟨c2, c3, c4, c5, c6, c7, c8, c9⟩, ⟨c10, c11, c12, c13, c14⟩⟩ := cells15 g0
  go_enter Tryd.func11, Tryd.ntmps11
  go_wp2_with fail
  clear c0 c1 c2 c3 c4 c5 c6 c7 c8 c9 c10 c11 c12 c13 c14 g0 g1 hw
  obtain ⟨k0, k1, hw2⟩ := two_alloc w (.cells #[.int .i64 2, .int .i64 f, .int .i64 ik, .int .i64 iq, .int .i64 ie, .int .i64 ii, .int .i64 it, .int .i64 ic, .slice LA ln lc, .slice BA bn bc, .int .i64 to, .int .i64 lo, .int .i64 many, .int .i64 top, .slice PA pn pc] 27) (.cells #[.int .i64 2, .int .i64 f, .int .i64 ik, .int .i64 iq, .int .i64 ie, .int .i64 ii, .int .i64 it, .int .i64 ic, .slice LA ln lc, .slice BA bn bc, .int .i64 0, .int .i64 0, .int .i64 0, .int .i64 0, .slice none 0 0] 27)
  revert k0 k1 hw2
  generalize ((w.alloc (.cells #[.int .i64 2, .int .i64 f, .int .i64 ik, .int .i64 iq, .int .i64 ie, .int .i64 ii, .int .i64 it, .int .i64 ic, .slice LA ln lc, .slice BA bn bc, .int .i64 to, .int .i64 lo, .int .i64 many, .int .i64 top, .slice PA pn pc] 27)).alloc (.cells #[.int .i64 2, .int .i64 f, .int .i64 ik, .int .i64 iq, .int .i64 ie, .int .i64 ii, .int .i64 it, .int .i64 ic, .slice LA ln lc, .slice BA bn bc, .int .i64 0, .int .i64 0, .int .i64 0, .int .i64 0, .slice none 0 0] 27)) = w2
  intro k0 k1 hw2
  obtain ⟨⟨c0, c1⟩, ⟨c2, c3, c4, c5, c6, c7, c8, c9⟩, ⟨c10, c11, c12, c13, c14⟩⟩ := cells15 k0
  obtain ⟨⟨d0, d1⟩, ⟨d2, d3, d4, d5, d6, d7, d8, d9⟩, ⟨d10, d11, d12, d13, d14⟩⟩ := cells15 k1
  have im := may_any (.agg #[.int .i64 ik, .int .i64 iq, .int .i64 ie, .int .i64 ii, .int .i64 it, .int .i64 ic, .slice LA ln lc, .slice BA bn bc]) ⟨ik, iq, ie, ii, it, ic, il, ib⟩ w2 ⟨LA, ln, lc, BA, bn, bc, rfl, RdV.below hl hw2, hb.below hw2⟩
  clear k0 k1
  with_reducible refine im.mono ?_
  rintro e w3 ⟨rfl, hb3⟩
  have hw3 := bthen hw2 hb3
  have HM : Hid (Pkt.may ⟨2, f, ⟨ik, iq, ie, ii, it, ic, il, ib⟩, to, lo, many, top, l⟩ = (Item.may ⟨ik, iq, ie, ii, it, ic, il, ib⟩ && (Item.win f 0 63 && decide ((⟨2, f, ⟨ik, iq, ie, ii, it, ic, il, ib⟩, to, lo, many, top, l⟩ : Pkt.Pk) = ⟨2, f, ⟨ik, iq, ie, ii, it, ic, il, ib⟩, 0, 0, 0, 0, []⟩)))) := hidT rfl
  have c0u := keepC hb3 c0
  have c1u := keepC hb3 c1
  have c2u := keepC hb3 c2
  have c3u := keepC hb3 c3
  have c4u := keepC hb3 c4
  have c5u := keepC hb3 c5
  have c6u := keepC hb3 c6
  have c7u := keepC hb3 c7
  have c8u := keepC hb3 c8
  have c9u := keepC hb3 c9
  have c10u := keepC hb3 c10
  have c11u := keepC hb3 c11
  have c12u := keepC hb3 c12
  have c13u := keepC hb3 c13
  have c14u := keepC hb3 c14
  have d0u := keepC hb3 d0
  have d1u := keepC hb3 d1
  have d2u := keepC hb3 d2
  have d3u := keepC hb3 d3
  have d4u := keepC hb3 d4
  have d5u := keepC hb3 d5
  have d6u := keepC hb3 d6
  have d7u := keepC hb3 d7
  have d8u := keepC hb3 d8
  have d9u := keepC hb3 d9
  have d10u := keepC hb3 d10
  have d11u := keepC hb3 d11
  have d12u := keepC hb3 d12
  have d13u := keepC hb3 d13
  have d14u := keepC hb3 d14
  clear im hb3 hw2 c0 c1 c2 c3 c4 c5 c6 c7 c8 c9 c10 c11 c12 c13 c14 d0 d1 d2 d3 d4 d5 d6 d7 d8 d9 d10 d11 d12 d13 d14
  cases hi : Item.may ⟨ik, iq, ie, ii, it, ic, il, ib⟩ with
  | false =>
    rw [hi] at HM
    go_wp2
    go_ret
    exact ⟨by rw [HM.out]; rfl, hw3⟩
  | true =>
    rw [hi] at HM
    go_wp2_with fail
    with_reducible refine (pwithin_is f 0 63 _).mono ?_
    rintro e w0 ⟨rfl, rfl⟩
    cases hf : Item.win f 0 63 with
    | false =>
      rw [hf] at HM
      go_wp2
      go_ret
      exact ⟨by rw [HM.out]; rfl, hw3⟩
    | true =>
      rw [hf] at HM
      have i1 : IsPkt w3 (.agg #[.int .i64 2, .int .i64 f, .int .i64 ik, .int .i64 iq, .int .i64 ie, .int .i64 ii, .int .i64 it, .int .i64 ic, .slice LA ln lc, .slice BA bn bc, .int .i64 to, .int .i64 lo, .int .i64 many, .int .i64 top, .slice PA pn pc]) ⟨2, f, ⟨ik, iq, ie, ii, it, ic, il, ib⟩, to, lo, many, top, l⟩ := ⟨LA, ln, lc, BA, bn, bc, PA, pn, pc, rfl, RdV.below hl hw3, hb.below hw3, RdV.below hp hw3⟩
      have i2 : IsPkt w3 (.agg #[.int .i64 2, .int .i64 f, .int .i64 ik, .int .i64 iq, .int .i64 ie, .int .i64 ii, .int .i64 it, .int .i64 ic, .slice LA ln lc, .slice BA bn bc, .int .i64 0, .int .i64 0, .int .i64 0, .int .i64 0, .slice none 0 0]) ⟨2, f, ⟨ik, iq, ie, ii, it, ic, il, ib⟩, 0, 0, 0, 0, []⟩ := ⟨LA, ln, lc, BA, bn, bc, none, 0, 0, rfl, RdV.below hl hw3, hb.below hw3, RdV.nil_ _⟩
      obtain ⟨tt, htt⟩ : ∃ t, decide ((⟨2, f, ⟨ik, iq, ie, ii, it, ic, il, ib⟩, to, lo, many, top, l⟩ : Pkt.Pk) = ⟨2, f, ⟨ik, iq, ie, ii, it, ic, il, ib⟩, 0, 0, 0, 0, []⟩) = t := ⟨_, rfl⟩
      rw [htt] at HM
      have hs := psame_is _ _ _ _ _ i1 i2 tt htt
      clear i1 i2 hl hb hp htt
      go_wp2_with fail
      with_reducible refine hs.mono ?_
      rintro e w9 ⟨rfl, hb9⟩
      go_wp2
      go_ret
      exact ⟨by rw [HM.out]; rfl, bthen hw3 hb9⟩

end Go.Proofs.YtahkhideepncfaaDoor
