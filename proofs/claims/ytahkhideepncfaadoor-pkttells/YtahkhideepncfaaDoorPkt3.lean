/- What pkt.May comes to, for questions. (Written by wip/gen/pkt2.py.) -/
import Derived.Test.YtahkhideepncfaaDoorPkt1
set_option maxRecDepth 100000
namespace Go.Proofs.YtahkhideepncfaaDoor
open Go.RowKit
set_option linter.unusedVariables false

set_option maxHeartbeats 4000000 in
theorem pmay_3 (k f to lo many top : Int) (l : List Int) (x : Item.It) (LA : Option Addr) (ln lc : Nat) (BA : Option Addr) (bn bc : Nat) (PA : Option Addr) (pn pc : Nat) (w : World) (hl : RdI w LA ln lc x.l) (hb : Rd w BA bn bc x.b) (hp : RdI w PA pn pc l) (k1 : k = 3) :
    Calls Tryd.prog 11 #[.agg #[.int .i64 k, .int .i64 f, .int .i64 x.k, .int .i64 x.q, .int .i64 x.e, .int .i64 x.i, .int .i64 x.t, .int .i64 x.c, .slice LA ln lc, .slice BA bn bc, .int .i64 to, .int .i64 lo, .int .i64 many, .int .i64 top, .slice PA pn pc]] w (BoolIs w (Pkt.may ⟨k, f, x, to, lo, many, top, l⟩)) := by
  obtain ⟨ik, iq, ie, ii, it, ic, il, ib⟩ := x
  dsimp only at hl hb hp ⊢
  obtain ⟨g0, g1, hw⟩ := two_alloc w (.cells #[.int .i64 k, .int .i64 f, .int .i64 ik, .int .i64 iq, .int .i64 ie, .int .i64 ii, .int .i64 it, .int .i64 ic, .slice LA ln lc, .slice BA bn bc, .int .i64 to, .int .i64 lo, .int .i64 many, .int .i64 top, .slice PA pn pc] 27) (.cells #[.int .i64 k, .int .i64 f, .int .i64 0, .int .i64 0, .int .i64 0, .int .i64 0, .int .i64 0, .int .i64 0, .slice none 0 0, .slice none 0 0, .int .i64 0, .int .i64 0, .int .i64 0, .int .i64 0, .slice none 0 0] 27)
  have sz : w.heap.size ≠ w.heap.size + 1 := by omega
  have sle : w.heap.size ≤ w.heap.size + 1 := by omega
  subst k1
  obtain ⟨⟨c0, c1⟩, ⟨c2, c3, c4, c5, c6, c7, c8, c9⟩, ⟨c10, c11, c12, c13, c14⟩⟩ := cells15 g0
  obtain ⟨⟨d0, d1⟩, ⟨d2, d3, d4, d5, d6, d7, d8, d9⟩, ⟨d10, d11, d12, d13, d14⟩⟩ := cells15 g1
  go_enter Tryd.func11, Tryd.ntmps11
  go_wp2
  go_region
  clear c0 c1 c2 c3 c4 c5 c6 c7 c8 c9 c10 c11 c12 c13 c14 d0 d1 d2 d3 d4 d5 d6 d7 d8 d9 d10 d11 d12 d13 d14 g0 g1 hw
  obtain ⟨k0, k1, hk⟩ := two_alloc w (.cells #[.int .i64 3, .int .i64 f, .int .i64 ik, .int .i64 iq, .int .i64 ie, .int .i64 ii, .int .i64 it, .int .i64 ic, .slice LA ln lc, .slice BA bn bc, .int .i64 to, .int .i64 lo, .int .i64 many, .int .i64 top, .slice PA pn pc] 27) (.cells #[.int .i64 3, .int .i64 f, .int .i64 0, .int .i64 0, .int .i64 0, .int .i64 0, .int .i64 0, .int .i64 0, .slice none 0 0, .slice none 0 0, .int .i64 to, .int .i64 lo, .int .i64 many, .int .i64 0, .slice none 0 0] 27)
  have k0d : (((w.alloc (.cells #[.int .i64 3, .int .i64 f, .int .i64 ik, .int .i64 iq, .int .i64 ie, .int .i64 ii, .int .i64 it, .int .i64 ic, .slice LA ln lc, .slice BA bn bc, .int .i64 to, .int .i64 lo, .int .i64 many, .int .i64 top, .slice PA pn pc] 27)).alloc (.cells #[.int .i64 3, .int .i64 f, .int .i64 0, .int .i64 0, .int .i64 0, .int .i64 0, .int .i64 0, .int .i64 0, .slice none 0 0, .slice none 0 0, .int .i64 to, .int .i64 lo, .int .i64 many, .int .i64 0, .slice none 0 0] 27)).drew).heap[w.heap.size]? = some (.cells #[.int .i64 3, .int .i64 f, .int .i64 ik, .int .i64 iq, .int .i64 ie, .int .i64 ii, .int .i64 it, .int .i64 ic, .slice LA ln lc, .slice BA bn bc, .int .i64 to, .int .i64 lo, .int .i64 many, .int .i64 top, .slice PA pn pc] 27 (0, 0)) := k0
  have k1d : (((w.alloc (.cells #[.int .i64 3, .int .i64 f, .int .i64 ik, .int .i64 iq, .int .i64 ie, .int .i64 ii, .int .i64 it, .int .i64 ic, .slice LA ln lc, .slice BA bn bc, .int .i64 to, .int .i64 lo, .int .i64 many, .int .i64 top, .slice PA pn pc] 27)).alloc (.cells #[.int .i64 3, .int .i64 f, .int .i64 0, .int .i64 0, .int .i64 0, .int .i64 0, .int .i64 0, .int .i64 0, .slice none 0 0, .slice none 0 0, .int .i64 to, .int .i64 lo, .int .i64 many, .int .i64 0, .slice none 0 0] 27)).drew).heap[w.heap.size + 1]? = some (.cells #[.int .i64 3, .int .i64 f, .int .i64 0, .int .i64 0, .int .i64 0, .int .i64 0, .int .i64 0, .int .i64 0, .slice none 0 0, .slice none 0 0, .int .i64 to, .int .i64 lo, .int .i64 many, .int .i64 0, .slice none 0 0] 27 (0, 0)) := k1
  have hw3 : Below w.heap.size w (((w.alloc (.cells #[.int .i64 3, .int .i64 f, .int .i64 ik, .int .i64 iq, .int .i64 ie, .int .i64 ii, .int .i64 it, .int .i64 ic, .slice LA ln lc, .slice BA bn bc, .int .i64 to, .int .i64 lo, .int .i64 many, .int .i64 top, .slice PA pn pc] 27)).alloc (.cells #[.int .i64 3, .int .i64 f, .int .i64 0, .int .i64 0, .int .i64 0, .int .i64 0, .int .i64 0, .int .i64 0, .slice none 0 0, .slice none 0 0, .int .i64 to, .int .i64 lo, .int .i64 many, .int .i64 0, .slice none 0 0] 27)).drew) := hk.drew
  clear k0 k1 hk
  revert k0d k1d hw3
  generalize (((w.alloc (.cells #[.int .i64 3, .int .i64 f, .int .i64 ik, .int .i64 iq, .int .i64 ie, .int .i64 ii, .int .i64 it, .int .i64 ic, .slice LA ln lc, .slice BA bn bc, .int .i64 to, .int .i64 lo, .int .i64 many, .int .i64 top, .slice PA pn pc] 27)).alloc (.cells #[.int .i64 3, .int .i64 f, .int .i64 0, .int .i64 0, .int .i64 0, .int .i64 0, .int .i64 0, .int .i64 0, .slice none 0 0, .slice none 0 0, .int .i64 to, .int .i64 lo, .int .i64 many, .int .i64 0, .slice none 0 0] 27)).drew) = w3
  intro k0d k1d hw3
  obtain ⟨⟨c0, c1⟩, ⟨c2, c3, c4, c5, c6, c7, c8, c9⟩, ⟨c10, c11, c12, c13, c14⟩⟩ := cells15 k0d
  obtain ⟨⟨d0, d1⟩, ⟨d2, d3, d4, d5, d6, d7, d8, d9⟩, ⟨d10, d11, d12, d13, d14⟩⟩ := cells15 k1d
  clear k0d k1d
  have HM : Hid (Pkt.may ⟨3, f, ⟨ik, iq, ie, ii, it, ic, il, ib⟩, to, lo, many, top, l⟩ = ((Item.win to 0 63 && (Item.win lo 1 4611686018427387904 && Item.win many 1 64)) && (Item.win f 0 63 && decide ((⟨3, f, ⟨ik, iq, ie, ii, it, ic, il, ib⟩, to, lo, many, top, l⟩ : Pkt.Pk) = ⟨3, f, Item.It.zero, to, lo, many, 0, []⟩)))) := hidT rfl
  go_wp2_with fail
  with_reducible refine (pwithin_is to 0 63 _).mono ?_
  rintro e w0 ⟨rfl, rfl⟩
  cases h1 : Item.win to 0 63 with
  | false =>
    rw [h1] at HM
    go_wp2
    go_ret
    exact ⟨by rw [HM.out]; rfl, hw3⟩
  | true =>
    rw [h1] at HM
    go_wp2_with fail
    with_reducible refine (pwithin_is lo 1 4611686018427387904 _).mono ?_
    rintro e w0 ⟨rfl, rfl⟩
    cases h2 : Item.win lo 1 4611686018427387904 with
    | false =>
      rw [h2] at HM
      go_wp2
      go_ret
      exact ⟨by rw [HM.out]; rfl, hw3⟩
    | true =>
      rw [h2] at HM
      go_wp2_with fail
      with_reducible refine (pwithin_is many 1 64 _).mono ?_
      rintro e w0 ⟨rfl, rfl⟩
      cases h3 : Item.win many 1 64 with
      | false =>
        rw [h3] at HM
        go_wp2
        go_ret
        exact ⟨by rw [HM.out]; rfl, hw3⟩
      | true =>
        rw [h3] at HM
        go_wp2_with fail
        with_reducible refine (pwithin_is f 0 63 _).mono ?_
        rintro e w0 ⟨rfl, rfl⟩
        cases hf : Item.win f 0 63 with
        | false =>
          rw [hf] at HM
          go_wp2
          go_ret
          exact ⟨by rw [HM.out]; rfl, hw3⟩
        | true =>
          rw [hf] at HM
          have i1 : IsPkt w3 (.agg #[.int .i64 3, .int .i64 f, .int .i64 ik, .int .i64 iq, .int .i64 ie, .int .i64 ii, .int .i64 it, .int .i64 ic, .slice LA ln lc, .slice BA bn bc, .int .i64 to, .int .i64 lo, .int .i64 many, .int .i64 top, .slice PA pn pc]) ⟨3, f, ⟨ik, iq, ie, ii, it, ic, il, ib⟩, to, lo, many, top, l⟩ := ⟨LA, ln, lc, BA, bn, bc, PA, pn, pc, rfl, RdV.below hl hw3, hb.below hw3, RdV.below hp hw3⟩
          have i2 : IsPkt w3 (.agg #[.int .i64 3, .int .i64 f, .int .i64 0, .int .i64 0, .int .i64 0, .int .i64 0, .int .i64 0, .int .i64 0, .slice none 0 0, .slice none 0 0, .int .i64 to, .int .i64 lo, .int .i64 many, .int .i64 0, .slice none 0 0]) ⟨3, f, Item.It.zero, to, lo, many, 0, []⟩ := ⟨none, 0, 0, none, 0, 0, none, 0, 0, rfl, RdV.nil_ _, Rd.nil_ _, RdV.nil_ _⟩
          obtain ⟨tt, htt⟩ : ∃ t, decide ((⟨3, f, ⟨ik, iq, ie, ii, it, ic, il, ib⟩, to, lo, many, top, l⟩ : Pkt.Pk) = ⟨3, f, Item.It.zero, to, lo, many, 0, []⟩) = t := ⟨_, rfl⟩
          rw [htt] at HM
          have hs := psame_is _ _ _ _ _ i1 i2 tt htt
          clear i1 i2 hl hb hp htt
          go_wp2_with fail
          with_reducible refine hs.mono ?_
          rintro e w9 ⟨rfl, hb9⟩
          go_wp2
          go_ret
          exact ⟨by rw [HM.out]; rfl, bthen hw3 hb9⟩
end Go.Proofs.YtahkhideepncfaaDoor
