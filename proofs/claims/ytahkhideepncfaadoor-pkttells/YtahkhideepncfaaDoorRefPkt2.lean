/- What the document's Few and May of packets come to. (Written by wip/gen/refpkt2.py.) -/
import Derived.Test.YtahkhideepncfaaDoorPkt0
import Derived.Test.YtahkhideepncfaaDoorIE
import Derived.Test.YtahkhideepncfaaDoorRA
import Derived.Test.YtahkhideepncfaaDoorRD
set_option maxRecDepth 100000
namespace Go.Proofs.YtahkhideepncfaaDoor
open Go.RowKit
set_option linter.unusedVariables false

theorem pmay_f {p : Pkt.Pk} (h : p.f < 0 ∨ 63 < p.f) : Pkt.may p = false := by
  have : Item.win p.f 0 63 = false := by simp [Item.win]; omega
  simp [Pkt.may, this]
theorem pmay_n {p : Pkt.Pk} (k1 : p.k ≠ 1) (k2 : p.k ≠ 2) (k3 : p.k ≠ 3) (k4 : p.k ≠ 4) : Pkt.may p = false := by simp [Pkt.may, Pkt.fit, k1, k2, k3, k4]
theorem nil_iff (l : List Int) : l = [] ↔ l.length = 0 := List.length_eq_zero_iff.symm
theorem pmay_12 {k f to lo many top : Int} {x : Item.It} {l : List Int} (hk : k = 1 ∨ k = 2) (h1 : 0 ≤ f) (h2 : f ≤ 63) : Pkt.may ⟨k, f, x, to, lo, many, top, l⟩ = true ↔ (Item.may x = true ∧ to = 0 ∧ lo = 0 ∧ many = 0 ∧ top = 0 ∧ l.length = 0) := by
  have hw : Item.win f 0 63 = true := by simp [Item.win, h1, h2]
  rcases hk with rfl | rfl <;> simp [Pkt.may, Pkt.fit, Pkt.bare, hw]
theorem pmay_3i {f to lo many top : Int} {x : Item.It} {l : List Int} (h1 : 0 ≤ f) (h2 : f ≤ 63) : Pkt.may ⟨3, f, x, to, lo, many, top, l⟩ = true ↔ (x = Item.It.zero ∧ 0 ≤ to ∧ to ≤ 63 ∧ 1 ≤ lo ∧ lo ≤ 4611686018427387904 ∧ 1 ≤ many ∧ many ≤ 64 ∧ top = 0 ∧ l.length = 0) := by
  have hw : Item.win f 0 63 = true := by simp [Item.win, h1, h2]
  have e : Pkt.may ⟨3, f, x, to, lo, many, top, l⟩ = ((Item.win to 0 63 && (Item.win lo 1 4611686018427387904 && Item.win many 1 64)) && (Item.win f 0 63 && decide ((⟨3, f, x, to, lo, many, top, l⟩ : Pkt.Pk) = ⟨3, f, Item.It.zero, to, lo, many, 0, []⟩))) := rfl
  rw [e, hw]
  simp only [Bool.and_eq_true, Item.win_iff, decide_eq_true_eq, Pkt.Pk.mk.injEq, true_and, nil_iff]
  constructor
  · rintro ⟨⟨⟨a, b⟩, ⟨c, d⟩, e, g⟩, h, i, j⟩; exact ⟨h, a, b, c, d, e, g, i, j⟩
  · rintro ⟨h, a, b, c, d, e, g, i, j⟩; exact ⟨⟨⟨a, b⟩, ⟨c, d⟩, e, g⟩, h, i, j⟩
theorem pmay_4i {f to lo many top : Int} {x : Item.It} {l : List Int} (h1 : 0 ≤ f) (h2 : f ≤ 63) : Pkt.may ⟨4, f, x, to, lo, many, top, l⟩ = true ↔ (Item.allIn l 4611686018427387904 = true ∧ x = Item.It.zero ∧ to = 0 ∧ lo = 0 ∧ many = 0 ∧ 0 ≤ top ∧ top ≤ 4611686018427387904 ∧ 2 ≤ l.length ∧ l.length ≤ 64) := by
  have hw : Item.win f 0 63 = true := by simp [Item.win, h1, h2]
  have e : Pkt.may ⟨4, f, x, to, lo, many, top, l⟩ = ((Item.win top 0 4611686018427387904 && (Item.win l.length 2 64 && Item.allIn l 4611686018427387904)) && (Item.win f 0 63 && decide ((⟨4, f, x, to, lo, many, top, l⟩ : Pkt.Pk) = ⟨4, f, Item.It.zero, 0, 0, 0, top, l⟩))) := rfl
  rw [e, hw]
  simp only [Bool.and_eq_true, Item.win_iff, decide_eq_true_eq, Pkt.Pk.mk.injEq, true_and, and_true]
  constructor
  · rintro ⟨⟨⟨a, b⟩, ⟨c, d⟩, e⟩, g, h, i, j⟩; exact ⟨e, g, h, i, j, a, b, by omega, by omega⟩
  · rintro ⟨e, g, h, i, j, a, b, c, d⟩; exact ⟨⟨⟨a, b⟩, ⟨by omega, by omega⟩, e⟩, g, h, i, j⟩

theorem ans_false {ans : Bool} {P : Prop} (h : ans = true ↔ P) (hn : ¬ P) : false = ans := by
  cases ans with
  | false => rfl
  | true => exact absurd (h.1 rfl) hn
theorem ans_true {ans : Bool} {P : Prop} (h : ans = true ↔ P) (hp : P) : true = ans := (h.2 hp).symm
theorem ans_eq {ans b : Bool} {P : Prop} (h : ans = true ↔ P) (hb : b = true ↔ P) : b = ans := by rw [Bool.eq_iff_iff, h, hb]

theorem rpfew_is (v : Value) (p : Pkt.Pk) (w : World) (h : IsPkt w v p) :
    Calls Tryd.prog 8 #[v] w (BoolIs w ((decide (p.it.l.length ≤ 80) && decide (p.it.b.length ≤ 1100)) && decide (p.l.length ≤ 80))) := by
  obtain ⟨LA, ln, lc, BA, bn, bc, PA, pn, pc, rfl, hl, hb, hp⟩ := h
  obtain ⟨k, f, ⟨ik, iq, ie, ii, it, ic, il, ib⟩, to, lo, many, top, l⟩ := p
  dsimp only at hl hb hp ⊢
  have e1 := RdI.size hp
  have hg := alloc_at w (.cells #[.int .i64 k, .int .i64 f, .int .i64 ik, .int .i64 iq, .int .i64 ie, .int .i64 ii, .int .i64 it, .int .i64 ic, .slice LA ln lc, .slice BA bn bc, .int .i64 to, .int .i64 lo, .int .i64 many, .int .i64 top, .slice PA pn pc] 27) _ rfl
  have hb0 : Below w.heap.size w (w.alloc (.cells #[.int .i64 k, .int .i64 f, .int .i64 ik, .int .i64 iq, .int .i64 ie, .int .i64 ii, .int .i64 it, .int .i64 ic, .slice LA ln lc, .slice BA bn bc, .int .i64 to, .int .i64 lo, .int .i64 many, .int .i64 top, .slice PA pn pc] 27)) := (Below.refl _ _).alloc (Nat.le_refl _) _
  obtain ⟨⟨c0, c1⟩, ⟨c2, c3, c4, c5, c6, c7, c8, c9⟩, c10, c11, c12, c13, c14⟩ := cells15 hg
  have hf := few_is (.agg #[.int .i64 ik, .int .i64 iq, .int .i64 ie, .int .i64 ii, .int .i64 it, .int .i64 ic, .slice LA ln lc, .slice BA bn bc]) (⟨ik, iq, ie, ii, it, ic, il, ib⟩ : Item.It) _ ⟨LA, ln, lc, BA, bn, bc, rfl, RdV.below hl hb0, hb.below hb0⟩
  dsimp only at hf
  rw [e1]
  generalize (decide (il.length ≤ 80) && decide (ib.length ≤ 1100)) = t at hf ⊢
  clear hg
  go_enter Tryd.func8, Tryd.ntmps8
  go_wp2_with fail
  with_reducible refine hf.mono ?_
  rintro e w1 ⟨rfl, hb1⟩
  have d14 := keepC hb1 c14
  clear c0 c1 c2 c3 c4 c5 c6 c7 c8 c9 c10 c11 c12 c13 c14 hf
  cases t with
  | false =>
    go_wp2
    go_ret
    exact ⟨rfl, bthen hb0 hb1⟩
  | true =>
    go_wp2
    go_ret
    refine BoolIs.of (bthen hb0 hb1) ?_
    rw [Bool.eq_iff_iff]
    try simp only [Bool.and_eq_true]
    try simp only [decide_eq_true_eq]
    try simp only [Bool.false_eq_true]
    try simp only [true_and]
    try simp only [false_iff]
    try omega

set_option maxHeartbeats 8000000 in
theorem rpmay_f (k f to lo many top : Int) (l : List Int) (ik iq ie ii it ic : Int) (il : List Int) (ib : List UInt8) (LA : Option Addr) (ln lc : Nat) (BA : Option Addr) (bn bc : Nat) (PA : Option Addr) (pn pc : Nat) (w : World) (hl : RdI w LA ln lc il) (hb : Rd w BA bn bc ib) (hp : RdI w PA pn pc l) (ans : Bool) (t1 t2 : Bool) (ht1 : decide ((⟨ik, iq, ie, ii, it, ic, il, ib⟩ : Item.It) = Item.It.zero) = t1) (ht2 : Item.may (⟨ik, iq, ie, ii, it, ic, il, ib⟩ : Item.It) = t2) (hf : f < 0 ∨ 63 < f) (ha : ans = false) :
    Calls Tryd.prog 12 #[.agg #[.int .i64 k, .int .i64 f, .int .i64 ik, .int .i64 iq, .int .i64 ie, .int .i64 ii, .int .i64 it, .int .i64 ic, .slice LA ln lc, .slice BA bn bc, .int .i64 to, .int .i64 lo, .int .i64 many, .int .i64 top, .slice PA pn pc]] w (BoolIs w ans) := by
  have e1 := RdI.size hp
  have hg := alloc_at w (.cells #[.int .i64 k, .int .i64 f, .int .i64 ik, .int .i64 iq, .int .i64 ie, .int .i64 ii, .int .i64 it, .int .i64 ic, .slice LA ln lc, .slice BA bn bc, .int .i64 to, .int .i64 lo, .int .i64 many, .int .i64 top, .slice PA pn pc] 27) _ rfl
  have hb0 : Below w.heap.size w (w.alloc (.cells #[.int .i64 k, .int .i64 f, .int .i64 ik, .int .i64 iq, .int .i64 ie, .int .i64 ii, .int .i64 it, .int .i64 ic, .slice LA ln lc, .slice BA bn bc, .int .i64 to, .int .i64 lo, .int .i64 many, .int .i64 top, .slice PA pn pc] 27)) := (Below.refl _ _).alloc (Nat.le_refl _) _
  obtain ⟨⟨c0, c1⟩, ⟨c2, c3, c4, c5, c6, c7, c8, c9⟩, c10, c11, c12, c13, c14⟩ := cells15 hg
  have hs := rsameI_is (.agg #[.int .i64 ik, .int .i64 iq, .int .i64 ie, .int .i64 ii, .int .i64 it, .int .i64 ic, .slice LA ln lc, .slice BA bn bc]) (.agg zcells) (⟨ik, iq, ie, ii, it, ic, il, ib⟩ : Item.It) Item.It.zero _ ⟨LA, ln, lc, BA, bn, bc, rfl, RdV.below hl hb0, hb.below hb0⟩ (zero_item _) t1 ht1
  have hm := fun w' (hb' : Below w.heap.size w w') => rmay_any (.agg #[.int .i64 ik, .int .i64 iq, .int .i64 ie, .int .i64 ii, .int .i64 it, .int .i64 ic, .slice LA ln lc, .slice BA bn bc]) (⟨ik, iq, ie, ii, it, ic, il, ib⟩ : Item.It) w' ⟨LA, ln, lc, BA, bn, bc, rfl, RdV.below hl hb', hb.below hb'⟩
  rw [ht2] at hm
  clear hg ht1 ht2
  subst ha
  rcases hf with hf | hf
  all_goals
    go_enter Tryd.func12, Tryd.ntmps12
    go_wp2_with fail
    with_reducible refine hs.mono ?_
    rintro e w1 ⟨rfl, hb1⟩
    have d0 := keepC hb1 c0
    have d1 := keepC hb1 c1
    have d2 := keepC hb1 c2
    have d3 := keepC hb1 c3
    have d4 := keepC hb1 c4
    have d5 := keepC hb1 c5
    have d6 := keepC hb1 c6
    have d7 := keepC hb1 c7
    have d8 := keepC hb1 c8
    have d9 := keepC hb1 c9
    have d10 := keepC hb1 c10
    have d11 := keepC hb1 c11
    have d12 := keepC hb1 c12
    have d13 := keepC hb1 c13
    have d14 := keepC hb1 c14
    have hb01 := bthen hb0 hb1
    have hm1 := hm w1 hb01
    clear hm hs hb1 hb0
    go_wp2_with fail
    with_reducible refine hm1.mono ?_
    rintro e w2 ⟨rfl, hb2⟩
    have e0_ := keepC hb2 d0
    have e1_ := keepC hb2 d1
    have e10_ := keepC hb2 d10
    have e11_ := keepC hb2 d11
    have e12_ := keepC hb2 d12
    have e13_ := keepC hb2 d13
    have e14_ := keepC hb2 d14
    have hb02 := bthen hb01 hb2
    clear hb2 hb01 hm1 c0 c1 c2 c3 c4 c5 c6 c7 c8 c9 c10 c11 c12 c13 c14 d0 d1 d2 d3 d4 d5 d6 d7 d8 d9 d10 d11 d12 d13 d14
    go_wp2
    go_ret
    exact ⟨rfl, hb02⟩

set_option maxHeartbeats 8000000 in
theorem rpmay_n (k f to lo many top : Int) (l : List Int) (ik iq ie ii it ic : Int) (il : List Int) (ib : List UInt8) (LA : Option Addr) (ln lc : Nat) (BA : Option Addr) (bn bc : Nat) (PA : Option Addr) (pn pc : Nat) (w : World) (hl : RdI w LA ln lc il) (hb : Rd w BA bn bc ib) (hp : RdI w PA pn pc l) (ans : Bool) (t1 t2 : Bool) (ht1 : decide ((⟨ik, iq, ie, ii, it, ic, il, ib⟩ : Item.It) = Item.It.zero) = t1) (ht2 : Item.may (⟨ik, iq, ie, ii, it, ic, il, ib⟩ : Item.It) = t2) (h1 : 0 ≤ f) (h2 : f ≤ 63) (k1 : k ≠ 1) (k2 : k ≠ 2) (k3 : k ≠ 3) (k4 : k ≠ 4) (ha : ans = false) :
    Calls Tryd.prog 12 #[.agg #[.int .i64 k, .int .i64 f, .int .i64 ik, .int .i64 iq, .int .i64 ie, .int .i64 ii, .int .i64 it, .int .i64 ic, .slice LA ln lc, .slice BA bn bc, .int .i64 to, .int .i64 lo, .int .i64 many, .int .i64 top, .slice PA pn pc]] w (BoolIs w ans) := by
  have e1 := RdI.size hp
  have hg := alloc_at w (.cells #[.int .i64 k, .int .i64 f, .int .i64 ik, .int .i64 iq, .int .i64 ie, .int .i64 ii, .int .i64 it, .int .i64 ic, .slice LA ln lc, .slice BA bn bc, .int .i64 to, .int .i64 lo, .int .i64 many, .int .i64 top, .slice PA pn pc] 27) _ rfl
  have hb0 : Below w.heap.size w (w.alloc (.cells #[.int .i64 k, .int .i64 f, .int .i64 ik, .int .i64 iq, .int .i64 ie, .int .i64 ii, .int .i64 it, .int .i64 ic, .slice LA ln lc, .slice BA bn bc, .int .i64 to, .int .i64 lo, .int .i64 many, .int .i64 top, .slice PA pn pc] 27)) := (Below.refl _ _).alloc (Nat.le_refl _) _
  obtain ⟨⟨c0, c1⟩, ⟨c2, c3, c4, c5, c6, c7, c8, c9⟩, c10, c11, c12, c13, c14⟩ := cells15 hg
  have hs := rsameI_is (.agg #[.int .i64 ik, .int .i64 iq, .int .i64 ie, .int .i64 ii, .int .i64 it, .int .i64 ic, .slice LA ln lc, .slice BA bn bc]) (.agg zcells) (⟨ik, iq, ie, ii, it, ic, il, ib⟩ : Item.It) Item.It.zero _ ⟨LA, ln, lc, BA, bn, bc, rfl, RdV.below hl hb0, hb.below hb0⟩ (zero_item _) t1 ht1
  have hm := fun w' (hb' : Below w.heap.size w w') => rmay_any (.agg #[.int .i64 ik, .int .i64 iq, .int .i64 ie, .int .i64 ii, .int .i64 it, .int .i64 ic, .slice LA ln lc, .slice BA bn bc]) (⟨ik, iq, ie, ii, it, ic, il, ib⟩ : Item.It) w' ⟨LA, ln, lc, BA, bn, bc, rfl, RdV.below hl hb', hb.below hb'⟩
  rw [ht2] at hm
  clear hg ht1 ht2
  subst ha
  have q1 : (k == 1) = false := by simpa using k1
  have q2 : (k == 2) = false := by simpa using k2
  have q3 : (k == 3) = false := by simpa using k3
  have q4 : (k == 4) = false := by simpa using k4
  go_enter Tryd.func12, Tryd.ntmps12
  go_wp2_with fail
  with_reducible refine hs.mono ?_
  rintro e w1 ⟨rfl, hb1⟩
  have d0 := keepC hb1 c0
  have d1 := keepC hb1 c1
  have d2 := keepC hb1 c2
  have d3 := keepC hb1 c3
  have d4 := keepC hb1 c4
  have d5 := keepC hb1 c5
  have d6 := keepC hb1 c6
  have d7 := keepC hb1 c7
  have d8 := keepC hb1 c8
  have d9 := keepC hb1 c9
  have d10 := keepC hb1 c10
  have d11 := keepC hb1 c11
  have d12 := keepC hb1 c12
  have d13 := keepC hb1 c13
  have d14 := keepC hb1 c14
  have hb01 := bthen hb0 hb1
  have hm1 := hm w1 hb01
  clear hm hs hb1 hb0
  go_wp2_with fail
  with_reducible refine hm1.mono ?_
  rintro e w2 ⟨rfl, hb2⟩
  have e0_ := keepC hb2 d0
  have e1_ := keepC hb2 d1
  have e10_ := keepC hb2 d10
  have e11_ := keepC hb2 d11
  have e12_ := keepC hb2 d12
  have e13_ := keepC hb2 d13
  have e14_ := keepC hb2 d14
  have hb02 := bthen hb01 hb2
  clear hb2 hb01 hm1 c0 c1 c2 c3 c4 c5 c6 c7 c8 c9 c10 c11 c12 c13 c14 d0 d1 d2 d3 d4 d5 d6 d7 d8 d9 d10 d11 d12 d13 d14
  go_wp2
  go_ret
  exact ⟨rfl, hb02⟩

set_option maxHeartbeats 8000000 in
theorem rpmay_1 (f to lo many top : Int) (l : List Int) (ik iq ie ii it ic : Int) (il : List Int) (ib : List UInt8) (LA : Option Addr) (ln lc : Nat) (BA : Option Addr) (bn bc : Nat) (PA : Option Addr) (pn pc : Nat) (w : World) (hl : RdI w LA ln lc il) (hb : Rd w BA bn bc ib) (hp : RdI w PA pn pc l) (ans : Bool) (t1 t2 : Bool) (ht1 : decide ((⟨ik, iq, ie, ii, it, ic, il, ib⟩ : Item.It) = Item.It.zero) = t1) (ht2 : Item.may (⟨ik, iq, ie, ii, it, ic, il, ib⟩ : Item.It) = t2) (h1 : 0 ≤ f) (h2 : f ≤ 63) (HA : Hid (ans = true ↔ (t2 = true ∧ to = 0 ∧ lo = 0 ∧ many = 0 ∧ top = 0 ∧ pn = 0))) :
    Calls Tryd.prog 12 #[.agg #[.int .i64 1, .int .i64 f, .int .i64 ik, .int .i64 iq, .int .i64 ie, .int .i64 ii, .int .i64 it, .int .i64 ic, .slice LA ln lc, .slice BA bn bc, .int .i64 to, .int .i64 lo, .int .i64 many, .int .i64 top, .slice PA pn pc]] w (BoolIs w ans) := by
  have e1 := RdI.size hp
  have hg := alloc_at w (.cells #[.int .i64 1, .int .i64 f, .int .i64 ik, .int .i64 iq, .int .i64 ie, .int .i64 ii, .int .i64 it, .int .i64 ic, .slice LA ln lc, .slice BA bn bc, .int .i64 to, .int .i64 lo, .int .i64 many, .int .i64 top, .slice PA pn pc] 27) _ rfl
  have hb0 : Below w.heap.size w (w.alloc (.cells #[.int .i64 1, .int .i64 f, .int .i64 ik, .int .i64 iq, .int .i64 ie, .int .i64 ii, .int .i64 it, .int .i64 ic, .slice LA ln lc, .slice BA bn bc, .int .i64 to, .int .i64 lo, .int .i64 many, .int .i64 top, .slice PA pn pc] 27)) := (Below.refl _ _).alloc (Nat.le_refl _) _
  obtain ⟨⟨c0, c1⟩, ⟨c2, c3, c4, c5, c6, c7, c8, c9⟩, c10, c11, c12, c13, c14⟩ := cells15 hg
  have hs := rsameI_is (.agg #[.int .i64 ik, .int .i64 iq, .int .i64 ie, .int .i64 ii, .int .i64 it, .int .i64 ic, .slice LA ln lc, .slice BA bn bc]) (.agg zcells) (⟨ik, iq, ie, ii, it, ic, il, ib⟩ : Item.It) Item.It.zero _ ⟨LA, ln, lc, BA, bn, bc, rfl, RdV.below hl hb0, hb.below hb0⟩ (zero_item _) t1 ht1
  have hm := fun w' (hb' : Below w.heap.size w w') => rmay_any (.agg #[.int .i64 ik, .int .i64 iq, .int .i64 ie, .int .i64 ii, .int .i64 it, .int .i64 ic, .slice LA ln lc, .slice BA bn bc]) (⟨ik, iq, ie, ii, it, ic, il, ib⟩ : Item.It) w' ⟨LA, ln, lc, BA, bn, bc, rfl, RdV.below hl hb', hb.below hb'⟩
  rw [ht2] at hm
  clear hg ht1 ht2
  go_enter Tryd.func12, Tryd.ntmps12
  go_wp2_with fail
  with_reducible refine hs.mono ?_
  rintro e w1 ⟨rfl, hb1⟩
  have d0 := keepC hb1 c0
  have d1 := keepC hb1 c1
  have d2 := keepC hb1 c2
  have d3 := keepC hb1 c3
  have d4 := keepC hb1 c4
  have d5 := keepC hb1 c5
  have d6 := keepC hb1 c6
  have d7 := keepC hb1 c7
  have d8 := keepC hb1 c8
  have d9 := keepC hb1 c9
  have d10 := keepC hb1 c10
  have d11 := keepC hb1 c11
  have d12 := keepC hb1 c12
  have d13 := keepC hb1 c13
  have d14 := keepC hb1 c14
  have hb01 := bthen hb0 hb1
  have hm1 := hm w1 hb01
  clear hm hs hb1 hb0
  go_wp2_with fail
  with_reducible refine hm1.mono ?_
  rintro e w2 ⟨rfl, hb2⟩
  have e0_ := keepC hb2 d0
  have e1_ := keepC hb2 d1
  have e10_ := keepC hb2 d10
  have e11_ := keepC hb2 d11
  have e12_ := keepC hb2 d12
  have e13_ := keepC hb2 d13
  have e14_ := keepC hb2 d14
  have hb02 := bthen hb01 hb2
  clear hb2 hb01 hm1 c0 c1 c2 c3 c4 c5 c6 c7 c8 c9 c10 c11 c12 c13 c14 d0 d1 d2 d3 d4 d5 d6 d7 d8 d9 d10 d11 d12 d13 d14
  cases t2 with
  | false =>
    have hans : ans = false := by
      cases ans with
      | false => rfl
      | true => exact absurd (HA.out.1 rfl).1 (by simp)
    subst hans
    go_wp2
    go_ret
    exact ⟨rfl, hb02⟩
  | true =>
    have HB : Hid (ans = true ↔ (to = 0 ∧ lo = 0 ∧ many = 0 ∧ top = 0 ∧ pn = 0)) := hidT (by have := HA.out; simpa using this)
    clear HA
    rcases (show pn ≠ 0 ∨ pn = 0 from by omega) with hz | rfl
    all_goals
      go_wp2
      all_goals
        go_ret
        refine BoolIs.of hb02 ?_
        first | exact ans_false HB.out (by first | omega | (simp; omega) | (simp; done) | (intro hh; simp_all; done) | (simp_all; done)) | exact ans_true HB.out (by first | omega | (simp; omega) | (simp; done) | (intro hh; simp_all; done) | (simp_all; done)) | exact ans_eq HB.out (by first | (rw [beq_iff_eq]; omega) | (rw [decide_eq_true_eq]; omega) | (simp; omega) | (simp; done))

set_option maxHeartbeats 8000000 in
theorem rpmay_2 (f to lo many top : Int) (l : List Int) (ik iq ie ii it ic : Int) (il : List Int) (ib : List UInt8) (LA : Option Addr) (ln lc : Nat) (BA : Option Addr) (bn bc : Nat) (PA : Option Addr) (pn pc : Nat) (w : World) (hl : RdI w LA ln lc il) (hb : Rd w BA bn bc ib) (hp : RdI w PA pn pc l) (ans : Bool) (t1 t2 : Bool) (ht1 : decide ((⟨ik, iq, ie, ii, it, ic, il, ib⟩ : Item.It) = Item.It.zero) = t1) (ht2 : Item.may (⟨ik, iq, ie, ii, it, ic, il, ib⟩ : Item.It) = t2) (h1 : 0 ≤ f) (h2 : f ≤ 63) (HA : Hid (ans = true ↔ (t2 = true ∧ to = 0 ∧ lo = 0 ∧ many = 0 ∧ top = 0 ∧ pn = 0))) :
    Calls Tryd.prog 12 #[.agg #[.int .i64 2, .int .i64 f, .int .i64 ik, .int .i64 iq, .int .i64 ie, .int .i64 ii, .int .i64 it, .int .i64 ic, .slice LA ln lc, .slice BA bn bc, .int .i64 to, .int .i64 lo, .int .i64 many, .int .i64 top, .slice PA pn pc]] w (BoolIs w ans) := by
  have e1 := RdI.size hp
  have hg := alloc_at w (.cells #[.int .i64 2, .int .i64 f, .int .i64 ik, .int .i64 iq, .int .i64 ie, .int .i64 ii, .int .i64 it, .int .i64 ic, .slice LA ln lc, .slice BA bn bc, .int .i64 to, .int .i64 lo, .int .i64 many, .int .i64 top, .slice PA pn pc] 27) _ rfl
  have hb0 : Below w.heap.size w (w.alloc (.cells #[.int .i64 2, .int .i64 f, .int .i64 ik, .int .i64 iq, .int .i64 ie, .int .i64 ii, .int .i64 it, .int .i64 ic, .slice LA ln lc, .slice BA bn bc, .int .i64 to, .int .i64 lo, .int .i64 many, .int .i64 top, .slice PA pn pc] 27)) := (Below.refl _ _).alloc (Nat.le_refl _) _
  obtain ⟨⟨c0, c1⟩, ⟨c2, c3, c4, c5, c6, c7, c8, c9⟩, c10, c11, c12, c13, c14⟩ := cells15 hg
  have hs := rsameI_is (.agg #[.int .i64 ik, .int .i64 iq, .int .i64 ie, .int .i64 ii, .int .i64 it, .int .i64 ic, .slice LA ln lc, .slice BA bn bc]) (.agg zcells) (⟨ik, iq, ie, ii, it, ic, il, ib⟩ : Item.It) Item.It.zero _ ⟨LA, ln, lc, BA, bn, bc, rfl, RdV.below hl hb0, hb.below hb0⟩ (zero_item _) t1 ht1
  have hm := fun w' (hb' : Below w.heap.size w w') => rmay_any (.agg #[.int .i64 ik, .int .i64 iq, .int .i64 ie, .int .i64 ii, .int .i64 it, .int .i64 ic, .slice LA ln lc, .slice BA bn bc]) (⟨ik, iq, ie, ii, it, ic, il, ib⟩ : Item.It) w' ⟨LA, ln, lc, BA, bn, bc, rfl, RdV.below hl hb', hb.below hb'⟩
  rw [ht2] at hm
  clear hg ht1 ht2
  go_enter Tryd.func12, Tryd.ntmps12
  go_wp2_with fail
  with_reducible refine hs.mono ?_
  rintro e w1 ⟨rfl, hb1⟩
  have d0 := keepC hb1 c0
  have d1 := keepC hb1 c1
  have d2 := keepC hb1 c2
  have d3 := keepC hb1 c3
  have d4 := keepC hb1 c4
  have d5 := keepC hb1 c5
  have d6 := keepC hb1 c6
  have d7 := keepC hb1 c7
  have d8 := keepC hb1 c8
  have d9 := keepC hb1 c9
  have d10 := keepC hb1 c10
  have d11 := keepC hb1 c11
  have d12 := keepC hb1 c12
  have d13 := keepC hb1 c13
  have d14 := keepC hb1 c14
  have hb01 := bthen hb0 hb1
  have hm1 := hm w1 hb01
  clear hm hs hb1 hb0
  go_wp2_with fail
  with_reducible refine hm1.mono ?_
  rintro e w2 ⟨rfl, hb2⟩
  have e0_ := keepC hb2 d0
  have e1_ := keepC hb2 d1
  have e10_ := keepC hb2 d10
  have e11_ := keepC hb2 d11
  have e12_ := keepC hb2 d12
  have e13_ := keepC hb2 d13
  have e14_ := keepC hb2 d14
  have hb02 := bthen hb01 hb2
  clear hb2 hb01 hm1 c0 c1 c2 c3 c4 c5 c6 c7 c8 c9 c10 c11 c12 c13 c14 d0 d1 d2 d3 d4 d5 d6 d7 d8 d9 d10 d11 d12 d13 d14
  cases t2 with
  | false =>
    have hans : ans = false := by
      cases ans with
      | false => rfl
      | true => exact absurd (HA.out.1 rfl).1 (by simp)
    subst hans
    go_wp2
    go_ret
    exact ⟨rfl, hb02⟩
  | true =>
    have HB : Hid (ans = true ↔ (to = 0 ∧ lo = 0 ∧ many = 0 ∧ top = 0 ∧ pn = 0)) := hidT (by have := HA.out; simpa using this)
    clear HA
    rcases (show pn ≠ 0 ∨ pn = 0 from by omega) with hz | rfl
    all_goals
      go_wp2
      all_goals
        go_ret
        refine BoolIs.of hb02 ?_
        first | exact ans_false HB.out (by first | omega | (simp; omega) | (simp; done) | (intro hh; simp_all; done) | (simp_all; done)) | exact ans_true HB.out (by first | omega | (simp; omega) | (simp; done) | (intro hh; simp_all; done) | (simp_all; done)) | exact ans_eq HB.out (by first | (rw [beq_iff_eq]; omega) | (rw [decide_eq_true_eq]; omega) | (simp; omega) | (simp; done))

end Go.Proofs.YtahkhideepncfaaDoor
