/- What the document's Same of packets comes to. (Written by wip/gen/pkt1.py.) -/
import Derived.Test.YtahkhideepncfaaDoorPkt0
import Derived.Test.YtahkhideepncfaaDoorIE
set_option maxRecDepth 100000
namespace Go.Proofs.YtahkhideepncfaaDoor
open Go.RowKit
set_option linter.unusedVariables false

set_option maxHeartbeats 4000000 in
theorem rpsame_is (u v : Value) (x y : Pkt.Pk) (w : World) (hu : IsPkt w u x) (hv : IsPkt w v y) (tt : Bool) (hT : decide (x = y) = tt) :
    Calls Tryd.prog 14 #[u, v] w (BoolIs w tt) := by
  obtain ⟨LA, ln, lc, BA, bn, bc, PA, pn, pc, rfl, hl, hb, hp⟩ := hu
  obtain ⟨LA', ln', lc', BA', bn', bc', PA', pn', pc', rfl, hl', hb', hp'⟩ := hv
  obtain ⟨k, f, ⟨ik, iq, ie, ii, it, ic, il, ib⟩, to, lo, many, top, l⟩ := x
  obtain ⟨k', f', ⟨ik', iq', ie', ii', it', ic', il', ib'⟩, to', lo', many', top', l'⟩ := y
  dsimp only at hl hb hp hl' hb' hp' ⊢
  have hd := two_alloc w (.cells #[.int .i64 k, .int .i64 f, .int .i64 ik, .int .i64 iq, .int .i64 ie, .int .i64 ii, .int .i64 it, .int .i64 ic, .slice LA ln lc, .slice BA bn bc, .int .i64 to, .int .i64 lo, .int .i64 many, .int .i64 top, .slice PA pn pc] 27) (.cells #[.int .i64 k', .int .i64 f', .int .i64 ik', .int .i64 iq', .int .i64 ie', .int .i64 ii', .int .i64 it', .int .i64 ic', .slice LA' ln' lc', .slice BA' bn' bc', .int .i64 to', .int .i64 lo', .int .i64 many', .int .i64 top', .slice PA' pn' pc'] 27)
  obtain ⟨g0, g1, hw⟩ := hd
  have c0 := cell_at g0 0 rfl
  have d0 := cell_at g1 0 rfl
  have c1 := cell_at g0 1 rfl
  have d1 := cell_at g1 1 rfl
  have c2 := cell_at g0 2 rfl
  have d2 := cell_at g1 2 rfl
  have c3 := cell_at g0 3 rfl
  have d3 := cell_at g1 3 rfl
  have c4 := cell_at g0 4 rfl
  have d4 := cell_at g1 4 rfl
  have c5 := cell_at g0 5 rfl
  have d5 := cell_at g1 5 rfl
  have c6 := cell_at g0 6 rfl
  have d6 := cell_at g1 6 rfl
  have c7 := cell_at g0 7 rfl
  have d7 := cell_at g1 7 rfl
  have c8 := cell_at g0 8 rfl
  have d8 := cell_at g1 8 rfl
  have c9 := cell_at g0 9 rfl
  have d9 := cell_at g1 9 rfl
  have c10 := cell_at g0 10 rfl
  have d10 := cell_at g1 10 rfl
  have c11 := cell_at g0 11 rfl
  have d11 := cell_at g1 11 rfl
  have c12 := cell_at g0 12 rfl
  have d12 := cell_at g1 12 rfl
  have c13 := cell_at g0 13 rfl
  have d13 := cell_at g1 13 rfl
  have c14 := cell_at g0 14 rfl
  have d14 := cell_at g1 14 rfl
  have hi1 : IsItem _ (.agg #[.int .i64 ik, .int .i64 iq, .int .i64 ie, .int .i64 ii, .int .i64 it, .int .i64 ic, .slice LA ln lc, .slice BA bn bc]) ⟨ik, iq, ie, ii, it, ic, il, ib⟩ := ⟨LA, ln, lc, BA, bn, bc, rfl, RdV.below hl hw, hb.below hw⟩
  have hi1' : IsItem _ (.agg #[.int .i64 ik', .int .i64 iq', .int .i64 ie', .int .i64 ii', .int .i64 it', .int .i64 ic', .slice LA' ln' lc', .slice BA' bn' bc']) ⟨ik', iq', ie', ii', it', ic', il', ib'⟩ := ⟨LA', ln', lc', BA', bn', bc', rfl, RdV.below hl' hw, hb'.below hw⟩
  have hp1 := RdV.below hp hw
  have hp1' := RdV.below hp' hw
  clear g0 g1 hl hl' hb hb' hp hp'
  obtain ⟨t1, ht1⟩ : ∃ t, decide ((⟨ik, iq, ie, ii, it, ic, il, ib⟩ : Item.It) = ⟨ik', iq', ie', ii', it', ic', il', ib'⟩) = t := ⟨_, rfl⟩
  obtain ⟨t2, ht2⟩ : ∃ t, decide (l = l') = t := ⟨_, rfl⟩
  have ci := rsameI_is _ _ _ _ _ hi1 hi1' t1 ht1
  have ce : ∀ w2, Below _ _ w2 → _ := fun w2 hb2 => rsame_is PA pn pc l PA' pn' pc' l' w2 (RdV.below hp1 hb2) (RdV.below hp1' hb2) t2 ht2
  have HT : (t1 && (t2 && decide (k = k' ∧ f = f' ∧ to = to' ∧ lo = lo' ∧ many = many' ∧ top = top'))) = tt := by
    rw [← hT, ← ht1, ← ht2, Bool.eq_iff_iff]
    simp only [Pkt.Pk.mk.injEq, Bool.and_eq_true, decide_eq_true_eq]
    constructor
    · rintro ⟨h1, h2, a, b, c, d, e, g⟩; exact ⟨a, b, h1, c, d, e, g, h2⟩
    · rintro ⟨a, b, h1, c, d, e, g, h2⟩; exact ⟨h1, h2, a, b, c, d, e, g⟩
  clear ht1 ht2 hi1 hi1' hp1 hp1' hT
  cases t1 with
  | false =>
    obtain rfl : tt = false := by rw [← HT]; rfl
    go_enter Tryd.func14, Tryd.ntmps14
    go_wp2_with fail
    with_reducible refine ci.mono ?_
    rintro e w2 ⟨rfl, hb2⟩
    have c0w := keepC hb2 c0
    have d0w := keepC hb2 d0
    have c1w := keepC hb2 c1
    have d1w := keepC hb2 d1
    have c10w := keepC hb2 c10
    have d10w := keepC hb2 d10
    have c11w := keepC hb2 c11
    have d11w := keepC hb2 d11
    have c12w := keepC hb2 c12
    have d12w := keepC hb2 d12
    have c13w := keepC hb2 c13
    have d13w := keepC hb2 d13
    have c14w := keepC hb2 c14
    have d14w := keepC hb2 d14
    have ce2 := ce w2 hb2
    have hwb := bthen hw hb2
    clear ce ci
    go_wp2_with fail
    with_reducible refine ce2.mono ?_
    rintro e w3 ⟨rfl, hb3⟩
    have c0u := keepC hb3 c0w
    have d0u := keepC hb3 d0w
    have c1u := keepC hb3 c1w
    have d1u := keepC hb3 d1w
    have c10u := keepC hb3 c10w
    have d10u := keepC hb3 d10w
    have c11u := keepC hb3 c11w
    have d11u := keepC hb3 d11w
    have c12u := keepC hb3 c12w
    have d12u := keepC hb3 d12w
    have c13u := keepC hb3 c13w
    have d13u := keepC hb3 d13w
    have hwb3 := bthen hwb hb3
    clear hb2 hb3 ce2 hwb
    go_wp2
    go_ret
    exact ⟨rfl, hwb3⟩
  | true =>
  cases t2 with
  | false =>
    obtain rfl : tt = false := by rw [← HT]; rfl
    go_enter Tryd.func14, Tryd.ntmps14
    go_wp2_with fail
    with_reducible refine ci.mono ?_
    rintro e w2 ⟨rfl, hb2⟩
    have c0w := keepC hb2 c0
    have d0w := keepC hb2 d0
    have c1w := keepC hb2 c1
    have d1w := keepC hb2 d1
    have c10w := keepC hb2 c10
    have d10w := keepC hb2 d10
    have c11w := keepC hb2 c11
    have d11w := keepC hb2 d11
    have c12w := keepC hb2 c12
    have d12w := keepC hb2 d12
    have c13w := keepC hb2 c13
    have d13w := keepC hb2 d13
    have c14w := keepC hb2 c14
    have d14w := keepC hb2 d14
    have ce2 := ce w2 hb2
    have hwb := bthen hw hb2
    clear ce ci
    go_wp2_with fail
    with_reducible refine ce2.mono ?_
    rintro e w3 ⟨rfl, hb3⟩
    have c0u := keepC hb3 c0w
    have d0u := keepC hb3 d0w
    have c1u := keepC hb3 c1w
    have d1u := keepC hb3 d1w
    have c10u := keepC hb3 c10w
    have d10u := keepC hb3 d10w
    have c11u := keepC hb3 c11w
    have d11u := keepC hb3 d11w
    have c12u := keepC hb3 c12w
    have d12u := keepC hb3 d12w
    have c13u := keepC hb3 c13w
    have d13u := keepC hb3 d13w
    have hwb3 := bthen hwb hb3
    clear hb2 hb3 ce2 hwb
    go_wp2
    go_ret
    exact ⟨rfl, hwb3⟩
  | true =>
  rw [Bool.true_and, Bool.true_and] at HT
  by_cases h0 : k = k'
  case neg =>
    obtain rfl : tt = false := by rw [← HT]; simp [h0]
    have qq : (k == k') = false := by simpa using h0
    go_enter Tryd.func14, Tryd.ntmps14
    go_wp2_with fail
    with_reducible refine ci.mono ?_
    rintro e w2 ⟨rfl, hb2⟩
    have c0w := keepC hb2 c0
    have d0w := keepC hb2 d0
    have c1w := keepC hb2 c1
    have d1w := keepC hb2 d1
    have c10w := keepC hb2 c10
    have d10w := keepC hb2 d10
    have c11w := keepC hb2 c11
    have d11w := keepC hb2 d11
    have c12w := keepC hb2 c12
    have d12w := keepC hb2 d12
    have c13w := keepC hb2 c13
    have d13w := keepC hb2 d13
    have c14w := keepC hb2 c14
    have d14w := keepC hb2 d14
    have ce2 := ce w2 hb2
    have hwb := bthen hw hb2
    clear ce ci
    go_wp2_with fail
    with_reducible refine ce2.mono ?_
    rintro e w3 ⟨rfl, hb3⟩
    have c0u := keepC hb3 c0w
    have d0u := keepC hb3 d0w
    have c1u := keepC hb3 c1w
    have d1u := keepC hb3 d1w
    have c10u := keepC hb3 c10w
    have d10u := keepC hb3 d10w
    have c11u := keepC hb3 c11w
    have d11u := keepC hb3 d11w
    have c12u := keepC hb3 c12w
    have d12u := keepC hb3 d12w
    have c13u := keepC hb3 c13w
    have d13u := keepC hb3 d13w
    have hwb3 := bthen hwb hb3
    clear hb2 hb3 ce2 hwb
    go_wp2
    go_ret
    exact ⟨rfl, hwb3⟩
  subst h0
  by_cases h0 : f = f'
  case neg =>
    obtain rfl : tt = false := by rw [← HT]; simp [h0]
    have qq : (f == f') = false := by simpa using h0
    go_enter Tryd.func14, Tryd.ntmps14
    go_wp2_with fail
    with_reducible refine ci.mono ?_
    rintro e w2 ⟨rfl, hb2⟩
    have c0w := keepC hb2 c0
    have d0w := keepC hb2 d0
    have c1w := keepC hb2 c1
    have d1w := keepC hb2 d1
    have c10w := keepC hb2 c10
    have d10w := keepC hb2 d10
    have c11w := keepC hb2 c11
    have d11w := keepC hb2 d11
    have c12w := keepC hb2 c12
    have d12w := keepC hb2 d12
    have c13w := keepC hb2 c13
    have d13w := keepC hb2 d13
    have c14w := keepC hb2 c14
    have d14w := keepC hb2 d14
    have ce2 := ce w2 hb2
    have hwb := bthen hw hb2
    clear ce ci
    go_wp2_with fail
    with_reducible refine ce2.mono ?_
    rintro e w3 ⟨rfl, hb3⟩
    have c0u := keepC hb3 c0w
    have d0u := keepC hb3 d0w
    have c1u := keepC hb3 c1w
    have d1u := keepC hb3 d1w
    have c10u := keepC hb3 c10w
    have d10u := keepC hb3 d10w
    have c11u := keepC hb3 c11w
    have d11u := keepC hb3 d11w
    have c12u := keepC hb3 c12w
    have d12u := keepC hb3 d12w
    have c13u := keepC hb3 c13w
    have d13u := keepC hb3 d13w
    have hwb3 := bthen hwb hb3
    clear hb2 hb3 ce2 hwb
    go_wp2
    go_ret
    exact ⟨rfl, hwb3⟩
  subst h0
  by_cases h0 : to = to'
  case neg =>
    obtain rfl : tt = false := by rw [← HT]; simp [h0]
    have qq : (to == to') = false := by simpa using h0
    go_enter Tryd.func14, Tryd.ntmps14
    go_wp2_with fail
    with_reducible refine ci.mono ?_
    rintro e w2 ⟨rfl, hb2⟩
    have c0w := keepC hb2 c0
    have d0w := keepC hb2 d0
    have c1w := keepC hb2 c1
    have d1w := keepC hb2 d1
    have c10w := keepC hb2 c10
    have d10w := keepC hb2 d10
    have c11w := keepC hb2 c11
    have d11w := keepC hb2 d11
    have c12w := keepC hb2 c12
    have d12w := keepC hb2 d12
    have c13w := keepC hb2 c13
    have d13w := keepC hb2 d13
    have c14w := keepC hb2 c14
    have d14w := keepC hb2 d14
    have ce2 := ce w2 hb2
    have hwb := bthen hw hb2
    clear ce ci
    go_wp2_with fail
    with_reducible refine ce2.mono ?_
    rintro e w3 ⟨rfl, hb3⟩
    have c0u := keepC hb3 c0w
    have d0u := keepC hb3 d0w
    have c1u := keepC hb3 c1w
    have d1u := keepC hb3 d1w
    have c10u := keepC hb3 c10w
    have d10u := keepC hb3 d10w
    have c11u := keepC hb3 c11w
    have d11u := keepC hb3 d11w
    have c12u := keepC hb3 c12w
    have d12u := keepC hb3 d12w
    have c13u := keepC hb3 c13w
    have d13u := keepC hb3 d13w
    have hwb3 := bthen hwb hb3
    clear hb2 hb3 ce2 hwb
    go_wp2
    go_ret
    exact ⟨rfl, hwb3⟩
  subst h0
  by_cases h0 : lo = lo'
  case neg =>
    obtain rfl : tt = false := by rw [← HT]; simp [h0]
    have qq : (lo == lo') = false := by simpa using h0
    go_enter Tryd.func14, Tryd.ntmps14
    go_wp2_with fail
    with_reducible refine ci.mono ?_
    rintro e w2 ⟨rfl, hb2⟩
    have c0w := keepC hb2 c0
    have d0w := keepC hb2 d0
    have c1w := keepC hb2 c1
    have d1w := keepC hb2 d1
    have c10w := keepC hb2 c10
    have d10w := keepC hb2 d10
    have c11w := keepC hb2 c11
    have d11w := keepC hb2 d11
    have c12w := keepC hb2 c12
    have d12w := keepC hb2 d12
    have c13w := keepC hb2 c13
    have d13w := keepC hb2 d13
    have c14w := keepC hb2 c14
    have d14w := keepC hb2 d14
    have ce2 := ce w2 hb2
    have hwb := bthen hw hb2
    clear ce ci
    go_wp2_with fail
    with_reducible refine ce2.mono ?_
    rintro e w3 ⟨rfl, hb3⟩
    have c0u := keepC hb3 c0w
    have d0u := keepC hb3 d0w
    have c1u := keepC hb3 c1w
    have d1u := keepC hb3 d1w
    have c10u := keepC hb3 c10w
    have d10u := keepC hb3 d10w
    have c11u := keepC hb3 c11w
    have d11u := keepC hb3 d11w
    have c12u := keepC hb3 c12w
    have d12u := keepC hb3 d12w
    have c13u := keepC hb3 c13w
    have d13u := keepC hb3 d13w
    have hwb3 := bthen hwb hb3
    clear hb2 hb3 ce2 hwb
    go_wp2
    go_ret
    exact ⟨rfl, hwb3⟩
  subst h0
  by_cases h0 : many = many'
  case neg =>
    obtain rfl : tt = false := by rw [← HT]; simp [h0]
    have qq : (many == many') = false := by simpa using h0
    go_enter Tryd.func14, Tryd.ntmps14
    go_wp2_with fail
    with_reducible refine ci.mono ?_
    rintro e w2 ⟨rfl, hb2⟩
    have c0w := keepC hb2 c0
    have d0w := keepC hb2 d0
    have c1w := keepC hb2 c1
    have d1w := keepC hb2 d1
    have c10w := keepC hb2 c10
    have d10w := keepC hb2 d10
    have c11w := keepC hb2 c11
    have d11w := keepC hb2 d11
    have c12w := keepC hb2 c12
    have d12w := keepC hb2 d12
    have c13w := keepC hb2 c13
    have d13w := keepC hb2 d13
    have c14w := keepC hb2 c14
    have d14w := keepC hb2 d14
    have ce2 := ce w2 hb2
    have hwb := bthen hw hb2
    clear ce ci
    go_wp2_with fail
    with_reducible refine ce2.mono ?_
    rintro e w3 ⟨rfl, hb3⟩
    have c0u := keepC hb3 c0w
    have d0u := keepC hb3 d0w
    have c1u := keepC hb3 c1w
    have d1u := keepC hb3 d1w
    have c10u := keepC hb3 c10w
    have d10u := keepC hb3 d10w
    have c11u := keepC hb3 c11w
    have d11u := keepC hb3 d11w
    have c12u := keepC hb3 c12w
    have d12u := keepC hb3 d12w
    have c13u := keepC hb3 c13w
    have d13u := keepC hb3 d13w
    have hwb3 := bthen hwb hb3
    clear hb2 hb3 ce2 hwb
    go_wp2
    go_ret
    exact ⟨rfl, hwb3⟩
  subst h0
  by_cases h0 : top = top'
  case neg =>
    obtain rfl : tt = false := by rw [← HT]; simp [h0]
    have qq : (top == top') = false := by simpa using h0
    go_enter Tryd.func14, Tryd.ntmps14
    go_wp2_with fail
    with_reducible refine ci.mono ?_
    rintro e w2 ⟨rfl, hb2⟩
    have c0w := keepC hb2 c0
    have d0w := keepC hb2 d0
    have c1w := keepC hb2 c1
    have d1w := keepC hb2 d1
    have c10w := keepC hb2 c10
    have d10w := keepC hb2 d10
    have c11w := keepC hb2 c11
    have d11w := keepC hb2 d11
    have c12w := keepC hb2 c12
    have d12w := keepC hb2 d12
    have c13w := keepC hb2 c13
    have d13w := keepC hb2 d13
    have c14w := keepC hb2 c14
    have d14w := keepC hb2 d14
    have ce2 := ce w2 hb2
    have hwb := bthen hw hb2
    clear ce ci
    go_wp2_with fail
    with_reducible refine ce2.mono ?_
    rintro e w3 ⟨rfl, hb3⟩
    have c0u := keepC hb3 c0w
    have d0u := keepC hb3 d0w
    have c1u := keepC hb3 c1w
    have d1u := keepC hb3 d1w
    have c10u := keepC hb3 c10w
    have d10u := keepC hb3 d10w
    have c11u := keepC hb3 c11w
    have d11u := keepC hb3 d11w
    have c12u := keepC hb3 c12w
    have d12u := keepC hb3 d12w
    have c13u := keepC hb3 c13w
    have d13u := keepC hb3 d13w
    have hwb3 := bthen hwb hb3
    clear hb2 hb3 ce2 hwb
    go_wp2
    go_ret
    exact ⟨rfl, hwb3⟩
  subst h0
  obtain rfl : tt = true := by rw [← HT]; simp
  go_enter Tryd.func14, Tryd.ntmps14
  go_wp2_with fail
  with_reducible refine ci.mono ?_
  rintro e w2 ⟨rfl, hb2⟩
  have c0w := keepC hb2 c0
  have d0w := keepC hb2 d0
  have c1w := keepC hb2 c1
  have d1w := keepC hb2 d1
  have c10w := keepC hb2 c10
  have d10w := keepC hb2 d10
  have c11w := keepC hb2 c11
  have d11w := keepC hb2 d11
  have c12w := keepC hb2 c12
  have d12w := keepC hb2 d12
  have c13w := keepC hb2 c13
  have d13w := keepC hb2 d13
  have c14w := keepC hb2 c14
  have d14w := keepC hb2 d14
  have ce2 := ce w2 hb2
  have hwb := bthen hw hb2
  clear ce ci
  go_wp2_with fail
  with_reducible refine ce2.mono ?_
  rintro e w3 ⟨rfl, hb3⟩
  have c0u := keepC hb3 c0w
  have d0u := keepC hb3 d0w
  have c1u := keepC hb3 c1w
  have d1u := keepC hb3 d1w
  have c10u := keepC hb3 c10w
  have d10u := keepC hb3 d10w
  have c11u := keepC hb3 c11w
  have d11u := keepC hb3 d11w
  have c12u := keepC hb3 c12w
  have d12u := keepC hb3 d12w
  have c13u := keepC hb3 c13w
  have d13u := keepC hb3 d13w
  have hwb3 := bthen hwb hb3
  clear hb2 hb3 ce2 hwb
  go_wp2
  go_ret
  exact ⟨rfl, hwb3⟩
end Go.Proofs.YtahkhideepncfaaDoor
