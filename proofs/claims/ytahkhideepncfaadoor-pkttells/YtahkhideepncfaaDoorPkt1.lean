/- What pkt.Same comes to. (Written by wip/gen/pkt1.py.) -/
import Derived.Test.YtahkhideepncfaaDoorPkt0
import Derived.Test.YtahkhideepncfaaDoorIE
set_option maxRecDepth 100000
namespace Go.Proofs.YtahkhideepncfaaDoor
open Go.RowKit
set_option linter.unusedVariables false

set_option maxHeartbeats 4000000 in
theorem psame_is (u v : Value) (x y : Pkt.Pk) (w : World) (hu : IsPkt w u x) (hv : IsPkt w v y) (tt : Bool) (hT : decide (x = y) = tt) :
    Calls Tryd.prog 13 #[u, v] w (BoolIs w tt) := by
  obtain ⟨LA, ln, lc, BA, bn, bc, PA, pn, pc, rfl, hl, hb, hp⟩ := hu
  obtain ⟨LA', ln', lc', BA', bn', bc', PA', pn', pc', rfl, hl', hb', hp'⟩ := hv
  obtain ⟨k, f, ⟨ik, iq, ie, ii, it, ic, il, ib⟩, to, lo, many, top, l⟩ := x
  obtain ⟨k', f', ⟨ik', iq', ie', ii', it', ic', il', ib'⟩, to', lo', many', top', l'⟩ := y
  dsimp only at hl hb hp hl' hb' hp' ⊢
  have hd := two_alloc w (.cells #[.int .i64 k, .int .i64 f, .int .i64 ik, .int .i64 iq, .int .i64 ie, .int .i64 ii, .int .i64 it, .int .i64 ic, .slice LA ln lc, .slice BA bn bc, .int .i64 to, .int .i64 lo, .int .i64 many, .int .i64 top, .slice PA pn pc] 27) (.cells #[.int .i64 k', .int .i64 f', .int .i64 ik', .int .i64 iq', .int .i64 ie', .int .i64 ii', .int .i64 it', .int .i64 ic', .slice LA' ln' lc', .slice BA' bn' bc', .int .i64 to', .int .i64 lo', .int .i64 many', .int .i64 top', .slice PA' pn' pc'] 27)
  obtain ⟨g0, g1, hw⟩ := hd
  have c0 := cell_at g0 0 rfl
  have d0 := cell_at g1 0 rfl
  have c1 := cell_at g0 1 rfl
  have d1 := cell_at g1 1 rfl
  have c2 := cell_at g0 2 rfl
  have d2 := cell_at g1 2 rfl
  have c3 := cell_at g0 3 rfl
  have d3 := cell_at g1 3 rfl
  have c4 := cell_at g0 4 rfl
  have d4 := cell_at g1 4 rfl
  have c5 := cell_at g0 5 rfl
  have d5 := cell_at g1 5 rfl
  have c6 := cell_at g0 6 rfl
  have d6 := cell_at g1 6 rfl
  have c7 := cell_at g0 7 rfl
  have d7 := cell_at g1 7 rfl
  have c8 := cell_at g0 8 rfl
  have d8 := cell_at g1 8 rfl
  have c9 := cell_at g0 9 rfl
  have d9 := cell_at g1 9 rfl
  have c10 := cell_at g0 10 rfl
  have d10 := cell_at g1 10 rfl
  have c11 := cell_at g0 11 rfl
  have d11 := cell_at g1 11 rfl
  have c12 := cell_at g0 12 rfl
  have d12 := cell_at g1 12 rfl
  have c13 := cell_at g0 13 rfl
  have d13 := cell_at g1 13 rfl
  have c14 := cell_at g0 14 rfl
  have d14 := cell_at g1 14 rfl
  have hi1 : IsItem _ (.agg #[.int .i64 ik, .int .i64 iq, .int .i64 ie, .int .i64 ii, .int .i64 it, .int .i64 ic, .slice LA ln lc, .slice BA bn bc]) ⟨ik, iq, ie, ii, it, ic, il, ib⟩ := ⟨LA, ln, lc, BA, bn, bc, rfl, RdV.below hl hw, hb.below hw⟩
  have hi1' : IsItem _ (.agg #[.int .i64 ik', .int .i64 iq', .int .i64 ie', .int .i64 ii', .int .i64 it', .int .i64 ic', .slice LA' ln' lc', .slice BA' bn' bc']) ⟨ik', iq', ie', ii', it', ic', il', ib'⟩ := ⟨LA', ln', lc', BA', bn', bc', rfl, RdV.below hl' hw, hb'.below hw⟩
  have hp1 := RdV.below hp hw
  have hp1' := RdV.below hp' hw
  clear g0 g1 hl hl' hb hb' hp hp'
  have ci := same_is _ _ _ _ _ hi1 hi1'
  clear hi1 hi1'
  by_cases h0 : k = k'
  case neg =>
    obtain rfl : tt = false := by rw [← hT]; simp [h0]
    have qq : (k == k') = false := by simpa using h0
    go_enter Tryd.func13, Tryd.ntmps13
    go_wp2
    go_ret
    exact ⟨rfl, hw⟩
  subst h0
  by_cases h0 : f = f'
  case neg =>
    obtain rfl : tt = false := by rw [← hT]; simp [h0]
    have qq : (f == f') = false := by simpa using h0
    go_enter Tryd.func13, Tryd.ntmps13
    go_wp2
    go_ret
    exact ⟨rfl, hw⟩
  subst h0
  by_cases h0 : (⟨ik, iq, ie, ii, it, ic, il, ib⟩ : Item.It) = ⟨ik', iq', ie', ii', it', ic', il', ib'⟩
  case neg =>
    obtain rfl : tt = false := by rw [← hT]; simp only [Pkt.Pk.mk.injEq, h0, false_and, and_false, decide_false]
    have ci2 := ci false (by simpa using h0)
    clear ci
    go_enter Tryd.func13, Tryd.ntmps13
    go_wp2_with fail
    with_reducible refine ci2.mono ?_
    rintro e w2 ⟨rfl, hb2⟩
    go_wp2
    go_ret
    exact ⟨rfl, bthen hw hb2⟩
  have ci2 := ci true (by simpa using h0)
  have HT : decide ((to = to' ∧ lo = lo' ∧ many = many' ∧ top = top' ∧ l = l')) = tt := by
    rw [← hT]
    simp only [Pkt.Pk.mk.injEq, h0, true_and]
  clear ci hT h0
  by_cases h0 : to = to'
  case neg =>
    obtain rfl : tt = false := by rw [← HT]; simp [h0]
    have qq : (to == to') = false := by simpa using h0
    go_enter Tryd.func13, Tryd.ntmps13
    go_wp2_with fail
    with_reducible refine ci2.mono ?_
    rintro e w2 ⟨rfl, hb2⟩
    have c10w := keepC hb2 c10
    have d10w := keepC hb2 d10
    have c11w := keepC hb2 c11
    have d11w := keepC hb2 d11
    have c12w := keepC hb2 c12
    have d12w := keepC hb2 d12
    have c13w := keepC hb2 c13
    have d13w := keepC hb2 d13
    have c14w := keepC hb2 c14
    have d14w := keepC hb2 d14
    have hwb := bthen hw hb2
    clear hb2 ci2 hp1 hp1'
    go_wp2
    go_ret
    exact ⟨rfl, hwb⟩
  subst h0
  by_cases h0 : lo = lo'
  case neg =>
    obtain rfl : tt = false := by rw [← HT]; simp [h0]
    have qq : (lo == lo') = false := by simpa using h0
    go_enter Tryd.func13, Tryd.ntmps13
    go_wp2_with fail
    with_reducible refine ci2.mono ?_
    rintro e w2 ⟨rfl, hb2⟩
    have c10w := keepC hb2 c10
    have d10w := keepC hb2 d10
    have c11w := keepC hb2 c11
    have d11w := keepC hb2 d11
    have c12w := keepC hb2 c12
    have d12w := keepC hb2 d12
    have c13w := keepC hb2 c13
    have d13w := keepC hb2 d13
    have c14w := keepC hb2 c14
    have d14w := keepC hb2 d14
    have hwb := bthen hw hb2
    clear hb2 ci2 hp1 hp1'
    go_wp2
    go_ret
    exact ⟨rfl, hwb⟩
  subst h0
  by_cases h0 : many = many'
  case neg =>
    obtain rfl : tt = false := by rw [← HT]; simp [h0]
    have qq : (many == many') = false := by simpa using h0
    go_enter Tryd.func13, Tryd.ntmps13
    go_wp2_with fail
    with_reducible refine ci2.mono ?_
    rintro e w2 ⟨rfl, hb2⟩
    have c10w := keepC hb2 c10
    have d10w := keepC hb2 d10
    have c11w := keepC hb2 c11
    have d11w := keepC hb2 d11
    have c12w := keepC hb2 c12
    have d12w := keepC hb2 d12
    have c13w := keepC hb2 c13
    have d13w := keepC hb2 d13
    have c14w := keepC hb2 c14
    have d14w := keepC hb2 d14
    have hwb := bthen hw hb2
    clear hb2 ci2 hp1 hp1'
    go_wp2
    go_ret
    exact ⟨rfl, hwb⟩
  subst h0
  by_cases h0 : top = top'
  case neg =>
    obtain rfl : tt = false := by rw [← HT]; simp [h0]
    have qq : (top == top') = false := by simpa using h0
    go_enter Tryd.func13, Tryd.ntmps13
    go_wp2_with fail
    with_reducible refine ci2.mono ?_
    rintro e w2 ⟨rfl, hb2⟩
    have c10w := keepC hb2 c10
    have d10w := keepC hb2 d10
    have c11w := keepC hb2 c11
    have d11w := keepC hb2 d11
    have c12w := keepC hb2 c12
    have d12w := keepC hb2 d12
    have c13w := keepC hb2 c13
    have d13w := keepC hb2 d13
    have c14w := keepC hb2 c14
    have d14w := keepC hb2 d14
    have hwb := bthen hw hb2
    clear hb2 ci2 hp1 hp1'
    go_wp2
    go_ret
    exact ⟨rfl, hwb⟩
  subst h0
  have ce : ∀ w2, Below _ _ w2 → _ := fun w2 hb2 => equal_is PA pn pc l PA' pn' pc' l' w2 (RdV.below hp1 hb2) (RdV.below hp1' hb2) tt (by rw [← HT]; simp)
  clear HT hp1 hp1'
  go_enter Tryd.func13, Tryd.ntmps13
  go_wp2_with fail
  with_reducible refine ci2.mono ?_
  rintro e w2 ⟨rfl, hb2⟩
  have c10w := keepC hb2 c10
  have d10w := keepC hb2 d10
  have c11w := keepC hb2 c11
  have d11w := keepC hb2 d11
  have c12w := keepC hb2 c12
  have d12w := keepC hb2 d12
  have c13w := keepC hb2 c13
  have d13w := keepC hb2 d13
  have c14w := keepC hb2 c14
  have d14w := keepC hb2 d14
  have hwb := bthen hw hb2
  have ce2 := ce w2 hb2
  clear ce hb2 ci2
  go_wp2_with fail
  with_reducible refine ce2.mono ?_
  rintro e w3 ⟨rfl, hb3⟩
  go_wp2
  go_ret
  exact ⟨rfl, bthen hwb hb3⟩
end Go.Proofs.YtahkhideepncfaaDoor
