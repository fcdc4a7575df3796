/- What item.Same comes to. (Written by wip/gen/item6.py.) -/
import Derived.Test.YtkkkfaelpmmffaaItem6
set_option maxRecDepth 100000
namespace Go.Proofs.Ytkkkfaelpmmffaa
open Go.RowKit
set_option linter.unusedVariables false

set_option maxHeartbeats 2000000 in
theorem same_is (u v : Value) (x y : Item.It) (w : World) (hu : IsItem w u x) (hv : IsItem w v y) (tt : Bool) (hT : decide (x = y) = tt) :
    Calls Try.prog 30 #[u, v] w (BoolIs w tt) := by
  obtain ⟨LA, ln, lc, BA, bn, bc, rfl, hl, hb⟩ := hu
  obtain ⟨LA', ln', lc', BA', bn', bc', rfl, hl', hb'⟩ := hv
  obtain ⟨k, q, e, i, t, c, l, b⟩ := x
  obtain ⟨k', q', e', i', t', c', l', b'⟩ := y
  dsimp only at hl hb hl' hb' ⊢
  have hd := two_alloc w (.cells #[.int .i64 k, .int .i64 q, .int .i64 e, .int .i64 i, .int .i64 t, .int .i64 c, .slice LA ln lc, .slice BA bn bc] 28) (.cells #[.int .i64 k', .int .i64 q', .int .i64 e', .int .i64 i', .int .i64 t', .int .i64 c', .slice LA' ln' lc', .slice BA' bn' bc'] 28)
  obtain ⟨g0, g1, hw⟩ := hd
  have c0 := cell_at g0 0 rfl
  have d0 := cell_at g1 0 rfl
  have c1 := cell_at g0 1 rfl
  have d1 := cell_at g1 1 rfl
  have c2 := cell_at g0 2 rfl
  have d2 := cell_at g1 2 rfl
  have c3 := cell_at g0 3 rfl
  have d3 := cell_at g1 3 rfl
  have c4 := cell_at g0 4 rfl
  have d4 := cell_at g1 4 rfl
  have c5 := cell_at g0 5 rfl
  have d5 := cell_at g1 5 rfl
  have c6 := cell_at g0 6 rfl
  have d6 := cell_at g1 6 rfl
  have c7 := cell_at g0 7 rfl
  have d7 := cell_at g1 7 rfl
  have hl1 := RdV.below hl hw
  have hl1' := RdV.below hl' hw
  have hb1 := hb.below hw
  have hb1' := hb'.below hw
  clear g0 g1 hl hl' hb hb'
  have HL := hidT hl1'
  by_cases hk : k = k'
  · subst hk
    by_cases hq : q = q'
    · subst hq
      by_cases he : e = e'
      · subst he
        by_cases hi : i = i'
        · subst hi
          by_cases ht : t = t'
          · subst ht
            by_cases hc : c = c'
            · subst hc
              by_cases hll : l = l'
              · subst hll
                have ce := equal_is LA ln lc l LA' ln' lc' l _ hl1 hl1' true (by simp)
                have cb : ∀ w2, Below _ _ w2 → _ := fun w2 hb2 => bytesEqual_is BA bn bc b BA' bn' bc' b' w2 (hb1.below hb2) (hb1'.below hb2) tt (by rw [← hT]; simp)
                clear hl1 hl1' HL
                go_enter Try.func30, Try.ntmps30
                go_wp2_with fail
                with_reducible refine ce.mono ?_
                rintro e w2 ⟨rfl, hb2⟩
                have c7w := keepC hb2 c7
                have d7w := keepC hb2 d7
                have cb2 := cb w2 hb2
                clear cb ce
                go_wp2_with fail
                with_reducible refine cb2.mono ?_
                rintro e w3 ⟨rfl, rfl⟩
                go_wp2
                go_ret
                exact ⟨rfl, bthen hw hb2⟩
              · obtain rfl : tt = false := by rw [← hT]; simp [hll]
                have ce := equal_is LA ln lc l LA' ln' lc' l' _ hl1 hl1' false (by simpa using hll)
                go_enter Try.func30, Try.ntmps30
                go_wp2_with fail
                with_reducible refine ce.mono ?_
                rintro e w2 ⟨rfl, hb2⟩
                go_wp2
                go_ret
                exact ⟨rfl, bthen hw hb2⟩
            · obtain rfl : tt = false := by rw [← hT]; simp [hc]
              have qq : (c == c') = false := by simpa using hc
              go_enter Try.func30, Try.ntmps30
              go_wp2
              go_ret
              exact ⟨rfl, hw⟩
          · obtain rfl : tt = false := by rw [← hT]; simp [ht]
            have qq : (t == t') = false := by simpa using ht
            go_enter Try.func30, Try.ntmps30
            go_wp2
            go_ret
            exact ⟨rfl, hw⟩
        · obtain rfl : tt = false := by rw [← hT]; simp [hi]
          have qq : (i == i') = false := by simpa using hi
          go_enter Try.func30, Try.ntmps30
          go_wp2
          go_ret
          exact ⟨rfl, hw⟩
      · obtain rfl : tt = false := by rw [← hT]; simp [he]
        have qq : (e == e') = false := by simpa using he
        go_enter Try.func30, Try.ntmps30
        go_wp2
        go_ret
        exact ⟨rfl, hw⟩
    · obtain rfl : tt = false := by rw [← hT]; simp [hq]
      have qq : (q == q') = false := by simpa using hq
      go_enter Try.func30, Try.ntmps30
      go_wp2
      go_ret
      exact ⟨rfl, hw⟩
  · obtain rfl : tt = false := by rw [← hT]; simp [hk]
    have qq : (k == k') = false := by simpa using hk
    go_enter Try.func30, Try.ntmps30
    go_wp2
    go_ret
    exact ⟨rfl, hw⟩
end Go.Proofs.Ytkkkfaelpmmffaa
