/- What the document's Same of items comes to. -/
import Derived.Test.YtdchgnmkeefffaaSqW
set_option maxRecDepth 100000
namespace Go.Proofs.Ytdchgnmkeefffaa
open Go.RowKit
set_option linter.unusedVariables false

set_option maxHeartbeats 2000000 in
theorem rsameI_is (u v : Value) (x y : Item.It) (w : World) (hu : IsItem w u x) (hv : IsItem w v y) (tt : Bool) (hT : decide (x = y) = tt) :
    Calls Try.prog 17 #[u, v] w (BoolIs w tt) := by
  obtain ⟨LA, ln, lc, BA, bn, bc, rfl, hl, hb⟩ := hu
  obtain ⟨LA', ln', lc', BA', bn', bc', rfl, hl', hb'⟩ := hv
  obtain ⟨k, q, e, i, t, c, l, b⟩ := x
  obtain ⟨k', q', e', i', t', c', l', b'⟩ := y
  dsimp only at hl hb hl' hb' ⊢
  have hd := two_alloc w (.cells #[.int .i64 k, .int .i64 q, .int .i64 e, .int .i64 i, .int .i64 t, .int .i64 c, .slice LA ln lc, .slice BA bn bc] 35) (.cells #[.int .i64 k', .int .i64 q', .int .i64 e', .int .i64 i', .int .i64 t', .int .i64 c', .slice LA' ln' lc', .slice BA' bn' bc'] 35)
  obtain ⟨g0, g1, hw⟩ := hd
  have c0 := cell_at g0 0 rfl
  have d0 := cell_at g1 0 rfl
  have c1 := cell_at g0 1 rfl
  have d1 := cell_at g1 1 rfl
  have c2 := cell_at g0 2 rfl
  have d2 := cell_at g1 2 rfl
  have c3 := cell_at g0 3 rfl
  have d3 := cell_at g1 3 rfl
  have c4 := cell_at g0 4 rfl
  have d4 := cell_at g1 4 rfl
  have c5 := cell_at g0 5 rfl
  have d5 := cell_at g1 5 rfl
  have c6 := cell_at g0 6 rfl
  have d6 := cell_at g1 6 rfl
  have c7 := cell_at g0 7 rfl
  have d7 := cell_at g1 7 rfl
  have hl1 := RdV.below hl hw
  have hl1' := RdV.below hl' hw
  have hb1 := hb.below hw
  have hb1' := hb'.below hw
  clear g0 g1 hl hl' hb hb'
  have HL := hidT hl1'
  by_cases hll : l = l'
  · subst hll
    have ce := rsame_is LA ln lc l LA' ln' lc' l _ hl1 hl1' true (by simp)
    have s1 := strs hb1
    have s2 := strs hb1'
    have qb := str_beq b b'
    clear hl1 hl1' HL hb1 hb1'
    go_enter Try.func17, Try.ntmps17
    go_wp2_with fail
    with_reducible refine ce.mono ?_
    rintro e w2 ⟨rfl, hb2⟩
    have c0w := cellC hb2 c0
    have c1w := cellC hb2 c1
    have c2w := cellC hb2 c2
    have c3w := cellC hb2 c3
    have c4w := cellC hb2 c4
    have c5w := cellC hb2 c5
    have c7w := cellC hb2 c7
    have d0w := cellC hb2 d0
    have d1w := cellC hb2 d1
    have d2w := cellC hb2 d2
    have d3w := cellC hb2 d3
    have d4w := cellC hb2 d4
    have d5w := cellC hb2 d5
    have d7w := cellC hb2 d7
    have s1w := s1 w2 hb2
    have s2w := s2 w2 hb2
    clear s1 s2 ce c0 c1 c2 c3 c4 c5 c6 c7 d0 d1 d2 d3 d4 d5 d6 d7
    by_cases hk : k = k'
    · subst hk
      by_cases hq : q = q'
      · subst hq
        by_cases he : e = e'
        · subst he
          by_cases hi : i = i'
          · subst hi
            by_cases ht : t = t'
            · subst ht
              by_cases hc : c = c'
              · subst hc
                have et : decide (b = b') = tt := by rw [← hT]; simp
                rw [et] at qb
                clear et
                cases tt
                all_goals
                  go_wp2
                  go_ret
                  exact ⟨rfl, bthen hw hb2⟩
              · obtain rfl : tt = false := by rw [← hT]; simp [hc]
                have qq : (c == c') = false := by simpa using hc
                go_wp2
                go_ret
                exact ⟨rfl, bthen hw hb2⟩
            · obtain rfl : tt = false := by rw [← hT]; simp [ht]
              have qq : (t == t') = false := by simpa using ht
              go_wp2
              go_ret
              exact ⟨rfl, bthen hw hb2⟩
          · obtain rfl : tt = false := by rw [← hT]; simp [hi]
            have qq : (i == i') = false := by simpa using hi
            go_wp2
            go_ret
            exact ⟨rfl, bthen hw hb2⟩
        · obtain rfl : tt = false := by rw [← hT]; simp [he]
          have qq : (e == e') = false := by simpa using he
          go_wp2
          go_ret
          exact ⟨rfl, bthen hw hb2⟩
      · obtain rfl : tt = false := by rw [← hT]; simp [hq]
        have qq : (q == q') = false := by simpa using hq
        go_wp2
        go_ret
        exact ⟨rfl, bthen hw hb2⟩
    · obtain rfl : tt = false := by rw [← hT]; simp [hk]
      have qq : (k == k') = false := by simpa using hk
      go_wp2
      go_ret
      exact ⟨rfl, bthen hw hb2⟩
  · obtain rfl : tt = false := by rw [← hT]; simp [hll]
    have ce := rsame_is LA ln lc l LA' ln' lc' l' _ hl1 hl1' false (by simpa using hll)
    go_enter Try.func17, Try.ntmps17
    go_wp2_with fail
    with_reducible refine ce.mono ?_
    rintro e w2 ⟨rfl, hb2⟩
    go_wp2
    go_ret
    exact ⟨rfl, bthen hw hb2⟩
end Go.Proofs.Ytdchgnmkeefffaa
