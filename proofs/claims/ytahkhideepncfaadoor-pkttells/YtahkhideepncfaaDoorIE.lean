import Derived.Test.YtahkhideepncfaaDoorID
import Derived.Test.YtahkhideepncfaaDoorNB
import Derived.Test.YtahkhideepncfaaDoorBA
set_option maxRecDepth 100000
/- What slices.Equal at ints, bytes.Equal and item.Same come to, and the document's Same. (Written by wip/gen/item6.py.) -/
namespace Go.Proofs.YtahkhideepncfaaDoor
open Go.RowKit
set_option linter.unusedVariables false

set_option maxHeartbeats 400000 in
theorem equal_any (A : Option Addr) (n c : Nat) (a : List Int) (B : Option Addr) (m d : Nat) (b : List Int) (w : World) (ha : RdI w A n c a) (hb : RdI w B m d b) :
    Calls Tryd.prog 33 #[.slice A n c, .slice B m d] w fun e w' => e = .returned (.bool (decide (a = b))) ∧ ∃ k, w' = w.drewN k := by
  have hn := RdV.le ha
  have hla := RdI.size ha
  have hlb := RdI.size hb
  by_cases hnm : n = m
  · subst hnm
    have HA := hidT hla
    have HB := hidT hlb
    clear hla hlb
    go_enter Tryd.func33, Tryd.ntmps33
    go_wp2
    go_loopw [13] (fun i w' => ∃ j : Nat, j ≤ n ∧ i = .int .i64 j ∧ Hid (a.take j = b.take j) ∧ ∃ k, w' = w.drewN k) (fun i _ => n - (intOf i).toNat)
    case atStart => exact ⟨0, Nat.zero_le _, rfl, hidT rfl, 0, rfl⟩
    case round =>
      obtain ⟨j, hj, rfl, HT, kk, rfl⟩ := hrel
      by_cases hjn : j < n
      · obtain ⟨b1, o1, x, rfl, hx, hcx⟩ := RdI.at_ ha hjn
        obtain ⟨b2, o2, y, rfl, hy, hcy⟩ := RdI.at_ hb hjn
        have HX := hidT hx
        have HY := hidT hy
        clear hx hy
        by_cases hxy : x = y
        · subst hxy
          go_wp2
          go_quiet (fail)
          go_wp2
          exact ⟨⟨j + 1, by omega, by go_num, hidT (take_snocI HX.out HY.out HT.out), _, rfl⟩, by simp [intOf]; omega⟩
        · have q1 : (x != y) = true := by simpa using hxy
          have q2 : (x == y) = false := by simpa using hxy
          go_wp2
          go_quiet (fail)
          have HD := hidT (take_ne HX.out HY.out hxy)
          go_wp2
          go_ret
          rw [HD.out]
          exact ⟨rfl, _, World.drewN_drewN _ _ _⟩
      · obtain rfl : j = n := by omega
        have HD : Hid (decide (a = b) = true) := by
          have h1 := HT.out
          rw [List.take_of_length_le (by rw [HA.out]; omega), List.take_of_length_le (by rw [HB.out]; omega)] at h1
          exact hidT (by simpa using h1)
        go_wp2
        go_ret
        rw [HD.out]
        exact ⟨rfl, _, rfl⟩
  · have HD : Hid (decide (a = b) = false) := by
      refine hidT ?_
      rw [decide_eq_false_iff_not]
      rintro rfl
      omega
    have q1 : ((n : Int) != (m : Int)) = true := by simp; omega
    have q2 : ((n : Int) == (m : Int)) = false := by simp; omega
    have q3 : (n == m) = false := by simpa using hnm
    have q4 : (n != m) = true := by simpa using hnm
    clear hla hlb
    go_enter Tryd.func33, Tryd.ntmps33
    go_wp2
    go_ret
    rw [HD.out]
    exact ⟨rfl, 0, rfl⟩

theorem equal_is (A : Option Addr) (n c : Nat) (a : List Int) (B : Option Addr) (m d : Nat) (b : List Int) (w : World) (ha : RdI w A n c a) (hb : RdI w B m d b) (t : Bool) (ht : decide (a = b) = t) :
    Calls Tryd.prog 33 #[.slice A n c, .slice B m d] w fun e w' => e = .returned (.bool t) ∧ Below w.heap.size w w' := by
  refine (equal_any A n c a B m d b w ha hb).mono ?_
  rintro e w' ⟨rfl, k, rfl⟩
  rw [ht]
  exact ⟨rfl, drawn_below _ _⟩


theorem bytesEqual_is (A : Option Addr) (n c : Nat) (a : List UInt8) (B : Option Addr) (m d : Nat) (b : List UInt8) (w : World) (ha : Rd w A n c a) (hb : Rd w B m d b) (t : Bool) (ht : decide (a = b) = t) :
    Calls Tryd.prog 55 #[.slice A n c, .slice B m d] w (JustIs w t) := by
  have s1 := strs ha w (Below.refl _ _)
  have s2 := strs hb w (Below.refl _ _)
  have q := str_beq a b
  rw [ht] at q
  clear ha hb ht
  cases t
  all_goals
    go_enter Tryd.func55, Tryd.ntmps55
    go_wp2
    go_ret
    exact ⟨rfl, rfl⟩

theorem two_alloc (w : World) (o0 o1 : Obj) : ((w.alloc o0).alloc o1).heap[w.heap.size]? = some o0 ∧ ((w.alloc o0).alloc o1).heap[w.heap.size + 1]? = some o1 ∧ Below w.heap.size w ((w.alloc o0).alloc o1) :=
  ⟨by rw [alloc_old _ _ _ (by simp only [size_alloc]; omega)]; exact alloc_at _ _ _ rfl, alloc_at _ _ _ (by simp only [size_alloc]), ((Below.refl _ _).alloc (Nat.le_refl _) _).alloc (by simp only [size_alloc]; omega) _⟩
end Go.Proofs.YtahkhideepncfaaDoor
/- What item.Same comes to. (Written by wip/gen/item6.py.) -/
namespace Go.Proofs.YtahkhideepncfaaDoor
open Go.RowKit
set_option linter.unusedVariables false

set_option maxHeartbeats 2000000 in
theorem same_is (u v : Value) (x y : Item.It) (w : World) (hu : IsItem w u x) (hv : IsItem w v y) (tt : Bool) (hT : decide (x = y) = tt) :
    Calls Tryd.prog 32 #[u, v] w (BoolIs w tt) := by
  obtain ⟨LA, ln, lc, BA, bn, bc, rfl, hl, hb⟩ := hu
  obtain ⟨LA', ln', lc', BA', bn', bc', rfl, hl', hb'⟩ := hv
  obtain ⟨k, q, e, i, t, c, l, b⟩ := x
  obtain ⟨k', q', e', i', t', c', l', b'⟩ := y
  dsimp only at hl hb hl' hb' ⊢
  have hd := two_alloc w (.cells #[.int .i64 k, .int .i64 q, .int .i64 e, .int .i64 i, .int .i64 t, .int .i64 c, .slice LA ln lc, .slice BA bn bc] 25) (.cells #[.int .i64 k', .int .i64 q', .int .i64 e', .int .i64 i', .int .i64 t', .int .i64 c', .slice LA' ln' lc', .slice BA' bn' bc'] 25)
  obtain ⟨g0, g1, hw⟩ := hd
  have c0 := cell_at g0 0 rfl
  have d0 := cell_at g1 0 rfl
  have c1 := cell_at g0 1 rfl
  have d1 := cell_at g1 1 rfl
  have c2 := cell_at g0 2 rfl
  have d2 := cell_at g1 2 rfl
  have c3 := cell_at g0 3 rfl
  have d3 := cell_at g1 3 rfl
  have c4 := cell_at g0 4 rfl
  have d4 := cell_at g1 4 rfl
  have c5 := cell_at g0 5 rfl
  have d5 := cell_at g1 5 rfl
  have c6 := cell_at g0 6 rfl
  have d6 := cell_at g1 6 rfl
  have c7 := cell_at g0 7 rfl
  have d7 := cell_at g1 7 rfl
  have hl1 := RdV.below hl hw
  have hl1' := RdV.below hl' hw
  have hb1 := hb.below hw
  have hb1' := hb'.below hw
  clear g0 g1 hl hl' hb hb'
  have HL := hidT hl1'
  by_cases hk : k = k'
  · subst hk
    by_cases hq : q = q'
    · subst hq
      by_cases he : e = e'
      · subst he
        by_cases hi : i = i'
        · subst hi
          by_cases ht : t = t'
          · subst ht
            by_cases hc : c = c'
            · subst hc
              by_cases hll : l = l'
              · subst hll
                have ce := equal_is LA ln lc l LA' ln' lc' l _ hl1 hl1' true (by simp)
                have cb : ∀ w2, Below _ _ w2 → _ := fun w2 hb2 => bytesEqual_is BA bn bc b BA' bn' bc' b' w2 (hb1.below hb2) (hb1'.below hb2) tt (by rw [← hT]; simp)
                clear hl1 hl1' HL
                go_enter Tryd.func32, Tryd.ntmps32
                go_wp2_with fail
                with_reducible refine ce.mono ?_
                rintro e w2 ⟨rfl, hb2⟩
                have c7w := keepC hb2 c7
                have d7w := keepC hb2 d7
                have cb2 := cb w2 hb2
                clear cb ce
                go_wp2_with fail
                with_reducible refine cb2.mono ?_
                rintro e w3 ⟨rfl, rfl⟩
                go_wp2
                go_ret
                exact ⟨rfl, bthen hw hb2⟩
              · obtain rfl : tt = false := by rw [← hT]; simp [hll]
                have ce := equal_is LA ln lc l LA' ln' lc' l' _ hl1 hl1' false (by simpa using hll)
                go_enter Tryd.func32, Tryd.ntmps32
                go_wp2_with fail
                with_reducible refine ce.mono ?_
                rintro e w2 ⟨rfl, hb2⟩
                go_wp2
                go_ret
                exact ⟨rfl, bthen hw hb2⟩
            · obtain rfl : tt = false := by rw [← hT]; simp [hc]
              have qq : (c == c') = false := by simpa using hc
              go_enter Tryd.func32, Tryd.ntmps32
              go_wp2
              go_ret
              exact ⟨rfl, hw⟩
          · obtain rfl : tt = false := by rw [← hT]; simp [ht]
            have qq : (t == t') = false := by simpa using ht
            go_enter Tryd.func32, Tryd.ntmps32
            go_wp2
            go_ret
            exact ⟨rfl, hw⟩
        · obtain rfl : tt = false := by rw [← hT]; simp [hi]
          have qq : (i == i') = false := by simpa using hi
          go_enter Tryd.func32, Tryd.ntmps32
          go_wp2
          go_ret
          exact ⟨rfl, hw⟩
      · obtain rfl : tt = false := by rw [← hT]; simp [he]
        have qq : (e == e') = false := by simpa using he
        go_enter Tryd.func32, Tryd.ntmps32
        go_wp2
        go_ret
        exact ⟨rfl, hw⟩
    · obtain rfl : tt = false := by rw [← hT]; simp [hq]
      have qq : (q == q') = false := by simpa using hq
      go_enter Tryd.func32, Tryd.ntmps32
      go_wp2
      go_ret
      exact ⟨rfl, hw⟩
  · obtain rfl : tt = false := by rw [← hT]; simp [hk]
    have qq : (k == k') = false := by simpa using hk
    go_enter Tryd.func32, Tryd.ntmps32
    go_wp2
    go_ret
    exact ⟨rfl, hw⟩
end Go.Proofs.YtahkhideepncfaaDoor
/- What the document's Same comes to. (Written by wip/gen/item6.py.) -/
namespace Go.Proofs.YtahkhideepncfaaDoor
open Go.RowKit
set_option linter.unusedVariables false

set_option maxHeartbeats 2000000 in
theorem rsameI_is (u v : Value) (x y : Item.It) (w : World) (hu : IsItem w u x) (hv : IsItem w v y) (tt : Bool) (hT : decide (x = y) = tt) :
    Calls Tryd.prog 30 #[u, v] w (BoolIs w tt) := by
  obtain ⟨LA, ln, lc, BA, bn, bc, rfl, hl, hb⟩ := hu
  obtain ⟨LA', ln', lc', BA', bn', bc', rfl, hl', hb'⟩ := hv
  obtain ⟨k, q, e, i, t, c, l, b⟩ := x
  obtain ⟨k', q', e', i', t', c', l', b'⟩ := y
  dsimp only at hl hb hl' hb' ⊢
  have hd := two_alloc w (.cells #[.int .i64 k, .int .i64 q, .int .i64 e, .int .i64 i, .int .i64 t, .int .i64 c, .slice LA ln lc, .slice BA bn bc] 25) (.cells #[.int .i64 k', .int .i64 q', .int .i64 e', .int .i64 i', .int .i64 t', .int .i64 c', .slice LA' ln' lc', .slice BA' bn' bc'] 25)
  obtain ⟨g0, g1, hw⟩ := hd
  have c0 := cell_at g0 0 rfl
  have d0 := cell_at g1 0 rfl
  have c1 := cell_at g0 1 rfl
  have d1 := cell_at g1 1 rfl
  have c2 := cell_at g0 2 rfl
  have d2 := cell_at g1 2 rfl
  have c3 := cell_at g0 3 rfl
  have d3 := cell_at g1 3 rfl
  have c4 := cell_at g0 4 rfl
  have d4 := cell_at g1 4 rfl
  have c5 := cell_at g0 5 rfl
  have d5 := cell_at g1 5 rfl
  have c6 := cell_at g0 6 rfl
  have d6 := cell_at g1 6 rfl
  have c7 := cell_at g0 7 rfl
  have d7 := cell_at g1 7 rfl
  have hl1 := RdV.below hl hw
  have hl1' := RdV.below hl' hw
  have hb1 := hb.below hw
  have hb1' := hb'.below hw
  clear g0 g1 hl hl' hb hb'
  have HL := hidT hl1'
  by_cases hll : l = l'
  · subst hll
    have ce := rsame_is LA ln lc l LA' ln' lc' l _ hl1 hl1' true (by simp)
    have s1 := strs hb1
    have s2 := strs hb1'
    have qb := str_beq b b'
    clear hl1 hl1' HL hb1 hb1'
    go_enter Tryd.func30, Tryd.ntmps30
    go_wp2_with fail
    with_reducible refine ce.mono ?_
    rintro e w2 ⟨rfl, hb2⟩
    have c0w := keepC hb2 c0
    have c1w := keepC hb2 c1
    have c2w := keepC hb2 c2
    have c3w := keepC hb2 c3
    have c4w := keepC hb2 c4
    have c5w := keepC hb2 c5
    have c7w := keepC hb2 c7
    have d0w := keepC hb2 d0
    have d1w := keepC hb2 d1
    have d2w := keepC hb2 d2
    have d3w := keepC hb2 d3
    have d4w := keepC hb2 d4
    have d5w := keepC hb2 d5
    have d7w := keepC hb2 d7
    have s1w := s1 w2 hb2
    have s2w := s2 w2 hb2
    clear s1 s2 ce c0 c1 c2 c3 c4 c5 c6 c7 d0 d1 d2 d3 d4 d5 d6 d7
    by_cases hk : k = k'
    · subst hk
      by_cases hq : q = q'
      · subst hq
        by_cases he : e = e'
        · subst he
          by_cases hi : i = i'
          · subst hi
            by_cases ht : t = t'
            · subst ht
              by_cases hc : c = c'
              · subst hc
                have et : decide (b = b') = tt := by rw [← hT]; simp
                rw [et] at qb
                clear et
                cases tt
                all_goals
                  go_wp2
                  go_ret
                  exact ⟨rfl, bthen hw hb2⟩
              · obtain rfl : tt = false := by rw [← hT]; simp [hc]
                have qq : (c == c') = false := by simpa using hc
                go_wp2
                go_ret
                exact ⟨rfl, bthen hw hb2⟩
            · obtain rfl : tt = false := by rw [← hT]; simp [ht]
              have qq : (t == t') = false := by simpa using ht
              go_wp2
              go_ret
              exact ⟨rfl, bthen hw hb2⟩
          · obtain rfl : tt = false := by rw [← hT]; simp [hi]
            have qq : (i == i') = false := by simpa using hi
            go_wp2
            go_ret
            exact ⟨rfl, bthen hw hb2⟩
        · obtain rfl : tt = false := by rw [← hT]; simp [he]
          have qq : (e == e') = false := by simpa using he
          go_wp2
          go_ret
          exact ⟨rfl, bthen hw hb2⟩
      · obtain rfl : tt = false := by rw [← hT]; simp [hq]
        have qq : (q == q') = false := by simpa using hq
        go_wp2
        go_ret
        exact ⟨rfl, bthen hw hb2⟩
    · obtain rfl : tt = false := by rw [← hT]; simp [hk]
      have qq : (k == k') = false := by simpa using hk
      go_wp2
      go_ret
      exact ⟨rfl, bthen hw hb2⟩
  · obtain rfl : tt = false := by rw [← hT]; simp [hll]
    have ce := rsame_is LA ln lc l LA' ln' lc' l' _ hl1 hl1' false (by simpa using hll)
    go_enter Tryd.func30, Tryd.ntmps30
    go_wp2_with fail
    with_reducible refine ce.mono ?_
    rintro e w2 ⟨rfl, hb2⟩
    go_wp2
    go_ret
    exact ⟨rfl, bthen hw hb2⟩
end Go.Proofs.YtahkhideepncfaaDoor
/- An item that came in, opened to its parts. -/
namespace Go.Proofs.YtahkhideepncfaaDoor
open Go.RowKit Go.ChangeShapes Go.WideShapes Go.ChangeAt
set_option linter.unusedVariables false

theorem item_open {W : World} {r : Reach} {b0 : Nat} {v : Value} (o : Value.okWide Tryd.prog W r b0 25 v) (h : Tr Tryd.prog W 25 v.cells.toList) : ∃ x, IsItem W v x := by
  have c25 : Tryd.prog.cellsOf 25 = 8 := by kernel_rfl
  obtain ⟨cs, rfl, hsz⟩ := okWide_struct Tryd.underlying25 o
  obtain ⟨l⟩ := cs
  obtain ⟨_, hall⟩ := h.struct Tryd.underlying25
  match l, hsz.trans c25 with
  | [v0, v1, v2, v3, v4, v5, v6, v7], _ =>
    have h0 := hall 0 _ rfl
    have h1 := hall 1 _ rfl
    have h2 := hall 2 _ rfl
    have h3 := hall 3 _ rfl
    have h4 := hall 4 _ rfl
    have h5 := hall 5 _ rfl
    have h6 := hall 6 _ rfl
    have h7 := hall 7 _ rfl
    simp only [Value.cells] at h0 h1 h2 h3 h4 h5 h6 h7
    obtain ⟨k, e0, _⟩ := h0.int Tryd.underlying3
    obtain ⟨q, e1, _⟩ := h1.int Tryd.underlying3
    obtain ⟨e, e2, _⟩ := h2.int Tryd.underlying3
    obtain ⟨i, e3, _⟩ := h3.int Tryd.underlying3
    obtain ⟨t, e4, _⟩ := h4.int Tryd.underlying3
    obtain ⟨c, e5, _⟩ := h5.int Tryd.underlying3
    obtain ⟨LA, ln, lc, L, e6, rl⟩ := h6.ints Tryd.underlying22 Tryd.underlying3 (by kernel_rfl)
    obtain ⟨BA, bn, bc, B, e7, rb⟩ := h7.bytes Tryd.underlying23 Tryd.underlying5 (by kernel_rfl)
    injection e0 with e0
    injection e1 with e1
    injection e2 with e2
    injection e3 with e3
    injection e4 with e4
    injection e5 with e5
    injection e6 with e6
    injection e7 with e7
    subst e0 e1 e2 e3 e4 e5 e6 e7
    exact ⟨⟨k, q, e, i, t, c, L, B⟩, LA, ln, lc, BA, bn, bc, rfl, rl, rb⟩
theorem bytes_open {W : World} {r : Reach} {b0 : Nat} {v : Value} (o : Value.okWide Tryd.prog W r b0 23 v) (h : Tr Tryd.prog W 23 v.cells.toList) : ∃ A n c l, v = .slice A n c ∧ Rd W A n c l := by
  obtain ⟨a, m, c, rfl⟩ := okWide_slice Tryd.underlying23 o
  obtain ⟨A, m', d, l, ha, hr⟩ := h.bytes Tryd.underlying23 Tryd.underlying5 (by kernel_rfl)
  obtain ⟨rfl, rfl, rfl⟩ : a = A ∧ m = m' ∧ c = d := by simpa [Value.cells] using ha
  exact ⟨a, m, c, l, rfl, hr⟩
end Go.Proofs.YtahkhideepncfaaDoor
