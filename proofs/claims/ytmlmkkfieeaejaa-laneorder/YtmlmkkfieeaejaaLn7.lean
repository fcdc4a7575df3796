/- What sameEntry, slices.EqualFunc of entries, and Same come to. -/
import Derived.Test.YtmlmkkfieeaejaaLn1
import Derived.Test.YtmlmkkfieeaejaaLF1
set_option maxRecDepth 100000
namespace Go.Proofs.Ytmlmkkfieeaejaa
open Go.RowKit
set_option linter.unusedVariables false

set_option maxHeartbeats 2000000 in
theorem sameEntry_any {S S' : Nat → Prop} (u v : Value) (x y : Lane.En) (w : World) (hu : IsEn S w u x) (hv : IsEn S' w v y) (t : Bool) (ht : decide (x = y) = t) : Calls Try.prog 41 #[u, v] w (BoolIs w t) := by
  obtain ⟨BA, bn, bc, LA, ln, lc, rfl, hb, hl, _, _⟩ := hu
  obtain ⟨BA', bn', bc', LA', ln', lc', rfl, hb', hl', _, _⟩ := hv
  obtain ⟨k, q, b, l, h⟩ := x
  obtain ⟨k', q', b', l', h'⟩ := y
  dsimp only at hl hb hl' hb' ⊢
  have HT := hidT ht
  obtain ⟨g0, g1, hw⟩ := two_alloc w (.cells #[.int .i64 k, .int .i64 q, .slice BA bn bc, .slice LA ln lc, .bool h] 33) (.cells #[.int .i64 k', .int .i64 q', .slice BA' bn' bc', .slice LA' ln' lc', .bool h'] 33)
  obtain ⟨c0, c1, c2, c3, c4⟩ := cells5 g0
  obtain ⟨d0, d1, d2, d3, d4⟩ := cells5 g1
  have hl1 := RdV.below hl hw
  have hl1' := RdV.below hl' hw
  have hb1 := hb.below hw
  have hb1' := hb'.below hw
  have HW := hidT hw
  obtain ⟨W, hWW⟩ : ∃ W, (w.alloc (.cells #[.int .i64 k, .int .i64 q, .slice BA bn bc, .slice LA ln lc, .bool h] 33)).alloc (.cells #[.int .i64 k', .int .i64 q', .slice BA' bn' bc', .slice LA' ln' lc', .bool h'] 33) = W := ⟨_, rfl⟩
  have HWW := hidT hWW
  have G0 := hidT g0
  have G1 := hidT g1
  rw [hWW] at hl1 hl1' hb1 hb1' HW
  clear g0 g1 hl hl' hb hb' hw ht hWW
  by_cases e1 : k = k'
  · subst e1
    by_cases e2 : q = q'
    · subst e2
      by_cases e3 : h = h'
      · subst e3
        have hr : decide ((⟨k, q, b, l, h⟩ : Lane.En) = ⟨k, q, b', l', h⟩) = (decide (b = b') && decide (l = l')) := by
          rw [Bool.eq_iff_iff]; simp [Lane.En.mk.injEq]
        rw [hr] at HT
        have q3 : (h == h) = true := by simp
        cases e4 : decide (b = b') with
        | false =>
          have hc := bytesEqual_is BA bn bc b BA' bn' bc' b' W hb1 hb1' false e4
          rw [e4, Bool.false_and] at HT
          obtain rfl : false = t := HT.out
          clear hr e4
          rw [← HWW.out] at hc
          go_enter Try.func41, Try.ntmps41
          go_wp2_with fail
          with_reducible refine hc.mono ?_
          rintro e w5 ⟨rfl, rfl⟩
          rw [HWW.out]
          go_wp2
          go_ret
          exact ⟨rfl, HW.out⟩
        | true =>
          have hc := bytesEqual_is BA bn bc b BA' bn' bc' b' W hb1 hb1' true e4
          rw [e4, Bool.true_and] at HT
          have hd := equal_is LA ln lc l LA' ln' lc' l' W hl1 hl1' t HT.out
          clear hr e4
          rw [← HWW.out] at hc hd
          go_enter Try.func41, Try.ntmps41
          go_wp2_with fail
          with_reducible refine hc.mono ?_
          rintro e w5 ⟨rfl, rfl⟩
          go_wp2_with fail
          with_reducible refine hd.mono ?_
          rintro e w6 ⟨rfl, hb6⟩
          rw [HWW.out] at hb6
          go_wp2
          go_ret
          exact ⟨rfl, bthen HW.out hb6⟩
      · have q3 : (h == h') = false := by simpa using e3
        obtain rfl : false = t := by rw [← HT.out]; symm; simp [e3]
        clear e3 hl1 hl1' hb1 hb1'
        go_enter Try.func41, Try.ntmps41
        go_wp2
        rw [HWW.out]
        go_ret
        exact ⟨rfl, HW.out⟩
    · have q2 : (q == q') = false := by simpa using e2
      obtain rfl : false = t := by rw [← HT.out]; symm; simp [e2]
      clear e2 hl1 hl1' hb1 hb1'
      go_enter Try.func41, Try.ntmps41
      go_wp2
      rw [HWW.out]
      go_ret
      exact ⟨rfl, HW.out⟩
  · have q1 : (k == k') = false := by simpa using e1
    obtain rfl : false = t := by rw [← HT.out]; symm; simp [e1]
    clear e1 hl1 hl1' hb1 hb1'
    go_enter Try.func41, Try.ntmps41
    go_wp2
    rw [HWW.out]
    go_ret
    exact ⟨rfl, HW.out⟩

set_option maxHeartbeats 4000000 in
theorem eqf_any {S S' : Nat → Prop} (A : Option Addr) (n c : Nat) (xs : List Lane.En) (B : Option Addr) (m d : Nat) (ys : List Lane.En) (w : World) (h : RdE S w A n c xs) (h' : RdE S' w B m d ys) (t : Bool) (ht : decide (xs = ys) = t) :
    Calls Try.prog 40 #[.slice A n c, .slice B m d, .func (.func 41) #[] #[]] w (BoolIs w t) := by
  have hn := h.le
  have hm := h'.le
  have hlen := h.size
  have hlen' := h'.size
  have HT := hidT ht
  have H := hidT h
  have H' := hidT h'
  have HL := hidT hlen
  have HL' := hidT hlen'
  clear h h' hlen hlen' ht
  by_cases hnm : n = m
  · subst hnm
    go_enter Try.func40, Try.ntmps40
    go_wp2
    go_loopw [17] (fun i wr => ∃ j : Nat, j ≤ n ∧ i = .int .i64 j ∧ Hid (xs.take j = ys.take j) ∧ Hid (Below w.heap.size w wr)) (fun i _ => n - (intOf i).toNat)
    case atStart => exact ⟨0, Nat.zero_le _, rfl, hidT (by simp), hidT (Below.refl _ _)⟩
    case round =>
      obtain ⟨j, hj, rfl, HE, HB⟩ := hrel
      by_cases hjn : j < n
      · obtain ⟨b, o, x, BA, bn, bc, LA, ln, lc, rfl, hx, hrb, hrl, hwb, hwl, hcs⟩ := H.out.told hjn
        obtain ⟨b', o', y, BA', bn', bc', LA', ln', lc', rfl, hy, hrb', hrl', hwb', hwl', hcs'⟩ := H'.out.told hjn
        have x1 : (0 : Int) ≤ (j : Int) := by omega
        have x2 : (j : Int) < (n : Int) := by omega
        have HX := hidT hx
        have HY := hidT hy
        have hno : x ≠ y → false = t := fun hxy => by
          rw [← HT.out]; symm
          simp only [decide_eq_false_iff_not]
          intro e
          have h1 := HX.out
          rw [e, HY.out] at h1
          injection h1 with h1
          exact hxy h1.symm
        have hgo : x = y → xs.take (j + 1) = ys.take (j + 1) := fun hxy => by rw [List.take_add_one, List.take_add_one, HE.out, HX.out, HY.out, hxy]
        have HNO := hidT hno
        have HGO := hidT hgo
        clear hx hy hno hgo
        obtain ⟨c0, c1, c2, c3, c4⟩ := hcs wr HB.out
        obtain ⟨d0, d1, d2, d3, d4⟩ := hcs' (wr.alloc (.cells #[.int .i64 x.k, .int .i64 x.q, .slice BA bn bc, .slice LA ln lc, .bool x.h] 33)) (bthen HB.out (nkeep _ _))
        obtain ⟨t1, t2, t3⟩ := two_alloc wr (.cells #[.int .i64 x.k, .int .i64 x.q, .slice BA bn bc, .slice LA ln lc, .bool x.h] 33) (.cells #[.int .i64 y.k, .int .i64 y.q, .slice BA' bn' bc', .slice LA' ln' lc', .bool y.h] 33)
        have hi : IsEn S w (.agg #[.int .i64 x.k, .int .i64 x.q, .slice BA bn bc, .slice LA ln lc, .bool x.h]) x := ⟨BA, bn, bc, LA, ln, lc, rfl, hrb, hrl, hwb, hwl⟩
        have hi' : IsEn S' w (.agg #[.int .i64 y.k, .int .i64 y.q, .slice BA' bn' bc', .slice LA' ln' lc', .bool y.h]) y := ⟨BA', bn', bc', LA', ln', lc', rfl, hrb', hrl', hwb', hwl'⟩
        have hcl := fun tt hT => sameEntry_any _ _ x y _ ((hi.below HB.out).below t3) ((hi'.below HB.out).below t3) tt hT
        have T3 := hidT t3
        obtain ⟨e0, e1, e2, e3, e4⟩ := cells5 t1
        obtain ⟨f0, f1, f2, f3, f4⟩ := cells5 t2
        clear hcs hcs' hi hi' hrb hrl hwb hwl hrb' hrl' hwb' hwl' t1 t2 t3
        by_cases hxx : x = y
        · have hc := hcl true (by simpa using hxx)
          have hgo := hidT (HGO.out hxx)
          clear hxx hcl
          go_wp2_with fail
          with_reducible refine hc.mono ?_
          rintro e w5 ⟨rfl, hb5⟩
          have HB5 := hidT (bthen HB.out (bthen T3.out hb5))
          clear hb5 hc c0 c1 c2 c3 c4 d0 d1 d2 d3 d4 e0 e1 e2 e3 e4 f0 f1 f2 f3 f4
          go_wp2
          exact ⟨⟨j + 1, by omega, by go_num, hgo, HB5⟩, by simp [intOf]; omega⟩
        · have hc := hcl false (by simpa using hxx)
          obtain rfl := HNO.out hxx
          clear hxx hcl
          go_wp2_with fail
          with_reducible refine hc.mono ?_
          rintro e w5 ⟨rfl, hb5⟩
          have HB5 := hidT (bthen HB.out (bthen T3.out hb5))
          clear hb5 hc
          go_wp2
          go_ret
          exact ⟨rfl, HB5.out⟩
      · obtain rfl : n = j := by omega
        obtain rfl : true = t := by
          rw [← HT.out]; symm
          have e := HE.out
          rw [List.take_of_length_le (by rw [HL.out]; exact Nat.le_refl _), List.take_of_length_le (by rw [HL'.out]; exact Nat.le_refl _)] at e
          simpa using e
        go_wp2
        go_ret
        exact ⟨rfl, HB.out⟩
  · obtain rfl : false = t := by
      rw [← HT.out]; symm
      simp only [decide_eq_false_iff_not]
      intro e
      have h1 := HL.out
      rw [e, HL'.out] at h1
      omega
    have q1 : ((n : Int) != (m : Int)) = true := by simp; omega
    have q2 : (n != m) = true := by simpa using hnm
    have q3 : (n == m) = false := by simpa using hnm
    go_enter Try.func40, Try.ntmps40
    go_wp2
    go_ret
    exact ⟨rfl, Below.refl _ _⟩

theorem ln_eq {a b : Lane.Ln} : decide (a = b) = (decide (a.es = b.es) && decide (a.p = b.p)) := by
  cases a; cases b; rw [Bool.eq_iff_iff]; simp [Lane.Ln.mk.injEq]
set_option maxHeartbeats 2000000 in
theorem same_any {S S' : Nat → Prop} (u v : Value) (l o : Lane.Ln) (w : World) (h : IsLane S w u l) (h' : IsLane S' w v o) (t : Bool) (ht : decide (l = o) = t) : Calls Try.prog 13 #[u, v] w (BoolIs w t) := by
  obtain ⟨A, n, c, B, m, d, rfl, hE, hB, _⟩ := h
  obtain ⟨A', n', c', B', m', d', rfl, hE', hB', _⟩ := h'
  obtain ⟨g0, g1, hw⟩ := two_alloc w (.cells #[.slice A n c, .int .i64 l.p.seq, .int .i64 l.p.total, .int .i64 l.p.got, .slice B m d] 27) (.cells #[.slice A' n' c', .int .i64 o.p.seq, .int .i64 o.p.total, .int .i64 o.p.got, .slice B' m' d'] 27)
  obtain ⟨W, hWW⟩ : ∃ W, (w.alloc (.cells #[.slice A n c, .int .i64 l.p.seq, .int .i64 l.p.total, .int .i64 l.p.got, .slice B m d] 27)).alloc (.cells #[.slice A' n' c', .int .i64 o.p.seq, .int .i64 o.p.total, .int .i64 o.p.got, .slice B' m' d'] 27) = W := ⟨_, rfl⟩
  have HWW := hidT hWW
  rw [hWW] at g0 g1 hw
  have hcl := fun tt hT => eqf_any A n c l.es A' n' c' o.es W (hE.below hw) (hE'.below hw) tt hT
  obtain ⟨g, hg⟩ : ∃ g, w.heap.size = g := ⟨_, rfl⟩
  rw [hg] at g0 g1
  have HW := hidT hw
  have G0 := hidT g0
  have G1 := hidT g1
  have HBB := hidT (hB.below hw)
  have HBB' := hidT (hB'.below hw)
  rw [ln_eq] at ht
  obtain ⟨c0, c1, c2, c3, c4⟩ := cells5 g0
  obtain ⟨d0, d1, d2, d3, d4⟩ := cells5 g1
  rw [← HWW.out] at c0 c1 c2 c3 c4 d0 d1 d2 d3 d4
  clear hE hE' hB hB' g0 g1 hw hWW
  cases hu : decide (l.es = o.es) with
  | false =>
    have hc := hcl false hu
    rw [hu, Bool.false_and] at ht
    subst ht
    clear hu hcl
    go_enter Try.func13, Try.ntmps13
    go_wp2_with fail
    rw [HWW.out]
    with_reducible refine hc.mono ?_
    rintro e w5 ⟨rfl, hb5⟩
    go_wp2
    go_ret
    exact ⟨rfl, bthen HW.out hb5⟩
  | true =>
    have hc := hcl true hu
    rw [hu, Bool.true_and] at ht
    have HT := hidT ht
    clear hu hcl ht
    go_enter Try.func13, Try.ntmps13
    go_wp2_with fail
    rw [HWW.out]
    clear hg c0 c1 c2 c3 c4 d0 d1 d2 d3 d4
    with_reducible refine hc.mono ?_
    rintro e w5 ⟨rfl, hb5⟩
    obtain ⟨c0, c1, c2, c3, c4⟩ := cells5 (keepH G0.out hb5)
    obtain ⟨d0, d1, d2, d3, d4⟩ := cells5 (keepH G1.out hb5)
    have hd : Calls Try.prog 38 #[.agg #[.int .i64 l.p.seq, .int .i64 l.p.total, .int .i64 l.p.got, .slice B m d], .agg #[.int .i64 o.p.seq, .int .i64 o.p.total, .int .i64 o.p.got, .slice B' m' d']] w5 (Says w5 t) := fsame_any l.p o.p B m d B' m' d' w5 (HBB.out.below hb5) (HBB'.out.below hb5) t HT.out
    go_wp2_with fail
    with_reducible refine hd.mono ?_
    rintro e w6 ⟨rfl, hb6⟩
    go_wp2
    go_ret
    exact ⟨rfl, bthen (bthen HW.out hb5) hb6⟩
end Go.Proofs.Ytmlmkkfieeaejaa
