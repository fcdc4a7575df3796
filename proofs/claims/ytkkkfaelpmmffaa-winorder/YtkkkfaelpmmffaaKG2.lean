/- What slices.EqualFunc of items comes to. -/
import Derived.Test.YtkkkfaelpmmffaaKG1
import Derived.Test.YtkkkfaelpmmffaaItem7
set_option maxRecDepth 100000
namespace Go.Proofs.Ytkkkfaelpmmffaa
open Go.RowKit
set_option linter.unusedVariables false

set_option maxHeartbeats 1000000 in
theorem eqf_any (A : Option Addr) (n c : Nat) (xs : List Item.It) (B : Option Addr) (m d : Nat) (ys : List Item.It) (w : World) (h : RdX w A n c xs) (h' : RdX w B m d ys) :
    Calls Try.prog 29 #[.slice A n c, .slice B m d, .func (.func 30) #[] #[]] w (BoolIs w (decide (xs = ys))) := by
  have hn := h.le
  have hm := h'.le
  have hlen := h.size
  have hlen' := h'.size
  obtain ⟨t, HT⟩ : ∃ t, Hid (decide (xs = ys) = t) := ⟨_, rfl⟩
  rw [HT.out]
  have H := hidT h
  have H' := hidT h'
  have HL := hidT hlen
  have HL' := hidT hlen'
  clear h h' hlen hlen'
  by_cases hnm : n = m
  · subst hnm
    go_enter Try.func29, Try.ntmps29
    go_wp2
    go_loopw [17] (fun i wr => ∃ j : Nat, j ≤ n ∧ i = .int .i64 j ∧ Hid (xs.take j = ys.take j) ∧ Hid (Below w.heap.size w wr)) (fun i _ => n - (intOf i).toNat)
    case atStart => exact ⟨0, Nat.zero_le _, rfl, hidT (by simp), hidT (Below.refl _ _)⟩
    case round =>
      obtain ⟨j, hj, rfl, HE, HB⟩ := hrel
      by_cases hjn : j < n
      · obtain ⟨b, o, x, LA, ln, lc, BA, bn, bc, rfl, hx, hi, hcs⟩ := H.out.told hjn
        obtain ⟨b', o', x', LA', ln', lc', BA', bn', bc', rfl, hx', hi', hcs'⟩ := H'.out.told hjn
        obtain ⟨c0, c1, c2, c3, c4, c5, c6, c7⟩ := hcs wr HB.out
        obtain ⟨d0, d1, d2, d3, d4, d5, d6, d7⟩ := hcs' (wr.alloc (.cells #[.int .i64 x.k, .int .i64 x.q, .int .i64 x.e, .int .i64 x.i, .int .i64 x.t, .int .i64 x.c, .slice LA ln lc, .slice BA bn bc] 28)) (bthen HB.out (nkeep _ _))
        obtain ⟨t1, t2, t3⟩ := two_alloc wr (.cells #[.int .i64 x.k, .int .i64 x.q, .int .i64 x.e, .int .i64 x.i, .int .i64 x.t, .int .i64 x.c, .slice LA ln lc, .slice BA bn bc] 28) (.cells #[.int .i64 x'.k, .int .i64 x'.q, .int .i64 x'.e, .int .i64 x'.i, .int .i64 x'.t, .int .i64 x'.c, .slice LA' ln' lc', .slice BA' bn' bc'] 28)
        have hcl := fun tt hT => same_is _ _ x x' _ ((hi.below HB.out).below t3) ((hi'.below HB.out).below t3) tt hT
        have x1 : (0 : Int) ≤ (j : Int) := by omega
        have x2 : (j : Int) < (n : Int) := by omega
        have HX := hidT hx
        have HX' := hidT hx'
        have T3 := hidT t3
        obtain ⟨e0, e1, e2, e3, e4, e5, e6, e7⟩ := cells8 t1
        obtain ⟨f0, f1, f2, f3, f4, f5, f6, f7⟩ := cells8 t2
        clear hcs hcs' hi hi' hx hx' t1 t2 t3
        by_cases hxx : x = x'
        · have hc := hcl true (by simpa using hxx)
          have HXX := hidT hxx
          clear hxx hcl
          go_wp2_with fail
          with_reducible refine hc.mono ?_
          rintro e w5 ⟨rfl, hb5⟩
          have HB5 := hidT (bthen HB.out (bthen T3.out hb5))
          clear hb5 hc c0 c1 c2 c3 c4 c5 c6 c7 d0 d1 d2 d3 d4 d5 d6 d7 e0 e1 e2 e3 e4 e5 e6 e7 f0 f1 f2 f3 f4 f5 f6 f7
          go_wp2
          refine ⟨⟨j + 1, by omega, by go_num, hidT ?_, HB5⟩, by simp [intOf]; omega⟩
          rw [List.take_add_one, List.take_add_one, HE.out, HX.out, HX'.out, HXX.out]
        · have hc := hcl false (by simpa using hxx)
          have hf : t = false := by
            rw [← HT.out]
            simp only [decide_eq_false_iff_not]
            intro e
            have h1 := HX.out
            rw [e, HX'.out] at h1
            injection h1 with h1
            exact hxx h1.symm
          have HF := hidT hf
          clear hxx hcl hf
          go_wp2_with fail
          with_reducible refine hc.mono ?_
          rintro e w5 ⟨rfl, hb5⟩
          have HB5 := hidT (bthen HB.out (bthen T3.out hb5))
          clear hb5 hc
          go_wp2
          go_ret
          exact ⟨by rw [HF.out]; rfl, HB5.out⟩
      · obtain rfl : n = j := by omega
        have hf : t = true := by
          rw [← HT.out]
          have e := HE.out
          rw [List.take_of_length_le (by rw [HL.out]; exact Nat.le_refl _), List.take_of_length_le (by rw [HL'.out]; exact Nat.le_refl _)] at e
          simpa using e
        have HF := hidT hf
        clear hf
        go_wp2
        go_ret
        exact ⟨by rw [HF.out]; rfl, HB.out⟩
  · have hf : t = false := by
      rw [← HT.out]
      simp only [decide_eq_false_iff_not]
      intro e
      have h1 := HL.out
      rw [e, HL'.out] at h1
      omega
    have q1 : ((n : Int) != (m : Int)) = true := by simp; omega
    have q2 : (n != m) = true := by simpa using hnm
    have q3 : (n == m) = false := by simpa using hnm
    subst hf
    go_enter Try.func29, Try.ntmps29
    go_wp2
    go_ret
    exact ⟨rfl, Below.refl _ _⟩
theorem kp_eq {a b : Keep.Kp} : a = b ↔ a.next = b.next ∧ a.l = b.l := by
  cases a; cases b; simp
end Go.Proofs.Ytkkkfaelpmmffaa
