/- What the document's own Few and Items come to. -/
import Derived.Test.YtkkkfaelpmmffaaKG1
import Derived.Test.YtkkkfaelpmmffaaRefItem1
import Derived.Test.YtkkkfaelpmmffaaRefItem3
set_option maxRecDepth 100000
namespace Go.Proofs.Ytkkkfaelpmmffaa
open Go.RowKit
set_option linter.unusedVariables false

def fewI (x : Item.It) : Bool := decide (x.l.length ≤ 80) && decide (x.b.length ≤ 1100)
def fewK (xs : List Item.It) : Bool := decide (xs.length ≤ 80) && xs.all fewI
theorem fewK_small {xs : List Item.It} (h : fewK xs = true) : SmallL xs := by
  simp only [fewK, Bool.and_eq_true, decide_eq_true_eq, List.all_eq_true, fewI] at h
  exact ⟨by omega, fun x hx => by have := h.2 x hx; omega⟩
set_option maxHeartbeats 1000000 in
theorem fewK_is (A : Option Addr) (n c : Nat) (xs : List Item.It) (w : World) (h : RdX w A n c xs) : Calls Try.prog 9 #[.slice A n c] w (BoolIs w (fewK xs)) := by
  have hn := h.le
  have hlen := h.size
  obtain ⟨t, HT⟩ : ∃ t, Hid (fewK xs = t) := ⟨_, rfl⟩
  rw [HT.out]
  have H := hidT h
  have HL := hidT hlen
  clear h hlen
  by_cases h80 : n ≤ 80
  · have q1 : decide (80 < n) = false := by simpa using h80
    have q2 : decide ((80 : Int) < (n : Int)) = false := by simp; omega
    go_enter Try.func9, Try.ntmps9
    go_wp2
    go_loopw [3] (fun i wr => ∃ j : Nat, j ≤ n ∧ i = .int .i64 j ∧ Hid (∀ i x, i < j → xs[i]? = some x → fewI x = true) ∧ Hid (Below w.heap.size w wr)) (fun i _ => n - (intOf i).toNat)
    case atStart => exact ⟨0, Nat.zero_le _, rfl, hidT (fun i x hi => absurd hi (by omega)), hidT (Below.refl _ _)⟩
    case round =>
      obtain ⟨j, hj, rfl, HN, HB⟩ := hrel
      by_cases hjn : j < n
      · obtain ⟨b, o, x, LA, ln, lc, BA, bn, bc, rfl, hx, hi, hcs⟩ := H.out.told hjn
        obtain ⟨c0, c1, c2, c3, c4, c5, c6, c7⟩ := hcs wr HB.out
        have hf : Calls Try.prog 10 _ wr (BoolIs wr (fewI x)) := few_is _ x wr (hi.below HB.out)
        have x1 : (0 : Int) ≤ (j : Int) := by omega
        have x2 : (j : Int) < (n : Int) := by omega
        have HX := hidT hx
        clear hcs hi hx
        cases hm : fewI x with
        | true =>
          rw [hm] at hf
          have HM := hidT hm
          clear hm
          go_wp2_with fail
          with_reducible refine hf.mono ?_
          rintro e w5 ⟨rfl, hb5⟩
          have HB5 := hidT (bthen HB.out hb5)
          clear hb5 c0 c1 c2 c3 c4 c5 c6 c7 hf
          go_wp2
          refine ⟨⟨j + 1, by omega, by go_num, hidT (fun i y hi hy => ?_), HB5⟩, by simp [intOf]; omega⟩
          by_cases hij : i = j
          · subst hij
            rw [HX.out] at hy
            injection hy with hy
            subst hy
            exact HM.out
          · exact HN.out i y (by omega) hy
        | false =>
          rw [hm] at hf
          have ht : false = t := by
            rw [← HT.out]; symm
            unfold fewK
            rw [Bool.and_eq_false_iff]
            right
            rw [List.all_eq_false]
            exact ⟨x, List.mem_of_getElem? HX.out, by simp [hm]⟩
          subst ht
          clear hm
          go_wp2_with fail
          with_reducible refine hf.mono ?_
          rintro e w5 ⟨rfl, hb5⟩
          go_wp2
          go_ret
          exact ⟨rfl, bthen HB.out hb5⟩
      · obtain rfl : n = j := by omega
        have ht : true = t := by
          rw [← HT.out]; symm
          unfold fewK
          rw [Bool.and_eq_true, decide_eq_true_eq, List.all_eq_true]
          refine ⟨by rw [HL.out]; exact h80, fun x hx => ?_⟩
          obtain ⟨i, hi⟩ := List.getElem?_of_mem hx
          have := (List.getElem?_eq_some_iff.1 hi).1
          rw [HL.out] at this
          exact HN.out i x this hi
        subst ht
        go_wp2
        go_ret
        exact ⟨rfl, HB.out⟩
  · have q1 : decide (80 < n) = true := by simp; omega
    have q2 : decide ((80 : Int) < (n : Int)) = true := by simp; omega
    have ht : false = t := by
      rw [← HT.out]; symm
      unfold fewK
      rw [Bool.and_eq_false_iff]
      left
      rw [HL.out]
      simpa using h80
    subst ht
    go_enter Try.func9, Try.ntmps9
    go_wp2
    go_ret
    exact ⟨rfl, Below.refl _ _⟩
set_option maxHeartbeats 2000000 in
theorem items_any (A : Option Addr) (n c : Nat) (xs : List Item.It) (B : Option Addr) (m d : Nat) (ys : List Item.It) (w : World) (h : RdX w A n c xs) (h' : RdX w B m d ys) :
    Calls Try.prog 31 #[.slice A n c, .slice B m d] w (BoolIs w (decide (xs = ys))) := by
  have hn := h.le
  have hm := h'.le
  have hlen := h.size
  have hlen' := h'.size
  obtain ⟨t, HT⟩ : ∃ t, Hid (decide (xs = ys) = t) := ⟨_, rfl⟩
  rw [HT.out]
  have H := hidT h
  have H' := hidT h'
  have HL := hidT hlen
  have HL' := hidT hlen'
  clear h h' hlen hlen'
  by_cases hnm : n = m
  · subst hnm
    go_enter Try.func31, Try.ntmps31
    go_wp2
    go_loopw [5] (fun i wr => ∃ j : Nat, j ≤ n ∧ i = .int .i64 j ∧ Hid (xs.take j = ys.take j) ∧ Hid (Below w.heap.size w wr)) (fun i _ => n - (intOf i).toNat)
    case atStart => exact ⟨0, Nat.zero_le _, rfl, hidT (by simp), hidT (Below.refl _ _)⟩
    case round =>
      obtain ⟨j, hj, rfl, HE, HB⟩ := hrel
      by_cases hjn : j < n
      · obtain ⟨b, o, x, LA, ln, lc, BA, bn, bc, rfl, hx, hi, hcs⟩ := H.out.told hjn
        obtain ⟨b', o', x', LA', ln', lc', BA', bn', bc', rfl, hx', hi', hcs'⟩ := H'.out.told hjn
        obtain ⟨c0, c1, c2, c3, c4, c5, c6, c7⟩ := hcs wr HB.out
        obtain ⟨d0, d1, d2, d3, d4, d5, d6, d7⟩ := hcs' wr HB.out
        have hcl := fun tt hT => rsameI_is _ _ x x' wr.drew (hi.below HB.out.drew) (hi'.below HB.out.drew) tt hT
        have x1 : (0 : Int) ≤ (j : Int) := by omega
        have x2 : (j : Int) < (n : Int) := by omega
        have HX := hidT hx
        have HX' := hidT hx'
        clear hcs hcs' hi hi' hx hx'
        by_cases hxx : x = x'
        · have hc := hcl true (by simpa using hxx)
          have HXX := hidT hxx
          clear hxx hcl
          have HC := hidT hc
          clear hc
          go_wp2_with fail
          go_region_law
            (first
              | (go_simp
                 go_at_call 25
                 with_reducible refine HC.out.mono ?_
                 rintro e w5 ⟨rfl, hb5⟩)
              | fail)
          all_goals
            have HB5 := hidT (bthen HB.out (undrew hb5))
            clear hb5 c0 c1 c2 c3 c4 c5 c6 c7 d0 d1 d2 d3 d4 d5 d6 d7
            go_wp2
            refine ⟨⟨j + 1, by omega, by go_num, hidT ?_, HB5⟩, by simp [intOf]; omega⟩
            rw [List.take_add_one, List.take_add_one, HE.out, HX.out, HX'.out, HXX.out]
        · have hc := hcl false (by simpa using hxx)
          have hf : false = t := by
            rw [← HT.out]; symm
            simp only [decide_eq_false_iff_not]
            intro e
            have h1 := HX.out
            rw [e, HX'.out] at h1
            injection h1 with h1
            exact hxx h1.symm
          subst hf
          have HC := hidT hc
          clear hxx hcl hc
          go_wp2_with fail
          go_region_law
            (first
              | (go_simp
                 go_at_call 25
                 with_reducible refine HC.out.mono ?_
                 rintro e w5 ⟨rfl, hb5⟩)
              | fail)
          all_goals
            have HB5 := hidT (bthen HB.out (undrew hb5))
            clear hb5 c0 c1 c2 c3 c4 c5 c6 c7 d0 d1 d2 d3 d4 d5 d6 d7
            go_wp2
            go_ret
            exact ⟨rfl, HB5.out⟩
      · obtain rfl : n = j := by omega
        have hf : true = t := by
          rw [← HT.out]; symm
          have e := HE.out
          rw [List.take_of_length_le (by rw [HL.out]; exact Nat.le_refl _), List.take_of_length_le (by rw [HL'.out]; exact Nat.le_refl _)] at e
          simpa using e
        subst hf
        go_wp2
        go_ret
        exact ⟨rfl, HB.out⟩
  · have hf : false = t := by
      rw [← HT.out]; symm
      simp only [decide_eq_false_iff_not]
      intro e
      have h1 := HL.out
      rw [e, HL'.out] at h1
      omega
    have q1 : ((n : Int) != (m : Int)) = true := by simp; omega
    have q2 : (n != m) = true := by simpa using hnm
    have q3 : (n == m) = false := by simpa using hnm
    subst hf
    go_enter Try.func31, Try.ntmps31
    go_wp2
    go_ret
    exact ⟨rfl, Below.refl _ _⟩
end Go.Proofs.Ytkkkfaelpmmffaa
