/- What the document's own Few, Items, Same and Room of streams come to. -/
import Derived.Test.YtgnaecifinlnmaaKeep7
import Derived.Test.YtgnaecifinlnmaaRefItem1
import Derived.Test.YtgnaecifinlnmaaRefItem3
set_option maxRecDepth 100000
namespace Go.Proofs.Ytgnaecifinlnmaa
open Go.RowKit
set_option linter.unusedVariables false

def fewI (x : Item.It) : Bool := decide (x.l.length ≤ 80) && decide (x.b.length ≤ 1100)
def fewK (xs : List Item.It) : Bool := decide (xs.length ≤ 80) && xs.all fewI
theorem fewK_small {xs : List Item.It} (h : fewK xs = true) : SmallL xs := by
  simp only [fewK, Bool.and_eq_true, decide_eq_true_eq, List.all_eq_true, fewI] at h
  exact ⟨by omega, fun x hx => by have := h.2 x hx; omega⟩
set_option maxHeartbeats 1000000 in
theorem fewK_is (A : Option Addr) (n c : Nat) (xs : List Item.It) (w : World) (h : RdX w A n c xs) : Calls Try.prog 10 #[.slice A n c] w (BoolIs w (fewK xs)) := by
  have hn := h.le
  have hlen := h.size
  obtain ⟨t, HT⟩ : ∃ t, Hid (fewK xs = t) := ⟨_, rfl⟩
  rw [HT.out]
  have H := hidT h
  have HL := hidT hlen
  clear h hlen
  by_cases h80 : n ≤ 80
  · have q1 : decide (80 < n) = false := by simpa using h80
    have q2 : decide ((80 : Int) < (n : Int)) = false := by simp; omega
    go_enter Try.func10, Try.ntmps10
    go_wp2
    go_loopw [3] (fun i wr => ∃ j : Nat, j ≤ n ∧ i = .int .i64 j ∧ Hid (∀ i x, i < j → xs[i]? = some x → fewI x = true) ∧ Hid (Below w.heap.size w wr)) (fun i _ => n - (intOf i).toNat)
    case atStart => exact ⟨0, Nat.zero_le _, rfl, hidT (fun i x hi => absurd hi (by omega)), hidT (Below.refl _ _)⟩
    case round =>
      obtain ⟨j, hj, rfl, HN, HB⟩ := hrel
      by_cases hjn : j < n
      · obtain ⟨b, o, x, LA, ln, lc, BA, bn, bc, rfl, hx, hi, hcs⟩ := H.out.told hjn
        obtain ⟨c0, c1, c2, c3, c4, c5, c6, c7⟩ := hcs wr HB.out
        have hf : Calls Try.prog 11 _ wr (BoolIs wr (fewI x)) := few_is _ x wr (hi.below HB.out)
        have x1 : (0 : Int) ≤ (j : Int) := by omega
        have x2 : (j : Int) < (n : Int) := by omega
        have HX := hidT hx
        clear hcs hi hx
        cases hm : fewI x with
        | true =>
          rw [hm] at hf
          have HM := hidT hm
          clear hm
          go_wp2_with fail
          with_reducible refine hf.mono ?_
          rintro e w5 ⟨rfl, hb5⟩
          have HB5 := hidT (bthen HB.out hb5)
          clear hb5 c0 c1 c2 c3 c4 c5 c6 c7 hf
          go_wp2
          refine ⟨⟨j + 1, by omega, by go_num, hidT (fun i y hi hy => ?_), HB5⟩, by simp [intOf]; omega⟩
          by_cases hij : i = j
          · subst hij
            rw [HX.out] at hy
            injection hy with hy
            subst hy
            exact HM.out
          · exact HN.out i y (by omega) hy
        | false =>
          rw [hm] at hf
          have ht : false = t := by
            rw [← HT.out]; symm
            unfold fewK
            rw [Bool.and_eq_false_iff]
            right
            rw [List.all_eq_false]
            exact ⟨x, List.mem_of_getElem? HX.out, by simp [hm]⟩
          subst ht
          clear hm
          go_wp2_with fail
          with_reducible refine hf.mono ?_
          rintro e w5 ⟨rfl, hb5⟩
          go_wp2
          go_ret
          exact ⟨rfl, bthen HB.out hb5⟩
      · obtain rfl : n = j := by omega
        have ht : true = t := by
          rw [← HT.out]; symm
          unfold fewK
          rw [Bool.and_eq_true, decide_eq_true_eq, List.all_eq_true]
          refine ⟨by rw [HL.out]; exact h80, fun x hx => ?_⟩
          obtain ⟨i, hi⟩ := List.getElem?_of_mem hx
          have := (List.getElem?_eq_some_iff.1 hi).1
          rw [HL.out] at this
          exact HN.out i x this hi
        subst ht
        go_wp2
        go_ret
        exact ⟨rfl, HB.out⟩
  · have q1 : decide (80 < n) = true := by simp; omega
    have q2 : decide ((80 : Int) < (n : Int)) = true := by simp; omega
    have ht : false = t := by
      rw [← HT.out]; symm
      unfold fewK
      rw [Bool.and_eq_false_iff]
      left
      rw [HL.out]
      simpa using h80
    subst ht
    go_enter Try.func10, Try.ntmps10
    go_wp2
    go_ret
    exact ⟨rfl, Below.refl _ _⟩

set_option maxHeartbeats 2000000 in
theorem items_any (A : Option Addr) (n c : Nat) (xs : List Item.It) (B : Option Addr) (m d : Nat) (ys : List Item.It) (w : World) (h : RdX w A n c xs) (h' : RdX w B m d ys) :
    Calls Try.prog 32 #[.slice A n c, .slice B m d] w (BoolIs w (decide (xs = ys))) := by
  have hn := h.le
  have hm := h'.le
  have hlen := h.size
  have hlen' := h'.size
  obtain ⟨t, HT⟩ : ∃ t, Hid (decide (xs = ys) = t) := ⟨_, rfl⟩
  rw [HT.out]
  have H := hidT h
  have H' := hidT h'
  have HL := hidT hlen
  have HL' := hidT hlen'
  clear h h' hlen hlen'
  by_cases hnm : n = m
  · subst hnm
    go_enter Try.func32, Try.ntmps32
    go_wp2
    go_loopw [5] (fun i wr => ∃ j : Nat, j ≤ n ∧ i = .int .i64 j ∧ Hid (xs.take j = ys.take j) ∧ Hid (Below w.heap.size w wr)) (fun i _ => n - (intOf i).toNat)
    case atStart => exact ⟨0, Nat.zero_le _, rfl, hidT (by simp), hidT (Below.refl _ _)⟩
    case round =>
      obtain ⟨j, hj, rfl, HE, HB⟩ := hrel
      by_cases hjn : j < n
      · obtain ⟨b, o, x, LA, ln, lc, BA, bn, bc, rfl, hx, hi, hcs⟩ := H.out.told hjn
        obtain ⟨b', o', x', LA', ln', lc', BA', bn', bc', rfl, hx', hi', hcs'⟩ := H'.out.told hjn
        obtain ⟨c0, c1, c2, c3, c4, c5, c6, c7⟩ := hcs wr HB.out
        obtain ⟨d0, d1, d2, d3, d4, d5, d6, d7⟩ := hcs' wr HB.out
        have hcl := fun tt hT => rsameI_is _ _ x x' wr.drew (hi.below HB.out.drew) (hi'.below HB.out.drew) tt hT
        have x1 : (0 : Int) ≤ (j : Int) := by omega
        have x2 : (j : Int) < (n : Int) := by omega
        have HX := hidT hx
        have HX' := hidT hx'
        clear hcs hcs' hi hi' hx hx'
        by_cases hxx : x = x'
        · have hc := hcl true (by simpa using hxx)
          have HXX := hidT hxx
          clear hxx hcl
          have HC := hidT hc
          clear hc
          go_wp2_with fail
          go_region_law
            (first
              | (go_simp
                 go_at_call 24
                 with_reducible refine HC.out.mono ?_
                 rintro e w5 ⟨rfl, hb5⟩)
              | fail)
          all_goals
            have HB5 := hidT (bthen HB.out (undrew hb5))
            clear hb5 c0 c1 c2 c3 c4 c5 c6 c7 d0 d1 d2 d3 d4 d5 d6 d7
            go_wp2
            refine ⟨⟨j + 1, by omega, by go_num, hidT ?_, HB5⟩, by simp [intOf]; omega⟩
            rw [List.take_add_one, List.take_add_one, HE.out, HX.out, HX'.out, HXX.out]
        · have hc := hcl false (by simpa using hxx)
          have hf : false = t := by
            rw [← HT.out]; symm
            simp only [decide_eq_false_iff_not]
            intro e
            have h1 := HX.out
            rw [e, HX'.out] at h1
            injection h1 with h1
            exact hxx h1.symm
          subst hf
          have HC := hidT hc
          clear hxx hcl hc
          go_wp2_with fail
          go_region_law
            (first
              | (go_simp
                 go_at_call 24
                 with_reducible refine HC.out.mono ?_
                 rintro e w5 ⟨rfl, hb5⟩)
              | fail)
          all_goals
            have HB5 := hidT (bthen HB.out (undrew hb5))
            clear hb5 c0 c1 c2 c3 c4 c5 c6 c7 d0 d1 d2 d3 d4 d5 d6 d7
            go_wp2
            go_ret
            exact ⟨rfl, HB5.out⟩
      · obtain rfl : n = j := by omega
        have hf : true = t := by
          rw [← HT.out]; symm
          have e := HE.out
          rw [List.take_of_length_le (by rw [HL.out]; exact Nat.le_refl _), List.take_of_length_le (by rw [HL'.out]; exact Nat.le_refl _)] at e
          simpa using e
        subst hf
        go_wp2
        go_ret
        exact ⟨rfl, HB.out⟩
  · have hf : false = t := by
      rw [← HT.out]; symm
      simp only [decide_eq_false_iff_not]
      intro e
      have h1 := HL.out
      rw [e, HL'.out] at h1
      omega
    have q1 : ((n : Int) != (m : Int)) = true := by simp; omega
    have q2 : (n != m) = true := by simpa using hnm
    have q3 : (n == m) = false := by simpa using hnm
    subst hf
    go_enter Try.func32, Try.ntmps32
    go_wp2
    go_ret
    exact ⟨rfl, Below.refl _ _⟩

theorem kp_eq' {a b : Keep.Kp} : a = b ↔ a.next = b.next ∧ a.l = b.l := by
  cases a; cases b; simp
set_option maxHeartbeats 1000000 in
theorem rksame_is (u v : Value) (a b : Keep.Kp) (w : World) (hu : IsKeep w u a) (hv : IsKeep w v b) (t : Bool) (ht : decide (a = b) = t) : Calls Try.prog 15 #[u, v] w (BoolIs w t) := by
  obtain ⟨A, n, c, rfl, hX⟩ := hu
  obtain ⟨B, m, d, rfl, hY⟩ := hv
  obtain ⟨t1, t2, t3⟩ := two_alloc w (.cells #[.int .i64 a.next, .slice A n c] 24) (.cells #[.int .i64 b.next, .slice B m d] 24)
  obtain ⟨i0, i1⟩ := cells2 t1
  obtain ⟨j0, j1⟩ := cells2 t2
  have hc := items_any A n c a.l B m d b.l _ (hX.below t3) (hY.below t3)
  have T1 := hidT t1
  have T2 := hidT t2
  have T3 := hidT t3
  have e : (decide (a.l = b.l) && decide (a.next = b.next)) = t := by
    rw [← ht, ← Bool.decide_and]
    congr 1
    rw [kp_eq']
    exact propext And.comm
  clear t1 t2 t3 hX hY ht
  generalize decide (a.l = b.l) = s at hc e
  cases s with
  | true =>
    by_cases hn : a.next = b.next
    · have q1 : (a.next == b.next) = true := by simpa using hn
      have ht : true = t := by rw [← e]; simpa using hn
      clear e hn
      subst ht
      go_enter Try.func15, Try.ntmps15
      go_wp2_with fail
      with_reducible refine hc.mono ?_
      rintro e w5 ⟨rfl, hb5⟩
      obtain ⟨k0, k1⟩ := cells2 (keepH T1.out hb5)
      obtain ⟨l0, l1⟩ := cells2 (keepH T2.out hb5)
      go_wp2
      go_ret
      exact ⟨rfl, bthen T3.out hb5⟩
    · have q1 : (a.next == b.next) = false := by simpa using hn
      have ht : false = t := by rw [← e]; simpa using hn
      clear e hn
      subst ht
      go_enter Try.func15, Try.ntmps15
      go_wp2_with fail
      with_reducible refine hc.mono ?_
      rintro e w5 ⟨rfl, hb5⟩
      obtain ⟨k0, k1⟩ := cells2 (keepH T1.out hb5)
      obtain ⟨l0, l1⟩ := cells2 (keepH T2.out hb5)
      go_wp2
      go_ret
      exact ⟨rfl, bthen T3.out hb5⟩
  | false =>
    have ht : false = t := by rw [← e]; rfl
    clear e
    subst ht
    go_enter Try.func15, Try.ntmps15
    go_wp2_with fail
    with_reducible refine hc.mono ?_
    rintro e w5 ⟨rfl, hb5⟩
    go_wp2
    go_ret
    exact ⟨rfl, bthen T3.out hb5⟩

set_option maxHeartbeats 2000000 in
theorem rroom_any (v : Value) (k : Keep.Kp) (buf spare : Int) (w : World) (h : IsKeep w v k) :
    Calls Try.prog 23 #[v, .int .i64 buf, .int .i64 spare] w (fun e w' => e = .returned (.int .i64 (Keep.room k buf spare)) ∧ Below w.heap.size w w') := by
  obtain ⟨A, n, c, rfl, hX⟩ := h
  have hn := hX.le
  have hlen := hX.size
  have y0 := alloc_at w (.cells #[.int .i64 k.next, .slice A n c] 24) _ rfl
  obtain ⟨e0, e1⟩ := cells2 y0
  have hb := nkeep w (.cells #[.int .i64 k.next, .slice A n c] 24)
  have hR : Keep.room k buf spare = if buf < 0 ∨ buf > 64 ∨ spare < 0 ∨ spare > 64 ∨ k.next > 4611686018427387904 ∨ buf - spare < n then 0 else buf - spare - n := by unfold Keep.room; rw [hlen]
  obtain ⟨R, HR⟩ : ∃ R : Int, Hid (Keep.room k buf spare = R) := ⟨_, rfl⟩
  rw [HR.out]
  rw [HR.out] at hR
  clear y0 hX hlen HR
  by_cases hbad : buf < 0 ∨ buf > 64 ∨ spare < 0 ∨ spare > 64 ∨ k.next > 4611686018427387904 ∨ buf - spare < n
  · rw [if_pos hbad] at hR
    subst hR
    by_cases h1 : buf < 0
    · have q1 : decide (buf < 0) = true := by simpa using h1
      clear hbad
      go_enter Try.func23, Try.ntmps23
      go_wp2
      go_ret
      exact ⟨rfl, hb⟩
    · have q1 : decide (buf < 0) = false := by simpa using h1
      by_cases h2 : 64 < buf
      · have q2 : decide (64 < buf) = true := by simpa using h2
        clear hbad
        go_enter Try.func23, Try.ntmps23
        go_wp2
        go_ret
        exact ⟨rfl, hb⟩
      · have q2 : decide (64 < buf) = false := by simpa using h2
        by_cases h3 : spare < 0
        · have q3 : decide (spare < 0) = true := by simpa using h3
          clear hbad
          go_enter Try.func23, Try.ntmps23
          go_wp2
          go_ret
          exact ⟨rfl, hb⟩
        · have q3 : decide (spare < 0) = false := by simpa using h3
          by_cases h4 : 64 < spare
          · have q4 : decide (64 < spare) = true := by simpa using h4
            clear hbad
            go_enter Try.func23, Try.ntmps23
            go_wp2
            go_ret
            exact ⟨rfl, hb⟩
          · have q4 : decide (64 < spare) = false := by simpa using h4
            by_cases h5 : 4611686018427387904 < k.next
            · have q5 : decide (4611686018427387904 < k.next) = true := by simpa using h5
              clear hbad
              go_enter Try.func23, Try.ntmps23
              go_wp2
              go_ret
              exact ⟨rfl, hb⟩
            · have q5 : decide (4611686018427387904 < k.next) = false := by simpa using h5
              have h6 : buf - spare < (n : Int) := by omega
              have q6 : decide (buf - spare < (n : Int)) = true := by simpa using h6
              clear hbad
              go_enter Try.func23, Try.ntmps23
              go_wp2
              go_ret
              exact ⟨rfl, hb⟩
  · rw [if_neg hbad] at hR
    subst hR
    have q1 : decide (buf < 0) = false := by simp; omega
    have q2 : decide (64 < buf) = false := by simp; omega
    have q3 : decide (spare < 0) = false := by simp; omega
    have q4 : decide (64 < spare) = false := by simp; omega
    have q5 : decide (4611686018427387904 < k.next) = false := by simp; omega
    have q6 : decide (buf - spare < (n : Int)) = false := by simp; omega
    have b1 : 0 ≤ buf := by omega
    have b2 : buf ≤ 64 := by omega
    have b3 : 0 ≤ spare := by omega
    have b4 : spare ≤ 64 := by omega
    have b5 : (n : Int) ≤ buf - spare := by omega
    clear hbad
    go_enter Try.func23, Try.ntmps23
    go_wp2
    go_ret
    exact ⟨rfl, hb⟩
end Go.Proofs.Ytgnaecifinlnmaa
