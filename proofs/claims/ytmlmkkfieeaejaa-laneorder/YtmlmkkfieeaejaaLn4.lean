/- What lane.may comes to. -/
import Derived.Test.YtmlmkkfieeaejaaLn1
set_option maxRecDepth 100000
namespace Go.Proofs.Ytmlmkkfieeaejaa
open Go.RowKit
set_option linter.unusedVariables false

theorem may_q {x : Lane.En} (h : x.q < 1) : Lane.may x = false := by unfold Lane.may; rw [show decide (1 ≤ x.q) = false by simp; omega]; rfl
theorem may_1 {k q : Int} {b : List UInt8} {l : List Int} {h : Bool} (hq : ¬ q < 1) (hk : k = 1) : Lane.may ⟨k, q, b, l, h⟩ = (decide (l.length = 0) && !h) := by
  subst hk
  unfold Lane.may Lane.kind
  rw [show decide (1 ≤ (⟨1, q, b, l, h⟩ : Lane.En).q) = true by simp; omega, Bool.true_and, if_pos rfl]
  show (Lane.senders l && (decide (l.length = 0) && !h)) = _
  cases l with
  | nil => rfl
  | cons a l => simp
theorem may_2 {k q : Int} {b : List UInt8} {l : List Int} {h : Bool} (hq : ¬ q < 1) (hk : k = 2) : Lane.may ⟨k, q, b, l, h⟩ = (decide (b.length = 0) && Lane.senders l) := by
  subst hk
  unfold Lane.may Lane.kind
  rw [show decide (1 ≤ (⟨2, q, b, l, h⟩ : Lane.En).q) = true by simp; omega, Bool.true_and, if_neg (show ¬ (2 : Int) = 1 by decide), if_pos rfl]
  exact Bool.and_comm _ _
theorem may_3 {k q : Int} {b : List UInt8} {l : List Int} {h : Bool} (hq : ¬ q < 1) (hk : k = 3) : Lane.may ⟨k, q, b, l, h⟩ = (decide (b.length = 0) && (decide (l.length = 0) && !h)) := by
  subst hk
  unfold Lane.may Lane.kind
  rw [show decide (1 ≤ (⟨3, q, b, l, h⟩ : Lane.En).q) = true by simp; omega, Bool.true_and, if_neg (show ¬ (3 : Int) = 1 by decide), if_neg (show ¬ (3 : Int) = 2 by decide), if_pos rfl]
  show (Lane.senders l && (decide (b.length = 0) && (decide (l.length = 0) && !h))) = _
  cases l with
  | nil => rfl
  | cons a l => simp
theorem may_0 {k q : Int} {b : List UInt8} {l : List Int} {h : Bool} (h1 : k ≠ 1) (h2 : k ≠ 2) (h3 : k ≠ 3) : Lane.may ⟨k, q, b, l, h⟩ = false := by
  unfold Lane.may Lane.kind
  rw [if_neg h1, if_neg h2, if_neg h3, Bool.and_false, Bool.and_false]

set_option maxHeartbeats 1000000 in
theorem lmay_any {S : Nat → Prop} (v : Value) (x : Lane.En) (w : World) (h : IsEn S w v x) (t : Bool) (ht : Lane.may x = t) : Calls Try.prog 57 #[v] w (BoolIs w t) := by
  obtain ⟨BA, bn, bc, LA, ln, lc, rfl, hb, hl, _, _⟩ := h
  have hln := RdI.size hl
  have hbn := hb.1
  have HL := hidT hl
  obtain ⟨k, q, b, l, hd⟩ := x
  dsimp only at hl hb hln hbn HL ⊢
  have y0 := alloc_at w (.cells #[.int .i64 k, .int .i64 q, .slice BA bn bc, .slice LA ln lc, .bool hd] 33) _ rfl
  have n0 := nkeep w (.cells #[.int .i64 k, .int .i64 q, .slice BA bn bc, .slice LA ln lc, .bool hd] 33)
  obtain ⟨e0, e1, e2, e3, e4⟩ := cells5 y0
  have HN := hidT n0
  clear y0 n0 hl hb
  by_cases hq : q < 1
  · obtain rfl : false = t := by rw [← ht]; exact (may_q hq).symm
    have q1 : decide (q < 1) = true := by simpa using hq
    clear ht hq
    go_enter Try.func57, Try.ntmps57
    go_wp2
    go_ret
    exact ⟨rfl, HN.out⟩
  · have q1 : decide (q < 1) = false := by simpa using hq
    by_cases h1 : k = 1
    · rw [may_1 hq h1, hln] at ht
      have q2 : (k == 3) = false := by simp; omega
      have q3 : (k == 1) = true := by simp; omega
      clear h1 hq
      by_cases hz : ln = 0
      · have q4 : ((ln : Int) == 0) = true := by simp; omega
        obtain rfl : (!hd) = t := by rw [← ht]; simp [hz]
        clear ht hz
        go_enter Try.func57, Try.ntmps57
        go_wp2
        go_ret
        exact ⟨rfl, HN.out⟩
      · have q4 : ((ln : Int) == 0) = false := by simp; omega
        obtain rfl : false = t := by rw [← ht]; simp [hz]
        clear ht hz
        go_enter Try.func57, Try.ntmps57
        go_wp2
        go_ret
        exact ⟨rfl, HN.out⟩
    · by_cases h3 : k = 3
      · rw [may_3 hq h3, hln, hbn] at ht
        have q2 : (k == 3) = true := by simp; omega
        clear h1 h3 hq
        by_cases hy : bn = 0
        · have q5 : decide ((0 : Int) < (bn : Int)) = false := by simp; omega
          have q6 : decide (0 < bn) = false := by simp; omega
          by_cases hz : ln = 0
          · have q4 : ((ln : Int) == 0) = true := by simp; omega
            obtain rfl : (!hd) = t := by rw [← ht]; simp [hz, hy]
            clear ht hz hy
            go_enter Try.func57, Try.ntmps57
            go_wp2
            go_ret
            exact ⟨rfl, HN.out⟩
          · have q4 : ((ln : Int) == 0) = false := by simp; omega
            obtain rfl : false = t := by rw [← ht]; simp [hz]
            clear ht hz hy
            go_enter Try.func57, Try.ntmps57
            go_wp2
            go_ret
            exact ⟨rfl, HN.out⟩
        · have q5 : decide ((0 : Int) < (bn : Int)) = true := by simp; omega
          have q6 : decide (0 < bn) = true := by simp; omega
          obtain rfl : false = t := by rw [← ht]; simp [hy]
          clear ht hy
          go_enter Try.func57, Try.ntmps57
          go_wp2
          go_ret
          exact ⟨rfl, HN.out⟩
      · by_cases h2 : k = 2
        · rw [may_2 hq h2, hbn] at ht
          have q2 : (k == 3) = false := by simp; omega
          have q3 : (k == 1) = false := by simp; omega
          have q7 : (k == 2) = true := by simp; omega
          clear h1 h2 h3 hq
          by_cases hy : bn = 0
          · have q5 : ((bn : Int) == 0) = true := by simp; omega
            obtain rfl : Lane.senders l = t := by rw [← ht]; simp [hy]
            clear ht hy
            have hc := containsOut_any LA ln lc l (w.alloc (.cells #[.int .i64 k, .int .i64 q, .slice BA bn bc, .slice LA ln lc, .bool hd] 33)) (RdV.below HL.out HN.out) (Lane.senders l) rfl
            generalize Lane.senders l = u at hc ⊢
            go_enter Try.func57, Try.ntmps57
            go_wp2_with fail
            with_reducible refine hc.mono ?_
            rintro e w1 ⟨rfl, rfl⟩
            go_wp2
            go_ret
            exact ⟨by simp, HN.out⟩
          · have q5 : ((bn : Int) == 0) = false := by simp; omega
            obtain rfl : false = t := by rw [← ht]; simp [hy]
            clear ht hy
            go_enter Try.func57, Try.ntmps57
            go_wp2
            go_ret
            exact ⟨rfl, HN.out⟩
        · obtain rfl : false = t := by rw [← ht]; exact (may_0 h1 h2 h3).symm
          have q2 : (k == 3) = false := by simp; omega
          have q3 : (k == 1) = false := by simp; omega
          have q7 : (k == 2) = false := by simp; omega
          clear ht h1 h2 h3 hq
          go_enter Try.func57, Try.ntmps57
          go_wp2
          go_ret
          exact ⟨rfl, HN.out⟩
end Go.Proofs.Ytmlmkkfieeaejaa
