/- The law NetSpoilt, for every input. -/
import Derived.Test.YtenefjkgnkelgaaNetL3
import Derived.Test.YtenefjkgnkelgaaNetOpen
set_option maxRecDepth 100000
namespace Go.Proofs.Ytenefjkgnkelgaa
open Go.RowKit Go.ChangeShapes Go.WideShapes Go.ChangeAt
set_option linter.unusedVariables false

set_option maxRecDepth 100000 in
set_option maxHeartbeats 1000000 in
theorem nspoilt_out (A : Option Addr) (n c : Nat) (ls : List Lt) (i at_ : Int) (B : Option Addr) (m d : Nat) (again : Int) (w : World) (h : RdL w A n c ls) (hf : few ls 60 = true) (ho : 1000 < m ∨ (m ≤ 1000 ∧ i < 0) ∨ (m ≤ 1000 ∧ 0 ≤ i ∧ (n : Int) ≤ i)) :
    Calls Try.prog 5 #[.agg #[.slice A n c, .int .i64 i, .int .i64 at_, .slice B m d, .int .i64 again]] w (Yes w) := by
  have hb0 : Below w.heap.size w (w.alloc (.cells #[.slice A n c, .int .i64 i, .int .i64 at_, .slice B m d, .int .i64 again] 49)) := nkeep_alloc (Below.refl _ _) _
  rcases ho with h1 | ⟨h1, h2⟩ | ⟨h1, h2, h3⟩
  · have q1 : decide ((1000 : Int) < (m : Int)) = true := by simp; omega
    go_enter Try.func5, Try.ntmps5
    go_wp2_with fail
    with_reducible refine (nshown_any _).mono ?_
    rintro e w1 ⟨rfl, hb1'⟩
    have hb1 := bthen hb0 hb1'
    have h1 := h.below hb1
    go_wp2_with fail
    with_reducible refine (few60 _ _ _ ls _ h1 true hf).mono ?_
    rintro e w2 ⟨rfl, rfl⟩
    go_wp2
    go_ret
    exact ⟨rfl, hb1⟩
  · have q1 : decide ((1000 : Int) < (m : Int)) = false := by simp; omega
    have q2 : decide (i < 0) = true := by simpa using h2
    go_enter Try.func5, Try.ntmps5
    go_wp2_with fail
    with_reducible refine (nshown_any _).mono ?_
    rintro e w1 ⟨rfl, hb1'⟩
    have hb1 := bthen hb0 hb1'
    have h1 := h.below hb1
    go_wp2_with fail
    with_reducible refine (few60 _ _ _ ls _ h1 true hf).mono ?_
    rintro e w2 ⟨rfl, rfl⟩
    go_wp2
    go_ret
    exact ⟨rfl, hb1⟩
  · have q1 : decide ((1000 : Int) < (m : Int)) = false := by simp; omega
    have q2 : decide (i < 0) = false := by simpa using h2
    have q3 : decide ((n : Int) ≤ i) = true := by simpa using h3
    go_enter Try.func5, Try.ntmps5
    go_wp2_with fail
    with_reducible refine (nshown_any _).mono ?_
    rintro e w1 ⟨rfl, hb1'⟩
    have hb1 := bthen hb0 hb1'
    have h1 := h.below hb1
    go_wp2_with fail
    with_reducible refine (few60 _ _ _ ls _ h1 true hf).mono ?_
    rintro e w2 ⟨rfl, rfl⟩
    go_wp2
    go_ret
    exact ⟨rfl, hb1⟩

set_option maxRecDepth 100000 in
set_option maxHeartbeats 1000000 in
theorem nspoilt_any (A : Option Addr) (n c : Nat) (ls : List Lt) (i at_ : Int) (B : Option Addr) (m d : Nat) (b : List UInt8) (again : Int) (w : World) (h : RdL w A n c ls) (hB : Rd w B m d b) :
    Calls Try.prog 5 #[.agg #[.slice A n c, .int .i64 i, .int .i64 at_, .slice B m d, .int .i64 again]] w (Yes w) := by
  by_cases hf : few ls 60 = true
  · by_cases hm : m ≤ 1000
    · by_cases hi : 0 ≤ i
      · by_cases hin : i < n
        · obtain ⟨k, rfl⟩ := Int.eq_ofNat_of_zero_le hi
          obtain ⟨b', o, rfl⟩ := h.addr (by omega)
          exact nspoilt_in b' o n c ls k at_ B m d b again w h hB hf hm (by omega)
        · exact nspoilt_out A n c ls i at_ B m d again w h hf (.inr (.inr ⟨hm, hi, by omega⟩))
      · exact nspoilt_out A n c ls i at_ B m d again w h hf (.inr (.inl ⟨hm, by omega⟩))
    · exact nspoilt_out A n c ls i at_ B m d again w h hf (.inl (by omega))
  · have hf' : few ls 60 = false := by simpa using hf
    have hb0 : Below w.heap.size w (w.alloc (.cells #[.slice A n c, .int .i64 i, .int .i64 at_, .slice B m d, .int .i64 again] 49)) := nkeep_alloc (Below.refl _ _) _
    go_enter Try.func5, Try.ntmps5
    go_wp2_with fail
    with_reducible refine (nshown_any _).mono ?_
    rintro e w1 ⟨rfl, hb1'⟩
    have hb1 := bthen hb0 hb1'
    have h1 := h.below hb1
    go_wp2_with fail
    with_reducible refine (few60 _ _ _ ls _ h1 false hf').mono ?_
    rintro e w2 ⟨rfl, rfl⟩
    go_wp2
    go_ret
    exact ⟨rfl, hb1⟩
theorem nspoilt_open {W : World} {r : Reach} {b0 : Nat} {v : Value} (o : Value.okWide Try.prog W r b0 49 v) (h : Tr Try.prog W 49 v.cells.toList) :
    ∃ A n c ls i at_ B m d b again, v = .agg #[.slice A n c, .int .i64 i, .int .i64 at_, .slice B m d, .int .i64 again] ∧ RdL W A n c ls ∧ Rd W B m d b := by
  have c49 : Try.prog.cellsOf 49 = 5 := by kernel_rfl
  obtain ⟨cs, rfl, hsz⟩ := okWide_struct Try.underlying49 o
  obtain ⟨l⟩ := cs
  obtain ⟨_, hall⟩ := h.struct Try.underlying49
  match l, hsz.trans c49 with
  | [v0, v1, v2, v3, v4], _ =>
    have h0 := hall 0 _ rfl
    have h1 := hall 1 _ rfl
    have h2 := hall 2 _ rfl
    have h3 := hall 3 _ rfl
    have h4 := hall 4 _ rfl
    simp only [Value.cells] at h0 h1 h2 h3 h4
    obtain ⟨A, n, c, ls, e0, r0⟩ := h0.letters
    obtain ⟨i, e1, _⟩ := h1.int Try.underlying3
    obtain ⟨a, e2, _⟩ := h2.int Try.underlying3
    obtain ⟨B, m, d, b, e3, r3⟩ := h3.bytes Try.underlying23 Try.underlying5 (by kernel_rfl)
    obtain ⟨g, e4, _⟩ := h4.int Try.underlying3
    injection e0 with e0
    injection e1 with e1
    injection e2 with e2
    injection e3 with e3
    injection e4 with e4
    subst e0 e1 e2 e3 e4
    exact ⟨A, n, c, ls, i, a, B, m, d, b, g, rfl, r0, r3⟩
end Go.Proofs.Ytenefjkgnkelgaa
