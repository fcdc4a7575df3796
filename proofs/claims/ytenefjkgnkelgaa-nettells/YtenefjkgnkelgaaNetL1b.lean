/- The law NetTells, for every input. -/
import Derived.Test.YtenefjkgnkelgaaNetL1
set_option maxRecDepth 100000
namespace Go.Proofs.Ytenefjkgnkelgaa
open Go.RowKit Go.ChangeShapes Go.WideShapes Go.ChangeAt
set_option linter.unusedVariables false

set_option maxRecDepth 100000 in
set_option maxHeartbeats 1000000 in
theorem ntells_any (A : Option Addr) (n c : Nat) (ls : List Lt) (A' : Option Addr) (n' c' : Nat) (lo : List Lt) (i q : Int) (B : Option Addr) (m d : Nat) (bb : List UInt8) (w : World) (h : RdL w A n c ls) (ho : RdL w A' n' c' lo) (hB : Rd w B m d bb) (hq : q ≤ 9223372036854775807) :
    Calls Try.prog 3 #[.agg #[.slice A n c, .slice A' n' c', .int .i64 i, .int .i64 q, .slice B m d]] w (Yes w) := by
  have hb0 : Below w.heap.size w (w.alloc (.cells #[.slice A n c, .slice A' n' c', .int .i64 i, .int .i64 q, .slice B m d] 25)) := nkeep_alloc (Below.refl _ _) _
  by_cases hf : few ls 60 = true
  · by_cases hf2 : few lo 60 = true
    · by_cases hm : m ≤ 1000
      · exact ntells_in A n c ls A' n' c' lo i q B m d bb w h ho hB hf hf2 hm hq
      · have hq1 : decide ((1000 : Int) < (m : Int)) = true := by simp; omega
        go_enter Try.func3, Try.ntmps3
        go_wp2_with fail
        with_reducible refine (nshown_any _).mono ?_
        rintro e w1 ⟨rfl, hb1'⟩
        have hb1 := bthen hb0 hb1'
        go_wp2_with fail
        with_reducible refine (few60 _ _ _ ls _ (h.below hb1) true hf).mono ?_
        rintro e w2 ⟨rfl, rfl⟩
        go_wp2_with fail
        with_reducible refine (few60 _ _ _ lo _ (ho.below hb1) true hf2).mono ?_
        rintro e w2 ⟨rfl, rfl⟩
        go_wp2
        go_ret
        exact ⟨rfl, hb1⟩
    · have hf2' : few lo 60 = false := by simpa using hf2
      go_enter Try.func3, Try.ntmps3
      go_wp2_with fail
      with_reducible refine (nshown_any _).mono ?_
      rintro e w1 ⟨rfl, hb1'⟩
      have hb1 := bthen hb0 hb1'
      go_wp2_with fail
      with_reducible refine (few60 _ _ _ ls _ (h.below hb1) true hf).mono ?_
      rintro e w2 ⟨rfl, rfl⟩
      go_wp2_with fail
      with_reducible refine (few60 _ _ _ lo _ (ho.below hb1) false hf2').mono ?_
      rintro e w2 ⟨rfl, rfl⟩
      go_wp2
      go_ret
      exact ⟨rfl, hb1⟩
  · have hf' : few ls 60 = false := by simpa using hf
    go_enter Try.func3, Try.ntmps3
    go_wp2_with fail
    with_reducible refine (nshown_any _).mono ?_
    rintro e w1 ⟨rfl, hb1'⟩
    have hb1 := bthen hb0 hb1'
    go_wp2_with fail
    with_reducible refine (few60 _ _ _ ls _ (h.below hb1) false hf').mono ?_
    rintro e w2 ⟨rfl, rfl⟩
    go_wp2
    go_ret
    exact ⟨rfl, hb1⟩
theorem ntells_open {W : World} {r : Reach} {b0 : Nat} {v : Value} (o : Value.okWide Try.prog W r b0 25 v) (h : Tr Try.prog W 25 v.cells.toList) :
    ∃ A n c ls A' n' c' lo i q B m d b, v = .agg #[.slice A n c, .slice A' n' c', .int .i64 i, .int .i64 q, .slice B m d] ∧ RdL W A n c ls ∧ RdL W A' n' c' lo ∧ Rd W B m d b ∧ q ≤ 9223372036854775807 := by
  have c25 : Try.prog.cellsOf 25 = 5 := by kernel_rfl
  obtain ⟨cs, rfl, hsz⟩ := okWide_struct Try.underlying25 o
  obtain ⟨l⟩ := cs
  obtain ⟨_, hall⟩ := h.struct Try.underlying25
  match l, hsz.trans c25 with
  | [v0, v1, v2, v3, v4], _ =>
    have h0 := hall 0 _ rfl
    have h1 := hall 1 _ rfl
    have h2 := hall 2 _ rfl
    have h3 := hall 3 _ rfl
    have h4 := hall 4 _ rfl
    simp only [Value.cells] at h0 h1 h2 h3 h4
    obtain ⟨A, n, c, ls, e0, r0⟩ := h0.letters
    obtain ⟨A', n', c', lo, e1, r1⟩ := h1.letters
    obtain ⟨i, e2, _⟩ := h2.int Try.underlying3
    obtain ⟨q, e3, w3⟩ := h3.int Try.underlying3
    obtain ⟨B, m, d, b, e4, r4⟩ := h4.bytes Try.underlying23 Try.underlying5 (by kernel_rfl)
    injection e0 with e0
    injection e1 with e1
    injection e2 with e2
    injection e3 with e3
    injection e4 with e4
    subst e0 e1 e2 e3 e4
    exact ⟨A, n, c, ls, A', n', c', lo, i, q, B, m, d, b, rfl, r0, r1, r4, (wf_i64 w3).2⟩
end Go.Proofs.Ytenefjkgnkelgaa
