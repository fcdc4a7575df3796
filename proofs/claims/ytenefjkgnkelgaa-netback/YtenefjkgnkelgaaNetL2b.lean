/- The law NetBack, for every input. -/
import Derived.Test.YtenefjkgnkelgaaNetL2
import Derived.Test.YtenefjkgnkelgaaNetOpen
set_option maxRecDepth 100000
namespace Go.Proofs.Ytenefjkgnkelgaa
open Go.RowKit Go.ChangeShapes Go.WideShapes Go.ChangeAt
set_option linter.unusedVariables false

set_option maxRecDepth 100000 in
set_option maxHeartbeats 1000000 in
theorem back_any (A : Option Addr) (n c : Nat) (ls : List Lt) (q : Int) (B : Option Addr) (m d : Nat) (b : List UInt8) (kk : Int) (w : World) (h : RdL w A n c ls) (hB : Rd w B m d b) (hk0 : 0 ≤ kk) (hk1 : kk < 256) :
    Calls Try.prog 4 #[.agg #[.slice A n c, .int .i64 q, .slice B m d, .int .u8 kk]] w (Yes w) := by
  by_cases hf : few ls 60 = true
  · by_cases hm : m ≤ 1000
    · exact back_in A n c ls q B m d b kk w h hB hf hm hk0 hk1
    · have hq1 : decide ((1000 : Int) < (m : Int)) = true := by simp; omega
      have hb0 : Below w.heap.size w (w.alloc (.cells #[.slice A n c, .int .i64 q, .slice B m d, .int .u8 kk] 46)) := nkeep_alloc (Below.refl _ _) _
      go_enter Try.func4, Try.ntmps4
      go_wp2_with fail
      with_reducible refine (nshown_any _).mono ?_
      rintro e w1 ⟨rfl, hb1'⟩
      have hb1 := bthen hb0 hb1'
      have h1 := h.below hb1
      go_wp2_with fail
      with_reducible refine (few60 _ _ _ ls _ h1 true hf).mono ?_
      rintro e w2 ⟨rfl, rfl⟩
      go_wp2
      go_ret
      exact ⟨rfl, hb1⟩
  · have hf' : few ls 60 = false := by simpa using hf
    have hb0 : Below w.heap.size w (w.alloc (.cells #[.slice A n c, .int .i64 q, .slice B m d, .int .u8 kk] 46)) := nkeep_alloc (Below.refl _ _) _
    go_enter Try.func4, Try.ntmps4
    go_wp2_with fail
    with_reducible refine (nshown_any _).mono ?_
    rintro e w1 ⟨rfl, hb1'⟩
    have hb1 := bthen hb0 hb1'
    have h1 := h.below hb1
    go_wp2_with fail
    with_reducible refine (few60 _ _ _ ls _ h1 false hf').mono ?_
    rintro e w2 ⟨rfl, rfl⟩
    go_wp2
    go_ret
    exact ⟨rfl, hb1⟩
theorem back_open {W : World} {r : Reach} {b0 : Nat} {v : Value} (o : Value.okWide Try.prog W r b0 46 v) (h : Tr Try.prog W 46 v.cells.toList) :
    ∃ A n c ls q B m d b kk, v = .agg #[.slice A n c, .int .i64 q, .slice B m d, .int .u8 kk] ∧ RdL W A n c ls ∧ Rd W B m d b ∧ 0 ≤ kk ∧ kk < 256 := by
  have c46 : Try.prog.cellsOf 46 = 4 := by kernel_rfl
  obtain ⟨cs, rfl, hsz⟩ := okWide_struct Try.underlying46 o
  obtain ⟨l⟩ := cs
  obtain ⟨_, hall⟩ := h.struct Try.underlying46
  match l, hsz.trans c46 with
  | [v0, v1, v2, v3], _ =>
    have h0 := hall 0 _ rfl
    have h1 := hall 1 _ rfl
    have h2 := hall 2 _ rfl
    have h3 := hall 3 _ rfl
    simp only [Value.cells] at h0 h1 h2 h3
    obtain ⟨A, n, c, ls, e0, r0⟩ := h0.letters
    obtain ⟨q, e1, _⟩ := h1.int Try.underlying3
    obtain ⟨B, m, d, b, e2, r2⟩ := h2.bytes Try.underlying23 Try.underlying5 (by kernel_rfl)
    obtain ⟨k, e3, w3⟩ := h3.int Try.underlying5
    injection e0 with e0
    injection e1 with e1
    injection e2 with e2
    injection e3 with e3
    subst e0 e1 e2 e3
    exact ⟨A, n, c, ls, q, B, m, d, b, k, rfl, r0, r2, wf_u8 w3⟩
end Go.Proofs.Ytenefjkgnkelgaa
