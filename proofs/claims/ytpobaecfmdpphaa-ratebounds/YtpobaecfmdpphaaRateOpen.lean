/- What comes in of chapter 11's laws, opened to its parts. -/
import Derived.Test.YtpobaecfmdpphaaRows
import Derived.Test.YtpobaecfmdpphaaSlices
set_option maxRecDepth 100000
namespace Go.Proofs.Ytpobaecfmdpphaa
open Go.RowKit Go.ChangeShapes Go.WideShapes Go.ChangeAt
set_option linter.unusedVariables false

theorem tells_open {W : World} {r : Reach} {b0 : Nat} {v : Value} (o : Value.okWide Try.prog W r b0 25 v) (h : Tr Try.prog W 25 v.cells.toList) :
    ∃ (x0 x1 x2 x3 x4 x5 : Int), v = .agg #[.int .i64 x0, .int .i64 x1, .int .i64 x2, .int .i64 x3, .int .i64 x4, .int .i64 x5] := by
  have cN : Try.prog.cellsOf 25 = 6 := by kernel_rfl
  obtain ⟨cs, rfl, hsz⟩ := okWide_struct Try.underlying25 o
  obtain ⟨l⟩ := cs
  obtain ⟨_, hall⟩ := h.struct Try.underlying25
  match l, hsz.trans cN with
  | [v0, v1, v2, v3, v4, v5], _ =>
    have hr := hall 0 _ rfl
    simp only [Value.cells] at hr
    obtain ⟨_, hallr⟩ := hr.struct Try.underlying23
    have h0 := hallr 0 _ rfl
    have h1 := hallr 1 _ rfl
    have h2 := hall 1 _ rfl
    have h3 := hall 2 _ rfl
    have h4 := hall 3 _ rfl
    have h5 := hall 4 _ rfl
    simp only [Value.cells] at h2 h3 h4 h5
    obtain ⟨x0, e0, w0⟩ := h0.int Try.underlying3
    have e0' : v0 = .int .i64 x0 := by have : [v0] = [.int .i64 x0] := e0; simpa using this
    obtain ⟨x1, e1, w1⟩ := h1.int Try.underlying3
    have e1' : v1 = .int .i64 x1 := by have : [v1] = [.int .i64 x1] := e1; simpa using this
    obtain ⟨x2, e2, w2⟩ := h2.int Try.underlying3
    have e2' : v2 = .int .i64 x2 := by have : [v2] = [.int .i64 x2] := e2; simpa using this
    obtain ⟨x3, e3, w3⟩ := h3.int Try.underlying3
    have e3' : v3 = .int .i64 x3 := by have : [v3] = [.int .i64 x3] := e3; simpa using this
    obtain ⟨x4, e4, w4⟩ := h4.int Try.underlying3
    have e4' : v4 = .int .i64 x4 := by have : [v4] = [.int .i64 x4] := e4; simpa using this
    obtain ⟨x5, e5, w5⟩ := h5.int Try.underlying3
    have e5' : v5 = .int .i64 x5 := by have : [v5] = [.int .i64 x5] := e5; simpa using this
    subst e0' e1' e2' e3' e4' e5'
    exact ⟨x0, x1, x2, x3, x4, x5, rfl⟩
theorem stays_open {W : World} {r : Reach} {b0 : Nat} {v : Value} (o : Value.okWide Try.prog W r b0 34 v) (h : Tr Try.prog W 34 v.cells.toList) :
    ∃ (x0 x1 x2 x3 x4 x5 x6 : Int), v = .agg #[.int .i64 x0, .int .i64 x1, .int .i64 x2, .int .i64 x3, .int .i64 x4, .int .i64 x5, .int .i64 x6] := by
  have cN : Try.prog.cellsOf 34 = 7 := by kernel_rfl
  obtain ⟨cs, rfl, hsz⟩ := okWide_struct Try.underlying34 o
  obtain ⟨l⟩ := cs
  obtain ⟨_, hall⟩ := h.struct Try.underlying34
  match l, hsz.trans cN with
  | [v0, v1, v2, v3, v4, v5, v6], _ =>
    have hr := hall 0 _ rfl
    simp only [Value.cells] at hr
    obtain ⟨_, hallr⟩ := hr.struct Try.underlying23
    have h0 := hallr 0 _ rfl
    have h1 := hallr 1 _ rfl
    have h2 := hall 1 _ rfl
    have h3 := hall 2 _ rfl
    have h4 := hall 3 _ rfl
    have h5 := hall 4 _ rfl
    have h6 := hall 5 _ rfl
    simp only [Value.cells] at h2 h3 h4 h5 h6
    obtain ⟨x0, e0, w0⟩ := h0.int Try.underlying3
    have e0' : v0 = .int .i64 x0 := by have : [v0] = [.int .i64 x0] := e0; simpa using this
    obtain ⟨x1, e1, w1⟩ := h1.int Try.underlying3
    have e1' : v1 = .int .i64 x1 := by have : [v1] = [.int .i64 x1] := e1; simpa using this
    obtain ⟨x2, e2, w2⟩ := h2.int Try.underlying3
    have e2' : v2 = .int .i64 x2 := by have : [v2] = [.int .i64 x2] := e2; simpa using this
    obtain ⟨x3, e3, w3⟩ := h3.int Try.underlying3
    have e3' : v3 = .int .i64 x3 := by have : [v3] = [.int .i64 x3] := e3; simpa using this
    obtain ⟨x4, e4, w4⟩ := h4.int Try.underlying3
    have e4' : v4 = .int .i64 x4 := by have : [v4] = [.int .i64 x4] := e4; simpa using this
    obtain ⟨x5, e5, w5⟩ := h5.int Try.underlying3
    have e5' : v5 = .int .i64 x5 := by have : [v5] = [.int .i64 x5] := e5; simpa using this
    obtain ⟨x6, e6, w6⟩ := h6.int Try.underlying3
    have e6' : v6 = .int .i64 x6 := by have : [v6] = [.int .i64 x6] := e6; simpa using this
    subst e0' e1' e2' e3' e4' e5' e6'
    exact ⟨x0, x1, x2, x3, x4, x5, x6, rfl⟩
theorem grows_open {W : World} {r : Reach} {b0 : Nat} {v : Value} (o : Value.okWide Try.prog W r b0 41 v) (h : Tr Try.prog W 41 v.cells.toList) :
    ∃ (x0 x1 x2 : Int) (x3 : Bool), v = .agg #[.int .u8 x0, .int .u8 x1, .int .u8 x2, .bool x3] ∧ 0 ≤ x0 ∧ x0 < 256 ∧ 0 ≤ x1 ∧ x1 < 256 ∧ 0 ≤ x2 ∧ x2 < 256 := by
  have cN : Try.prog.cellsOf 41 = 4 := by kernel_rfl
  obtain ⟨cs, rfl, hsz⟩ := okWide_struct Try.underlying41 o
  obtain ⟨l⟩ := cs
  obtain ⟨_, hall⟩ := h.struct Try.underlying41
  match l, hsz.trans cN with
  | [v0, v1, v2, v3], _ =>
    have h0 := hall 0 _ rfl
    have h1 := hall 1 _ rfl
    have h2 := hall 2 _ rfl
    have h3 := hall 3 _ rfl
    simp only [Value.cells] at h0 h1 h2 h3
    obtain ⟨x0, e0, w0⟩ := h0.int Try.underlying5
    have e0' : v0 = .int .u8 x0 := by have : [v0] = [.int .u8 x0] := e0; simpa using this
    obtain ⟨x1, e1, w1⟩ := h1.int Try.underlying5
    have e1' : v1 = .int .u8 x1 := by have : [v1] = [.int .u8 x1] := e1; simpa using this
    obtain ⟨x2, e2, w2⟩ := h2.int Try.underlying5
    have e2' : v2 = .int .u8 x2 := by have : [v2] = [.int .u8 x2] := e2; simpa using this
    obtain ⟨x3, e3⟩ := h3.bool Try.underlying4
    have e3' : v3 = .bool x3 := by have : [v3] = [.bool x3] := e3; simpa using this
    subst e0' e1' e2' e3'
    exact ⟨x0, x1, x2, x3, rfl, (wf_u8 w0).1, (wf_u8 w0).2, (wf_u8 w1).1, (wf_u8 w1).2, (wf_u8 w2).1, (wf_u8 w2).2⟩
theorem bytes_open {W : World} {r : Reach} {b0 : Nat} {v : Value} (o : Value.okWide Try.prog W r b0 37 v) (h : Tr Try.prog W 37 v.cells.toList) : ∃ A n c l, v = .slice A n c ∧ Rd W A n c l := by
  obtain ⟨A, n, c, l, e, hr⟩ := h.bytes Try.underlying37 Try.underlying5 (by kernel_rfl)
  obtain ⟨B, m, d, rfl⟩ := okWide_slice Try.underlying37 o
  simp [Value.cells] at e
  obtain ⟨rfl, rfl, rfl⟩ := e
  exact ⟨_, _, _, l, rfl, hr⟩
theorem bools_open {W : World} {r : Reach} {b0 : Nat} {v : Value} (o : Value.okWide Try.prog W r b0 38 v) (h : Tr Try.prog W 38 v.cells.toList) : ∃ A n c l, v = .slice A n c ∧ RdV W A n c (bos l) := by
  obtain ⟨A, n, c, l, e, hr⟩ := h.bools Try.underlying38 Try.underlying4 (by kernel_rfl)
  obtain ⟨B, m, d, rfl⟩ := okWide_slice Try.underlying38 o
  simp [Value.cells] at e
  obtain ⟨rfl, rfl, rfl⟩ := e
  exact ⟨_, _, _, l, rfl, hr⟩
theorem three_open {W : World} {r : Reach} {b0 : Nat} {v : Value} (o : Value.okWide Try.prog W r b0 36 v) (h : Tr Try.prog W 36 v.cells.toList) : ∃ a s c : Int, v = .agg #[.int .u8 a, .int .u8 s, .int .u8 c] ∧ (0 ≤ a ∧ a < 256) ∧ (0 ≤ s ∧ s < 256) ∧ 0 ≤ c ∧ c < 256 := by
  have cA : Try.prog.cellsOf 36 = 3 := by kernel_rfl
  have cB : Try.prog.cellsOf 5 = 1 := by kernel_rfl
  obtain ⟨cs, rfl, hsz, _⟩ : ∃ cs, v = .agg cs ∧ cs.size = Try.prog.cellsOf 36 ∧ Row.okWide Try.prog W r b0 36 cs := by
    simpa [Value.okWide, Try.underlying36] using o
  obtain ⟨l⟩ := cs
  obtain ⟨_, hall⟩ := h.array Try.underlying36
  match l, hsz.trans cA with
  | [v0, v1, v2], _ =>
    have h0 := hall 0 (by omega)
    have h1 := hall 1 (by omega)
    have h2 := hall 2 (by omega)
    rw [cB] at h0 h1 h2
    simp only [Value.cells] at h0 h1 h2
    obtain ⟨a0, e0, w0⟩ := h0.int Try.underlying5
    obtain ⟨a1, e1, w1⟩ := h1.int Try.underlying5
    obtain ⟨a2, e2, w2⟩ := h2.int Try.underlying5
    injection e0 with e0
    injection e1 with e1
    injection e2 with e2
    subst e0 e1 e2
    exact ⟨a0, a1, a2, rfl, wf_u8 w0, wf_u8 w1, wf_u8 w2⟩
end Go.Proofs.Ytpobaecfmdpphaa
