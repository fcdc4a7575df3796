/- What comes in of chapter 14's laws, opened to its parts. -/
import Derived.Test.YtpbkaaljilcecaaRows
import Derived.Test.YtpbkaaljilcecaaOpen
set_option maxRecDepth 100000
namespace Go.Proofs.Ytpbkaaljilcecaa
open Go.RowKit Go.ChangeShapes Go.WideShapes Go.ChangeAt
set_option linter.unusedVariables false

theorem int_open {W : World} {r : Reach} {b0 : Nat} {v : Value} (o : Value.okWide Try.prog W r b0 3 v) (h : Tr Try.prog W 3 v.cells.toList) : ∃ a : Int, v = .int .i64 a := by
  obtain ⟨a, e, hw⟩ := h.int Try.underlying3
  obtain ⟨k, rfl⟩ := okWide_int Try.underlying3 o
  simp [Value.cells] at e
  subst e
  exact ⟨_, rfl⟩

theorem tells_open {W : World} {r : Reach} {b0 : Nat} {v : Value} (o : Value.okWide Try.prog W r b0 25 v) (h : Tr Try.prog W 25 v.cells.toList) :
    ∃ (x0 x1 x2 x3 x4 x5 : Int), v = .agg #[.int .i64 x0, .int .i64 x1, .int .i64 x2, .int .i64 x3, .int .i64 x4, .int .i64 x5] := by
  have cN : Try.prog.cellsOf 25 = 6 := by kernel_rfl
  obtain ⟨cs, rfl, hsz⟩ := okWide_struct Try.underlying25 o
  obtain ⟨l⟩ := cs
  obtain ⟨_, hall⟩ := h.struct Try.underlying25
  match l, hsz.trans cN with
  | [v0, v1, v2, v3, v4, v5], _ =>
    have hr := hall 0 _ rfl
    simp only [Value.cells] at hr
    obtain ⟨_, hallr⟩ := hr.struct Try.underlying23
    have h0 := hallr 0 _ rfl
    have h1 := hall 1 _ rfl
    have h2 := hall 2 _ rfl
    have h3 := hall 3 _ rfl
    have h4 := hall 4 _ rfl
    have h5 := hall 5 _ rfl
    simp only [Value.cells] at h1 h2 h3 h4 h5
    obtain ⟨x0, e0, w0⟩ := h0.int Try.underlying3
    have e0' : v0 = .int .i64 x0 := by have : [v0] = [.int .i64 x0] := e0; simpa using this
    obtain ⟨x1, e1, w1⟩ := h1.int Try.underlying3
    have e1' : v1 = .int .i64 x1 := by have : [v1] = [.int .i64 x1] := e1; simpa using this
    obtain ⟨x2, e2, w2⟩ := h2.int Try.underlying3
    have e2' : v2 = .int .i64 x2 := by have : [v2] = [.int .i64 x2] := e2; simpa using this
    obtain ⟨x3, e3, w3⟩ := h3.int Try.underlying3
    have e3' : v3 = .int .i64 x3 := by have : [v3] = [.int .i64 x3] := e3; simpa using this
    obtain ⟨x4, e4, w4⟩ := h4.int Try.underlying3
    have e4' : v4 = .int .i64 x4 := by have : [v4] = [.int .i64 x4] := e4; simpa using this
    obtain ⟨x5, e5, w5⟩ := h5.int Try.underlying3
    have e5' : v5 = .int .i64 x5 := by have : [v5] = [.int .i64 x5] := e5; simpa using this
    subst e0' e1' e2' e3' e4' e5'
    exact ⟨x0, x1, x2, x3, x4, x5, rfl⟩

theorem runs_open {W : World} {r : Reach} {b0 : Nat} {v : Value} (o : Value.okWide Try.prog W r b0 34 v) (h : Tr Try.prog W 34 v.cells.toList) :
    ∃ (AL : Option Addr) (nL cL : Nat) (rL : List UInt8) (a : Int) (b : Int) (d : Int) (y : Int), v = .agg #[.slice AL nL cL, .int .u8 a, .int .u8 b, .int .u8 d, .int .u8 y] ∧ Rd W AL nL cL rL ∧ (0 ≤ a ∧ a < 256) ∧ (0 ≤ b ∧ b < 256) ∧ (0 ≤ d ∧ d < 256) ∧ (0 ≤ y ∧ y < 256) := by
  have cN : Try.prog.cellsOf 34 = 5 := by kernel_rfl
  obtain ⟨cs, rfl, hsz⟩ := okWide_struct Try.underlying34 o
  obtain ⟨l⟩ := cs
  obtain ⟨_, hall⟩ := h.struct Try.underlying34
  match l, hsz.trans cN with
  | [v0, v1, v2, v3, v4], _ =>
    have h0 := hall 0 _ rfl
    have h1 := hall 1 _ rfl
    have h2 := hall 2 _ rfl
    have h3 := hall 3 _ rfl
    have h4 := hall 4 _ rfl
    simp only [Value.cells] at h0 h1 h2 h3 h4
    obtain ⟨AL, nL, cL, rL, e0, w0⟩ := h0.bytes Try.underlying32 Try.underlying5 (by kernel_rfl)
    obtain ⟨a, e1, w1⟩ := h1.int Try.underlying5
    obtain ⟨b, e2, w2⟩ := h2.int Try.underlying5
    obtain ⟨d, e3, w3⟩ := h3.int Try.underlying5
    obtain ⟨y, e4, w4⟩ := h4.int Try.underlying5
    have e0' : v0 = .slice AL nL cL := by have : [v0] = [.slice AL nL cL] := e0; simpa using this
    have e1' : v1 = .int .u8 a := by have : [v1] = [.int .u8 a] := e1; simpa using this
    have e2' : v2 = .int .u8 b := by have : [v2] = [.int .u8 b] := e2; simpa using this
    have e3' : v3 = .int .u8 d := by have : [v3] = [.int .u8 d] := e3; simpa using this
    have e4' : v4 = .int .u8 y := by have : [v4] = [.int .u8 y] := e4; simpa using this
    subst e0' e1' e2' e3' e4'
    exact ⟨AL, nL, cL, rL, a, b, d, y, rfl, w0, wf_u8 w1, wf_u8 w2, wf_u8 w3, wf_u8 w4⟩

theorem steady_open {W : World} {r : Reach} {b0 : Nat} {v : Value} (o : Value.okWide Try.prog W r b0 38 v) (h : Tr Try.prog W 38 v.cells.toList) :
    ∃ (a : Int) (xl : Int) (xh : Int) (xo : Int) (c : Int), v = .agg #[.int .u8 a, .int .i64 xl, .int .i64 xh, .int .i64 xo, .int .u8 c] ∧ (0 ≤ a ∧ a < 256) ∧ (-9223372036854775808 ≤ xl ∧ xl ≤ 9223372036854775807) ∧ (-9223372036854775808 ≤ xh ∧ xh ≤ 9223372036854775807) ∧ (-9223372036854775808 ≤ xo ∧ xo ≤ 9223372036854775807) ∧ (0 ≤ c ∧ c < 256) := by
  have cN : Try.prog.cellsOf 38 = 5 := by kernel_rfl
  obtain ⟨cs, rfl, hsz⟩ := okWide_struct Try.underlying38 o
  obtain ⟨l⟩ := cs
  obtain ⟨_, hall⟩ := h.struct Try.underlying38
  match l, hsz.trans cN with
  | [v0, v1, v2, v3, v4], _ =>
    have h0 := hall 0 _ rfl
    have h1 := hall 1 _ rfl
    have h2 := hall 2 _ rfl
    have h3 := hall 3 _ rfl
    have h4 := hall 4 _ rfl
    simp only [Value.cells] at h0 h1 h2 h3 h4
    obtain ⟨a, e0, w0⟩ := h0.int Try.underlying5
    obtain ⟨xl, e1, w1⟩ := h1.int Try.underlying3
    obtain ⟨xh, e2, w2⟩ := h2.int Try.underlying3
    obtain ⟨xo, e3, w3⟩ := h3.int Try.underlying3
    obtain ⟨c, e4, w4⟩ := h4.int Try.underlying5
    have e0' : v0 = .int .u8 a := by have : [v0] = [.int .u8 a] := e0; simpa using this
    have e1' : v1 = .int .i64 xl := by have : [v1] = [.int .i64 xl] := e1; simpa using this
    have e2' : v2 = .int .i64 xh := by have : [v2] = [.int .i64 xh] := e2; simpa using this
    have e3' : v3 = .int .i64 xo := by have : [v3] = [.int .i64 xo] := e3; simpa using this
    have e4' : v4 = .int .u8 c := by have : [v4] = [.int .u8 c] := e4; simpa using this
    subst e0' e1' e2' e3' e4'
    exact ⟨a, xl, xh, xo, c, rfl, wf_u8 w0, wf_i64 w1, wf_i64 w2, wf_i64 w3, wf_u8 w4⟩

end Go.Proofs.Ytpbkaaljilcecaa
