/- What comes in of chapter 10's laws, opened to its parts. -/
import Derived.Test.YtkmogmdekpdbpaaRows
import Derived.Test.YtkmogmdekpdbpaaOpen
set_option maxRecDepth 100000
namespace Go.Proofs.Ytkmogmdekpdbpaa
open Go.RowKit Go.ChangeShapes Go.WideShapes Go.ChangeAt
set_option linter.unusedVariables false

theorem wf_u16 {a : Int} (h : (Lit.int .u16 a).wf = true) : 0 ≤ a ∧ a < 65536 := by
  simp [Lit.wf, IntKind.min, IntKind.max, IntKind.bits, IntKind.signed] at h
  omega
theorem wf_u32 {a : Int} (h : (Lit.int .u32 a).wf = true) : 0 ≤ a ∧ a < 4294967296 := by
  simp [Lit.wf, IntKind.min, IntKind.max, IntKind.bits, IntKind.signed] at h
  omega
theorem Tr.bool {P : Program} {w : World} {t : TypeId} {cs : List Value} (ht : P.underlying t = some .bool) (h : Tr P w t cs) : ∃ a, cs = [.bool a] := by
  obtain ⟨H, enc, fuel, x, hf⟩ := h
  obtain ⟨a, h1, _⟩ := DataW.trod_bool ht hf
  exact ⟨a, h1⟩
theorem byte_open {W : World} {r : Reach} {b0 : Nat} {v : Value} (o : Value.okWide Try.prog W r b0 5 v) (h : Tr Try.prog W 5 v.cells.toList) : ∃ a : Int, v = .int .u8 a ∧ 0 ≤ a ∧ a < 256 := by
  obtain ⟨a, e, hw⟩ := h.int Try.underlying5
  obtain ⟨k, rfl⟩ := okWide_int Try.underlying5 o
  simp [Value.cells] at e
  subst e
  exact ⟨_, rfl, wf_u8 hw⟩
theorem u16_open {W : World} {r : Reach} {b0 : Nat} {v : Value} (o : Value.okWide Try.prog W r b0 34 v) (h : Tr Try.prog W 34 v.cells.toList) : ∃ a : Int, v = .int .u16 a ∧ 0 ≤ a ∧ a < 65536 := by
  obtain ⟨a, e, hw⟩ := h.int Try.underlying34
  obtain ⟨k, rfl⟩ := okWide_int Try.underlying34 o
  simp [Value.cells] at e
  subst e
  exact ⟨_, rfl, wf_u16 hw⟩
theorem u32_open {W : World} {r : Reach} {b0 : Nat} {v : Value} (o : Value.okWide Try.prog W r b0 32 v) (h : Tr Try.prog W 32 v.cells.toList) : ∃ a : Int, v = .int .u32 a ∧ 0 ≤ a ∧ a < 4294967296 := by
  obtain ⟨a, e, hw⟩ := h.int Try.underlying32
  obtain ⟨k, rfl⟩ := okWide_int Try.underlying32 o
  simp [Value.cells] at e
  subst e
  exact ⟨_, rfl, wf_u32 hw⟩
theorem int_open {W : World} {r : Reach} {b0 : Nat} {v : Value} (o : Value.okWide Try.prog W r b0 3 v) (h : Tr Try.prog W 3 v.cells.toList) : ∃ a : Int, v = .int .i64 a ∧ -9223372036854775808 ≤ a ∧ a ≤ 9223372036854775807 := by
  obtain ⟨a, e, hw⟩ := h.int Try.underlying3
  obtain ⟨k, rfl⟩ := okWide_int Try.underlying3 o
  simp [Value.cells] at e
  subst e
  exact ⟨_, rfl, wf_i64 hw⟩
theorem tells_open {W : World} {r : Reach} {b0 : Nat} {v : Value} (o : Value.okWide Try.prog W r b0 25 v) (h : Tr Try.prog W 25 v.cells.toList) :
    ∃ (d now wait : Int) (gap : Bool), v = .agg #[.int .i64 d, .int .i64 now, .int .i64 wait, .bool gap] := by
  have cN : Try.prog.cellsOf 25 = 4 := by kernel_rfl
  obtain ⟨cs, rfl, hsz⟩ := okWide_struct Try.underlying25 o
  obtain ⟨l⟩ := cs
  obtain ⟨_, hall⟩ := h.struct Try.underlying25
  match l, hsz.trans cN with
  | [v0, v1, v2, v3], _ =>
    have h0 := hall 0 _ rfl
    have h1 := hall 1 _ rfl
    have h2 := hall 2 _ rfl
    have h3 := hall 3 _ rfl
    simp only [Value.cells] at h0 h1 h2 h3
    obtain ⟨_, hall0⟩ := h0.struct Try.underlying23
    have h00 := hall0 0 _ rfl
    obtain ⟨x0, e0, _⟩ := h00.int Try.underlying3
    obtain ⟨x1, e1, _⟩ := h1.int Try.underlying3
    obtain ⟨x2, e2, _⟩ := h2.int Try.underlying3
    obtain ⟨x3, e3⟩ := h3.bool Try.underlying4
    have e0' : v0 = .int .i64 x0 := by have : [v0] = [.int .i64 x0] := e0; simpa using this
    have e1' : v1 = .int .i64 x1 := by have : [v1] = [.int .i64 x1] := e1; simpa using this
    have e2' : v2 = .int .i64 x2 := by have : [v2] = [.int .i64 x2] := e2; simpa using this
    have e3' : v3 = .bool x3 := by have : [v3] = [.bool x3] := e3; simpa using this
    subst e0' e1' e2' e3'
    exact ⟨x0, x1, x2, x3, rfl⟩
end Go.Proofs.Ytkmogmdekpdbpaa
