/- A packet that came in, opened to its parts; an array of four bytes likewise. -/
import Derived.Test.YtahkhideepncfaaDoorPkt0
import Derived.Test.YtahkhideepncfaaDoorIE
set_option maxRecDepth 100000
namespace Go.Proofs.YtahkhideepncfaaDoor
open Go.RowKit Go.ChangeShapes Go.WideShapes Go.ChangeAt
set_option linter.unusedVariables false

theorem pkt_open {W : World} {r : Reach} {b0 : Nat} {v : Value} (o : Value.okWide Tryd.prog W r b0 27 v) (h : Tr Tryd.prog W 27 v.cells.toList) : ∃ p, IsPkt W v p := by
  have c37 : Tryd.prog.cellsOf 27 = 15 := by kernel_rfl
  obtain ⟨cs, rfl, hsz⟩ := okWide_struct Tryd.underlying27 o
  obtain ⟨l⟩ := cs
  obtain ⟨_, hall⟩ := h.struct Tryd.underlying27
  match l, hsz.trans c37 with
  | [v0, v1, v2, v3, v4, v5, v6, v7, v8, v9, v10, v11, v12, v13, v14], _ =>
    have f0 := hall 0 _ rfl
    have f1 := hall 1 _ rfl
    have f2 := hall 2 _ rfl
    have f3 := hall 3 _ rfl
    have f4 := hall 4 _ rfl
    have f5 := hall 5 _ rfl
    have f6 := hall 6 _ rfl
    have f7 := hall 7 _ rfl
    simp only [Value.cells] at f0 f1 f2 f3 f4 f5 f6 f7
    have f2' : Tr Tryd.prog W 25 [v2, v3, v4, v5, v6, v7, v8, v9] := f2
    obtain ⟨_, hit⟩ := f2'.struct Tryd.underlying25
    have h0 := hit 0 _ rfl
    have h1 := hit 1 _ rfl
    have h2 := hit 2 _ rfl
    have h3 := hit 3 _ rfl
    have h4 := hit 4 _ rfl
    have h5 := hit 5 _ rfl
    have h6 := hit 6 _ rfl
    have h7 := hit 7 _ rfl
    obtain ⟨pk, ef0, _⟩ := f0.int Tryd.underlying3
    obtain ⟨pf, ef1, _⟩ := f1.int Tryd.underlying3
    obtain ⟨to, ef3, _⟩ := f3.int Tryd.underlying3
    obtain ⟨lo, ef4, _⟩ := f4.int Tryd.underlying3
    obtain ⟨many, ef5, _⟩ := f5.int Tryd.underlying3
    obtain ⟨top, ef6, _⟩ := f6.int Tryd.underlying3
    obtain ⟨k, eh0, _⟩ := h0.int Tryd.underlying3
    obtain ⟨q, eh1, _⟩ := h1.int Tryd.underlying3
    obtain ⟨e, eh2, _⟩ := h2.int Tryd.underlying3
    obtain ⟨i, eh3, _⟩ := h3.int Tryd.underlying3
    obtain ⟨t, eh4, _⟩ := h4.int Tryd.underlying3
    obtain ⟨c, eh5, _⟩ := h5.int Tryd.underlying3
    obtain ⟨LA, ln, lc, L, eh6, rl⟩ := h6.ints Tryd.underlying22 Tryd.underlying3 (by kernel_rfl)
    obtain ⟨BA, bn, bc, B, eh7, rb⟩ := h7.bytes Tryd.underlying23 Tryd.underlying5 (by kernel_rfl)
    obtain ⟨PA, pn, pc, P, ef7, rp⟩ := f7.ints Tryd.underlying22 Tryd.underlying3 (by kernel_rfl)
    injection ef0 with ef0
    injection ef1 with ef1
    injection ef3 with ef3
    injection ef4 with ef4
    injection ef5 with ef5
    injection ef6 with ef6
    injection ef7 with ef7
    injection eh0 with eh0
    injection eh1 with eh1
    injection eh2 with eh2
    injection eh3 with eh3
    injection eh4 with eh4
    injection eh5 with eh5
    injection eh6 with eh6
    injection eh7 with eh7
    subst ef0 ef1 ef3 ef4 ef5 ef6 ef7 eh0 eh1 eh2 eh3 eh4 eh5 eh6 eh7
    exact ⟨⟨pk, pf, ⟨k, q, e, i, t, c, L, B⟩, to, lo, many, top, P⟩, LA, ln, lc, BA, bn, bc, PA, pn, pc, rfl, rl, rb, rp⟩
theorem four_open {W : World} {r : Reach} {b0 : Nat} {v : Value} (o : Value.okWide Tryd.prog W r b0 68 v) (h : Tr Tryd.prog W 68 v.cells.toList) : ∃ y0 y1 y2 y3 : UInt8, v = .agg #[.int .u8 (y0.toNat : Int), .int .u8 (y1.toNat : Int), .int .u8 (y2.toNat : Int), .int .u8 (y3.toNat : Int)] := by
  have c48 : Tryd.prog.cellsOf 68 = 4 := by kernel_rfl
  have c5 : Tryd.prog.cellsOf 5 = 1 := by kernel_rfl
  obtain ⟨cs, rfl, hsz, _⟩ : ∃ cs, v = .agg cs ∧ cs.size = Tryd.prog.cellsOf 68 ∧ Row.okWide Tryd.prog W r b0 68 cs := by
    simpa [Value.okWide, Tryd.underlying68] using o
  obtain ⟨l⟩ := cs
  obtain ⟨_, hall⟩ := h.array Tryd.underlying68
  have hb : ∀ a : Int, (Lit.int .u8 a).wf = true → ∃ y : UInt8, a = (y.toNat : Int) := fun a ha => by
    have := wf_u8 ha
    exact ⟨UInt8.ofNat a.toNat, by rw [UInt8.toNat_ofNat']; omega⟩
  match l, hsz.trans c48 with
  | [v0, v1, v2, v3], _ =>
    have h0 := hall 0 (by omega)
    have h1 := hall 1 (by omega)
    have h2 := hall 2 (by omega)
    have h3 := hall 3 (by omega)
    rw [c5] at h0 h1 h2 h3
    simp only [Value.cells] at h0 h1 h2 h3
    obtain ⟨a0, e0, w0⟩ := h0.int Tryd.underlying5
    obtain ⟨a1, e1, w1⟩ := h1.int Tryd.underlying5
    obtain ⟨a2, e2, w2⟩ := h2.int Tryd.underlying5
    obtain ⟨a3, e3, w3⟩ := h3.int Tryd.underlying5
    injection e0 with e0
    injection e1 with e1
    injection e2 with e2
    injection e3 with e3
    subst e0 e1 e2 e3
    obtain ⟨y0, rfl⟩ := hb _ w0
    obtain ⟨y1, rfl⟩ := hb _ w1
    obtain ⟨y2, rfl⟩ := hb _ w2
    obtain ⟨y3, rfl⟩ := hb _ w3
    exact ⟨y0, y1, y2, y3, rfl⟩
end Go.Proofs.YtahkhideepncfaaDoor
