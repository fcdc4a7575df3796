/- The arguments of sendq's laws, opened by their types. -/
import Derived.Test.YtileinmcnilajaaSRow
set_option maxRecDepth 100000
namespace Go.Proofs.Ytileinmcnilajaa
open Go.RowKit Go.ChangeShapes Go.WideShapes Go.ChangeAt
set_option linter.unusedVariables false

theorem byte_open {W : World} {r : Reach} {b0 : Nat} {v : Value} (o : Value.okWide Try.prog W r b0 5 v) (h : Tr Try.prog W 5 v.cells.toList) : ∃ a : Int, v = .int .u8 a ∧ 0 ≤ a ∧ a < 256 := by
  obtain ⟨a, e, hw⟩ := h.int Try.underlying5
  obtain ⟨k, rfl⟩ := okWide_int Try.underlying5 o
  simp [Value.cells] at e
  subst e
  exact ⟨_, rfl, wf_u8 hw⟩
theorem Tr.byteRows {w : World} {cs : List Value} (h : Tr Try.prog w 22 cs) : ∃ A n c rs, cs = [.slice A n c] ∧ RdB w A n c rs := by
  obtain ⟨A, n, c, rfl, hn, hc, hA, hE⟩ := h.slice Try.underlying22 (k := 1) (by kernel_rfl) (by omega)
  by_cases h0 : 0 < n
  · obtain ⟨b, o, rfl, hE2⟩ := hE h0
    obtain ⟨l, hl, hF⟩ := list_of (n := n) (fun i (r : Bw) => Rd w r.A r.n r.c r.b ∧ w.cell? ⟨b, o + i, none⟩ = some (.slice r.A r.n r.c)) (fun i hi => by
      obtain ⟨ys, _, hT, hc⟩ := hE2 i hi
      obtain ⟨A, m, d, bb, rfl, hr⟩ := hT.bytes Try.underlying23 Try.underlying5 (by kernel_rfl)
      have := hc 0 _ rfl
      rw [Nat.mul_one, Nat.add_zero] at this
      exact ⟨⟨A, m, d, bb⟩, hr, this⟩)
    refine ⟨some ⟨b, o, none⟩, n, c, l, rfl, ⟨by simpa using hl, hn, hc, (fun h => by cases h), fun _ => ⟨b, o, rfl, fun i u hu => ?_⟩⟩, fun r hr => ?_⟩
    · rw [List.getElem?_map, Option.map_eq_some_iff] at hu
      obtain ⟨r, hr, rfl⟩ := hu
      exact (hF i r hr).2
    · obtain ⟨i, hi⟩ := List.getElem?_of_mem hr
      exact (hF i r hi).1
  · have hn0 : n = 0 := by omega
    subst hn0
    exact ⟨A, 0, c, [], rfl, ⟨rfl, hn, hc, hA, fun h => absurd h (by omega)⟩, fun r hr => by cases hr⟩
theorem byteRows_open {W : World} {r : Reach} {b0 : Nat} {v : Value} (o : Value.okWide Try.prog W r b0 22 v) (h : Tr Try.prog W 22 v.cells.toList) : ∃ A n c rs, v = .slice A n c ∧ RdB W A n c rs := by
  obtain ⟨a, m, c, rfl⟩ := Go.WideShapes.okWide_slice Try.underlying22 o
  obtain ⟨A, m', d, ls, ha, hr⟩ := h.byteRows
  obtain ⟨rfl, rfl, rfl⟩ : a = A ∧ m = m' ∧ c = d := by simpa [Value.cells] using ha
  exact ⟨a, m, c, ls, rfl, hr⟩
theorem bytes_open {W : World} {r : Reach} {b0 : Nat} {v : Value} (o : Value.okWide Try.prog W r b0 23 v) (h : Tr Try.prog W 23 v.cells.toList) : ∃ A n c l, v = .slice A n c ∧ Rd W A n c l := by
  obtain ⟨a, m, c, rfl⟩ := okWide_slice Try.underlying23 o
  obtain ⟨A, m', d, ls, ha, hr⟩ := h.bytes Try.underlying23 Try.underlying5 (by kernel_rfl)
  obtain ⟨rfl, rfl, rfl⟩ : a = A ∧ m = m' ∧ c = d := by simpa [Value.cells] using ha
  exact ⟨a, m, c, ls, rfl, hr⟩
theorem stells_open {W : World} {r : Reach} {b0 : Nat} {v : Value} (o : Value.okWide Try.prog W r b0 25 v) (h : Tr Try.prog W 25 v.cells.toList) :
    ∃ (Aq : Option Addr) (nq cq : Nat) (rq : List Bw) (Ao : Option Addr) (no co : Nat) (ro : List Bw) (Ab : Option Addr) (nb cb : Nat) (rb : List UInt8) (room : Int) (most : Int), v = .agg #[.slice Aq nq cq, .slice Ao no co, .slice Ab nb cb, .int .i64 room, .int .i64 most] ∧ RdB W Aq nq cq rq ∧ RdB W Ao no co ro ∧ Rd W Ab nb cb rb ∧ (-9223372036854775808 ≤ room ∧ room ≤ 9223372036854775807) ∧ (-9223372036854775808 ≤ most ∧ most ≤ 9223372036854775807) := by
  have cN : Try.prog.cellsOf 25 = 5 := by kernel_rfl
  obtain ⟨cs, rfl, hsz⟩ := okWide_struct Try.underlying25 o
  obtain ⟨l⟩ := cs
  obtain ⟨_, hall⟩ := h.struct Try.underlying25
  match l, hsz.trans cN with
  | [v0, v1, v2, v3, v4], _ =>
    have h0 := hall 0 _ rfl
    have h1 := hall 1 _ rfl
    have h2 := hall 2 _ rfl
    have h3 := hall 3 _ rfl
    have h4 := hall 4 _ rfl
    simp only [Value.cells] at h0 h1 h2 h3 h4
    obtain ⟨Aq, nq, cq, rq, e0, w0⟩ := h0.byteRows
    obtain ⟨Ao, no, co, ro, e1, w1⟩ := h1.byteRows
    obtain ⟨Ab, nb, cb, rb, e2, w2⟩ := h2.bytes Try.underlying23 Try.underlying5 (by kernel_rfl)
    obtain ⟨room, e3, w3⟩ := h3.int Try.underlying3
    obtain ⟨most, e4, w4⟩ := h4.int Try.underlying3
    have e0' : v0 = .slice Aq nq cq := by have : [v0] = [.slice Aq nq cq] := e0; simpa using this
    have e1' : v1 = .slice Ao no co := by have : [v1] = [.slice Ao no co] := e1; simpa using this
    have e2' : v2 = .slice Ab nb cb := by have : [v2] = [.slice Ab nb cb] := e2; simpa using this
    have e3' : v3 = .int .i64 room := by have : [v3] = [.int .i64 room] := e3; simpa using this
    have e4' : v4 = .int .i64 most := by have : [v4] = [.int .i64 most] := e4; simpa using this
    subst e0' e1' e2' e3' e4'
    exact ⟨Aq, nq, cq, rq, Ao, no, co, ro, Ab, nb, cb, rb, room, most, rfl, w0, w1, w2, wf_i64 w3, wf_i64 w4⟩
theorem skeeps_open {W : World} {r : Reach} {b0 : Nat} {v : Value} (o : Value.okWide Try.prog W r b0 44 v) (h : Tr Try.prog W 44 v.cells.toList) :
    ∃ (Aq : Option Addr) (nq cq : Nat) (rq : List Bw) (Ab : Option Addr) (nb cb : Nat) (rb : List UInt8) (room : Int) (most : Int), v = .agg #[.slice Aq nq cq, .slice Ab nb cb, .int .i64 room, .int .i64 most] ∧ RdB W Aq nq cq rq ∧ Rd W Ab nb cb rb ∧ (-9223372036854775808 ≤ room ∧ room ≤ 9223372036854775807) ∧ (-9223372036854775808 ≤ most ∧ most ≤ 9223372036854775807) := by
  have cN : Try.prog.cellsOf 44 = 4 := by kernel_rfl
  obtain ⟨cs, rfl, hsz⟩ := okWide_struct Try.underlying44 o
  obtain ⟨l⟩ := cs
  obtain ⟨_, hall⟩ := h.struct Try.underlying44
  match l, hsz.trans cN with
  | [v0, v1, v2, v3], _ =>
    have h0 := hall 0 _ rfl
    have h1 := hall 1 _ rfl
    have h2 := hall 2 _ rfl
    have h3 := hall 3 _ rfl
    simp only [Value.cells] at h0 h1 h2 h3
    obtain ⟨Aq, nq, cq, rq, e0, w0⟩ := h0.byteRows
    obtain ⟨Ab, nb, cb, rb, e1, w1⟩ := h1.bytes Try.underlying23 Try.underlying5 (by kernel_rfl)
    obtain ⟨room, e2, w2⟩ := h2.int Try.underlying3
    obtain ⟨most, e3, w3⟩ := h3.int Try.underlying3
    have e0' : v0 = .slice Aq nq cq := by have : [v0] = [.slice Aq nq cq] := e0; simpa using this
    have e1' : v1 = .slice Ab nb cb := by have : [v1] = [.slice Ab nb cb] := e1; simpa using this
    have e2' : v2 = .int .i64 room := by have : [v2] = [.int .i64 room] := e2; simpa using this
    have e3' : v3 = .int .i64 most := by have : [v3] = [.int .i64 most] := e3; simpa using this
    subst e0' e1' e2' e3'
    exact ⟨Aq, nq, cq, rq, Ab, nb, cb, rb, room, most, rfl, w0, w1, wf_i64 w2, wf_i64 w3⟩
theorem sorder_open {W : World} {r : Reach} {b0 : Nat} {v : Value} (o : Value.okWide Try.prog W r b0 41 v) (h : Tr Try.prog W 41 v.cells.toList) :
    ∃ (Al : Option Addr) (nl cl : Nat) (rl : List Bw) (Ap : Option Addr) (np cp : Nat) (rp : List Bool) (room : Int) (most : Int), v = .agg #[.slice Al nl cl, .slice Ap np cp, .int .u8 room, .int .u8 most] ∧ RdB W Al nl cl rl ∧ RdV W Ap np cp (bos rp) ∧ (0 ≤ room ∧ room < 256) ∧ (0 ≤ most ∧ most < 256) := by
  have cN : Try.prog.cellsOf 41 = 4 := by kernel_rfl
  obtain ⟨cs, rfl, hsz⟩ := okWide_struct Try.underlying41 o
  obtain ⟨l⟩ := cs
  obtain ⟨_, hall⟩ := h.struct Try.underlying41
  match l, hsz.trans cN with
  | [v0, v1, v2, v3], _ =>
    have h0 := hall 0 _ rfl
    have h1 := hall 1 _ rfl
    have h2 := hall 2 _ rfl
    have h3 := hall 3 _ rfl
    simp only [Value.cells] at h0 h1 h2 h3
    obtain ⟨Al, nl, cl, rl, e0, w0⟩ := h0.byteRows
    obtain ⟨Ap, np, cp, rp, e1, w1⟩ := h1.bools Try.underlying39 Try.underlying4 (by kernel_rfl)
    obtain ⟨room, e2, w2⟩ := h2.int Try.underlying5
    obtain ⟨most, e3, w3⟩ := h3.int Try.underlying5
    have e0' : v0 = .slice Al nl cl := by have : [v0] = [.slice Al nl cl] := e0; simpa using this
    have e1' : v1 = .slice Ap np cp := by have : [v1] = [.slice Ap np cp] := e1; simpa using this
    have e2' : v2 = .int .u8 room := by have : [v2] = [.int .u8 room] := e2; simpa using this
    have e3' : v3 = .int .u8 most := by have : [v3] = [.int .u8 most] := e3; simpa using this
    subst e0' e1' e2' e3'
    exact ⟨Al, nl, cl, rl, Ap, np, cp, rp, room, most, rfl, w0, w1, wf_u8 w2, wf_u8 w3⟩
end Go.Proofs.Ytileinmcnilajaa
