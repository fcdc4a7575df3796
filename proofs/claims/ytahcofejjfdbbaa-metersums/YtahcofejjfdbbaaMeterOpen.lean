/- What comes in of chapter 13's laws, opened to its parts. -/
import Derived.Test.YtahcofejjfdbbaaRows
import Derived.Test.YtahcofejjfdbbaaSlices
set_option maxRecDepth 100000
namespace Go.Proofs.Ytahcofejjfdbbaa
open Go.RowKit Go.ChangeShapes Go.WideShapes Go.ChangeAt
set_option linter.unusedVariables false

theorem wf_u32 {a : Int} (h : (Lit.int .u32 a).wf = true) : 0 ≤ a ∧ a < 4294967296 := by
  simp [Lit.wf, IntKind.min, IntKind.max, IntKind.bits, IntKind.signed] at h
  omega
theorem u8_open {W : World} {r : Reach} {b0 : Nat} {v : Value} (o : Value.okWide Try.prog W r b0 5 v) (h : Tr Try.prog W 5 v.cells.toList) : ∃ a : Int, v = .int .u8 a ∧ 0 ≤ a ∧ a < 256 := by
  obtain ⟨a, e, hw⟩ := h.int Try.underlying5
  obtain ⟨c, rfl⟩ := okWide_int Try.underlying5 o
  simp [Value.cells] at e
  subst e
  exact ⟨_, rfl, wf_u8 hw⟩

theorem tells_open {W : World} {r : Reach} {b0 : Nat} {v : Value} (o : Value.okWide Try.prog W r b0 25 v) (h : Tr Try.prog W 25 v.cells.toList) :
    ∃ (x0 x1 x2 x3 x4 x5 : Int), v = .agg #[.int .i64 x0, .int .i64 x1, .int .i64 x2, .int .i64 x3, .int .i64 x4, .int .i64 x5] := by
  have cN : Try.prog.cellsOf 25 = 6 := by kernel_rfl
  obtain ⟨cs, rfl, hsz⟩ := okWide_struct Try.underlying25 o
  obtain ⟨l⟩ := cs
  obtain ⟨_, hall⟩ := h.struct Try.underlying25
  match l, hsz.trans cN with
  | [v0, v1, v2, v3, v4, v5], _ =>
    have hr := hall 0 _ rfl
    simp only [Value.cells] at hr
    obtain ⟨_, hallr⟩ := hr.struct Try.underlying23
    have h0 := hallr 0 _ rfl
    have h1 := hallr 1 _ rfl
    have h2 := hallr 2 _ rfl
    have h3 := hall 1 _ rfl
    have h4 := hall 2 _ rfl
    have h5 := hall 3 _ rfl
    simp only [Value.cells] at h3 h4 h5
    obtain ⟨x0, e0, w0⟩ := h0.int Try.underlying3
    have e0' : v0 = .int .i64 x0 := by have : [v0] = [.int .i64 x0] := e0; simpa using this
    obtain ⟨x1, e1, w1⟩ := h1.int Try.underlying3
    have e1' : v1 = .int .i64 x1 := by have : [v1] = [.int .i64 x1] := e1; simpa using this
    obtain ⟨x2, e2, w2⟩ := h2.int Try.underlying3
    have e2' : v2 = .int .i64 x2 := by have : [v2] = [.int .i64 x2] := e2; simpa using this
    obtain ⟨x3, e3, w3⟩ := h3.int Try.underlying3
    have e3' : v3 = .int .i64 x3 := by have : [v3] = [.int .i64 x3] := e3; simpa using this
    obtain ⟨x4, e4, w4⟩ := h4.int Try.underlying3
    have e4' : v4 = .int .i64 x4 := by have : [v4] = [.int .i64 x4] := e4; simpa using this
    obtain ⟨x5, e5, w5⟩ := h5.int Try.underlying3
    have e5' : v5 = .int .i64 x5 := by have : [v5] = [.int .i64 x5] := e5; simpa using this
    subst e0' e1' e2' e3' e4' e5'
    exact ⟨x0, x1, x2, x3, x4, x5, rfl⟩

theorem stays_open {W : World} {r : Reach} {b0 : Nat} {v : Value} (o : Value.okWide Try.prog W r b0 38 v) (h : Tr Try.prog W 38 v.cells.toList) :
    ∃ (x0 x1 x2 x3 x4 x5 x6 : Int), v = .agg #[.int .i64 x0, .int .i64 x1, .int .i64 x2, .int .i64 x3, .int .i64 x4, .int .i64 x5, .int .i64 x6] := by
  have cN : Try.prog.cellsOf 38 = 7 := by kernel_rfl
  obtain ⟨cs, rfl, hsz⟩ := okWide_struct Try.underlying38 o
  obtain ⟨l⟩ := cs
  obtain ⟨_, hall⟩ := h.struct Try.underlying38
  match l, hsz.trans cN with
  | [v0, v1, v2, v3, v4, v5, v6], _ =>
    have hr := hall 0 _ rfl
    simp only [Value.cells] at hr
    obtain ⟨_, hallr⟩ := hr.struct Try.underlying23
    have h0 := hallr 0 _ rfl
    have h1 := hallr 1 _ rfl
    have h2 := hallr 2 _ rfl
    have h3 := hall 1 _ rfl
    have h4 := hall 2 _ rfl
    have h5 := hall 3 _ rfl
    have h6 := hall 4 _ rfl
    simp only [Value.cells] at h3 h4 h5 h6
    obtain ⟨x0, e0, w0⟩ := h0.int Try.underlying3
    have e0' : v0 = .int .i64 x0 := by have : [v0] = [.int .i64 x0] := e0; simpa using this
    obtain ⟨x1, e1, w1⟩ := h1.int Try.underlying3
    have e1' : v1 = .int .i64 x1 := by have : [v1] = [.int .i64 x1] := e1; simpa using this
    obtain ⟨x2, e2, w2⟩ := h2.int Try.underlying3
    have e2' : v2 = .int .i64 x2 := by have : [v2] = [.int .i64 x2] := e2; simpa using this
    obtain ⟨x3, e3, w3⟩ := h3.int Try.underlying3
    have e3' : v3 = .int .i64 x3 := by have : [v3] = [.int .i64 x3] := e3; simpa using this
    obtain ⟨x4, e4, w4⟩ := h4.int Try.underlying3
    have e4' : v4 = .int .i64 x4 := by have : [v4] = [.int .i64 x4] := e4; simpa using this
    obtain ⟨x5, e5, w5⟩ := h5.int Try.underlying3
    have e5' : v5 = .int .i64 x5 := by have : [v5] = [.int .i64 x5] := e5; simpa using this
    obtain ⟨x6, e6, w6⟩ := h6.int Try.underlying3
    have e6' : v6 = .int .i64 x6 := by have : [v6] = [.int .i64 x6] := e6; simpa using this
    subst e0' e1' e2' e3' e4' e5' e6'
    exact ⟨x0, x1, x2, x3, x4, x5, x6, rfl⟩

theorem more_open {W : World} {r : Reach} {b0 : Nat} {v : Value} (o : Value.okWide Try.prog W r b0 41 v) (h : Tr Try.prog W 41 v.cells.toList) :
    ∃ (x0 x1 x2 x3 x4 x5 : Int), v = .agg #[.int .i64 x0, .int .i64 x1, .int .i64 x2, .int .i64 x3, .int .i64 x4, .int .u32 x5] ∧ (0 ≤ x5 ∧ x5 < 4294967296) := by
  have cN : Try.prog.cellsOf 41 = 6 := by kernel_rfl
  obtain ⟨cs, rfl, hsz⟩ := okWide_struct Try.underlying41 o
  obtain ⟨l⟩ := cs
  obtain ⟨_, hall⟩ := h.struct Try.underlying41
  match l, hsz.trans cN with
  | [v0, v1, v2, v3, v4, v5], _ =>
    have hr := hall 0 _ rfl
    simp only [Value.cells] at hr
    obtain ⟨_, hallr⟩ := hr.struct Try.underlying23
    have h0 := hallr 0 _ rfl
    have h1 := hallr 1 _ rfl
    have h2 := hallr 2 _ rfl
    have h3 := hall 1 _ rfl
    have h4 := hall 2 _ rfl
    have h5 := hall 3 _ rfl
    simp only [Value.cells] at h3 h4 h5
    obtain ⟨x0, e0, w0⟩ := h0.int Try.underlying3
    have e0' : v0 = .int .i64 x0 := by have : [v0] = [.int .i64 x0] := e0; simpa using this
    obtain ⟨x1, e1, w1⟩ := h1.int Try.underlying3
    have e1' : v1 = .int .i64 x1 := by have : [v1] = [.int .i64 x1] := e1; simpa using this
    obtain ⟨x2, e2, w2⟩ := h2.int Try.underlying3
    have e2' : v2 = .int .i64 x2 := by have : [v2] = [.int .i64 x2] := e2; simpa using this
    obtain ⟨x3, e3, w3⟩ := h3.int Try.underlying3
    have e3' : v3 = .int .i64 x3 := by have : [v3] = [.int .i64 x3] := e3; simpa using this
    obtain ⟨x4, e4, w4⟩ := h4.int Try.underlying3
    have e4' : v4 = .int .i64 x4 := by have : [v4] = [.int .i64 x4] := e4; simpa using this
    obtain ⟨x5, e5, w5⟩ := h5.int Try.underlying34
    have e5' : v5 = .int .u32 x5 := by have : [v5] = [.int .u32 x5] := e5; simpa using this
    subst e0' e1' e2' e3' e4' e5'
    exact ⟨x0, x1, x2, x3, x4, x5, rfl, wf_u32 w5⟩

/-- A slice that reads as pairs of u32, nil let in. -/
def RdP (w : World) (A : Option Addr) (n c : Nat) (l : List (Int × Int)) : Prop :=
  l.length = n ∧ n ≤ c ∧ c ≤ maxLen ∧ (A = none → c = 0) ∧
    (0 < n → ∃ b o, A = some ⟨b, o, none⟩ ∧ ∀ i x, l[i]? = some x → w.cell? ⟨b, o + i * 2, none⟩ = some (.int .u32 x.1) ∧ w.cell? ⟨b, o + i * 2 + 1, none⟩ = some (.int .u32 x.2) ∧ (0 ≤ x.1 ∧ x.1 < 4294967296) ∧ 0 ≤ x.2 ∧ x.2 < 4294967296)
theorem RdP.keep {w w' : World} {A : Option Addr} {n c : Nat} {l : List (Int × Int)} (h : RdP w A n c l) (hk : ∀ p u, w.cell? p = some u → w'.cell? p = some u) : RdP w' A n c l := by
  obtain ⟨h1, h2, h3, h4, h5⟩ := h
  refine ⟨h1, h2, h3, h4, fun h0 => ?_⟩
  obtain ⟨b, o, hA, hc⟩ := h5 h0
  exact ⟨b, o, hA, fun i x hx => ⟨hk _ _ (hc i x hx).1, hk _ _ (hc i x hx).2.1, (hc i x hx).2.2⟩⟩
theorem RdP.below {w w' : World} {A : Option Addr} {n c : Nat} {l : List (Int × Int)} (h : RdP w A n c l) (hb : Below w.heap.size w w') : RdP w' A n c l :=
  h.keep fun p u hu => (hb.cell (World.block_lt_of_cell? w p hu)).trans hu
theorem RdP.at_ {w : World} {A : Option Addr} {n c : Nat} {l : List (Int × Int)} (h : RdP w A n c l) {k : Nat} (hk : k < n) : ∃ b o x y, A = some ⟨b, o, none⟩ ∧ (0 ≤ x ∧ x < 4294967296) ∧ (0 ≤ y ∧ y < 4294967296) ∧ w.cell? ⟨b, o + k * 2, none⟩ = some (.int .u32 x) ∧ w.cell? ⟨b, o + k * 2 + 1, none⟩ = some (.int .u32 y) := by
  obtain ⟨h1, _, _, _, h5⟩ := h
  obtain ⟨b, o, hA, hc⟩ := h5 (by omega)
  obtain ⟨c1, c2, c3, c4⟩ := hc k _ (List.getElem?_eq_getElem (by omega))
  exact ⟨b, o, _, _, hA, c3, c4, c1, c2⟩
theorem RdP.le {w : World} {A : Option Addr} {n c : Nat} {l : List (Int × Int)} (h : RdP w A n c l) : n ≤ 9223372036854775807 := by
  have := h.2.1; have := h.2.2.1; unfold maxLen at this; omega
theorem pairs_open {W : World} {r : Reach} {b0 : Nat} {v : Value} (o : Value.okWide Try.prog W r b0 33 v) (h : Tr Try.prog W 33 v.cells.toList) : ∃ A n c l, v = .slice A n c ∧ RdP W A n c l := by
  have cA : Try.prog.cellsOf 35 = 2 := by kernel_rfl
  have cB : Try.prog.cellsOf 34 = 1 := by kernel_rfl
  obtain ⟨A, n, c, e, hn, hc, h0, hel⟩ := h.slice Try.underlying33 cA (by omega)
  obtain ⟨B, m, d, rfl⟩ := okWide_slice Try.underlying33 o
  simp [Value.cells] at e
  obtain ⟨rfl, rfl, rfl⟩ := e
  rcases Nat.eq_zero_or_pos m with h00 | h00
  · subst h00
    exact ⟨_, _, _, [], rfl, rfl, hn, hc, h0, fun h => absurd h (by omega)⟩
  · obtain ⟨b, p, hA, hr⟩ := hel h00
    obtain ⟨l, hl, hF⟩ := list_of (fun i (x : Int × Int) => W.cell? ⟨b, p + i * 2, none⟩ = some (.int .u32 x.1) ∧ W.cell? ⟨b, p + i * 2 + 1, none⟩ = some (.int .u32 x.2) ∧ (0 ≤ x.1 ∧ x.1 < 4294967296) ∧ 0 ≤ x.2 ∧ x.2 < 4294967296) (fun i hi => by
      obtain ⟨ys, hys, htr, hc⟩ := hr i hi
      obtain ⟨_, hall⟩ := htr.array Try.underlying35
      match ys, hys with
      | [v0, v1], _ =>
        have g0 := hall 0 (by omega)
        have g1 := hall 1 (by omega)
        rw [cB] at g0 g1
        obtain ⟨a0, e0, w0⟩ := g0.int Try.underlying34
        obtain ⟨a1, e1, w1⟩ := g1.int Try.underlying34
        injection e0 with e0
        injection e1 with e1
        subst e0 e1
        refine ⟨(a0, a1), ?_, ?_, wf_u32 w0, wf_u32 w1⟩
        · have := hc 0 _ rfl
          simpa using this
        · have := hc 1 _ rfl
          simpa [Nat.add_assoc] using this)
    exact ⟨_, _, _, l, rfl, hl, hn, hc, h0, fun _ => ⟨b, p, hA, hF⟩⟩
end Go.Proofs.Ytahcofejjfdbbaa
