/- What comes in of chapter 7's laws, opened to its parts. -/
import Derived.Test.YtghcpfdmdhdcgaaOpen
import Derived.Test.YtghcpfdmdhdcgaaVec3
set_option maxRecDepth 100000
namespace Go.Proofs.Ytghcpfdmdhdcgaa
open Go.RowKit Go.ChangeShapes Go.WideShapes Go.ChangeAt
set_option linter.unusedVariables false

theorem add_add (a : Addr) (i j : Nat) : (a.add i).add j = a.add (i + j) := by
  unfold Addr.add
  by_cases h1 : i = 0
  · subst h1
    simp
  · by_cases h2 : j = 0
    · subst h2
      simp [h1]
    · rw [if_neg h1, if_neg h2, if_neg (by omega)]
      simp [Nat.add_assoc]
/-- A slice of whatever, opened to its elements' cells. -/
theorem Tr.slice {P : Program} {w : World} {t e : TypeId} {cs : List Value} {k : Nat} (ht : P.underlying t = some (.slice e)) (hk : P.cellsOf e = k) (hk0 : 0 < k) (h : Tr P w t cs) :
    ∃ A n c, cs = [.slice A n c] ∧ n ≤ c ∧ c ≤ maxLen ∧ (A = none → c = 0) ∧
      (0 < n → ∃ b o, A = some ⟨b, o, none⟩ ∧ ∀ i, i < n → ∃ ys : List Value, ys.length = k ∧ Tr P w e ys ∧ ∀ j u, ys[j]? = some u → w.cell? ⟨b, o + (i * k + j), none⟩ = some u) := by
  obtain ⟨H, enc, fuel, x, hf⟩ := h
  rcases DataW.trod_slice ht hf with ⟨rfl, _⟩ | ⟨a, len, cap, elems, rest, n, _, rfl, rfl, hb, hl, hm, hlen, hel, _, _⟩
  · exact ⟨none, 0, 0, rfl, Nat.le_refl _, Nat.zero_le _, fun _ => rfl, fun h => absurd h (by omega)⟩
  · refine ⟨some a, len, cap, rfl, hl, hm, (fun h => by cases h), fun h0 => ?_⟩
    have each : ∀ i, i < len → ∃ ys : List Value, ys.length = k ∧ Tr P w e ys ∧ ∀ j, j < k → w.cell? (a.add (i * k + j)) = ys[j]? := by
      intro i hi
      have h1 := hel i hi
      have hlt : i < elems.length := by omega
      rw [List.getElem?_eq_getElem hlt, Option.bind_eq_some_iff, hk] at h1
      obtain ⟨ys, hys, hy⟩ := h1
      obtain ⟨_, hyl, hyc⟩ := World.cells?_some hys
      refine ⟨ys, hyl, ⟨H, enc, n, _, hy⟩, fun j hj => ?_⟩
      rw [← hyc j hj, add_add]
    obtain ⟨b, o, spot⟩ := a
    have hspot : spot = none := by
      obtain ⟨ys, hyl, _, hyc⟩ := each 0 h0
      have := hyc 0 hk0
      rw [List.getElem?_eq_getElem (by omega)] at this
      simpa [Addr.add] using World.cell?_spot this
    subst hspot
    refine ⟨b, o, rfl, fun i hi => ?_⟩
    obtain ⟨ys, hyl, hyt, hyc⟩ := each i hi
    refine ⟨ys, hyl, hyt, fun j u hu => ?_⟩
    have hj : j < k := by
      rcases Nat.lt_or_ge j k with h | h
      · exact h
      · rw [List.getElem?_eq_none (by omega)] at hu; cases hu
    have := hyc j hj
    rw [add_eq, hu] at this
    exact this

theorem list_of {α : Type} {n : Nat} (F : Nat → α → Prop) (h : ∀ i, i < n → ∃ x, F i x) : ∃ l : List α, l.length = n ∧ ∀ i x, l[i]? = some x → F i x := by
  induction n with
  | zero => exact ⟨[], rfl, fun i x hx => by simp at hx⟩
  | succ n ih =>
    obtain ⟨l, hl, hF⟩ := ih (fun i hi => h i (by omega))
    obtain ⟨y, hy⟩ := h n (by omega)
    refine ⟨l ++ [y], by simp [hl], fun i x hx => ?_⟩
    rcases Nat.lt_trichotomy i n with hi | hi | hi
    · rw [List.getElem?_append_left (by omega)] at hx
      exact hF i x hx
    · subst hi
      rw [List.getElem?_append_right (by omega), hl, Nat.sub_self] at hx
      simp at hx
      subst hx
      exact hy
    · rw [List.getElem?_eq_none (by simp; omega)] at hx; cases hx

theorem Tr.intRows {w : World} {cs : List Value} (h : Tr Try.prog w 23 cs) : ∃ A n c rs, cs = [.slice A n c] ∧ RdR w A n c rs := by
  obtain ⟨A, n, c, rfl, hn, hc, hA, hE⟩ := h.slice Try.underlying23 (k := 1) (by kernel_rfl) (by omega)
  by_cases h0 : 0 < n
  · obtain ⟨b, o, rfl, hE2⟩ := hE h0
    obtain ⟨l, hl, hF⟩ := list_of (n := n) (fun i (r : Rw) => RdI w r.A r.n r.c r.b ∧ w.cell? ⟨b, o + i, none⟩ = some (.slice r.A r.n r.c)) (fun i hi => by
      obtain ⟨ys, _, hT, hc⟩ := hE2 i hi
      obtain ⟨A, m, d, bb, rfl, hr⟩ := hT.ints Try.underlying22 Try.underlying3 (by kernel_rfl)
      have := hc 0 _ rfl
      rw [Nat.mul_one, Nat.add_zero] at this
      exact ⟨⟨A, m, d, bb⟩, hr, this⟩)
    refine ⟨some ⟨b, o, none⟩, n, c, l, rfl, ⟨by simpa using hl, hn, hc, (fun h => by cases h), fun _ => ⟨b, o, rfl, fun i u hu => ?_⟩⟩, fun r hr => ?_⟩
    · rw [List.getElem?_map, Option.map_eq_some_iff] at hu
      obtain ⟨r, hr, rfl⟩ := hu
      exact (hF i r hr).2
    · obtain ⟨i, hi⟩ := List.getElem?_of_mem hr
      exact (hF i r hi).1
  · have hn0 : n = 0 := by omega
    subst hn0
    exact ⟨A, 0, c, [], rfl, ⟨rfl, hn, hc, hA, fun h => absurd h (by omega)⟩, fun r hr => by cases hr⟩
theorem ints_open {W : World} {r : Reach} {b0 : Nat} {v : Value} (o : Value.okWide Try.prog W r b0 22 v) (h : Tr Try.prog W 22 v.cells.toList) : ∃ A n c l, v = .slice A n c ∧ RdI W A n c l := by
  obtain ⟨a, m, c, rfl⟩ := okWide_slice Try.underlying22 o
  obtain ⟨A, m', d, ls, ha, hr⟩ := h.ints Try.underlying22 Try.underlying3 (by kernel_rfl)
  obtain ⟨rfl, rfl, rfl⟩ : a = A ∧ m = m' ∧ c = d := by simpa [Value.cells] using ha
  exact ⟨a, m, c, ls, rfl, hr⟩
theorem tells_open {W : World} {r : Reach} {b0 : Nat} {v : Value} (o : Value.okWide Try.prog W r b0 25 v) (h : Tr Try.prog W 25 v.cells.toList) :
    ∃ (A0 : Option Addr) (n0 c0 : Nat) (l0 : List Int) (A1 : Option Addr) (n1 c1 : Nat) (l1 : List Int) (A2 : Option Addr) (n2 c2 : Nat) (l2 : List Rw) (x3 : Int), v = .agg #[.slice A0 n0 c0, .slice A1 n1 c1, .slice A2 n2 c2, .int .i64 x3] ∧ RdI W A0 n0 c0 l0 ∧ RdI W A1 n1 c1 l1 ∧ RdR W A2 n2 c2 l2 ∧ (-9223372036854775808 ≤ x3 ∧ x3 ≤ 9223372036854775807) := by
  have cN : Try.prog.cellsOf 25 = 4 := by kernel_rfl
  obtain ⟨cs, rfl, hsz⟩ := okWide_struct Try.underlying25 o
  obtain ⟨l⟩ := cs
  obtain ⟨_, hall⟩ := h.struct Try.underlying25
  match l, hsz.trans cN with
  | [v0, v1, v2, v3], _ =>
    have h0 := hall 0 _ rfl
    have h1 := hall 1 _ rfl
    have h2 := hall 2 _ rfl
    have h3 := hall 3 _ rfl
    simp only [Value.cells] at h0 h1 h2 h3
    obtain ⟨A0, n0, c0, l0, e0, r0⟩ := h0.ints Try.underlying22 Try.underlying3 (by kernel_rfl)
    obtain ⟨A1, n1, c1, l1, e1, r1⟩ := h1.ints Try.underlying22 Try.underlying3 (by kernel_rfl)
    obtain ⟨A2, n2, c2, l2, e2, r2⟩ := Tr.intRows h2
    obtain ⟨x3, e3, w3⟩ := h3.int Try.underlying3
    have e0' : v0 = .slice A0 n0 c0 := by have : [v0] = [.slice A0 n0 c0] := e0; simpa using this
    have e1' : v1 = .slice A1 n1 c1 := by have : [v1] = [.slice A1 n1 c1] := e1; simpa using this
    have e2' : v2 = .slice A2 n2 c2 := by have : [v2] = [.slice A2 n2 c2] := e2; simpa using this
    have e3' : v3 = .int .i64 x3 := by have : [v3] = [.int .i64 x3] := e3; simpa using this
    subst e0' e1' e2' e3'
    exact ⟨A0, n0, c0, l0, A1, n1, c1, l1, A2, n2, c2, l2, x3, rfl, r0, r1, r2, wf_i64 w3⟩
theorem least_open {W : World} {r : Reach} {b0 : Nat} {v : Value} (o : Value.okWide Try.prog W r b0 35 v) (h : Tr Try.prog W 35 v.cells.toList) :
    ∃ (A0 : Option Addr) (n0 c0 : Nat) (l0 : List Rw) (A1 : Option Addr) (n1 c1 : Nat) (l1 : List Int) (x2 : Int) (x3 : Int), v = .agg #[.slice A0 n0 c0, .slice A1 n1 c1, .int .u8 x2, .int .u8 x3] ∧ RdR W A0 n0 c0 l0 ∧ RdI W A1 n1 c1 l1 ∧ (0 ≤ x2 ∧ x2 < 256) ∧ (0 ≤ x3 ∧ x3 < 256) := by
  have cN : Try.prog.cellsOf 35 = 4 := by kernel_rfl
  obtain ⟨cs, rfl, hsz⟩ := okWide_struct Try.underlying35 o
  obtain ⟨l⟩ := cs
  obtain ⟨_, hall⟩ := h.struct Try.underlying35
  match l, hsz.trans cN with
  | [v0, v1, v2, v3], _ =>
    have h0 := hall 0 _ rfl
    have h1 := hall 1 _ rfl
    have h2 := hall 2 _ rfl
    have h3 := hall 3 _ rfl
    simp only [Value.cells] at h0 h1 h2 h3
    obtain ⟨A0, n0, c0, l0, e0, r0⟩ := Tr.intRows h0
    obtain ⟨A1, n1, c1, l1, e1, r1⟩ := h1.ints Try.underlying22 Try.underlying3 (by kernel_rfl)
    obtain ⟨x2, e2, w2⟩ := h2.int Try.underlying5
    obtain ⟨x3, e3, w3⟩ := h3.int Try.underlying5
    have e0' : v0 = .slice A0 n0 c0 := by have : [v0] = [.slice A0 n0 c0] := e0; simpa using this
    have e1' : v1 = .slice A1 n1 c1 := by have : [v1] = [.slice A1 n1 c1] := e1; simpa using this
    have e2' : v2 = .int .u8 x2 := by have : [v2] = [.int .u8 x2] := e2; simpa using this
    have e3' : v3 = .int .u8 x3 := by have : [v3] = [.int .u8 x3] := e3; simpa using this
    subst e0' e1' e2' e3'
    exact ⟨A0, n0, c0, l0, A1, n1, c1, l1, x2, x3, rfl, r0, r1, wf_u8 w2, wf_u8 w3⟩
theorem sums_open {W : World} {r : Reach} {b0 : Nat} {v : Value} (o : Value.okWide Try.prog W r b0 38 v) (h : Tr Try.prog W 38 v.cells.toList) :
    ∃ (A0 : Option Addr) (n0 c0 : Nat) (l0 : List Int) (A1 : Option Addr) (n1 c1 : Nat) (l1 : List Int) (A2 : Option Addr) (n2 c2 : Nat) (l2 : List Rw) (x3 : Int), v = .agg #[.slice A0 n0 c0, .slice A1 n1 c1, .slice A2 n2 c2, .int .u8 x3] ∧ RdI W A0 n0 c0 l0 ∧ RdI W A1 n1 c1 l1 ∧ RdR W A2 n2 c2 l2 ∧ (0 ≤ x3 ∧ x3 < 256) := by
  have cN : Try.prog.cellsOf 38 = 4 := by kernel_rfl
  obtain ⟨cs, rfl, hsz⟩ := okWide_struct Try.underlying38 o
  obtain ⟨l⟩ := cs
  obtain ⟨_, hall⟩ := h.struct Try.underlying38
  match l, hsz.trans cN with
  | [v0, v1, v2, v3], _ =>
    have h0 := hall 0 _ rfl
    have h1 := hall 1 _ rfl
    have h2 := hall 2 _ rfl
    have h3 := hall 3 _ rfl
    simp only [Value.cells] at h0 h1 h2 h3
    obtain ⟨A0, n0, c0, l0, e0, r0⟩ := h0.ints Try.underlying22 Try.underlying3 (by kernel_rfl)
    obtain ⟨A1, n1, c1, l1, e1, r1⟩ := h1.ints Try.underlying22 Try.underlying3 (by kernel_rfl)
    obtain ⟨A2, n2, c2, l2, e2, r2⟩ := Tr.intRows h2
    obtain ⟨x3, e3, w3⟩ := h3.int Try.underlying5
    have e0' : v0 = .slice A0 n0 c0 := by have : [v0] = [.slice A0 n0 c0] := e0; simpa using this
    have e1' : v1 = .slice A1 n1 c1 := by have : [v1] = [.slice A1 n1 c1] := e1; simpa using this
    have e2' : v2 = .slice A2 n2 c2 := by have : [v2] = [.slice A2 n2 c2] := e2; simpa using this
    have e3' : v3 = .int .u8 x3 := by have : [v3] = [.int .u8 x3] := e3; simpa using this
    subst e0' e1' e2' e3'
    exact ⟨A0, n0, c0, l0, A1, n1, c1, l1, A2, n2, c2, l2, x3, rfl, r0, r1, r2, wf_u8 w3⟩
end Go.Proofs.Ytghcpfdmdhdcgaa
