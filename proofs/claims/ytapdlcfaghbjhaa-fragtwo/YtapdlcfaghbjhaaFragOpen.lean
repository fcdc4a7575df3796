/- What comes in of chapter 6's laws, opened to its parts. -/
import Derived.Test.YtapdlcfaghbjhaaBA
import Derived.Test.YtapdlcfaghbjhaaFrag6
set_option maxRecDepth 100000
namespace Go.Proofs.Ytapdlcfaghbjhaa
open Go.RowKit Go.ChangeShapes Go.WideShapes Go.ChangeAt
set_option linter.unusedVariables false

theorem add_add (a : Addr) (i j : Nat) : (a.add i).add j = a.add (i + j) := by
  unfold Addr.add
  by_cases h1 : i = 0
  · subst h1
    simp
  · by_cases h2 : j = 0
    · subst h2
      simp [h1]
    · rw [if_neg h1, if_neg h2, if_neg (by omega)]
      simp [Nat.add_assoc]
/-- A slice of whatever, opened to its elements' cells. -/
theorem Tr.slice {P : Program} {w : World} {t e : TypeId} {cs : List Value} {k : Nat} (ht : P.underlying t = some (.slice e)) (hk : P.cellsOf e = k) (hk0 : 0 < k) (h : Tr P w t cs) :
    ∃ A n c, cs = [.slice A n c] ∧ n ≤ c ∧ c ≤ maxLen ∧ (A = none → c = 0) ∧
      (0 < n → ∃ b o, A = some ⟨b, o, none⟩ ∧ ∀ i, i < n → ∃ ys : List Value, ys.length = k ∧ Tr P w e ys ∧ ∀ j u, ys[j]? = some u → w.cell? ⟨b, o + (i * k + j), none⟩ = some u) := by
  obtain ⟨H, enc, fuel, x, hf⟩ := h
  rcases DataW.trod_slice ht hf with ⟨rfl, _⟩ | ⟨a, len, cap, elems, rest, n, _, rfl, rfl, hb, hl, hm, hlen, hel, _, _⟩
  · exact ⟨none, 0, 0, rfl, Nat.le_refl _, Nat.zero_le _, fun _ => rfl, fun h => absurd h (by omega)⟩
  · refine ⟨some a, len, cap, rfl, hl, hm, (fun h => by cases h), fun h0 => ?_⟩
    have each : ∀ i, i < len → ∃ ys : List Value, ys.length = k ∧ Tr P w e ys ∧ ∀ j, j < k → w.cell? (a.add (i * k + j)) = ys[j]? := by
      intro i hi
      have h1 := hel i hi
      have hlt : i < elems.length := by omega
      rw [List.getElem?_eq_getElem hlt, Option.bind_eq_some_iff, hk] at h1
      obtain ⟨ys, hys, hy⟩ := h1
      obtain ⟨_, hyl, hyc⟩ := World.cells?_some hys
      refine ⟨ys, hyl, ⟨H, enc, n, _, hy⟩, fun j hj => ?_⟩
      rw [← hyc j hj, add_add]
    obtain ⟨b, o, spot⟩ := a
    have hspot : spot = none := by
      obtain ⟨ys, hyl, _, hyc⟩ := each 0 h0
      have := hyc 0 hk0
      rw [List.getElem?_eq_getElem (by omega)] at this
      simpa [Addr.add] using World.cell?_spot this
    subst hspot
    refine ⟨b, o, rfl, fun i hi => ?_⟩
    obtain ⟨ys, hyl, hyt, hyc⟩ := each i hi
    refine ⟨ys, hyl, hyt, fun j u hu => ?_⟩
    have hj : j < k := by
      rcases Nat.lt_or_ge j k with h | h
      · exact h
      · rw [List.getElem?_eq_none (by omega)] at hu; cases hu
    have := hyc j hj
    rw [add_eq, hu] at this
    exact this

theorem list_of {α : Type} {n : Nat} (F : Nat → α → Prop) (h : ∀ i, i < n → ∃ x, F i x) : ∃ l : List α, l.length = n ∧ ∀ i x, l[i]? = some x → F i x := by
  induction n with
  | zero => exact ⟨[], rfl, fun i x hx => by simp at hx⟩
  | succ n ih =>
    obtain ⟨l, hl, hF⟩ := ih (fun i hi => h i (by omega))
    obtain ⟨y, hy⟩ := h n (by omega)
    refine ⟨l ++ [y], by simp [hl], fun i x hx => ?_⟩
    rcases Nat.lt_trichotomy i n with hi | hi | hi
    · rw [List.getElem?_append_left (by omega)] at hx
      exact hF i x hx
    · subst hi
      rw [List.getElem?_append_right (by omega), hl, Nat.sub_self] at hx
      simp at hx
      subst hx
      exact hy
    · rw [List.getElem?_eq_none (by simp; omega)] at hx; cases hx
theorem byte_open {W : World} {r : Reach} {b0 : Nat} {v : Value} (o : Value.okWide Try.prog W r b0 5 v) (h : Tr Try.prog W 5 v.cells.toList) : ∃ a : Int, v = .int .u8 a ∧ 0 ≤ a ∧ a < 256 := by
  obtain ⟨a, e, hw⟩ := h.int Try.underlying5
  obtain ⟨k, rfl⟩ := okWide_int Try.underlying5 o
  simp [Value.cells] at e
  subst e
  exact ⟨_, rfl, wf_u8 hw⟩
theorem int_open {W : World} {r : Reach} {b0 : Nat} {v : Value} (o : Value.okWide Try.prog W r b0 3 v) (h : Tr Try.prog W 3 v.cells.toList) : ∃ a : Int, v = .int .i64 a ∧ -9223372036854775808 ≤ a ∧ a ≤ 9223372036854775807 := by
  obtain ⟨a, e, hw⟩ := h.int Try.underlying3
  obtain ⟨k, rfl⟩ := okWide_int Try.underlying3 o
  simp [Value.cells] at e
  subst e
  exact ⟨_, rfl, wf_i64 hw⟩
theorem Tr.byteRows {w : World} {cs : List Value} (h : Tr Try.prog w 35 cs) : ∃ A n c rs, cs = [.slice A n c] ∧ RdB w A n c rs := by
  obtain ⟨A, n, c, rfl, hn, hc, hA, hE⟩ := h.slice Try.underlying35 (k := 1) (by kernel_rfl) (by omega)
  by_cases h0 : 0 < n
  · obtain ⟨b, o, rfl, hE2⟩ := hE h0
    obtain ⟨l, hl, hF⟩ := list_of (n := n) (fun i (r : Bw) => Rd w r.A r.n r.c r.b ∧ w.cell? ⟨b, o + i, none⟩ = some (.slice r.A r.n r.c)) (fun i hi => by
      obtain ⟨ys, _, hT, hc⟩ := hE2 i hi
      obtain ⟨A, m, d, bb, rfl, hr⟩ := hT.bytes Try.underlying22 Try.underlying5 (by kernel_rfl)
      have := hc 0 _ rfl
      rw [Nat.mul_one, Nat.add_zero] at this
      exact ⟨⟨A, m, d, bb⟩, hr, this⟩)
    refine ⟨some ⟨b, o, none⟩, n, c, l, rfl, ⟨by simpa using hl, hn, hc, (fun h => by cases h), fun _ => ⟨b, o, rfl, fun i u hu => ?_⟩⟩, fun r hr => ?_⟩
    · rw [List.getElem?_map, Option.map_eq_some_iff] at hu
      obtain ⟨r, hr, rfl⟩ := hu
      exact (hF i r hr).2
    · obtain ⟨i, hi⟩ := List.getElem?_of_mem hr
      exact (hF i r hi).1
  · have hn0 : n = 0 := by omega
    subst hn0
    exact ⟨A, 0, c, [], rfl, ⟨rfl, hn, hc, hA, fun h => absurd h (by omega)⟩, fun r hr => by cases hr⟩
theorem byteRows_open {W : World} {r : Reach} {b0 : Nat} {v : Value} (o : Value.okWide Try.prog W r b0 35 v) (h : Tr Try.prog W 35 v.cells.toList) : ∃ A n c rs, v = .slice A n c ∧ RdB W A n c rs := by
  obtain ⟨a, m, c, rfl⟩ := Go.WideShapes.okWide_slice Try.underlying35 o
  obtain ⟨A, m', d, ls, ha, hr⟩ := h.byteRows
  obtain ⟨rfl, rfl, rfl⟩ : a = A ∧ m = m' ∧ c = d := by simpa [Value.cells] using ha
  exact ⟨a, m, c, ls, rfl, hr⟩


theorem u16_open {W : World} {r : Reach} {b0 : Nat} {v : Value} (o : Value.okWide Try.prog W r b0 45 v) (h : Tr Try.prog W 45 v.cells.toList) : ∃ a : Nat, v = .int .u16 (a : Int) ∧ a < 65536 := by
  obtain ⟨a, e, hw⟩ := h.int Try.underlying45
  obtain ⟨k, rfl⟩ := okWide_int Try.underlying45 o
  simp [Value.cells] at e
  subst e
  simp [Lit.wf, IntKind.min, IntKind.max, IntKind.bits, IntKind.signed] at hw
  exact ⟨k.toNat, by rw [Int.toNat_of_nonneg (by omega)], by omega⟩
theorem u32_open {W : World} {r : Reach} {b0 : Nat} {v : Value} (o : Value.okWide Try.prog W r b0 44 v) (h : Tr Try.prog W 44 v.cells.toList) : ∃ a : Nat, v = .int .u32 (a : Int) ∧ a < 4294967296 := by
  obtain ⟨a, e, hw⟩ := h.int Try.underlying44
  obtain ⟨k, rfl⟩ := okWide_int Try.underlying44 o
  simp [Value.cells] at e
  subst e
  simp [Lit.wf, IntKind.min, IntKind.max, IntKind.bits, IntKind.signed] at hw
  exact ⟨k.toNat, by rw [Int.toNat_of_nonneg (by omega)], by omega⟩
theorem bytes_open {W : World} {r : Reach} {b0 : Nat} {v : Value} (o : Value.okWide Try.prog W r b0 22 v) (h : Tr Try.prog W 22 v.cells.toList) : ∃ A n c l, v = .slice A n c ∧ Rd W A n c l := by
  obtain ⟨a, m, c, rfl⟩ := okWide_slice Try.underlying22 o
  obtain ⟨A, m', d, ls, ha, hr⟩ := h.bytes Try.underlying22 Try.underlying5 (by kernel_rfl)
  obtain ⟨rfl, rfl, rfl⟩ : a = A ∧ m = m' ∧ c = d := by simpa [Value.cells] using ha
  exact ⟨a, m, c, ls, rfl, hr⟩
/-- A message under way, its four cells. -/
theorem Tr.part {w : World} {cs : List Value} (h : Tr Try.prog w 24 cs) : ∃ (p : Pt) (A : Option Addr) (n c : Nat), cs = [.int .i64 p.seq, .int .i64 p.total, .int .i64 p.got, .slice A n c] ∧ Rd w A n c p.b ∧ p.Ok := by
  have c4 : Try.prog.cellsOf 24 = 4 := by kernel_rfl
  obtain ⟨hl, hall⟩ := h.struct Try.underlying24
  obtain ⟨v0, v1, v2, v3, rfl⟩ := list4 cs (hl.trans c4)
  have h0 := hall 0 _ rfl
  have h1 := hall 1 _ rfl
  have h2 := hall 2 _ rfl
  have h3 := hall 3 _ rfl
  obtain ⟨a, e0, w0⟩ := h0.int Try.underlying3
  obtain ⟨b, e1, w1⟩ := h1.int Try.underlying3
  obtain ⟨c, e2, w2⟩ := h2.int Try.underlying3
  obtain ⟨A, n, d, l, e3, r3⟩ := h3.bytes Try.underlying22 Try.underlying5 (by kernel_rfl)
  injection e0 with e0
  injection e1 with e1
  injection e2 with e2
  injection e3 with e3
  subst e0 e1 e2 e3
  exact ⟨⟨a, b, c, l⟩, A, n, d, rfl, r3, wf_i64 w0, wf_i64 w1, wf_i64 w2⟩
theorem order_open {W : World} {r : Reach} {b0 : Nat} {v : Value} (o : Value.okWide Try.prog W r b0 42 v) (h : Tr Try.prog W 42 v.cells.toList) :
    ∃ (p : Pt) (A : Option Addr) (n c : Nat) (index total : Int) (B : Option Addr) (m d : Nat) (b : List UInt8), v = .agg #[.int .i64 p.seq, .int .i64 p.total, .int .i64 p.got, .slice A n c, .int .i64 index, .int .i64 total, .slice B m d] ∧ Rd W A n c p.b ∧ p.Ok ∧ I64 index ∧ I64 total ∧ Rd W B m d b := by
  have c49 : Try.prog.cellsOf 42 = 7 := by kernel_rfl
  obtain ⟨cs, rfl, hsz⟩ := okWide_struct Try.underlying42 o
  obtain ⟨l⟩ := cs
  obtain ⟨_, hall⟩ := h.struct Try.underlying42
  match l, hsz.trans c49 with
  | [v0, v1, v2, v3, v4, v5, v6], _ =>
    have h0 := hall 0 _ rfl
    have h1 := hall 1 _ rfl
    have h2 := hall 2 _ rfl
    have h3 := hall 3 _ rfl
    simp only [Value.cells] at h0 h1 h2 h3
    obtain ⟨p, A, n, c, e0, r0, ok0⟩ := Tr.part h0
    obtain ⟨i, e1, w1⟩ := h1.int Try.underlying3
    obtain ⟨t, e2, w2⟩ := h2.int Try.underlying3
    obtain ⟨B, m, d, b, e3, r3⟩ := h3.bytes Try.underlying22 Try.underlying5 (by kernel_rfl)
    have e0' : [v0, v1, v2, v3] = [.int .i64 p.seq, .int .i64 p.total, .int .i64 p.got, .slice A n c] := e0
    simp only [List.cons.injEq, and_true] at e0'
    obtain ⟨q0, q1, q2, q3⟩ := e0'
    have e1' : v4 = .int .i64 i := by have : [v4] = [.int .i64 i] := e1; simpa using this
    have e2' : v5 = .int .i64 t := by have : [v5] = [.int .i64 t] := e2; simpa using this
    have e3' : v6 = .slice B m d := by have : [v6] = [.slice B m d] := e3; simpa using this
    subst q0 q1 q2 q3 e1' e2' e3'
    exact ⟨p, A, n, c, i, t, B, m, d, b, rfl, r0, ok0, wf_i64 w1, wf_i64 w2, r3⟩
theorem tells_open {W : World} {r : Reach} {b0 : Nat} {v : Value} (o : Value.okWide Try.prog W r b0 26 v) (h : Tr Try.prog W 26 v.cells.toList) :
    ∃ (B : Option Addr) (m d : Nat) (b : List UInt8) (n : Int) (p : Pt) (A : Option Addr) (k c : Nat) (q : Pt) (A' : Option Addr) (k' c' : Nat) (index total : Int),
      v = .agg #[.slice B m d, .int .i64 n, .int .i64 p.seq, .int .i64 p.total, .int .i64 p.got, .slice A k c, .int .i64 q.seq, .int .i64 q.total, .int .i64 q.got, .slice A' k' c', .int .i64 index, .int .i64 total] ∧
      Rd W B m d b ∧ I64 n ∧ Rd W A k c p.b ∧ p.Ok ∧ Rd W A' k' c' q.b ∧ I64 index ∧ I64 total := by
  have c49 : Try.prog.cellsOf 26 = 12 := by kernel_rfl
  obtain ⟨cs, rfl, hsz⟩ := okWide_struct Try.underlying26 o
  obtain ⟨l⟩ := cs
  obtain ⟨_, hall⟩ := h.struct Try.underlying26
  match l, hsz.trans c49 with
  | [v0, v1, v2, v3, v4, v5, v6, v7, v8, v9, v10, v11], _ =>
    have h0 := hall 0 _ rfl
    have h1 := hall 1 _ rfl
    have h2 := hall 2 _ rfl
    have h3 := hall 3 _ rfl
    have h4 := hall 4 _ rfl
    have h5 := hall 5 _ rfl
    simp only [Value.cells] at h0 h1 h2 h3 h4 h5
    obtain ⟨B, m, d, b, e0, r0⟩ := h0.bytes Try.underlying22 Try.underlying5 (by kernel_rfl)
    obtain ⟨n, e1, w1⟩ := h1.int Try.underlying3
    obtain ⟨p, A, k, c, e2, r2, ok2⟩ := Tr.part h2
    obtain ⟨q, A', k', c', e3, r3, ok3⟩ := Tr.part h3
    obtain ⟨i, e4, w4⟩ := h4.int Try.underlying3
    obtain ⟨t, e5, w5⟩ := h5.int Try.underlying3
    have e0' : v0 = .slice B m d := by have : [v0] = [.slice B m d] := e0; simpa using this
    have e1' : v1 = .int .i64 n := by have : [v1] = [.int .i64 n] := e1; simpa using this
    have e2' : [v2, v3, v4, v5] = [.int .i64 p.seq, .int .i64 p.total, .int .i64 p.got, .slice A k c] := e2
    have e3' : [v6, v7, v8, v9] = [.int .i64 q.seq, .int .i64 q.total, .int .i64 q.got, .slice A' k' c'] := e3
    have e4' : v10 = .int .i64 i := by have : [v10] = [.int .i64 i] := e4; simpa using this
    have e5' : v11 = .int .i64 t := by have : [v11] = [.int .i64 t] := e5; simpa using this
    simp only [List.cons.injEq, and_true] at e2' e3'
    obtain ⟨a0, a1, a2, a3⟩ := e2'
    obtain ⟨b0, b1, b2, b3⟩ := e3'
    subst e0' e1' a0 a1 a2 a3 b0 b1 b2 b3 e4' e5'
    exact ⟨B, m, d, b, n, p, A, k, c, q, A', k', c', i, t, rfl, r0, wf_i64 w1, r2, ok2, r3, wf_i64 w4, wf_i64 w5⟩
end Go.Proofs.Ytapdlcfaghbjhaa
