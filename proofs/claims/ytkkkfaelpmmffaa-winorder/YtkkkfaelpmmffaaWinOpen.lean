/- What comes in of chapter 9's laws, opened to its parts. -/
import Derived.Test.YtkkkfaelpmmffaaOpen
import Derived.Test.YtkkkfaelpmmffaaKeepMem
import Derived.Test.YtkkkfaelpmmffaaItemOpen
set_option maxRecDepth 100000
namespace Go.Proofs.Ytkkkfaelpmmffaa
open Go.RowKit Go.ChangeShapes Go.WideShapes Go.ChangeAt
set_option linter.unusedVariables false

theorem add_add (a : Addr) (i j : Nat) : (a.add i).add j = a.add (i + j) := by
  unfold Addr.add
  by_cases h1 : i = 0
  · subst h1
    simp
  · by_cases h2 : j = 0
    · subst h2
      simp [h1]
    · rw [if_neg h1, if_neg h2, if_neg (by omega)]
      simp [Nat.add_assoc]
/-- A slice of whatever, opened to its elements' cells. -/
theorem Tr.slice {P : Program} {w : World} {t e : TypeId} {cs : List Value} {k : Nat} (ht : P.underlying t = some (.slice e)) (hk : P.cellsOf e = k) (hk0 : 0 < k) (h : Tr P w t cs) :
    ∃ A n c, cs = [.slice A n c] ∧ n ≤ c ∧ c ≤ maxLen ∧ (A = none → c = 0) ∧
      (0 < n → ∃ b o, A = some ⟨b, o, none⟩ ∧ ∀ i, i < n → ∃ ys : List Value, ys.length = k ∧ Tr P w e ys ∧ ∀ j u, ys[j]? = some u → w.cell? ⟨b, o + (i * k + j), none⟩ = some u) := by
  obtain ⟨H, enc, fuel, x, hf⟩ := h
  rcases DataW.trod_slice ht hf with ⟨rfl, _⟩ | ⟨a, len, cap, elems, rest, n, _, rfl, rfl, hb, hl, hm, hlen, hel, _, _⟩
  · exact ⟨none, 0, 0, rfl, Nat.le_refl _, Nat.zero_le _, fun _ => rfl, fun h => absurd h (by omega)⟩
  · refine ⟨some a, len, cap, rfl, hl, hm, (fun h => by cases h), fun h0 => ?_⟩
    have each : ∀ i, i < len → ∃ ys : List Value, ys.length = k ∧ Tr P w e ys ∧ ∀ j, j < k → w.cell? (a.add (i * k + j)) = ys[j]? := by
      intro i hi
      have h1 := hel i hi
      have hlt : i < elems.length := by omega
      rw [List.getElem?_eq_getElem hlt, Option.bind_eq_some_iff, hk] at h1
      obtain ⟨ys, hys, hy⟩ := h1
      obtain ⟨_, hyl, hyc⟩ := World.cells?_some hys
      refine ⟨ys, hyl, ⟨H, enc, n, _, hy⟩, fun j hj => ?_⟩
      rw [← hyc j hj, add_add]
    obtain ⟨b, o, spot⟩ := a
    have hspot : spot = none := by
      obtain ⟨ys, hyl, _, hyc⟩ := each 0 h0
      have := hyc 0 hk0
      rw [List.getElem?_eq_getElem (by omega)] at this
      simpa [Addr.add] using World.cell?_spot this
    subst hspot
    refine ⟨b, o, rfl, fun i hi => ?_⟩
    obtain ⟨ys, hyl, hyt, hyc⟩ := each i hi
    refine ⟨ys, hyl, hyt, fun j u hu => ?_⟩
    have hj : j < k := by
      rcases Nat.lt_or_ge j k with h | h
      · exact h
      · rw [List.getElem?_eq_none (by omega)] at hu; cases hu
    have := hyc j hj
    rw [add_eq, hu] at this
    exact this

theorem list_of {α : Type} {n : Nat} (F : Nat → α → Prop) (h : ∀ i, i < n → ∃ x, F i x) : ∃ l : List α, l.length = n ∧ ∀ i x, l[i]? = some x → F i x := by
  induction n with
  | zero => exact ⟨[], rfl, fun i x hx => by simp at hx⟩
  | succ n ih =>
    obtain ⟨l, hl, hF⟩ := ih (fun i hi => h i (by omega))
    obtain ⟨y, hy⟩ := h n (by omega)
    refine ⟨l ++ [y], by simp [hl], fun i x hx => ?_⟩
    rcases Nat.lt_trichotomy i n with hi | hi | hi
    · rw [List.getElem?_append_left (by omega)] at hx
      exact hF i x hx
    · subst hi
      rw [List.getElem?_append_right (by omega), hl, Nat.sub_self] at hx
      simp at hx
      subst hx
      exact hy
    · rw [List.getElem?_eq_none (by simp; omega)] at hx; cases hx
theorem byte_open {W : World} {r : Reach} {b0 : Nat} {v : Value} (o : Value.okWide Try.prog W r b0 5 v) (h : Tr Try.prog W 5 v.cells.toList) : ∃ a : Int, v = .int .u8 a ∧ 0 ≤ a ∧ a < 256 := by
  obtain ⟨a, e, hw⟩ := h.int Try.underlying5
  obtain ⟨k, rfl⟩ := okWide_int Try.underlying5 o
  simp [Value.cells] at e
  subst e
  exact ⟨_, rfl, wf_u8 hw⟩
theorem int_open {W : World} {r : Reach} {b0 : Nat} {v : Value} (o : Value.okWide Try.prog W r b0 3 v) (h : Tr Try.prog W 3 v.cells.toList) : ∃ a : Int, v = .int .i64 a ∧ -9223372036854775808 ≤ a ∧ a ≤ 9223372036854775807 := by
  obtain ⟨a, e, hw⟩ := h.int Try.underlying3
  obtain ⟨k, rfl⟩ := okWide_int Try.underlying3 o
  simp [Value.cells] at e
  subst e
  exact ⟨_, rfl, wf_i64 hw⟩

theorem Tr.item {w : World} {ys : List Value} (h : Tr Try.prog w 28 ys) : ∃ LA ln lc BA bn bc x, ys = [.int .i64 x.k, .int .i64 x.q, .int .i64 x.e, .int .i64 x.i, .int .i64 x.t, .int .i64 x.c, .slice LA ln lc, .slice BA bn bc] ∧ RdI w LA ln lc x.l ∧ Rd w BA bn bc (Item.It.b x) := by
  have c25 : Try.prog.cellsOf 28 = 8 := by kernel_rfl
  obtain ⟨hl, hall⟩ := h.struct Try.underlying28
  rw [c25] at hl
  match ys, hl with
  | [v0, v1, v2, v3, v4, v5, v6, v7], _ =>
    have h0 := hall 0 _ rfl
    have h1 := hall 1 _ rfl
    have h2 := hall 2 _ rfl
    have h3 := hall 3 _ rfl
    have h4 := hall 4 _ rfl
    have h5 := hall 5 _ rfl
    have h6 := hall 6 _ rfl
    have h7 := hall 7 _ rfl
    obtain ⟨k, e0, _⟩ := h0.int Try.underlying3
    obtain ⟨q, e1, _⟩ := h1.int Try.underlying3
    obtain ⟨e, e2, _⟩ := h2.int Try.underlying3
    obtain ⟨i, e3, _⟩ := h3.int Try.underlying3
    obtain ⟨t, e4, _⟩ := h4.int Try.underlying3
    obtain ⟨c, e5, _⟩ := h5.int Try.underlying3
    obtain ⟨LA, ln, lc, L, e6, rl⟩ := h6.ints Try.underlying25 Try.underlying3 (by kernel_rfl)
    obtain ⟨BA, bn, bc, B, e7, rb⟩ := h7.bytes Try.underlying26 Try.underlying5 (by kernel_rfl)
    injection e0 with e0
    injection e1 with e1
    injection e2 with e2
    injection e3 with e3
    injection e4 with e4
    injection e5 with e5
    injection e6 with e6
    injection e7 with e7
    subst e0 e1 e2 e3 e4 e5 e6 e7
    exact ⟨LA, ln, lc, BA, bn, bc, ⟨k, q, e, i, t, c, L, B⟩, rfl, rl, rb⟩
theorem flat_div {k : Nat} (hk : 0 < k) {rs : List (Array Value)} (h : AllK k rs) {j : Nat} {u : Value} (hj : (flat rs)[j]? = some u) : ∃ r, rs[j / k]? = some r ∧ r[j % k]? = some u := by
  induction rs generalizing j with
  | nil => simp [flat] at hj
  | cons r rs ih =>
    rw [flat_cons] at hj
    have hl := h.head
    by_cases hjk : j < k
    · rw [List.getElem?_append_left (by omega)] at hj
      refine ⟨r, by rw [Nat.div_eq_of_lt hjk]; rfl, ?_⟩
      rw [Nat.mod_eq_of_lt hjk]
      simpa using hj
    · rw [List.getElem?_append_right (by omega), hl] at hj
      obtain ⟨q, h1, h2⟩ := ih h.tail hj
      refine ⟨q, ?_, ?_⟩
      · rw [Nat.div_eq_sub_div hk (by omega), List.getElem?_cons_succ]; exact h1
      · rw [Nat.mod_eq_sub_mod (by omega)]; exact h2
theorem Tr.items {w : World} {cs : List Value} (h : Tr Try.prog w 22 cs) : ∃ A n c xs, cs = [.slice A n c] ∧ RdX w A n c xs := by
  obtain ⟨A, n, c, rfl, hn, hc, hA, hE⟩ := h.slice Try.underlying22 (k := 8) (by kernel_rfl) (by omega)
  by_cases h0 : 0 < n
  · obtain ⟨b, o, rfl, hE2⟩ := hE h0
    obtain ⟨l, hl, hF⟩ := list_of (n := n) (fun i (p : Array Value × Item.It) => IsItem w (.agg p.1) p.2 ∧ (p.1.size = 8 ∧ p.1.all (·.oneCell') = true) ∧ ∀ j u, p.1[j]? = some u → w.cell? ⟨b, o + (i * 8 + j), none⟩ = some u) (fun i hi => by
      obtain ⟨ys, _, hT, hc⟩ := hE2 i hi
      obtain ⟨LA, ln, lc, BA, bn, bc, x, rfl, rl, rb⟩ := hT.item
      exact ⟨(#[.int .i64 x.k, .int .i64 x.q, .int .i64 x.e, .int .i64 x.i, .int .i64 x.t, .int .i64 x.c, .slice LA ln lc, .slice BA bn bc], x), ⟨LA, ln, lc, BA, bn, bc, rfl, rl, rb⟩, ⟨rfl, by simp [Value.oneCell']⟩, fun j u hu => hc j u (by simpa using hu)⟩)
    have hall : AllK 8 (l.map (·.1)) := by
      intro r hr
      obtain ⟨p, hp, rfl⟩ := List.mem_map.1 hr
      obtain ⟨i, hi⟩ := List.getElem?_of_mem hp
      exact (hF i p hi).2.1
    refine ⟨some ⟨b, o, none⟩, n, c, l.map (·.2), rfl, l.map (·.1), ⟨hall, by simpa using hl, hn, hc, (fun h => by cases h), fun _ => ⟨b, o, rfl, fun i u hu => ?_⟩⟩, by simp, fun i t x h1 h2 => ?_⟩
    · obtain ⟨t, h1, h2⟩ := flat_div (by omega) hall hu
      rw [List.getElem?_map, Option.map_eq_some_iff] at h1
      obtain ⟨p, hp, rfl⟩ := h1
      have := (hF _ p hp).2.2 _ u h2
      rwa [show i / 8 * 8 + i % 8 = i from by omega] at this
    · rw [List.getElem?_map, Option.map_eq_some_iff] at h1 h2
      obtain ⟨p, hp, rfl⟩ := h1
      obtain ⟨p', hp', rfl⟩ := h2
      rw [hp] at hp'
      injection hp' with hp'
      subst hp'
      exact (hF i p hp).1
  · have hn0 : n = 0 := by omega
    subst hn0
    exact ⟨A, 0, c, [], rfl, [], ⟨AllK.nil_ 8, rfl, hn, hc, hA, fun h => absurd h (by omega)⟩, AreI.nil_ w⟩
theorem Tr.win {w : World} {cs : List Value} (h : Tr Try.prog w 24 cs) : ∃ A n c k, cs = [.int .i64 (Keep.Kp.next k), .slice A n c] ∧ RdX w A n c k.l ∧ (-9223372036854775808 ≤ k.next ∧ k.next ≤ 9223372036854775807) := by
  have c2 : Try.prog.cellsOf 24 = 2 := by kernel_rfl
  obtain ⟨hl, hall⟩ := h.struct Try.underlying24
  rw [c2] at hl
  match cs, hl with
  | [v0, v1], _ =>
    have h0 := hall 0 _ rfl
    have h1 := hall 1 _ rfl
    obtain ⟨q, e0, w0⟩ := h0.int Try.underlying3
    obtain ⟨A, n, c, xs, e1, hX⟩ := Tr.items h1
    injection e0 with e0
    injection e1 with e1
    subst e0 e1
    exact ⟨A, n, c, ⟨q, xs⟩, rfl, hX, wf_i64 w0⟩
theorem win_open {W : World} {r : Reach} {b0 : Nat} {v : Value} (o : Value.okWide Try.prog W r b0 24 v) (h : Tr Try.prog W 24 v.cells.toList) : ∃ A n c k, v = .agg #[.int .i64 (Keep.Kp.next k), .slice A n c] ∧ RdX W A n c k.l ∧ (-9223372036854775808 ≤ k.next ∧ k.next ≤ 9223372036854775807) := by
  have cN : Try.prog.cellsOf 24 = 2 := by kernel_rfl
  obtain ⟨cs, rfl, hsz⟩ := okWide_struct Try.underlying24 o
  obtain ⟨l⟩ := cs
  match l, hsz.trans cN with
  | [v0, v1], _ =>
    simp only [Value.cells] at h
    obtain ⟨A, n, c, k, e, hX, hk⟩ := Tr.win h
    have e' : [v0, v1] = [.int .i64 k.next, .slice A n c] := e
    injection e' with e0 e'
    injection e' with e1
    subst e0 e1
    exact ⟨A, n, c, k, rfl, hX, hk⟩
theorem wtells_open {W : World} {r : Reach} {b0 : Nat} {v : Value} (o : Value.okWide Try.prog W r b0 30 v) (h : Tr Try.prog W 30 v.cells.toList) :
    ∃ (A0 : Option Addr) (n0 c0 : Nat) (k0 : Keep.Kp) (A1 : Option Addr) (n1 c1 : Nat) (k1 : Keep.Kp) (LA2 : Option Addr) (ln2 lc2 : Nat) (BA2 : Option Addr) (bn2 bc2 : Nat) (x2 : Item.It) (x3 : Int), v = .agg #[.int .i64 k0.next, .slice A0 n0 c0, .int .i64 k1.next, .slice A1 n1 c1, .int .i64 x2.k, .int .i64 x2.q, .int .i64 x2.e, .int .i64 x2.i, .int .i64 x2.t, .int .i64 x2.c, .slice LA2 ln2 lc2, .slice BA2 bn2 bc2, .int .i64 x3] ∧ (RdX W A0 n0 c0 k0.l ∧ (-9223372036854775808 ≤ k0.next ∧ k0.next ≤ 9223372036854775807)) ∧ (RdX W A1 n1 c1 k1.l ∧ (-9223372036854775808 ≤ k1.next ∧ k1.next ≤ 9223372036854775807)) ∧ (RdI W LA2 ln2 lc2 x2.l ∧ Rd W BA2 bn2 bc2 x2.b) ∧ ((-9223372036854775808 ≤ x3 ∧ x3 ≤ 9223372036854775807)) := by
  have cN : Try.prog.cellsOf 30 = 13 := by kernel_rfl
  obtain ⟨cs, rfl, hsz⟩ := okWide_struct Try.underlying30 o
  obtain ⟨l⟩ := cs
  obtain ⟨_, hall⟩ := h.struct Try.underlying30
  match l, hsz.trans cN with
  | [v0, v1, v2, v3, v4, v5, v6, v7, v8, v9, v10, v11, v12], _ =>
    have h0 := hall 0 _ rfl
    have h1 := hall 1 _ rfl
    have h2 := hall 2 _ rfl
    have h3 := hall 3 _ rfl
    simp only [Value.cells] at h0 h1 h2 h3
    have g0 : Tr Try.prog W 24 [v0, v1] := h0
    obtain ⟨A0, n0, c0, k0, e0, r0⟩ := Tr.win g0
    have g1 : Tr Try.prog W 24 [v2, v3] := h1
    obtain ⟨A1, n1, c1, k1, e1, r1⟩ := Tr.win g1
    have g2 : Tr Try.prog W 28 [v4, v5, v6, v7, v8, v9, v10, v11] := h2
    obtain ⟨LA2, ln2, lc2, BA2, bn2, bc2, x2, e2, r2⟩ := Tr.item g2
    obtain ⟨x3, e3, w3⟩ := h3.int Try.underlying3
    have q0 : [v0, v1] = [.int .i64 k0.next, .slice A0 n0 c0] := e0
    simp only [List.cons.injEq, and_true] at q0
    obtain ⟨rfl, rfl⟩ := q0
    have q1 : [v2, v3] = [.int .i64 k1.next, .slice A1 n1 c1] := e1
    simp only [List.cons.injEq, and_true] at q1
    obtain ⟨rfl, rfl⟩ := q1
    have q2 : [v4, v5, v6, v7, v8, v9, v10, v11] = [.int .i64 x2.k, .int .i64 x2.q, .int .i64 x2.e, .int .i64 x2.i, .int .i64 x2.t, .int .i64 x2.c, .slice LA2 ln2 lc2, .slice BA2 bn2 bc2] := e2
    simp only [List.cons.injEq, and_true] at q2
    obtain ⟨rfl, rfl, rfl, rfl, rfl, rfl, rfl, rfl⟩ := q2
    have q3 : [v12] = [.int .i64 x3] := e3
    simp only [List.cons.injEq, and_true] at q3
    subst q3
    exact ⟨A0, n0, c0, k0, A1, n1, c1, k1, LA2, ln2, lc2, BA2, bn2, bc2, x2, x3, rfl, r0, r1, r2, wf_i64 w3⟩
end Go.Proofs.Ytkkkfaelpmmffaa
