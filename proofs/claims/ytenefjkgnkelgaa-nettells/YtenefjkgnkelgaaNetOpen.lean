/- Rows of letters, and rows of rows of bytes, that came in, opened to their parts. -/
import Derived.Test.YtenefjkgnkelgaaBA
import Derived.Test.YtenefjkgnkelgaaNetMem
set_option maxRecDepth 100000
namespace Go.Proofs.Ytenefjkgnkelgaa
open Go.RowKit Go.ChangeShapes Go.WideShapes Go.ChangeAt
set_option linter.unusedVariables false

theorem add_add (a : Addr) (i j : Nat) : (a.add i).add j = a.add (i + j) := by
  unfold Addr.add
  by_cases h1 : i = 0
  · subst h1
    simp
  · by_cases h2 : j = 0
    · subst h2
      simp [h1]
    · rw [if_neg h1, if_neg h2, if_neg (by omega)]
      simp [Nat.add_assoc]
/-- A slice of whatever, opened to its elements' cells. -/
theorem Tr.slice {P : Program} {w : World} {t e : TypeId} {cs : List Value} {k : Nat} (ht : P.underlying t = some (.slice e)) (hk : P.cellsOf e = k) (hk0 : 0 < k) (h : Tr P w t cs) :
    ∃ A n c, cs = [.slice A n c] ∧ n ≤ c ∧ c ≤ maxLen ∧ (A = none → c = 0) ∧
      (0 < n → ∃ b o, A = some ⟨b, o, none⟩ ∧ ∀ i, i < n → ∃ ys : List Value, ys.length = k ∧ Tr P w e ys ∧ ∀ j u, ys[j]? = some u → w.cell? ⟨b, o + (i * k + j), none⟩ = some u) := by
  obtain ⟨H, enc, fuel, x, hf⟩ := h
  rcases DataW.trod_slice ht hf with ⟨rfl, _⟩ | ⟨a, len, cap, elems, rest, n, _, rfl, rfl, hb, hl, hm, hlen, hel, _, _⟩
  · exact ⟨none, 0, 0, rfl, Nat.le_refl _, Nat.zero_le _, fun _ => rfl, fun h => absurd h (by omega)⟩
  · refine ⟨some a, len, cap, rfl, hl, hm, (fun h => by cases h), fun h0 => ?_⟩
    have each : ∀ i, i < len → ∃ ys : List Value, ys.length = k ∧ Tr P w e ys ∧ ∀ j, j < k → w.cell? (a.add (i * k + j)) = ys[j]? := by
      intro i hi
      have h1 := hel i hi
      have hlt : i < elems.length := by omega
      rw [List.getElem?_eq_getElem hlt, Option.bind_eq_some_iff, hk] at h1
      obtain ⟨ys, hys, hy⟩ := h1
      obtain ⟨_, hyl, hyc⟩ := World.cells?_some hys
      refine ⟨ys, hyl, ⟨H, enc, n, _, hy⟩, fun j hj => ?_⟩
      rw [← hyc j hj, add_add]
    obtain ⟨b, o, spot⟩ := a
    have hspot : spot = none := by
      obtain ⟨ys, hyl, _, hyc⟩ := each 0 h0
      have := hyc 0 hk0
      rw [List.getElem?_eq_getElem (by omega)] at this
      simpa [Addr.add] using World.cell?_spot this
    subst hspot
    refine ⟨b, o, rfl, fun i hi => ?_⟩
    obtain ⟨ys, hyl, hyt, hyc⟩ := each i hi
    refine ⟨ys, hyl, hyt, fun j u hu => ?_⟩
    have hj : j < k := by
      rcases Nat.lt_or_ge j k with h | h
      · exact h
      · rw [List.getElem?_eq_none (by omega)] at hu; cases hu
    have := hyc j hj
    rw [add_eq, hu] at this
    exact this

theorem Tr.letter {w : World} {ys : List Value} (h : Tr Try.prog w 29 ys) : ∃ t x, ys = Tri.cells t ∧ IsL w t x := by
  have c29 : Try.prog.cellsOf 29 = 3 := by kernel_rfl
  obtain ⟨hl, hall⟩ := h.struct Try.underlying29
  rw [c29] at hl
  match ys, hl with
  | [v0, v1, v2], _ =>
    have h0 := hall 0 _ rfl
    have h1 := hall 1 _ rfl
    have h2 := hall 2 _ rfl
    obtain ⟨q, e0, _⟩ := h0.int Try.underlying3
    obtain ⟨BA, bn, bc, B, e1, rb⟩ := h1.bytes Try.underlying23 Try.underlying5 (by kernel_rfl)
    obtain ⟨H, enc, fuel, x, hf⟩ := h2
    obtain ⟨s, e2, _⟩ := DataW.trod_bool Try.underlying4 hf
    injection e0 with e0
    injection e1 with e1
    injection e2 with e2
    subst e0 e1 e2
    exact ⟨⟨q, BA, bn, bc, s⟩, ⟨q, B, s⟩, rfl, rfl, rfl, rb⟩

/-- Lists out of what holds at each place. -/
theorem list_of {α : Type} {n : Nat} (F : Nat → α → Prop) (h : ∀ i, i < n → ∃ x, F i x) : ∃ l : List α, l.length = n ∧ ∀ i x, l[i]? = some x → F i x := by
  induction n with
  | zero => exact ⟨[], rfl, fun i x hx => by simp at hx⟩
  | succ n ih =>
    obtain ⟨l, hl, hF⟩ := ih (fun i hi => h i (by omega))
    obtain ⟨y, hy⟩ := h n (by omega)
    refine ⟨l ++ [y], by simp [hl], fun i x hx => ?_⟩
    rcases Nat.lt_trichotomy i n with hi | hi | hi
    · rw [List.getElem?_append_left (by omega)] at hx
      exact hF i x hx
    · subst hi
      rw [List.getElem?_append_right (by omega), hl, Nat.sub_self] at hx
      simp at hx
      subst hx
      exact hy
    · rw [List.getElem?_eq_none (by simp; omega)] at hx; cases hx
theorem raw_div {ts : List Tri} {j : Nat} {u : Value} (h : (raw ts)[j]? = some u) : ∃ t, ts[j / 3]? = some t ∧ t.cells[j % 3]? = some u := by
  induction ts generalizing j with
  | nil => simp [raw] at h
  | cons t ts ih =>
    match j, h with
    | 0, h => exact ⟨t, rfl, h⟩
    | 1, h => exact ⟨t, rfl, h⟩
    | 2, h => exact ⟨t, rfl, h⟩
    | j + 3, h =>
      have h' : (raw ts)[j]? = some u := h
      obtain ⟨t', h1, h2⟩ := ih h'
      refine ⟨t', ?_, ?_⟩
      · rw [show (j + 3) / 3 = j / 3 + 1 from by omega]; exact h1
      · rw [show (j + 3) % 3 = j % 3 from by omega]; exact h2

theorem Tr.letters {w : World} {cs : List Value} (h : Tr Try.prog w 22 cs) : ∃ A n c ls, cs = [.slice A n c] ∧ RdL w A n c ls := by
  obtain ⟨A, n, c, rfl, hn, hc, hA, hE⟩ := h.slice Try.underlying22 (k := 3) (by kernel_rfl) (by omega)
  by_cases h0 : 0 < n
  · obtain ⟨b, o, rfl, hE2⟩ := hE h0
    obtain ⟨l, hl, hF⟩ := list_of (n := n) (fun i (p : Tri × Lt) => IsL w p.1 p.2 ∧ ∀ j u, p.1.cells[j]? = some u → w.cell? ⟨b, o + (i * 3 + j), none⟩ = some u) (fun i hi => by
      obtain ⟨ys, _, hT, hc⟩ := hE2 i hi
      obtain ⟨t, x, rfl, hi⟩ := hT.letter
      exact ⟨(t, x), hi, hc⟩)
    refine ⟨some ⟨b, o, none⟩, n, c, l.map (·.2), rfl, l.map (·.1), ⟨by simpa using hl, hn, hc, (fun h => by cases h), fun _ => ⟨b, o, rfl, fun i u hu => ?_⟩⟩, by simp, fun i t x h1 h2 => ?_⟩
    · obtain ⟨t, h1, h2⟩ := raw_div hu
      rw [List.getElem?_map, Option.map_eq_some_iff] at h1
      obtain ⟨p, hp, rfl⟩ := h1
      have := (hF _ p hp).2 _ u h2
      rwa [show i / 3 * 3 + i % 3 = i from by omega] at this
    · rw [List.getElem?_map, Option.map_eq_some_iff] at h1 h2
      obtain ⟨p, hp, rfl⟩ := h1
      obtain ⟨p', hp', rfl⟩ := h2
      rw [hp] at hp'
      injection hp' with hp'
      subst hp'
      exact (hF i p hp).1
  · have hn0 : n = 0 := by omega
    subst hn0
    exact ⟨A, 0, c, [], rfl, [], ⟨rfl, hn, hc, hA, fun h => absurd h (by omega)⟩, AreL.nil_ w⟩
theorem letters_open {W : World} {r : Reach} {b0 : Nat} {v : Value} (o : Value.okWide Try.prog W r b0 22 v) (h : Tr Try.prog W 22 v.cells.toList) : ∃ A n c ls, v = .slice A n c ∧ RdL W A n c ls := by
  obtain ⟨a, m, c, rfl⟩ := okWide_slice Try.underlying22 o
  obtain ⟨A, m', d, ls, ha, hr⟩ := h.letters
  obtain ⟨rfl, rfl, rfl⟩ : a = A ∧ m = m' ∧ c = d := by simpa [Value.cells] using ha
  exact ⟨a, m, c, ls, rfl, hr⟩
theorem byte_open {W : World} {r : Reach} {b0 : Nat} {v : Value} (o : Value.okWide Try.prog W r b0 5 v) (h : Tr Try.prog W 5 v.cells.toList) : ∃ a : Int, v = .int .u8 a ∧ 0 ≤ a ∧ a < 256 := by
  obtain ⟨a, e, hw⟩ := h.int Try.underlying5
  obtain ⟨k, rfl⟩ := okWide_int Try.underlying5 o
  simp [Value.cells] at e
  subst e
  exact ⟨_, rfl, wf_u8 hw⟩
theorem int_open {W : World} {r : Reach} {b0 : Nat} {v : Value} (o : Value.okWide Try.prog W r b0 3 v) (h : Tr Try.prog W 3 v.cells.toList) : ∃ a : Int, v = .int .i64 a ∧ -9223372036854775808 ≤ a ∧ a ≤ 9223372036854775807 := by
  obtain ⟨a, e, hw⟩ := h.int Try.underlying3
  obtain ⟨k, rfl⟩ := okWide_int Try.underlying3 o
  simp [Value.cells] at e
  subst e
  exact ⟨_, rfl, wf_i64 hw⟩
end Go.Proofs.Ytenefjkgnkelgaa
