/- A slice that came in, opened to its elements; a bool, and a slice of bools. No program is named here. (VecOpen, KeepOpen, WinOpen, FragOpen and NetOpen say the first of these too: of these only one can lie in a seat.) -/
import Derived.Test.YtmlmkkfieeaejaaOpen
set_option maxRecDepth 100000
namespace Go.Proofs.Ytmlmkkfieeaejaa
open Go.RowKit Go.ChangeShapes Go.WideShapes Go.ChangeAt
set_option linter.unusedVariables false

theorem add_add (a : Addr) (i j : Nat) : (a.add i).add j = a.add (i + j) := by
  unfold Addr.add
  by_cases h1 : i = 0
  · subst h1
    simp
  · by_cases h2 : j = 0
    · subst h2
      simp [h1]
    · rw [if_neg h1, if_neg h2, if_neg (by omega)]
      simp [Nat.add_assoc]
/-- A slice of whatever, opened to its elements' cells. -/
theorem Tr.slice {P : Program} {w : World} {t e : TypeId} {cs : List Value} {k : Nat} (ht : P.underlying t = some (.slice e)) (hk : P.cellsOf e = k) (hk0 : 0 < k) (h : Tr P w t cs) :
    ∃ A n c, cs = [.slice A n c] ∧ n ≤ c ∧ c ≤ maxLen ∧ (A = none → c = 0) ∧
      (0 < n → ∃ b o, A = some ⟨b, o, none⟩ ∧ ∀ i, i < n → ∃ ys : List Value, ys.length = k ∧ Tr P w e ys ∧ ∀ j u, ys[j]? = some u → w.cell? ⟨b, o + (i * k + j), none⟩ = some u) := by
  obtain ⟨H, enc, fuel, x, hf⟩ := h
  rcases DataW.trod_slice ht hf with ⟨rfl, _⟩ | ⟨a, len, cap, elems, rest, n, _, rfl, rfl, hb, hl, hm, hlen, hel, _, _⟩
  · exact ⟨none, 0, 0, rfl, Nat.le_refl _, Nat.zero_le _, fun _ => rfl, fun h => absurd h (by omega)⟩
  · refine ⟨some a, len, cap, rfl, hl, hm, (fun h => by cases h), fun h0 => ?_⟩
    have each : ∀ i, i < len → ∃ ys : List Value, ys.length = k ∧ Tr P w e ys ∧ ∀ j, j < k → w.cell? (a.add (i * k + j)) = ys[j]? := by
      intro i hi
      have h1 := hel i hi
      have hlt : i < elems.length := by omega
      rw [List.getElem?_eq_getElem hlt, Option.bind_eq_some_iff, hk] at h1
      obtain ⟨ys, hys, hy⟩ := h1
      obtain ⟨_, hyl, hyc⟩ := World.cells?_some hys
      refine ⟨ys, hyl, ⟨H, enc, n, _, hy⟩, fun j hj => ?_⟩
      rw [← hyc j hj, add_add]
    obtain ⟨b, o, spot⟩ := a
    have hspot : spot = none := by
      obtain ⟨ys, hyl, _, hyc⟩ := each 0 h0
      have := hyc 0 hk0
      rw [List.getElem?_eq_getElem (by omega)] at this
      simpa [Addr.add] using World.cell?_spot this
    subst hspot
    refine ⟨b, o, rfl, fun i hi => ?_⟩
    obtain ⟨ys, hyl, hyt, hyc⟩ := each i hi
    refine ⟨ys, hyl, hyt, fun j u hu => ?_⟩
    have hj : j < k := by
      rcases Nat.lt_or_ge j k with h | h
      · exact h
      · rw [List.getElem?_eq_none (by omega)] at hu; cases hu
    have := hyc j hj
    rw [add_eq, hu] at this
    exact this

theorem list_of {α : Type} {n : Nat} (F : Nat → α → Prop) (h : ∀ i, i < n → ∃ x, F i x) : ∃ l : List α, l.length = n ∧ ∀ i x, l[i]? = some x → F i x := by
  induction n with
  | zero => exact ⟨[], rfl, fun i x hx => by simp at hx⟩
  | succ n ih =>
    obtain ⟨l, hl, hF⟩ := ih (fun i hi => h i (by omega))
    obtain ⟨y, hy⟩ := h n (by omega)
    refine ⟨l ++ [y], by simp [hl], fun i x hx => ?_⟩
    rcases Nat.lt_trichotomy i n with hi | hi | hi
    · rw [List.getElem?_append_left (by omega)] at hx
      exact hF i x hx
    · subst hi
      rw [List.getElem?_append_right (by omega), hl, Nat.sub_self] at hx
      simp at hx
      subst hx
      exact hy
    · rw [List.getElem?_eq_none (by simp; omega)] at hx; cases hx

theorem Tr.bool {P : Program} {w : World} {t : TypeId} {cs : List Value} (ht : P.underlying t = some .bool) (h : Tr P w t cs) : ∃ a, cs = [.bool a] := by
  obtain ⟨H, enc, fuel, x, hf⟩ := h
  obtain ⟨a, h1, _⟩ := DataW.trod_bool ht hf
  exact ⟨a, h1⟩
/-- Bools as values. -/
def bos (l : List Bool) : List Value := l.map fun x => .bool x
theorem bos_length (l : List Bool) : (bos l).length = l.length := by simp [bos]
theorem Tr.bools {P : Program} {w : World} {t e : TypeId} {cs : List Value} (ht : P.underlying t = some (.slice e)) (he : P.underlying e = some .bool) (hk : P.cellsOf e = 1) (h : Tr P w t cs) : ∃ A n c l, cs = [.slice A n c] ∧ RdV w A n c (bos l) := by
  obtain ⟨A, n, c, rfl, hn, hc, h0, hel⟩ := h.slice ht hk (by omega)
  rcases Nat.eq_zero_or_pos n with h00 | h00
  · subst h00
    exact ⟨A, 0, c, [], rfl, rfl, hn, hc, h0, fun h => absurd h (by omega)⟩
  · obtain ⟨b, o, hA, hr⟩ := hel h00
    obtain ⟨l, hl, hF⟩ := list_of (fun i (x : Bool) => w.cell? ⟨b, o + i, none⟩ = some (.bool x)) (fun i hi => by
      obtain ⟨ys, hys, htr, hc⟩ := hr i hi
      obtain ⟨a, rfl⟩ := htr.bool he
      have := hc 0 _ rfl
      exact ⟨a, by simpa using this⟩)
    refine ⟨A, n, c, l, rfl, by rw [bos_length]; exact hl, hn, hc, h0, fun _ => ⟨b, o, hA, fun i u hu => ?_⟩⟩
    simp only [bos, List.getElem?_map, Option.map_eq_some_iff] at hu
    obtain ⟨x, hx, rfl⟩ := hu
    exact hF i x hx
end Go.Proofs.Ytmlmkkfieeaejaa
