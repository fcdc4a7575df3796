/- What the document's May comes to. -/
import Derived.Test.YtmlmkkfieeaejaaLMay2a
import Derived.Test.YtmlmkkfieeaejaaLMay2b
import Derived.Test.YtmlmkkfieeaejaaLMay2c
set_option maxRecDepth 100000
namespace Go.Proofs.Ytmlmkkfieeaejaa
open Go.RowKit
set_option linter.unusedVariables false


theorem allIn_nil {l : List Int} {top : Int} (h : l.length = 0) : Item.allIn l top = true := by
  have := List.eq_nil_of_length_eq_zero h
  subst this
  rfl
theorem list_none {l : List Int} {top : Int} : Item.list l 0 0 top = true ↔ l.length = 0 := by
  simp only [Item.list, Bool.and_eq_true, Item.win_iff]
  constructor
  · rintro ⟨h, _⟩; omega
  · intro h; exact ⟨by omega, allIn_nil h⟩
theorem list_some {l : List Int} {lo hi top : Int} : Item.list l lo hi top = true ↔ (Item.allIn l top = true ∧ lo ≤ l.length ∧ (l.length : Int) ≤ hi) := by
  simp only [Item.list, Bool.and_eq_true, Item.win_iff]
  constructor
  · rintro ⟨h, g⟩; exact ⟨g, h⟩
  · rintro ⟨g, h⟩; exact ⟨h, g⟩
theorem body_iff {b : List UInt8} {n : Int} : Item.body b n = true ↔ (b.length : Int) ≤ n := by simp [Item.body]
theorem ask1_iff {x : Item.It} : Item.ask1 x = true ↔ (1 ≤ x.t ∧ x.t ≤ 32 ∧ 0 ≤ x.i ∧ x.i < x.t ∧ x.c = 0 ∧ x.l.length = 0 ∧ x.b.length ≤ 1024) := by
  simp only [Item.ask1, Bool.and_eq_true, Item.win_iff, list_none, body_iff]
  omega
theorem askNone_iff {x : Item.It} {im cm : Int} : Item.askN x im cm 0 0 0 = true ↔ (x.l.length = 0 ∧ x.b.length = 0 ∧ 0 ≤ x.i ∧ x.i ≤ im ∧ x.t = 0 ∧ 0 ≤ x.c ∧ x.c ≤ cm) := by
  simp only [Item.askN, Bool.and_eq_true, Item.win_iff, list_none, body_iff]
  omega
theorem askSome_iff {x : Item.It} {im lo hi top : Int} : Item.askN x im 0 lo hi top = true ↔ (Item.allIn x.l top = true ∧ 0 ≤ x.i ∧ x.i ≤ im ∧ x.t = 0 ∧ x.c = 0 ∧ x.b.length = 0 ∧ lo ≤ x.l.length ∧ (x.l.length : Int) ≤ hi) := by
  simp only [Item.askN, Bool.and_eq_true, Item.win_iff, list_some, body_iff]
  constructor
  · rintro ⟨h1, h2, h3, ⟨h4, h5⟩, h6⟩; exact ⟨h4, by omega, by omega, by omega, by omega, by omega, h5⟩
  · rintro ⟨h1, h2, h3, h4, h5, h6, h7⟩; exact ⟨by omega, by omega, by omega, ⟨h1, h7⟩, by omega⟩
theorem may_in {x : Item.It} (h1 : 1 ≤ x.q) (h2 : x.q ≤ 4611686018427387904) (h3 : 0 ≤ x.e) (h4 : x.e ≤ 4611686018427387904) : Item.may x = Item.ask x := by
  simp [Item.may, Item.win, h1, h2, h3, h4]

theorem rmay_any (v : Value) (x : Item.It) (w : World) (h : IsItem w v x) : Calls Try.prog 26 #[v] w (BoolIs w (Item.may x)) := by
  obtain ⟨LA, ln, lc, BA, bn, bc, rfl, hl, hb⟩ := h
  have el := RdI.size hl
  have eb := hb.1
  by_cases hr : x.q < 1 ∨ 4611686018427387904 < x.q ∨ x.e < 0 ∨ 4611686018427387904 < x.e
  · have e : Item.may x = false := by
      cases hm : Item.may x with
      | false => rfl
      | true =>
        simp only [Item.may, Bool.and_eq_true, Item.win_iff] at hm
        omega
    rw [e]
    exact rmay_out x.k x.q x.e x.i x.t x.c LA ln lc BA bn bc w hr
  have h1 : 1 ≤ x.q := by omega
  have h2 : x.q ≤ 4611686018427387904 := by omega
  have h3 : 0 ≤ x.e := by omega
  have h4 : x.e ≤ 4611686018427387904 := by omega
  rw [may_in h1 h2 h3 h4]
  obtain ⟨k, q, e, i, t, c, l, b⟩ := x
  dsimp only at *
  by_cases k1 : k = 1
  · subst k1
    refine rmay1 q e i t c LA ln lc BA bn bc l b w hl hb _ h1 h2 h3 h4 (hidT ?_)
    rw [ask_at rfl, if_pos rfl, ask1_iff]
    dsimp only
    rw [el, eb]
  by_cases k2 : k = 2
  · subst k2
    refine rmay2 q e i t c LA ln lc BA bn bc l b w hl hb _ h1 h2 h3 h4 (hidT ?_)
    show Item.askN _ 1 0 1 64 63 = true ↔ _
    rw [askSome_iff]
    dsimp only
    rw [el, eb]
    constructor
    · rintro ⟨g1, g2, g3, g4, g5, g6, g7, g8⟩; exact ⟨g1, g2, g3, g4, g5, g6, by omega, by omega⟩
    · rintro ⟨g1, g2, g3, g4, g5, g6, g7, g8⟩; exact ⟨g1, g2, g3, g4, g5, g6, by omega, by omega⟩
  by_cases k3 : k = 3
  · subst k3
    refine rmay3 q e i t c LA ln lc BA bn bc l b w hl hb _ h1 h2 h3 h4 (hidT ?_)
    show Item.askN _ 0 0 0 0 0 = true ↔ _
    rw [askNone_iff]
    dsimp only
    omega
  by_cases k4 : k = 4
  · subst k4
    refine rmay4 q e i t c LA ln lc BA bn bc l b w hl hb _ h1 h2 h3 h4 (hidT ?_)
    show Item.askN _ 1 0 0 0 0 = true ↔ _
    rw [askNone_iff]
    dsimp only
    omega
  by_cases k5 : k = 5
  · subst k5
    refine rmay5 q e i t c LA ln lc BA bn bc l b w hl hb _ h1 h2 h3 h4 (hidT ?_)
    show Item.askN _ 0 4611686018427387904 0 0 0 = true ↔ _
    rw [askNone_iff]
    dsimp only
    omega
  by_cases k6 : k = 6
  · subst k6
    refine rmay6 q e i t c LA ln lc BA bn bc l b w hl hb _ h1 h2 h3 h4 (hidT ?_)
    show Item.askN _ 0 0 2 64 4611686018427387904 = true ↔ _
    rw [askSome_iff]
    dsimp only
    rw [el, eb]
    constructor
    · rintro ⟨g1, g2, g3, g4, g5, g6, g7, g8⟩; exact ⟨g1, by omega, g4, g5, g6, by omega, by omega⟩
    · rintro ⟨g1, g2, g4, g5, g6, g7, g8⟩; exact ⟨g1, by omega, by omega, g4, g5, g6, by omega, by omega⟩
  exact rmay0 k q e i t c LA ln lc BA bn bc l b w hl hb _ h1 h2 h3 h4 (hidT (ask_none k1 k2 k3 k4 k5 k6)) k1 k2 k3 k4 k5 k6
end Go.Proofs.Ytmlmkkfieeaejaa
