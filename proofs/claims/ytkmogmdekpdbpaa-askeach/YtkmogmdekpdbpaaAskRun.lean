/- A gap that stays, tick by tick, in numbers. No program is named here. -/
import Derived.Test.YtkmogmdekpdbpaaAskMath
set_option maxRecDepth 100000
namespace Go.Proofs.Ytkmogmdekpdbpaa.Ask
set_option linter.unusedVariables false

theorem mid {n q m : Int} (hn : 0 < n) (h1 : n * q < n * m) (h2 : n * m < n * q + n) : False := by
  have a := Int.lt_of_mul_lt_mul_left h1 (by omega)
  have e : n * (q + 1) = n * q + n := by rw [Int.mul_add, Int.mul_one]
  have b : m < q + 1 := Int.lt_of_mul_lt_mul_left (by rw [e]; exact h2) (by omega)
  omega
theorem off_turn {n m x : Int} (hn : 0 < n) (h1 : x < n * m) (h2 : n * m < x + n) : x % n ≠ 0 := by
  intro h
  have e := Int.mul_ediv_add_emod x n
  rw [h, Int.add_zero] at e
  exact mid hn (q := x / n) (m := m) (by omega) (by omega)
theorem on_turn {n m x : Int} (h : x = n * m) : x % n = 0 := by
  rw [h]
  exact Int.mul_emod_right n m
theorem turn_on (n m : Int) : n * (m + 1) = n * m + n := by rw [Int.mul_add, Int.mul_one]

/-- What is due ahead of a tick, where the gap is away at one tick alone. -/
def At (now n E j d : Int) : Prop :=
  ((j = 0 ∨ j = E + 1) ∧ d = 0) ∨ ∃ f m : Int, ((f = 0 ∧ j ≤ E) ∨ (f = E + 1 ∧ E < j)) ∧ f < j ∧ d = now + f + 1 + n * m ∧ now + j ≤ d ∧ d < now + j + n
theorem At.gone (now n E : Int) : At now n E (E + 1) 0 := .inl ⟨.inr rfl, rfl⟩
theorem At.first {now n E j : Int} (hn : 0 < n) (hj : j = 0) (hE : j < E) : At now n E (j + 1) (now + j + 1) := by
  refine .inr ⟨0, 0, .inl ⟨rfl, by omega⟩, by omega, ?_, by omega, by omega⟩
  rw [Int.mul_zero]
  omega
theorem At.anew {now n E j : Int} (hn : 0 < n) (hE : 0 ≤ E) (hj : j = E + 1) : At now n E (j + 1) (now + j + 1) := by
  refine .inr ⟨E + 1, 0, .inr ⟨rfl, by omega⟩, by omega, ?_, by omega, by omega⟩
  rw [Int.mul_zero]
  omega
theorem At.time {now n E j f m : Int} (hn : 0 < n) (hf : (f = 0 ∧ j < E) ∨ (f = E + 1 ∧ E < j)) (hfj : f < j) (hd : now + j = now + f + 1 + n * m) : At now n E (j + 1) (now + j + n) := by
  refine .inr ⟨f, m + 1, ?_, by omega, ?_, by omega, by omega⟩
  · rcases hf with h | h
    · exact .inl ⟨h.1, by omega⟩
    · exact .inr ⟨h.1, by omega⟩
  · rw [turn_on]
    omega
theorem At.later {now n E j f m d : Int} (hf : (f = 0 ∧ j < E) ∨ (f = E + 1 ∧ E < j)) (hfj : f < j) (hd : d = now + f + 1 + n * m) (h1 : now + j < d) (h2 : d < now + j + n) : At now n E (j + 1) d := by
  refine .inr ⟨f, m, ?_, by omega, hd, by omega, by omega⟩
  rcases hf with h | h
  · exact .inl ⟨h.1, by omega⟩
  · exact .inr ⟨h.1, by omega⟩

/-- What is due ahead of a tick, and when the gap was asked for next, where it is hushed at tick h. -/
def Hat (now n h j d x : Int) : Prop :=
  (j = 0 ∧ d = 0 ∧ x = -1) ∨ (0 < j ∧ j ≤ h ∧ x = -1 ∧ now + j ≤ d ∧ d < now + j + n) ∨ (h < j ∧ j ≤ h + n ∧ x = -1 ∧ d = now + h + n) ∨ (h + n < j ∧ x = h + n)
theorem Hat.first {now n h j : Int} (hn : 0 < n) (hh : 0 < h) (hj : j = 0) : Hat now n h (j + 1) (now + j + 1) (-1) := .inr (.inl ⟨by omega, by omega, rfl, by omega, by omega⟩)
theorem Hat.time {now n h j : Int} (hn : 0 < n) (h0 : 0 < j) (hj : j < h) : Hat now n h (j + 1) (now + j + n) (-1) := .inr (.inl ⟨by omega, by omega, rfl, by omega, by omega⟩)
theorem Hat.later {now n h j d : Int} (h0 : 0 < j) (hj : j < h) (h1 : now + j < d) (h2 : d < now + j + n) : Hat now n h (j + 1) d (-1) := .inr (.inl ⟨by omega, by omega, rfl, by omega, by omega⟩)
theorem Hat.hushed {now n h j : Int} (hn : 0 < n) (hj : j = h) : Hat now n h (j + 1) (now + j + n) (-1) := .inr (.inr (.inl ⟨by omega, by omega, rfl, by omega⟩))
theorem Hat.waits {now n h j : Int} (h0 : h < j) (hj : j < h + n) : Hat now n h (j + 1) (now + h + n) (-1) := .inr (.inr (.inl ⟨by omega, by omega, rfl, rfl⟩))
theorem Hat.asked {now n h j d : Int} (hj : j = h + n) : Hat now n h (j + 1) d j := .inr (.inr (.inr ⟨by omega, hj⟩))
theorem Hat.over {now n h j d : Int} (hj : h + n < j) : Hat now n h (j + 1) d (h + n) := .inr (.inr (.inr ⟨by omega, rfl⟩))
theorem hush_to {d now n : Int} (h : d ≠ 0) (h2 : d ≤ now + n) : hush d now n = now + n := by
  unfold hush
  rw [if_neg h]
  split
  · rfl
  · omega

/-- What is due ahead of a tick, and how often the gap was asked for till then, where it stays from tick 0 on. -/
def Mat (a j d o : Int) : Prop :=
  (j = 0 ∧ d = 0 ∧ o = 0) ∨ (0 < j ∧ d = 1 + a * o ∧ j ≤ d ∧ d < j + a ∧ 0 ≤ o ∧ o ≤ j)
theorem Mat.times {a j d o : Int} (h : Mat a j d o) : 0 ≤ o ∧ o ≤ j := by
  rcases h with ⟨h1, _, h3⟩ | ⟨_, _, _, _, h1, h2⟩
  · omega
  · exact ⟨h1, h2⟩
theorem Mat.no {a j d o : Int} (ha : 1 ≤ a) (h : Mat a j d o) (ht : yes d j true = false) : Mat a (j + 1) (due d j a true) o := by
  rcases h with ⟨rfl, rfl, rfl⟩ | ⟨h0, h1, h2, h3, h4, h5⟩
  · rw [due_new]
    exact .inr ⟨by omega, by rw [Int.mul_zero]; omega, by omega, by omega, by omega, by omega⟩
  · by_cases hd : d ≤ j
    · rw [yes_time (by omega) hd] at ht
      cases ht
    · rw [due_later a (by omega) (by omega)]
      exact .inr ⟨by omega, h1, by omega, by omega, h4, by omega⟩
theorem Mat.yes_ {a j d o : Int} (ha : 1 ≤ a) (h : Mat a j d o) (ht : yes d j true = true) : Mat a (j + 1) (due d j a true) (o + 1) := by
  rcases h with ⟨rfl, rfl, rfl⟩ | ⟨h0, h1, h2, h3, h4, h5⟩
  · rw [yes_new] at ht
    cases ht
  · by_cases hd : d ≤ j
    · rw [due_time a (by omega) hd]
      exact .inr ⟨by omega, by rw [turn_on]; omega, by omega, by omega, by omega, by omega⟩
    · rw [yes_later (by omega)] at ht
      cases ht
theorem div_of {a m x : Int} (ha : 0 < a) (h1 : a * m ≤ x) (h2 : x < a * m + a) : x / a = m := by
  have e := Int.mul_ediv_add_emod x a
  have r0 := Int.emod_nonneg x (show a ≠ 0 by omega)
  have r1 := Int.emod_lt_of_pos x ha
  rcases Int.lt_trichotomy (x / a) m with h | h | h
  · have k : a * (x / a + 1) ≤ a * m := Int.mul_le_mul_of_nonneg_left (by omega) (by omega)
    rw [turn_on] at k
    omega
  · exact h
  · have k : a * (m + 1) ≤ a * (x / a) := Int.mul_le_mul_of_nonneg_left (by omega) (by omega)
    rw [turn_on] at k
    omega
theorem Mat.few {a j d o : Int} (ha : 1 ≤ a) (h : Mat a j d o) (hj : j < 2) (h0 : 0 ≤ j) : o = 0 := by
  rcases h with ⟨_, _, rfl⟩ | ⟨h0, h1, h2, h3, h4, h5⟩
  · rfl
  · rcases Int.lt_or_le 0 o with k | k
    · have k2 : a * 1 ≤ a * o := Int.mul_le_mul_of_nonneg_left (by omega) (by omega)
      rw [Int.mul_one] at k2
      omega
    · omega
theorem Mat.many {a j d o : Int} (ha : 1 ≤ a) (h : Mat a j d o) (hj : 2 ≤ j) : (j - 2) / a = o - 1 := by
  rcases h with ⟨_, _, rfl⟩ | ⟨h0, h1, h2, h3, h4, h5⟩
  · omega
  · have e : a * (o - 1) = a * o - a := by rw [Int.mul_sub, Int.mul_one]
    exact div_of (by omega) (by omega) (by omega)
theorem Mat.less {a b j d e o l : Int} (ha : 1 ≤ a) (hab : a ≤ b) (h : Mat a j d o) (h' : Mat b j e l) : l ≤ o := by
  rcases h' with ⟨_, _, rfl⟩ | ⟨g0, g1, g2, g3, g4, g5⟩
  · exact h.times.1
  · rcases h with ⟨k, _, rfl⟩ | ⟨h0, h1, h2, h3, h4, h5⟩
    · omega
    · rcases Int.lt_or_le o l with k | k
      · have k1 : b * (o + 1) ≤ b * l := Int.mul_le_mul_of_nonneg_left (by omega) (by omega)
        have k2 : a * o ≤ b * o := Int.mul_le_mul_of_nonneg_right hab h4
        rw [turn_on] at k1
        omega
      · exact k
end Go.Proofs.Ytkmogmdekpdbpaa.Ask
