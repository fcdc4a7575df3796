/- Streams of items that are numbered, in lists: which are right, room, pushed, freed, told. No program is named here. -/
import Derived.Test.YtkkkfaelpmmffaaItemMath
set_option maxRecDepth 100000
namespace Go.Proofs.Ytkkkfaelpmmffaa.Keep
open Go.Proofs.Ytkkkfaelpmmffaa.Item (It may far)
set_option linter.unusedVariables false

structure Kp where
  next : Int
  l : List It
  deriving DecidableEq
def new : Kp := ⟨1, []⟩
/-- Numbers that rise by one, from s on. -/
def numb (s : Int) : List It → Bool
  | [] => true
  | x :: xs => decide (x.q = s) && numb (s + 1) xs
theorem numb_get {s : Int} {l : List It} (h : numb s l = true) {i : Nat} {x : It} (hx : l[i]? = some x) : x.q = s + i := by
  induction l generalizing s i with
  | nil => simp at hx
  | cons y l ih =>
    simp only [numb, Bool.and_eq_true, decide_eq_true_eq] at h
    cases i with
    | zero =>
      simp only [List.getElem?_cons_zero, Option.some.injEq] at hx
      subst hx
      rw [h.1]; simp
    | succ i =>
      simp only [List.getElem?_cons_succ] at hx
      have := ih h.2 hx
      rw [this]; push_cast; omega
theorem numb_of {s : Int} {l : List It} (h : ∀ i x, l[i]? = some x → x.q = s + (i : Nat)) : numb s l = true := by
  induction l generalizing s with
  | nil => rfl
  | cons y l ih =>
    simp only [numb, Bool.and_eq_true, decide_eq_true_eq]
    refine ⟨by have := h 0 y rfl; simpa using this, ih fun i x hx => ?_⟩
    have := h (i + 1) x (by simpa using hx)
    rw [this]; push_cast; omega
theorem numb_snoc {s : Int} {l : List It} {x : It} (h : numb s l = true) (hx : x.q = s + l.length) : numb s (l ++ [x]) = true := by
  refine numb_of fun i y hy => ?_
  by_cases hi : i < l.length
  · rw [List.getElem?_append_left hi] at hy
    exact numb_get h hy
  · rw [List.getElem?_append_right (by omega)] at hy
    have hi0 : i - l.length = 0 := by
      rcases Nat.eq_zero_or_pos (i - l.length) with h0 | h0
      · exact h0
      · rw [List.getElem?_eq_none (by simp; omega)] at hy; cases hy
    rw [hi0] at hy
    simp only [List.getElem?_cons_zero, Option.some.injEq] at hy
    subst hy
    rw [hx]
    have : i = l.length := by omega
    rw [this]
theorem numb_drop {s : Int} {l : List It} (h : numb s l = true) (m : Nat) : numb (s + m) (l.drop m) = true := by
  refine numb_of fun i y hy => ?_
  rw [List.getElem?_drop] at hy
  have := numb_get h hy
  rw [this]; push_cast; omega

/-- Is a stream right? -/
def right (k : Kp) : Bool := (decide (k.l.length ≤ 64) && (decide (1 ≤ k.next) && decide (k.next ≤ 4611686018427387905))) && (k.l.all may && numb (k.next - k.l.length) k.l)
theorem right_iff {k : Kp} : right k = true ↔ (k.l.length ≤ 64 ∧ 1 ≤ k.next ∧ k.next ≤ 4611686018427387905) ∧ (∀ x ∈ k.l, may x = true) ∧ numb (k.next - k.l.length) k.l = true := by
  simp only [right, Bool.and_eq_true, decide_eq_true_eq, List.all_eq_true]
theorem may_q {x : It} (h : may x = true) : 1 ≤ x.q ∧ x.q ≤ 4611686018427387904 := by
  unfold may at h
  rw [Bool.and_eq_true] at h
  exact Item.win_iff.1 h.1
/-- What a check of the items one by one comes to. -/
def okAt (k : Kp) (i : Nat) (x : It) : Bool := may x && decide (x.q = k.next - (k.l.length - i))
theorem right_all {k : Kp} (h1 : k.l.length ≤ 64) (h2 : 1 ≤ k.next) (h3 : k.next ≤ 4611686018427387905) (h : ∀ i x, k.l[i]? = some x → okAt k i x = true) : right k = true := by
  refine right_iff.2 ⟨⟨h1, h2, h3⟩, fun x hx => ?_, numb_of fun i x hx => ?_⟩
  · obtain ⟨i, hi⟩ := List.getElem?_of_mem hx
    have := h i x hi
    simp only [okAt, Bool.and_eq_true] at this
    exact this.1
  · have := h i x hx
    simp only [okAt, Bool.and_eq_true, decide_eq_true_eq] at this
    rw [this.2]; omega
theorem right_at {k : Kp} (h : right k = true) {i : Nat} {x : It} (hx : k.l[i]? = some x) : okAt k i x = true := by
  obtain ⟨_, hm, hn⟩ := right_iff.1 h
  have := numb_get hn hx
  simp only [okAt, Bool.and_eq_true, decide_eq_true_eq]
  exact ⟨hm x (List.mem_of_getElem? hx), by omega⟩
theorem right_not {k : Kp} {i : Nat} {x : It} (hx : k.l[i]? = some x) (h : okAt k i x = false) : right k = false := by
  rw [Bool.eq_false_iff]
  intro hr
  rw [right_at hr hx] at h
  cases h

/-- The room beside a spare. -/
def room (k : Kp) (buf spare : Int) : Int :=
  if buf < 0 ∨ buf > 64 ∨ spare < 0 ∨ spare > 64 ∨ k.next > 4611686018427387904 ∨ buf - spare < k.l.length then 0 else buf - spare - k.l.length
theorem room_range (k : Kp) (buf spare : Int) : 0 ≤ room k buf spare ∧ room k buf spare ≤ 64 := by
  unfold room
  split
  · omega
  · omega
theorem room_some {k : Kp} {buf spare : Int} (h : 1 ≤ room k buf spare) : k.next ≤ 4611686018427387904 ∧ (k.l.length : Int) < 64 := by
  unfold room at h
  split at h
  · omega
  · omega

/-- An item with another number. -/
def wq (x : It) (q : Int) : It := ⟨x.k, q, x.e, x.i, x.t, x.c, x.l, x.b⟩
theorem wq_q (x : It) (q : Int) : (wq x q).q = q := rfl
/-- The number that is asked about when an item is pushed. -/
def qOf (k : Kp) : Int := if k.next > 4611686018427387904 then 1 else k.next
structure Pushed where
  k : Kp
  x : It
  code : Int
  deriving DecidableEq
def push (k : Kp) (x : It) (buf spare : Int) : Pushed :=
  if may (wq x (qOf k)) = false then ⟨k, It.zero, 1⟩ else if room k buf spare < 1 then ⟨k, It.zero, 4⟩ else ⟨⟨k.next + 1, k.l ++ [wq x k.next]⟩, wq x k.next, 0⟩
theorem push_ok {k : Kp} {x : It} {buf spare : Int} (h1 : may (wq x (qOf k)) = true) (h2 : 1 ≤ room k buf spare) : push k x buf spare = ⟨⟨k.next + 1, k.l ++ [wq x k.next]⟩, wq x k.next, 0⟩ := by
  unfold push
  rw [if_neg (by simp [h1]), if_neg (by omega)]
theorem qOf_room {k : Kp} {buf spare : Int} (h : 1 ≤ room k buf spare) : qOf k = k.next := by
  have := (room_some h).1
  unfold qOf
  rw [if_neg (by omega)]
theorem push_cases (k : Kp) (x : It) (buf spare : Int) :
    (push k x buf spare = ⟨k, It.zero, 1⟩ ∧ may (wq x (qOf k)) = false) ∨ (push k x buf spare = ⟨k, It.zero, 4⟩ ∧ room k buf spare < 1) ∨
    (push k x buf spare = ⟨⟨k.next + 1, k.l ++ [wq x k.next]⟩, wq x k.next, 0⟩ ∧ may (wq x k.next) = true ∧ 1 ≤ room k buf spare) := by
  cases hm : may (wq x (qOf k)) with
  | false => exact .inl ⟨by unfold push; rw [if_pos hm], rfl⟩
  | true =>
    by_cases hr : room k buf spare < 1
    · exact .inr (.inl ⟨by unfold push; rw [if_neg (by simp [hm]), if_pos hr], hr⟩)
    · have hr' : 1 ≤ room k buf spare := by omega
      exact .inr (.inr ⟨push_ok hm hr', by rw [← qOf_room hr']; exact hm, hr'⟩)
theorem right_grown {k : Kp} {x : It} (h : right k = true) (hx : may (wq x k.next) = true) (hn : k.next ≤ 4611686018427387904) (hl : (k.l.length : Int) < 64) : right ⟨k.next + 1, k.l ++ [wq x k.next]⟩ = true := by
  obtain ⟨⟨h1, h2, h3⟩, hm, hnn⟩ := right_iff.1 h
  refine right_iff.2 ⟨⟨by simp; omega, by simp; omega, by simp; omega⟩, fun y hy => ?_, ?_⟩
  · rcases List.mem_append.1 hy with hy | hy
    · exact hm y hy
    · obtain rfl : y = wq x k.next := by simpa using hy
      exact hx
  · have e : (k.next + 1) - ((k.l ++ [wq x k.next]).length : Int) = k.next - k.l.length := by simp; omega
    simp only [e]
    exact numb_snoc hnn (by rw [wq_q]; omega)
theorem right_push {k : Kp} (x : It) (buf spare : Int) (h : right k = true) : right (push k x buf spare).k = true := by
  rcases push_cases k x buf spare with ⟨e, _⟩ | ⟨e, _⟩ | ⟨e, hm, hr⟩
  · rw [e]; exact h
  · rw [e]; exact h
  · rw [e]; exact right_grown h hm (room_some hr).1 (room_some hr).2

/-- Without the items whose numbers aren't above one. -/
def freed (l : List It) (u : Int) : List It := l.filter fun x => decide (u < x.q)
theorem freed_snoc (l : List It) (x : It) (u : Int) : freed (l ++ [x]) u = freed l u ++ (if u < x.q then [x] else []) := by
  unfold freed
  rw [List.filter_append]
  congr 1
  by_cases h : u < x.q <;> simp [h]
theorem freed_drop {s : Int} {l : List It} (h : numb s l = true) (u : Int) : freed l u = l.drop (u - s + 1).toNat := by
  induction l generalizing s with
  | nil => simp [freed]
  | cons y l ih =>
    simp only [numb, Bool.and_eq_true, decide_eq_true_eq] at h
    have e := ih h.2
    unfold freed at e ⊢
    by_cases hu : u < s
    · have h0 : (u - s + 1).toNat = 0 := by omega
      have h1 : (u - (s + 1) + 1).toNat = 0 := by omega
      rw [h1] at e
      rw [h0, List.filter_cons_of_pos (by simp; omega), e]
      simp
    · have h0 : (u - s + 1).toNat = (u - (s + 1) + 1).toNat + 1 := by omega
      rw [h0, List.filter_cons_of_neg (by simp; omega), e, List.drop_succ_cons]
theorem right_freed {k : Kp} (h : right k = true) (u : Int) : right ⟨k.next, freed k.l u⟩ = true := by
  obtain ⟨⟨h1, h2, h3⟩, hm, hnn⟩ := right_iff.1 h
  rw [freed_drop hnn]
  refine right_iff.2 ⟨⟨by simp; omega, h2, h3⟩, fun y hy => hm y (List.mem_of_mem_drop hy), ?_⟩
  simp only [List.length_drop]
  generalize (u - (k.next - (k.l.length : Int)) + 1).toNat = m
  by_cases hmL : m ≤ k.l.length
  · have := numb_drop hnn m
    rw [show k.next - (k.l.length : Int) + (m : Int) = k.next - ((k.l.length - m : Nat) : Int) from by omega] at this
    exact this
  · rw [List.drop_of_length_le (by omega)]; rfl
theorem freed_freed (l : List It) (a b : Int) : freed (freed l a) b = freed l (if b > a then b else a) := by
  unfold freed
  rw [List.filter_filter]
  congr 1
  funext x
  rw [← Bool.decide_and]
  congr 1
  split <;> exact propext ⟨fun h => by omega, fun h => by omega⟩
theorem freed_none {l : List It} (hm : ∀ x ∈ l, may x = true) : freed l 0 = l := by
  unfold freed
  rw [List.filter_eq_self]
  intro x hx
  have := may_q (hm x hx)
  simp; omega
theorem freed_all {k : Kp} (h : right k = true) : freed k.l (k.next - 1) = [] := by
  obtain ⟨⟨h1, h2, h3⟩, hm, hnn⟩ := right_iff.1 h
  rw [freed_drop hnn, List.drop_of_length_le (by omega)]

/-- The item of a number. -/
def got (l : List It) (q : Int) : Option It := l.find? fun x => decide (x.q = q)
theorem got_at {s : Int} {l : List It} (h : numb s l = true) {i : Nat} {x : It} (hx : l[i]? = some x) : got l (s + i) = some x := by
  induction l generalizing s i with
  | nil => simp at hx
  | cons y l ih =>
    simp only [numb, Bool.and_eq_true, decide_eq_true_eq] at h
    cases i with
    | zero =>
      simp only [List.getElem?_cons_zero, Option.some.injEq] at hx
      subst hx
      unfold got
      rw [List.find?_cons_of_pos (by simp [h.1])]
    | succ i =>
      simp only [List.getElem?_cons_succ] at hx
      have := ih h.2 hx
      unfold got at this ⊢
      rw [List.find?_cons_of_neg (by simp [h.1]; omega)]
      rw [show s + ((i + 1 : Nat) : Int) = s + 1 + (i : Int) from by push_cast; omega]
      exact this
theorem got_none {s : Int} {l : List It} (h : numb s l = true) {q : Int} (hq : q < s ∨ s + l.length ≤ q) : got l q = none := by
  unfold got
  rw [List.find?_eq_none]
  intro x hx
  obtain ⟨i, hi⟩ := List.getElem?_of_mem hx
  have e := numb_get h hi
  have hlt : i < l.length := by
    rcases Nat.lt_or_ge i l.length with h | h
    · exact h
    · rw [List.getElem?_eq_none h] at hi; cases hi
  simp; omega
theorem got_some {l : List It} {q : Int} {x : It} (h : got l q = some x) : x.q = q ∧ x ∈ l := by
  unfold got at h
  have h1 := List.find?_some h
  exact ⟨by simpa using h1, List.mem_of_find?_eq_some h⟩
/-- Of a right stream each kept number is told, and none else. -/
theorem got_right {k : Kp} (h : right k = true) (q : Int) :
    (∃ x, got k.l q = some x ∧ (k.next - k.l.length ≤ q ∧ q < k.next) ∧ k.l[(q - (k.next - k.l.length)).toNat]? = some x) ∨ (got k.l q = none ∧ ¬ (k.next - k.l.length ≤ q ∧ q < k.next)) := by
  obtain ⟨_, _, hnn⟩ := right_iff.1 h
  by_cases hq : k.next - k.l.length ≤ q ∧ q < k.next
  · left
    have hlt : (q - (k.next - (k.l.length : Int))).toNat < k.l.length := by omega
    have e := List.getElem?_eq_getElem hlt
    have g := got_at hnn e
    rw [show k.next - (k.l.length : Int) + ((q - (k.next - (k.l.length : Int))).toNat : Int) = q from by omega] at g
    exact ⟨_, g, hq, e⟩
  · exact .inr ⟨got_none hnn (by omega), hq⟩
theorem got_freed (l : List It) (u q : Int) : got (freed l u) q = if u < q then got l q else none := by
  induction l with
  | nil => simp [got, freed]
  | cons y l ih =>
    unfold got freed at ih ⊢
    by_cases hy : u < y.q
    · rw [List.filter_cons_of_pos (by simpa using hy)]
      by_cases hq : y.q = q
      · rw [List.find?_cons_of_pos (by simpa using hq), List.find?_cons_of_pos (by simpa using hq), if_pos (by omega)]
      · rw [List.find?_cons_of_neg (by simpa using hq), List.find?_cons_of_neg (by simpa using hq), ih]
    · rw [List.filter_cons_of_neg (by simpa using hy), ih]
      by_cases hq : u < q
      · rw [if_pos hq, if_pos hq, List.find?_cons_of_neg (by simp; omega)]
      · rw [if_neg hq, if_neg hq]
/-- What was pushed is told. -/
theorem got_pushed {k : Kp} (h : right k = true) (x : It) : got (k.l ++ [wq x k.next]) k.next = some (wq x k.next) := by
  obtain ⟨_, _, hnn⟩ := right_iff.1 h
  have g := got_none hnn (q := k.next) (by omega)
  unfold got at g ⊢
  rw [List.find?_append, g]
  simp [wq_q]
end Go.Proofs.Ytkkkfaelpmmffaa.Keep
