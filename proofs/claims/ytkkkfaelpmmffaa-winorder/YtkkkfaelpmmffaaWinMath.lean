/- What came of a stream, in lists: right, taken in, taken, what is missing. No program is named here. -/
import Derived.Test.YtkkkfaelpmmffaaKeepMath
set_option maxRecDepth 100000
namespace Go.Proofs.Ytkkkfaelpmmffaa.Win
open Go.Proofs.Ytkkkfaelpmmffaa.Item (It may far)
open Go.Proofs.Ytkkkfaelpmmffaa.Keep (Kp)
set_option linter.unusedVariables false

/-- Numbers that rise, from s on. -/
def rises (s : Int) : List It → Bool
  | [] => true
  | x :: xs => decide (s ≤ x.q) && rises (x.q + 1) xs
theorem rises_cons {s : Int} {x : It} {l : List It} : rises s (x :: l) = true ↔ s ≤ x.q ∧ rises (x.q + 1) l = true := by
  simp only [rises, Bool.and_eq_true, decide_eq_true_eq]
theorem rises_le {s t : Int} {l : List It} (h : rises s l = true) (ht : t ≤ s) : rises t l = true := by
  cases l with
  | nil => rfl
  | cons x l =>
    obtain ⟨h1, h2⟩ := rises_cons.1 h
    exact rises_cons.2 ⟨by omega, h2⟩
theorem rises_low {s : Int} {l : List It} (h : rises s l = true) : ∀ x ∈ l, s ≤ x.q := by
  induction l generalizing s with
  | nil => intro x hx; cases hx
  | cons y l ih =>
    obtain ⟨h1, h2⟩ := rises_cons.1 h
    intro x hx
    rcases List.mem_cons.1 hx with rfl | hx
    · exact h1
    · have := ih h2 x hx; omega
theorem rises_len {s b : Int} {l : List It} (h : rises s l = true) (hb : ∀ x ∈ l, x.q ≤ b) (hs : s ≤ b + 1) : (l.length : Int) ≤ b - s + 1 := by
  induction l generalizing s with
  | nil => simp; omega
  | cons y l ih =>
    obtain ⟨h1, h2⟩ := rises_cons.1 h
    have h3 := hb y List.mem_cons_self
    have := ih h2 (fun x hx => hb x (List.mem_cons_of_mem _ hx)) (by omega)
    rw [List.length_cons]; push_cast; omega
/-- What came is right. -/
def right (k : Kp) : Bool := (decide (k.l.length ≤ 64) && (decide (1 ≤ k.next) && decide (k.next ≤ 4611686018427387905))) && (k.l.all may && rises k.next k.l)
theorem right_iff {k : Kp} : right k = true ↔ (k.l.length ≤ 64 ∧ 1 ≤ k.next ∧ k.next ≤ 4611686018427387905) ∧ (∀ x ∈ k.l, may x = true) ∧ rises k.next k.l = true := by
  simp only [right, Bool.and_eq_true, decide_eq_true_eq, List.all_eq_true]
theorem rises_step {s le : Int} {l : List It} {j : Nat} {x : It} (h : rises s l = rises le (l.drop j)) (hx : l[j]? = some x) : rises s l = (decide (le ≤ x.q) && rises (x.q + 1) (l.drop (j + 1))) := by
  rw [h]
  obtain ⟨hj, e⟩ := List.getElem?_eq_some_iff.1 hx
  rw [List.drop_eq_getElem_cons hj, e]
  rfl
theorem right_done {k : Kp} {le : Int} {n : Nat} (h1 : k.l.length ≤ 64) (h2 : 1 ≤ k.next) (h3 : k.next ≤ 4611686018427387905) (hm : ∀ i x, i < n → k.l[i]? = some x → may x = true) (hr : rises k.next k.l = rises le (k.l.drop n)) (hn : k.l.length = n) : right k = true := by
  refine right_iff.2 ⟨⟨h1, h2, h3⟩, fun x hx => ?_, ?_⟩
  · obtain ⟨i, hi⟩ := List.getElem?_of_mem hx
    exact hm i x (by rw [← hn]; exact (List.getElem?_eq_some_iff.1 hi).1) hi
  · rw [hr, List.drop_of_length_le (by omega)]; rfl
theorem right_mayn {k : Kp} {i : Nat} {x : It} (hx : k.l[i]? = some x) (hm : may x = false) : right k = false := by
  rw [Bool.eq_false_iff]
  intro h
  rw [(right_iff.1 h).2.1 x (List.mem_of_getElem? hx)] at hm
  cases hm
theorem right_risen {k : Kp} (hr : rises k.next k.l = false) : right k = false := by
  rw [Bool.eq_false_iff]
  intro h
  rw [(right_iff.1 h).2.2] at hr
  cases hr
theorem may_q {x : It} (h : may x = true) : 1 ≤ x.q ∧ x.q ≤ 4611686018427387904 := Keep.may_q h

/-- The place of a number. -/
def at_ (l : List It) (s : Int) : Nat := l.findIdx fun y => decide (s ≤ y.q)
/-- Does an item of the number stand there? -/
def hit (l : List It) (s : Int) : Bool := match l[at_ l s]? with | some y => decide (y.q = s) | none => false
/-- Does an item of the number wait? -/
def waits (l : List It) (s : Int) : Bool := l.any fun y => decide (y.q = s)
theorem waits_iff {l : List It} {s : Int} : waits l s = true ↔ ∃ x ∈ l, x.q = s := by
  simp only [waits, List.any_eq_true, decide_eq_true_eq]
theorem waits_not {l : List It} {s : Int} : waits l s = false ↔ ∀ x ∈ l, x.q ≠ s := by
  rw [Bool.eq_false_iff, Ne, waits_iff]
  simp
theorem at_le (l : List It) (s : Int) : at_ l s ≤ l.length := List.findIdx_le_length
theorem at_cons_ge {x : It} {l : List It} {s : Int} (h : s ≤ x.q) : at_ (x :: l) s = 0 := by
  unfold at_; rw [List.findIdx_cons]; simp [h]
theorem at_cons_lt {x : It} {l : List It} {s : Int} (h : ¬ s ≤ x.q) : at_ (x :: l) s = at_ l s + 1 := by
  unfold at_; rw [List.findIdx_cons]; simp [h]
theorem hit_waits {t : Int} {l : List It} (h : rises t l = true) (s : Int) : hit l s = waits l s := by
  induction l generalizing t with
  | nil => rfl
  | cons x l ih =>
    obtain ⟨h1, h2⟩ := rises_cons.1 h
    by_cases hx : s ≤ x.q
    · unfold hit
      rw [at_cons_ge hx]
      simp only [List.getElem?_cons_zero]
      by_cases he : x.q = s
      · simp [waits, he]
      · rw [show decide (x.q = s) = false from by simpa using he]
        symm
        rw [waits_not]
        intro y hy
        rcases List.mem_cons.1 hy with rfl | hy
        · exact he
        · have := rises_low h2 y hy; omega
    · have e := ih h2
      unfold hit at e ⊢
      rw [at_cons_lt hx, List.getElem?_cons_succ, e]
      unfold waits
      rw [List.any_cons, show decide (x.q = s) = false from by simp; omega, Bool.false_or]
/-- The list with an item laid in its place. -/
def ins (l : List It) (x : It) : List It := (l.take (at_ l x.q) ++ [x]) ++ l.drop (at_ l x.q)
theorem ins_cons_ge {x y : It} {l : List It} (h : x.q ≤ y.q) : ins (y :: l) x = x :: y :: l := by
  unfold ins; rw [at_cons_ge h]; simp
theorem ins_cons_lt {x y : It} {l : List It} (h : ¬ x.q ≤ y.q) : ins (y :: l) x = y :: ins l x := by
  unfold ins; rw [at_cons_lt h]; simp
theorem ins_nil (x : It) : ins [] x = [x] := by simp [ins]
theorem mem_ins {l : List It} {x y : It} : y ∈ ins l x ↔ y = x ∨ y ∈ l := by
  conv => rhs; rw [← List.take_append_drop (at_ l x.q) l]
  unfold ins
  simp only [List.mem_append, List.mem_singleton]
  constructor
  · rintro ((h | h) | h)
    · exact .inr (.inl h)
    · exact .inl h
    · exact .inr (.inr h)
  · rintro (h | h | h)
    · exact .inl (.inr h)
    · exact .inl (.inl h)
    · exact .inr h
theorem ins_length (l : List It) (x : It) : (ins l x).length = l.length + 1 := by
  have := at_le l x.q
  unfold ins
  simp only [List.length_append, List.length_take, List.length_drop, List.length_singleton]
  omega
theorem rises_ins {t : Int} {l : List It} {x : It} (h : rises t l = true) (hx : t ≤ x.q) (hw : waits l x.q = false) : rises t (ins l x) = true := by
  induction l generalizing t with
  | nil => rw [ins_nil]; exact rises_cons.2 ⟨hx, rfl⟩
  | cons y l ih =>
    obtain ⟨h1, h2⟩ := rises_cons.1 h
    have hy := waits_not.1 hw y List.mem_cons_self
    by_cases hxy : x.q ≤ y.q
    · rw [ins_cons_ge hxy]
      exact rises_cons.2 ⟨hx, rises_cons.2 ⟨by omega, h2⟩⟩
    · rw [ins_cons_lt hxy]
      exact rises_cons.2 ⟨h1, ih h2 (by omega) (waits_not.2 fun z hz => waits_not.1 hw z (List.mem_cons_of_mem _ hz))⟩
theorem waits_ins (l : List It) (x : It) (s : Int) : waits (ins l x) s = (decide (x.q = s) || waits l s) := by
  rw [Bool.eq_iff_iff, Bool.or_eq_true, waits_iff, waits_iff, decide_eq_true_eq]
  constructor
  · rintro ⟨y, hy, e⟩
    rcases mem_ins.1 hy with rfl | hy
    · exact .inl e
    · exact .inr ⟨y, hy, e⟩
  · rintro (e | ⟨y, hy, e⟩)
    · exact ⟨x, mem_ins.2 (.inl rfl), e⟩
    · exact ⟨y, mem_ins.2 (.inr hy), e⟩
/-- Is an item taken in? -/
def takes (k : Kp) (x : It) (last : Int) : Bool := (may x && (decide (k.next ≤ x.q) && decide (x.q ≤ last))) && (decide (k.l.length < 64) && !waits k.l x.q)
theorem takes_iff {k : Kp} {x : It} {last : Int} : takes k x last = true ↔ (may x = true ∧ k.next ≤ x.q ∧ x.q ≤ last) ∧ k.l.length < 64 ∧ waits k.l x.q = false := by
  simp only [takes, Bool.and_eq_true, decide_eq_true_eq, Bool.not_eq_true']
def put (k : Kp) (x : It) (last : Int) : Kp := if takes k x last = true then ⟨k.next, ins k.l x⟩ else k
theorem put_yes {k : Kp} {x : It} {last : Int} (h : takes k x last = true) : put k x last = ⟨k.next, ins k.l x⟩ := if_pos h
theorem put_no {k : Kp} {x : It} {last : Int} (h : takes k x last = false) : put k x last = k := if_neg (by simp [h])
theorem put_next (k : Kp) (x : It) (last : Int) : (put k x last).next = k.next := by unfold put; split <;> rfl
theorem right_ins {k : Kp} {x : It} {last : Int} (h : right k = true) (ht : takes k x last = true) : right ⟨k.next, ins k.l x⟩ = true := by
  obtain ⟨⟨h1, h2, h3⟩, hm, hr⟩ := right_iff.1 h
  obtain ⟨⟨t1, t2, t3⟩, t4, t5⟩ := takes_iff.1 ht
  refine right_iff.2 ⟨⟨by rw [ins_length]; omega, h2, h3⟩, fun y hy => ?_, rises_ins hr t2 t5⟩
  rcases mem_ins.1 hy with rfl | hy
  · exact t1
  · exact hm y hy
theorem right_put {k : Kp} (x : It) (last : Int) (h : right k = true) : right (put k x last) = true := by
  unfold put
  split
  · rename_i ht; exact right_ins h ht
  · exact h

/-- The next item. -/
def peek (k : Kp) : Option It := match k.l with | x :: _ => if x.q = k.next then some x else none | [] => none
/-- What came without it. -/
def take (k : Kp) : Kp := match k.l with | x :: r => if x.q = k.next then ⟨k.next + 1, r⟩ else k | [] => k
theorem peek_some {k : Kp} {x : It} (h : peek k = some x) : ∃ r, k.l = x :: r ∧ x.q = k.next ∧ take k = ⟨k.next + 1, r⟩ := by
  obtain ⟨nx, l⟩ := k
  cases l with
  | nil => cases h
  | cons y r =>
    unfold peek at h
    simp only at h
    split at h
    · rename_i hq
      injection h with h
      subst h
      exact ⟨r, rfl, hq, by unfold take; simp only; rw [if_pos hq]⟩
    · cases h
theorem peek_none {k : Kp} (h : peek k = none) : take k = k ∧ ∀ x r, k.l = x :: r → x.q ≠ k.next := by
  obtain ⟨nx, l⟩ := k
  cases l with
  | nil => exact ⟨rfl, fun x r e => by cases e⟩
  | cons y r =>
    unfold peek at h
    simp only at h
    split at h
    · cases h
    · rename_i hq
      exact ⟨by unfold take; simp only; rw [if_neg hq], fun x r' e => by injection e with e1 e2; subst e1; exact hq⟩
/-- Of what is right the next one is the first one, if it waits. -/
theorem at_next {k : Kp} (h : rises k.next k.l = true) : at_ k.l k.next = 0 := by
  obtain ⟨nx, l⟩ := k
  cases l with
  | nil => rfl
  | cons y r => exact at_cons_ge (rises_cons.1 h).1
theorem hit_next {k : Kp} (h : rises k.next k.l = true) : hit k.l k.next = (peek k).isSome := by
  unfold hit
  rw [at_next h]
  obtain ⟨nx, l⟩ := k
  cases l with
  | nil => rfl
  | cons y r =>
    unfold peek
    simp only [List.getElem?_cons_zero]
    by_cases hq : y.q = nx
    · rw [if_pos hq]; simpa using hq
    · rw [if_neg hq]; simpa using hq
theorem waits_next {k : Kp} (h : rises k.next k.l = true) : waits k.l k.next = (peek k).isSome := by rw [← hit_waits h, hit_next h]
theorem got_next {k : Kp} (h : rises k.next k.l = true) : Keep.got k.l k.next = peek k := by
  obtain ⟨nx, l⟩ := k
  cases l with
  | nil => rfl
  | cons y r =>
    obtain ⟨h1, h2⟩ := rises_cons.1 h
    unfold Keep.got peek
    by_cases hq : y.q = nx
    · rw [List.find?_cons_of_pos (by simpa using hq)]
      simp only
      rw [if_pos hq]
    · rw [List.find?_cons_of_neg (by simpa using hq)]
      simp only
      rw [if_neg hq, List.find?_eq_none]
      intro z hz
      have := rises_low h2 z hz
      simp only at h1
      simp; omega
theorem right_take {k : Kp} (h : right k = true) : right (take k) = true := by
  cases hp : peek k with
  | none => rw [(peek_none hp).1]; exact h
  | some x =>
    obtain ⟨r, e1, e2, e3⟩ := peek_some hp
    obtain ⟨⟨h1, h2, h3⟩, hm, hr⟩ := right_iff.1 h
    rw [e3]
    rw [e1] at h1 hm hr
    have := may_q (hm x List.mem_cons_self)
    rw [List.length_cons] at h1
    refine right_iff.2 ⟨⟨by simp only; omega, by simp only; omega, by simp only; omega⟩, fun y hy => hm y (List.mem_cons_of_mem _ hy), ?_⟩
    have := (rises_cons.1 hr).2
    rw [e2] at this
    exact this
/-- What isn't the next number's. -/
theorem others_next {k : Kp} (h : rises k.next k.l = true) : k.l.filter (fun y => decide (y.q ≠ k.next)) = (take k).l := by
  cases hp : peek k with
  | none =>
    rw [(peek_none hp).1]
    have hw : waits k.l k.next = false := by rw [waits_next h, hp]; rfl
    rw [List.filter_eq_self]
    intro y hy
    have := waits_not.1 hw y hy
    simpa using this
  | some x =>
    obtain ⟨r, e1, e2, e3⟩ := peek_some hp
    rw [e3, e1]
    rw [e1] at h
    rw [List.filter_cons_of_neg (by simp [e2]), List.filter_eq_self]
    intro y hy
    have := rises_low (rises_cons.1 h).2 y hy
    simp; omega

/-- How many wait one behind the other from a number on. -/
def run (s : Int) : List It → Nat
  | [] => 0
  | x :: xs => if x.q = s then run (s + 1) xs + 1 else 0
theorem run_le (s : Int) (l : List It) : run s l ≤ l.length := by
  induction l generalizing s with
  | nil => simp [run]
  | cons x l ih =>
    unfold run
    split
    · have := ih (s + 1); rw [List.length_cons]; omega
    · simp
theorem run_at {s : Int} {l : List It} {i : Nat} (hi : i < run s l) : ∃ x, l[i]? = some x ∧ x.q = s + i := by
  induction l generalizing s i with
  | nil => simp [run] at hi
  | cons x l ih =>
    unfold run at hi
    split at hi
    · rename_i hq
      cases i with
      | zero => exact ⟨x, rfl, by simpa using hq⟩
      | succ i =>
        obtain ⟨y, h1, h2⟩ := ih (s := s + 1) (i := i) (by omega)
        exact ⟨y, by simpa using h1, by rw [h2]; push_cast; omega⟩
    · omega
theorem run_end {s : Int} {l : List It} {x : It} (hx : l[run s l]? = some x) : x.q ≠ s + run s l := by
  induction l generalizing s with
  | nil => simp at hx
  | cons y l ih =>
    unfold run at hx ⊢
    split at hx
    · rename_i hq
      rw [if_pos hq]
      have := ih (s := s + 1) (by simpa using hx)
      push_cast
      omega
    · rename_i hq
      rw [if_neg hq]
      simp only [List.getElem?_cons_zero, Option.some.injEq] at hx
      subst hx
      simpa using hq
/-- So far all wait one behind the other: is there one more? -/
theorem run_more {s : Int} {l : List It} {j : Nat} (hj : j ≤ run s l) : j < run s l ↔ ∃ x, l[j]? = some x ∧ x.q = s + j := by
  constructor
  · exact run_at
  · rintro ⟨x, h1, h2⟩
    rcases Nat.lt_or_ge j (run s l) with h | h
    · exact h
    · obtain rfl : j = run s l := by omega
      exact absurd h2 (run_end h1)
theorem rises_get {s : Int} {l : List It} (h : rises s l = true) {i : Nat} {x : It} (hx : l[i]? = some x) : s + i ≤ x.q := by
  induction l generalizing s i with
  | nil => simp at hx
  | cons y l ih =>
    obtain ⟨h1, h2⟩ := rises_cons.1 h
    cases i with
    | zero => simp only [List.getElem?_cons_zero, Option.some.injEq] at hx; subst hx; simpa using h1
    | succ i =>
      have := ih h2 (i := i) (by simpa using hx)
      push_cast
      omega
/-- Behind those the next one that waits is above. -/
theorem run_above {s : Int} {l : List It} (h : rises s l = true) {x : It} (hx : l[run s l]? = some x) : s + run s l < x.q := by
  have h1 := rises_get h hx
  have h2 := run_end hx
  omega
theorem waits_run {s : Int} {l : List It} {n : Int} (h1 : s ≤ n) (h2 : n < s + run s l) : waits l n = true := by
  obtain ⟨x, hx, hq⟩ := run_at (s := s) (l := l) (i := (n - s).toNat) (by omega)
  exact waits_iff.2 ⟨x, List.mem_of_getElem? hx, by rw [hq]; omega⟩
theorem waits_free {s : Int} {l : List It} (h : rises s l = true) {n : Int} (h1 : s + run s l ≤ n) (h2 : ∀ x, l[run s l]? = some x → n < x.q) : waits l n = false := by
  induction l generalizing s with
  | nil => rfl
  | cons y l ih =>
    obtain ⟨r1, r2⟩ := rises_cons.1 h
    unfold run at h1 h2
    split at h1
    · rename_i hq
      rw [if_pos hq] at h2
      have e := ih (s := s + 1) (by rw [← hq]; exact r2) (by push_cast at h1; omega) (fun x hx => h2 x (by simpa using hx))
      rw [waits_not] at e ⊢
      intro z hz
      rcases List.mem_cons.1 hz with rfl | hz
      · have : (0 : Int) ≤ (run (s + 1) l : Int) := by omega
        push_cast at h1
        omega
      · exact e z hz
    · rename_i hq
      rw [if_neg hq] at h2
      have := h2 y rfl
      rw [waits_not]
      intro z hz
      rcases List.mem_cons.1 hz with rfl | hz
      · omega
      · have := rises_low r2 z hz; omega

/-- A top above Far counts as Far. -/
def topOf (top : Int) : Int := if 4611686018427387904 < top then 4611686018427387904 else top
theorem topOf_le (top : Int) : topOf top ≤ 4611686018427387904 ∧ topOf top ≤ top := by unfold topOf; split <;> omega
/-- The first number that is missing, and the last one of those. -/
def fst (k : Kp) : Int := k.next + run k.next k.l
def lst (k : Kp) (top : Int) : Int := match k.l[run k.next k.l]? with | some x => if x.q - 1 < topOf top then x.q - 1 else topOf top | none => topOf top
def many (k : Kp) (top : Int) : Int := if lst k top - fst k + 1 < 64 then lst k top - fst k + 1 else 64
def gap (k : Kp) (top : Int) : Int × Int := if lst k top < fst k then (0, 0) else (fst k, many k top)
theorem lst_le (k : Kp) (top : Int) : lst k top ≤ topOf top := by
  unfold lst
  split
  · split <;> omega
  · exact Int.le_refl _
theorem fst_free {k : Kp} (h : rises k.next k.l = true) : waits k.l (fst k) = false := waits_free h (Int.le_refl _) fun x hx => run_above h hx
theorem free_to {k : Kp} (h : rises k.next k.l = true) {top n : Int} (h1 : fst k ≤ n) (h2 : n ≤ lst k top) : waits k.l n = false := by
  refine waits_free h h1 fun x hx => ?_
  unfold lst at h2
  rw [hx] at h2
  simp only at h2
  split at h2 <;> omega
theorem free_end {k : Kp} {top : Int} (h : lst k top < topOf top) : waits k.l (lst k top + 1) = true := by
  unfold lst at h ⊢
  cases hx : k.l[run k.next k.l]? with
  | none => rw [hx] at h; simp only at h; omega
  | some x =>
    rw [hx] at h
    simp only at h ⊢
    split at h
    · rename_i h1
      rw [if_pos h1]
      exact waits_iff.2 ⟨x, List.mem_of_getElem? hx, by omega⟩
    · omega
theorem lst_far {k : Kp} (h : rises k.next k.l = true) (top : Int) : lst k top < fst k ↔ topOf top < fst k := by
  constructor
  · intro h1
    unfold lst at h1
    cases hx : k.l[run k.next k.l]? with
    | none => rw [hx] at h1; exact h1
    | some x =>
      rw [hx] at h1
      have := run_above h hx
      unfold fst at h1 ⊢
      simp only at h1
      split at h1 <;> omega
  · intro h1
    have := lst_le k top
    omega
/-- The document's way of counting: one more, as long as that. -/
theorem many_more {k : Kp} (h : rises k.next k.l = true) {top : Int} (hf : fst k ≤ lst k top) {n : Nat} (hn : (n : Int) ≤ many k top) :
    (n : Int) < many k top ↔ ((n : Int) < 64 ∧ fst k + n ≤ topOf top ∧ waits k.l (fst k + n) = false) := by
  have hl := lst_le k top
  unfold many at hn ⊢
  constructor
  · intro h1
    have h2 : fst k + n ≤ lst k top := by split at h1 <;> omega
    exact ⟨by split at h1 <;> omega, by omega, free_to h (by omega) h2⟩
  · rintro ⟨h1, h2, h3⟩
    split at hn
    · rename_i hs
      rw [if_pos hs]
      rcases Int.lt_or_le (n : Int) (lst k top - fst k + 1) with h4 | h4
      · exact h4
      · have e : fst k + n = lst k top + 1 := by omega
        rw [e] at h2 h3
        rw [free_end (by omega)] at h3
        cases h3
    · rename_i hs
      rw [if_neg hs]
      exact h1
theorem many_pos {k : Kp} {top : Int} (hf : fst k ≤ lst k top) : 1 ≤ many k top ∧ many k top ≤ 64 := by
  unfold many; split <;> omega
theorem fst_low {k : Kp} (h : right k = true) : 1 ≤ fst k ∧ fst k ≤ 4611686018427387969 := by
  obtain ⟨⟨h1, h2, h3⟩, _, _⟩ := right_iff.1 h
  have := run_le k.next k.l
  unfold fst
  omega
/-- What a gap tells. -/
theorem gap_none {k : Kp} {top : Int} (h : lst k top < fst k) : gap k top = (0, 0) := if_pos h
theorem gap_some {k : Kp} {top : Int} (h : fst k ≤ lst k top) : gap k top = (fst k, many k top) := if_neg (by omega)

/-- Laying an item in its place by looking for the first one above it. -/
theorem at_above {t : Int} {l : List It} {s : Int} (hw : waits l s = false) : at_ l s = l.findIdx fun y => decide (s < y.q) := by
  unfold at_
  induction l with
  | nil => rfl
  | cons y l ih =>
    have hy := waits_not.1 hw y List.mem_cons_self
    rw [List.findIdx_cons, List.findIdx_cons, ih (waits_not.2 fun z hz => waits_not.1 hw z (List.mem_cons_of_mem _ hz))]
    rw [show decide (s ≤ y.q) = decide (s < y.q) from by rw [decide_eq_decide]; omega]
end Go.Proofs.Ytkkkfaelpmmffaa.Win
