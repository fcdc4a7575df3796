/- The moving sequencer in lists: what a walk does next, and what it comes to. No program is named here. -/
import Derived.Test.YtdchgnmkeefffaaBM
set_option maxRecDepth 100000
namespace Go.Proofs.Ytdchgnmkeefffaa.Seqr
open Go.Proofs.Ytdchgnmkeefffaa.Item (It)
open Go.Proofs.Ytdchgnmkeefffaa (Pt none_ addOf nextP fits AddR)
open Go.Proofs.Ytdchgnmkeefffaa.Lane
set_option linter.unusedVariables false

/-- Whose turn it is, and how much of it is used. -/
structure Tn where
  (who : Nat)
  (used : Int)
  deriving DecidableEq
/-- What is delivered. -/
structure Dv where
  (src : Int)
  (b : List UInt8)
  deriving DecidableEq
def laneAt (ls : List Ln) (i : Nat) : Ln := (ls[i]?).getD Ln.zero
/-- An order with such senders left. -/
def order (e : En) (r : List Int) : En := ⟨2, e.q, [], r, e.h⟩
def next (t : Tn) (n : Nat) : Tn := ⟨if t.who + 1 = n then 0 else t.who + 1, 0⟩
/-- What a walk does next: nothing; or it comes to such a turn and lanes, and delivers something or nothing. -/
def step (t : Tn) (ls : List Ln) : Option (Tn × List Ln × Option Dv) :=
  match control (laneAt ls t.who) with
  | none => none
  | some e =>
    match e.l with
    | [] => some (if e.h = true then next t ls.length else t, ls.set t.who (pop (laneAt ls t.who) e.q), none)
    | s :: r =>
      if s < (ls.length : Int) then
        match message (laneAt ls s.toNat) with
        | none => none
        | some m => some (⟨t.who, t.used + 1⟩, (ls.set s.toNat (pop (laneAt ls s.toNat) m.q)).set t.who (Lane.set (laneAt (ls.set s.toNat (pop (laneAt ls s.toNat) m.q)) t.who) (order e r)), some ⟨s, m.b⟩)
      else some (t, ls.set t.who (Lane.set (laneAt ls t.who) (order e r)), none)
section
variable {t : Tn} {ls : List Ln}
theorem step_none (h : control (laneAt ls t.who) = none) : step t ls = none := by unfold step; rw [h]
theorem step_pop {e : En} (h : control (laneAt ls t.who) = some e) (hl : e.l = []) : step t ls = some (if e.h = true then next t ls.length else t, ls.set t.who (pop (laneAt ls t.who) e.q), none) := by
  unfold step; rw [h]; simp only [hl]
theorem step_skip {e : En} {s : Int} {r : List Int} (h : control (laneAt ls t.who) = some e) (hl : e.l = s :: r) (hs : ¬ s < (ls.length : Int)) : step t ls = some (t, ls.set t.who (Lane.set (laneAt ls t.who) (order e r)), none) := by
  unfold step; rw [h]; simp only [hl]; rw [if_neg hs]
theorem step_stop {e : En} {s : Int} {r : List Int} (h : control (laneAt ls t.who) = some e) (hl : e.l = s :: r) (hs : s < (ls.length : Int)) (hm : message (laneAt ls s.toNat) = none) : step t ls = none := by
  unfold step; rw [h]; simp only [hl]; rw [if_pos hs, hm]
theorem step_tell {e : En} {s : Int} {r : List Int} {m : En} (h : control (laneAt ls t.who) = some e) (hl : e.l = s :: r) (hs : s < (ls.length : Int)) (hm : message (laneAt ls s.toNat) = some m) :
    step t ls = some (⟨t.who, t.used + 1⟩, (ls.set s.toNat (pop (laneAt ls s.toNat) m.q)).set t.who (Lane.set (laneAt (ls.set s.toNat (pop (laneAt ls s.toNat) m.q)) t.who) (order e r)), some ⟨s, m.b⟩) := by
  unfold step; rw [h]; simp only [hl]; rw [if_pos hs, hm]
theorem step_cases (t : Tn) (ls : List Ln) :
    control (laneAt ls t.who) = none ∨ (∃ e, control (laneAt ls t.who) = some e ∧ e.l = []) ∨
    (∃ e s r, control (laneAt ls t.who) = some e ∧ e.l = s :: r ∧ ¬ s < (ls.length : Int)) ∨
    (∃ e s r, control (laneAt ls t.who) = some e ∧ e.l = s :: r ∧ s < (ls.length : Int) ∧ message (laneAt ls s.toNat) = none) ∨
    (∃ e s r m, control (laneAt ls t.who) = some e ∧ e.l = s :: r ∧ s < (ls.length : Int) ∧ message (laneAt ls s.toNat) = some m) := by
  cases h : control (laneAt ls t.who) with
  | none => exact .inl rfl
  | some e =>
    right
    cases hl : e.l with
    | nil => exact .inl ⟨e, rfl, hl⟩
    | cons s r =>
      by_cases hs : s < (ls.length : Int)
      · cases hm : message (laneAt ls s.toNat) with
        | none => exact .inr (.inr (.inl ⟨e, s, r, rfl, hl, hs, hm⟩))
        | some m => exact .inr (.inr (.inr ⟨e, s, r, m, rfl, hl, hs, hm⟩))
      · exact .inr (.inl ⟨e, s, r, rfl, hl, hs⟩)
end
/-- Lanes are right, and the turn is a member's. -/
def Ok (t : Tn) (ls : List Ln) : Prop := t.who < ls.length ∧ ∀ l ∈ ls, right l = true
theorem right_zero : right Ln.zero = true := rfl
theorem laneAt_of {ls : List Ln} {i : Nat} {l : Ln} (h : ls[i]? = some l) : laneAt ls i = l := by unfold laneAt; rw [h]; rfl
theorem laneAt_some {ls : List Ln} {i : Nat} (h : i < ls.length) : ls[i]? = some (laneAt ls i) := by
  unfold laneAt; rw [List.getElem?_eq_getElem h]; rfl
theorem laneAt_mem {ls : List Ln} {i : Nat} (h : i < ls.length) : laneAt ls i ∈ ls := List.mem_of_getElem? (laneAt_some h)
theorem laneAt_out {ls : List Ln} {i : Nat} (h : ¬ i < ls.length) : laneAt ls i = Ln.zero := by
  unfold laneAt; rw [List.getElem?_eq_none (by omega)]; rfl
theorem laneAt_set (ls : List Ln) (i j : Nat) (x : Ln) : laneAt (ls.set i x) j = if i = j ∧ i < ls.length then x else laneAt ls j := by
  unfold laneAt
  rw [List.getElem?_set]
  by_cases hij : i = j
  · subst hij
    by_cases hi : i < ls.length
    · rw [if_pos rfl, if_pos hi, if_pos ⟨rfl, hi⟩]; rfl
    · rw [if_pos rfl, if_neg hi, if_neg (fun h => hi h.2), List.getElem?_eq_none (by omega)]
  · rw [if_neg hij, if_neg (fun h => hij h.1)]
theorem laneAt_same {ls : List Ln} {i : Nat} (h : i < ls.length) (x : Ln) : laneAt (ls.set i x) i = x := by rw [laneAt_set, if_pos ⟨rfl, h⟩]
theorem laneAt_other {ls : List Ln} {i j : Nat} (h : i ≠ j) (x : Ln) : laneAt (ls.set i x) j = laneAt ls j := by rw [laneAt_set, if_neg (fun e => h e.1)]
theorem lanes_ext {a b : List Ln} (h : a.length = b.length) (hj : ∀ j, j < a.length → laneAt a j = laneAt b j) : a = b := by
  apply List.ext_getElem? 
  intro j
  by_cases hl : j < a.length
  · rw [laneAt_some hl, laneAt_some (by omega), hj j hl]
  · rw [List.getElem?_eq_none (by omega), List.getElem?_eq_none (by omega)]
section
variable {t : Tn} {ls : List Ln}
theorem Ok.at_ (h : Ok t ls) (i : Nat) : right (laneAt ls i) = true := by
  by_cases hi : i < ls.length
  · exact h.2 _ (laneAt_mem hi)
  · rw [laneAt_out hi]; rfl
theorem Ok.set (h : Ok t ls) (i : Nat) {x : Ln} (hx : right x = true) (t' : Tn) (ht : t'.who < ls.length) : Ok t' (ls.set i x) := by
  refine ⟨by rw [List.length_set]; exact ht, fun l hl => ?_⟩
  rcases List.mem_or_eq_of_mem_set hl with h1 | rfl
  · exact h.2 l h1
  · exact hx
theorem control_mem {l : Ln} {e : En} (h : control l = some e) : e ∈ l.es ∧ isMsg e = false := by
  unfold Lane.control at h
  exact ⟨List.mem_of_find?_eq_some h, by simpa using List.find?_some h⟩
theorem message_mem {l : Ln} {e : En} (h : message l = some e) : e ∈ l.es ∧ isMsg e = true := by
  unfold message at h
  exact ⟨List.mem_of_find?_eq_some h, by simpa using List.find?_some h⟩
/-- What an order with senders is like. -/
theorem order_kind {e : En} {s : Int} {r : List Int} (hm : may e = true) (hl : e.l = s :: r) : e.k = 2 ∧ e.b = [] ∧ 1 ≤ e.q ∧ 0 ≤ s ∧ s ≤ 63 ∧ may (order e r) = true ∧ e = ⟨2, e.q, [], s :: r, e.h⟩ := by
  obtain ⟨h1, h2, h3⟩ := may_iff.1 hm
  rw [hl] at h2
  unfold senders at h2
  rw [List.all_cons, Bool.and_eq_true] at h2
  obtain ⟨h4, h5⟩ := h2
  simp only [Bool.and_eq_true, decide_eq_true_eq] at h4
  have hk : e.k = 2 := by
    rcases may_kind hm with k | k | k
    · unfold kind at h3; rw [if_pos k] at h3; simp [hl] at h3
    · exact k
    · unfold kind at h3; rw [if_neg (by omega), if_neg (by omega), if_pos k] at h3; simp [hl] at h3
  have hb : e.b = [] := by
    unfold kind at h3
    rw [if_neg (by omega), if_pos hk] at h3
    exact List.eq_nil_of_length_eq_zero (by simpa using h3)
  refine ⟨hk, hb, h1, h4.1, h4.2, may_iff.2 ⟨h1, h5, rfl⟩, ?_⟩
  obtain ⟨k, q, b, l, hh⟩ := e
  simp only at hk hb hl
  subst hk hb hl
  rfl
theorem token_kind {e : En} (hm : may e = true) (hk : e.k = 3) : e.l = [] ∧ e.h = false := by
  obtain ⟨h1, h2, h3⟩ := may_iff.1 hm
  unfold kind at h3
  rw [if_neg (by omega), if_neg (by omega), if_pos hk] at h3
  simp only [Bool.and_eq_true, decide_eq_true_eq, Bool.not_eq_true'] at h3
  exact ⟨List.eq_nil_of_length_eq_zero h3.2.1, h3.2.2⟩
theorem Ok.may (h : Ok t ls) {i : Nat} {e : En} (he : e ∈ (laneAt ls i).es) : Lane.may e = true := (rises_mem (right_iff.1 (h.at_ i)).1 he).1
theorem next_who (t : Tn) {n : Nat} (h : t.who < n) : (next t n).who < n := by
  unfold next
  split
  · show 0 < n; omega
  · show t.who + 1 < n; omega
theorem step_ok {t1 : Tn} {ls1 : List Ln} {o : Option Dv} (h : Ok t ls) (hs : step t ls = some (t1, ls1, o)) : Ok t1 ls1 ∧ ls1.length = ls.length := by
  rcases step_cases t ls with h1 | ⟨e, h1, h2⟩ | ⟨e, s, r, h1, h2, h3⟩ | ⟨e, s, r, h1, h2, h3, h4⟩ | ⟨e, s, r, m, h1, h2, h3, h4⟩
  · rw [step_none h1] at hs; cases hs
  · rw [step_pop h1 h2] at hs
    injection hs with hs
    injection hs with e1 e2
    injection e2 with e2 e3
    subst e1 e2
    refine ⟨h.set _ (right_pop (h.at_ _) _) _ ?_, by rw [List.length_set]⟩
    split
    · exact next_who t h.1
    · exact h.1
  · rw [step_skip h1 h2 h3] at hs
    injection hs with hs
    injection hs with e1 e2
    injection e2 with e2 e3
    subst e1 e2
    exact ⟨h.set _ (right_set (h.at_ _) _) _ h.1, by rw [List.length_set]⟩
  · rw [step_stop h1 h2 h3 h4] at hs; cases hs
  · rw [step_tell h1 h2 h3 h4] at hs
    injection hs with hs
    injection hs with e1 e2
    injection e2 with e2 e3
    subst e1 e2
    have hp : Ok t (ls.set s.toNat (pop (laneAt ls s.toNat) m.q)) := h.set _ (right_pop (h.at_ _) _) _ h.1
    exact ⟨hp.set _ (right_set (hp.at_ _) _) _ (by rw [List.length_set]; exact h.1), by rw [List.length_set, List.length_set]⟩
end
/-- How much is in a lane. -/
def size (l : Ln) : Nat := l.es.length + (l.es.map fun e => e.l.length).sum
def mu (ls : List Ln) : Nat := (ls.map size).sum
theorem sum_filter_le (es : List En) (f : En → Bool) : ((es.filter f).map fun e => e.l.length).sum ≤ (es.map fun e => e.l.length).sum := by
  induction es with
  | nil => exact Nat.le_refl _
  | cons x es ih =>
    rw [List.filter_cons]
    split
    · simp only [List.map_cons, List.sum_cons]; omega
    · simp only [List.map_cons, List.sum_cons]; omega
theorem filter_lt {es : List En} {f : En → Bool} {e : En} (he : e ∈ es) (hf : f e = false) : (es.filter f).length < es.length := by
  induction es with
  | nil => cases he
  | cons x es ih =>
    rw [List.filter_cons]
    have hle : (es.filter f).length ≤ es.length := List.length_filter_le _ _
    rcases List.mem_cons.1 he with rfl | h1
    · rw [if_neg (by simp [hf]), List.length_cons]; omega
    · have := ih h1
      split
      · simp only [List.length_cons]; omega
      · simp only [List.length_cons]; omega
theorem size_pop_le (l : Ln) (q : Int) : size (pop l q) ≤ size l := by
  unfold size pop
  have h1 := sum_filter_le l.es fun e => decide (e.q ≠ q)
  have h2 : (l.es.filter fun e => decide (e.q ≠ q)).length ≤ l.es.length := List.length_filter_le _ _
  exact Nat.add_le_add h2 h1
theorem size_pop {l : Ln} {e : En} (he : e ∈ l.es) : size (pop l e.q) < size l := by
  unfold size pop
  have h1 := sum_filter_le l.es fun x => decide (x.q ≠ e.q)
  have h2 : (l.es.filter fun x => decide (x.q ≠ e.q)).length < l.es.length := filter_lt he (by simp)
  exact Nat.add_lt_add_of_lt_of_le h2 h1
theorem sum_put_le {es : List En} {e : En} (h : ∀ x ∈ es, x.q = e.q → e.l.length ≤ x.l.length) : ((es.map (put e)).map fun e => e.l.length).sum ≤ (es.map fun e => e.l.length).sum := by
  induction es with
  | nil => exact Nat.le_refl _
  | cons x es ih =>
    have h1 := ih fun y hy => h y (List.mem_cons_of_mem _ hy)
    have h2 : (put e x).l.length ≤ x.l.length := by
      unfold put
      split
      · rename_i hq; exact h x List.mem_cons_self hq
      · exact Nat.le_refl _
    simp only [List.map_cons, List.sum_cons]
    omega
theorem sum_put_lt {es : List En} {e y : En} (h : ∀ x ∈ es, x.q = e.q → e.l.length ≤ x.l.length) (hy : y ∈ es) (hq : y.q = e.q) (hl : e.l.length < y.l.length) : ((es.map (put e)).map fun e => e.l.length).sum < (es.map fun e => e.l.length).sum := by
  induction es with
  | nil => cases hy
  | cons x es ih =>
    simp only [List.map_cons, List.sum_cons]
    have h0 := sum_put_le fun z hz => h z (List.mem_cons_of_mem _ hz)
    rcases List.mem_cons.1 hy with rfl | hy
    · have : (put e y).l.length < y.l.length := by unfold put; rw [if_pos hq]; exact hl
      omega
    · have h1 := ih (fun z hz => h z (List.mem_cons_of_mem _ hz)) hy
      have h2 : (put e x).l.length ≤ x.l.length := by
        unfold put
        split
        · rename_i hq; exact h x List.mem_cons_self hq
        · exact Nat.le_refl _
      omega
theorem size_set_le {l : Ln} {e : En} (h : ∀ x ∈ l.es, x.q = e.q → e.l.length ≤ x.l.length) : size (Lane.set l e) ≤ size l := by
  unfold Lane.set
  split
  · unfold size
    show (l.es.map (put e)).length + ((l.es.map (put e)).map fun e => e.l.length).sum ≤ _
    rw [List.length_map]
    have := sum_put_le h
    omega
  · exact Nat.le_refl _
theorem size_set_lt {l : Ln} {e y : En} (hm : may e = true) (h : ∀ x ∈ l.es, x.q = e.q → e.l.length ≤ x.l.length) (hy : y ∈ l.es) (hq : y.q = e.q) (hl : e.l.length < y.l.length) : size (Lane.set l e) < size l := by
  unfold Lane.set
  rw [if_pos hm]
  unfold size
  show (l.es.map (put e)).length + ((l.es.map (put e)).map fun e => e.l.length).sum < _
  rw [List.length_map]
  have := sum_put_lt h hy hq hl
  omega
theorem mu_set_le {ls : List Ln} {i : Nat} {x : Ln} (hi : i < ls.length) (h : size x ≤ size (laneAt ls i)) : mu (ls.set i x) ≤ mu ls := by
  induction ls generalizing i with
  | nil => simp at hi
  | cons l ls ih =>
    unfold mu
    cases i with
    | zero =>
      have h : size x ≤ size l := h
      simp only [List.set_cons_zero, List.map_cons, List.sum_cons]; omega
    | succ i =>
      have h : size x ≤ size (laneAt ls i) := h
      have := ih (by simpa using hi) h
      unfold mu at this
      simp only [List.set_cons_succ, List.map_cons, List.sum_cons]; omega
theorem mu_set_lt {ls : List Ln} {i : Nat} {x : Ln} (hi : i < ls.length) (h : size x < size (laneAt ls i)) : mu (ls.set i x) < mu ls := by
  induction ls generalizing i with
  | nil => simp at hi
  | cons l ls ih =>
    unfold mu
    cases i with
    | zero =>
      have h : size x < size l := h
      simp only [List.set_cons_zero, List.map_cons, List.sum_cons]; omega
    | succ i =>
      have h : size x < size (laneAt ls i) := h
      have := ih (by simpa using hi) h
      unfold mu at this
      simp only [List.set_cons_succ, List.map_cons, List.sum_cons]; omega
theorem pop_mem {l : Ln} {q : Int} {x : En} (h : x ∈ (pop l q).es) : x ∈ l.es ∧ x.q ≠ q := by
  obtain ⟨h1, h2⟩ := List.mem_filter.1 h
  exact ⟨h1, by simpa using h2⟩
section
variable {t t1 : Tn} {ls ls1 : List Ln} {o : Option Dv}
theorem sender_lt {s : Int} {n : Nat} (h0 : 0 ≤ s) (h : s < (n : Int)) : s.toNat < n := by omega
theorem step_mu (h : Ok t ls) (hs : step t ls = some (t1, ls1, o)) : mu ls1 < mu ls := by
  rcases step_cases t ls with h1 | ⟨e, h1, h2⟩ | ⟨e, s, r, h1, h2, h3⟩ | ⟨e, s, r, h1, h2, h3, h4⟩ | ⟨e, s, r, m, h1, h2, h3, h4⟩
  · rw [step_none h1] at hs; cases hs
  · rw [step_pop h1 h2] at hs
    injection hs with hs
    injection hs with e1 e2
    injection e2 with e2 e3
    subst e2
    exact mu_set_lt h.1 (size_pop (control_mem h1).1)
  · rw [step_skip h1 h2 h3] at hs
    injection hs with hs
    injection hs with e1 e2
    injection e2 with e2 e3
    subst e2
    have he := (control_mem h1).1
    obtain ⟨k1, k2, k3, k4, k5, k6, k7⟩ := order_kind (h.may he) h2
    have hr := (right_iff.1 (h.at_ t.who)).1
    exact mu_set_lt h.1 (size_set_lt k6 (fun x hx hq => by rw [rises_inj hr hx he hq, h2]; simp [order]) he rfl (by rw [h2]; simp [order]))
  · rw [step_stop h1 h2 h3 h4] at hs; cases hs
  · rw [step_tell h1 h2 h3 h4] at hs
    injection hs with hs
    injection hs with e1 e2
    injection e2 with e2 e3
    subst e2
    have he := (control_mem h1).1
    obtain ⟨k1, k2, k3, k4, k5, k6, k7⟩ := order_kind (h.may he) h2
    have hr := (right_iff.1 (h.at_ t.who)).1
    have hsl : s.toNat < ls.length := sender_lt k4 h3
    have hlt : mu (ls.set s.toNat (pop (laneAt ls s.toNat) m.q)) < mu ls := mu_set_lt hsl (size_pop (message_mem h4).1)
    refine Nat.lt_of_le_of_lt (mu_set_le (by rw [List.length_set]; exact h.1) (size_set_le fun x hx hq => ?_)) hlt
    have hx2 : x ∈ (laneAt ls t.who).es := by
      rw [laneAt_set] at hx
      split at hx
      · rename_i hc; rw [hc.1] at hx; exact (pop_mem hx).1
      · exact hx
    rw [rises_inj hr hx2 he hq, h2]
    simp [order]
end
/-- Some steps of a walk. -/
inductive Goes : Tn → List Ln → List Dv → Tn → List Ln → Prop
  | refl (t : Tn) (ls : List Ln) : Goes t ls [] t ls
  | more {t : Tn} {ls : List Ln} {t1 : Tn} {ls1 : List Ln} {o : Option Dv} {d : List Dv} {t2 : Tn} {ls2 : List Ln} : step t ls = some (t1, ls1, o) → Goes t1 ls1 d t2 ls2 → Goes t ls (o.toList ++ d) t2 ls2
theorem Goes.trans {t t1 t2 : Tn} {ls ls1 ls2 : List Ln} {d e : List Dv} (h : Goes t ls d t1 ls1) (h2 : Goes t1 ls1 e t2 ls2) : Goes t ls (d ++ e) t2 ls2 := by
  induction h with
  | refl => exact h2
  | more hs _ ih => rw [List.append_assoc]; exact .more hs (ih h2)
theorem Goes.one {t t1 : Tn} {ls ls1 : List Ln} {o : Option Dv} (h : step t ls = some (t1, ls1, o)) : Goes t ls o.toList t1 ls1 := by
  have := Goes.more h (.refl t1 ls1)
  rwa [List.append_nil] at this
theorem Goes.ok {t t1 : Tn} {ls ls1 : List Ln} {d : List Dv} (h : Goes t ls d t1 ls1) (ho : Ok t ls) : Ok t1 ls1 ∧ ls1.length = ls.length := by
  induction h with
  | refl => exact ⟨ho, rfl⟩
  | more hs _ ih =>
    obtain ⟨h1, h2⟩ := step_ok ho hs
    obtain ⟨h3, h4⟩ := ih h1
    exact ⟨h3, h4.trans h2⟩
theorem Goes.mu {t t1 : Tn} {ls ls1 : List Ln} {d : List Dv} (h : Goes t ls d t1 ls1) (ho : Ok t ls) : mu ls1 + d.length ≤ mu ls := by
  induction h with
  | refl => exact Nat.le_refl _
  | @more t ls t1 ls1 o d t2 ls2 hs _ ih =>
    have h1 := step_mu ho hs
    have h2 := ih (step_ok ho hs).1
    have h3 : o.toList.length ≤ 1 := by cases o <;> simp
    rw [List.length_append]
    omega
/-- A walk's end is one. -/
theorem Goes.same {t t1 t2 : Tn} {ls ls1 ls2 : List Ln} {d e : List Dv} (h : Goes t ls d t1 ls1) (h1 : step t1 ls1 = none) (h2 : Goes t ls e t2 ls2) (h3 : step t2 ls2 = none) : t2 = t1 ∧ ls2 = ls1 ∧ e = d := by
  induction h generalizing e with
  | refl =>
    cases h2 with
    | refl => exact ⟨rfl, rfl, rfl⟩
    | more hs _ => rw [h1] at hs; cases hs
  | more hs _ ih =>
    cases h2 with
    | refl => rw [h3] at hs; cases hs
    | more hs2 h4 =>
      rw [hs] at hs2
      injection hs2 with hs2
      injection hs2 with e1 e2
      injection e2 with e2 e3
      subst e1 e2 e3
      obtain ⟨a, b, c⟩ := ih h1 h4
      exact ⟨a, b, by rw [c]⟩
theorem step_used {t t1 : Tn} {ls ls1 : List Ln} {o : Option Dv} (h : Ok t ls) (hu : 0 ≤ t.used) (hs : step t ls = some (t1, ls1, o)) : 0 ≤ t1.used ∧ t1.used ≤ t.used + o.toList.length := by
  rcases step_cases t ls with h1 | ⟨e, h1, h2⟩ | ⟨e, s, r, h1, h2, h3⟩ | ⟨e, s, r, h1, h2, h3, h4⟩ | ⟨e, s, r, m, h1, h2, h3, h4⟩
  · rw [step_none h1] at hs; cases hs
  · rw [step_pop h1 h2] at hs
    injection hs with hs; injection hs with e1 e2; injection e2 with e2 e3
    subst e1 e3
    split
    · exact ⟨Int.le_refl _, by show (0 : Int) ≤ t.used + ((0 : Nat) : Int); omega⟩
    · exact ⟨hu, by show t.used ≤ t.used + ((0 : Nat) : Int); omega⟩
  · rw [step_skip h1 h2 h3] at hs
    injection hs with hs; injection hs with e1 e2; injection e2 with e2 e3
    subst e1 e3
    exact ⟨hu, by show t.used ≤ t.used + ((0 : Nat) : Int); omega⟩
  · rw [step_stop h1 h2 h3 h4] at hs; cases hs
  · rw [step_tell h1 h2 h3 h4] at hs
    injection hs with hs; injection hs with e1 e2; injection e2 with e2 e3
    subst e1 e3
    exact ⟨by show 0 ≤ t.used + 1; omega, by show t.used + 1 ≤ t.used + ((1 : Nat) : Int); omega⟩
/-- How much is used stays within what was, and what there is to deliver. -/
theorem Goes.used {t t1 : Tn} {ls ls1 : List Ln} {d : List Dv} (h : Goes t ls d t1 ls1) (ho : Ok t ls) (hu : 0 ≤ t.used) : 0 ≤ t1.used ∧ t1.used + Seqr.mu ls1 ≤ t.used + Seqr.mu ls := by
  induction h with
  | refl => exact ⟨hu, Int.le_refl _⟩
  | @more t ls t1 ls1 o d t2 ls2 hs _ ih =>
    obtain ⟨a, b⟩ := step_used ho hu hs
    obtain ⟨c, e⟩ := ih (step_ok ho hs).1 a
    have h1 := step_mu ho hs
    have h3 : o.toList.length ≤ 1 := by cases o <;> simp
    exact ⟨c, by omega⟩
def run : Nat → Tn → List Ln → Tn × List Ln × List Dv
  | 0, t, ls => (t, ls, [])
  | n + 1, t, ls => match step t ls with
    | none => (t, ls, [])
    | some (t1, ls1, o) => ((run n t1 ls1).1, (run n t1 ls1).2.1, o.toList ++ (run n t1 ls1).2.2)
/-- The walk. -/
def walk (t : Tn) (ls : List Ln) : Tn × List Ln × List Dv := run (mu ls) t ls
theorem run_goes (n : Nat) (t : Tn) (ls : List Ln) : Goes t ls (run n t ls).2.2 (run n t ls).1 (run n t ls).2.1 := by
  induction n generalizing t ls with
  | zero => exact .refl _ _
  | succ n ih =>
    unfold run
    split
    · exact .refl _ _
    · rename_i h; exact .more h (ih _ _)
theorem run_end {n : Nat} {t : Tn} {ls : List Ln} (h : Ok t ls) (hn : mu ls ≤ n) : step (run n t ls).1 (run n t ls).2.1 = none := by
  induction n generalizing t ls with
  | zero =>
    show step t ls = none
    cases hs : step t ls with
    | none => rfl
    | some x =>
      obtain ⟨t1, ls1, o⟩ := x
      have := step_mu h hs
      omega
  | succ n ih =>
    unfold run
    split
    · rename_i h; exact h
    · rename_i hs
      have := step_mu h hs
      exact ih (step_ok h hs).1 (by omega)
theorem walk_goes (t : Tn) (ls : List Ln) : Goes t ls (walk t ls).2.2 (walk t ls).1 (walk t ls).2.1 := run_goes _ _ _
theorem walk_end {t : Tn} {ls : List Ln} (h : Ok t ls) : step (walk t ls).1 (walk t ls).2.1 = none := run_end h (Nat.le_refl _)
theorem walk_is {t t1 : Tn} {ls ls1 : List Ln} {d : List Dv} (h : Ok t ls) (hg : Goes t ls d t1 ls1) (he : step t1 ls1 = none) : walk t ls = (t1, ls1, d) := by
  obtain ⟨a, b, c⟩ := hg.same he (walk_goes t ls) (walk_end h)
  rw [← a, ← b, ← c]
end Go.Proofs.Ytdchgnmkeefffaa.Seqr
