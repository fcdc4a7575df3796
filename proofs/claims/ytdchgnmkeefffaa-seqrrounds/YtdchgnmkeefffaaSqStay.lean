/- What a walk leaves of each member's messages, and that it leaves lanes few. No program is named here. -/
import Derived.Test.YtdchgnmkeefffaaSqMath
set_option maxRecDepth 100000
namespace Go.Proofs.Ytdchgnmkeefffaa.Seqr
open Go.Proofs.Ytdchgnmkeefffaa.Lane
set_option linter.unusedVariables false

/-- The messages of a lane. -/
def msgs (l : Ln) : List En := l.es.filter isMsg
theorem message_head (l : Ln) : message l = (msgs l).head? := by unfold message msgs; rw [List.head?_filter]
theorem msgs_pop {l : Ln} {q : Int} (h : ∀ x ∈ l.es, x.q = q → isMsg x = false) : msgs (pop l q) = msgs l := by
  unfold msgs pop
  show (l.es.filter _).filter isMsg = _
  rw [List.filter_filter]
  apply List.filter_congr
  intro x hx
  cases hm : isMsg x with
  | false => simp
  | true =>
    have : ¬ x.q = q := fun e => by rw [h x hx e] at hm; cases hm
    simp [this]
theorem msgs_told {l : Ln} {m : En} (h : right l = true) (hm : message l = some m) : msgs l = m :: msgs (pop l m.q) := by
  rw [message_head] at hm
  have hr : rises 0 (msgs l) = true := rises_filter (right_iff.1 h).1 isMsg
  have e : msgs (pop l m.q) = (msgs l).filter fun e => decide (e.q ≠ m.q) := by
    unfold msgs pop
    show (l.es.filter _).filter isMsg = _
    rw [List.filter_filter, List.filter_filter]
    apply List.filter_congr
    intro x _
    exact Bool.and_comm _ _
  rw [e]
  cases hl : msgs l with
  | nil => rw [hl] at hm; cases hm
  | cons x r =>
    rw [hl] at hm hr
    injection hm with hm
    subst hm
    rw [List.filter_cons, if_neg (by simp)]
    congr 1
    symm
    rw [List.filter_eq_self]
    intro y hy
    have := (rises_mem (rises_cons.1 hr).2.2 hy).2.1
    simp; omega
theorem msgs_set {l : Ln} {e : En} (h : ∀ x ∈ l.es, x.q = e.q → isMsg x = false) (he : isMsg e = false) : msgs (Lane.set l e) = msgs l := by
  unfold Lane.set
  split
  · unfold msgs
    show (l.es.map (put e)).filter isMsg = _
    generalize l.es = es at h
    induction es with
    | nil => rfl
    | cons x es ih =>
      have h1 := ih fun y hy => h y (List.mem_cons_of_mem _ hy)
      rw [List.map_cons, List.filter_cons, List.filter_cons, h1]
      unfold put
      split
      · rename_i hq
        rw [he, h x List.mem_cons_self hq]; rfl
      · rfl
  · rfl
/-- What is delivered of a member. -/
def delsOf (i : Nat) (d : List Dv) : List Dv := d.filter fun x => decide (x.src = (i : Int))
theorem delsOf_append (i : Nat) (d e : List Dv) : delsOf i (d ++ e) = delsOf i d ++ delsOf i e := List.filter_append ..
section
variable {t t1 : Tn} {ls ls1 : List Ln} {o : Option Dv}
theorem step_msgs (h : Ok t ls) (hs : step t ls = some (t1, ls1, o)) (i : Nat) : (msgs (laneAt ls i)).map (·.b) = (delsOf i o.toList).map (·.b) ++ (msgs (laneAt ls1 i)).map (·.b) := by
  rcases step_cases t ls with h1 | ⟨e, h1, h2⟩ | ⟨e, s, r, h1, h2, h3⟩ | ⟨e, s, r, h1, h2, h3, h4⟩ | ⟨e, s, r, m, h1, h2, h3, h4⟩
  · rw [step_none h1] at hs; cases hs
  · rw [step_pop h1 h2] at hs
    injection hs with hs
    injection hs with e1 e2
    injection e2 with e2 e3
    subst e2 e3
    obtain ⟨he, hk⟩ := control_mem h1
    have hr := (right_iff.1 (h.at_ t.who)).1
    show _ = [] ++ _
    rw [List.nil_append, laneAt_set]
    split
    · rename_i hc
      rw [← hc.1, msgs_pop fun x hx hq => by rw [rises_inj hr hx he hq]; exact hk]
    · rfl
  · rw [step_skip h1 h2 h3] at hs
    injection hs with hs
    injection hs with e1 e2
    injection e2 with e2 e3
    subst e2 e3
    obtain ⟨he, hk⟩ := control_mem h1
    have hr := (right_iff.1 (h.at_ t.who)).1
    show _ = [] ++ _
    rw [List.nil_append, laneAt_set]
    split
    · rename_i hc
      rw [← hc.1, msgs_set (fun x hx hq => by rw [rises_inj hr hx he hq]; exact hk) rfl]
    · rfl
  · rw [step_stop h1 h2 h3 h4] at hs; cases hs
  · rw [step_tell h1 h2 h3 h4] at hs
    injection hs with hs
    injection hs with e1 e2
    injection e2 with e2 e3
    subst e2 e3
    obtain ⟨he, hk⟩ := control_mem h1
    have hr := (right_iff.1 (h.at_ t.who)).1
    obtain ⟨k1, k2, k3, k4, k5, k6, k7⟩ := order_kind (h.may he) h2
    have hsl : s.toNat < ls.length := sender_lt k4 h3
    have hin : ∀ x ∈ (laneAt (ls.set s.toNat (pop (laneAt ls s.toNat) m.q)) t.who).es, x.q = (order e r).q → isMsg x = false := fun x hx hq => by
      have hx2 : x ∈ (laneAt ls t.who).es := by
        rw [laneAt_set] at hx
        split at hx
        · rename_i hc; rw [hc.1] at hx; exact (pop_mem hx).1
        · exact hx
      rw [rises_inj hr hx2 he hq]; exact hk
    have hA : msgs (laneAt ((ls.set s.toNat (pop (laneAt ls s.toNat) m.q)).set t.who (Lane.set (laneAt (ls.set s.toNat (pop (laneAt ls s.toNat) m.q)) t.who) (order e r))) i) = msgs (laneAt (ls.set s.toNat (pop (laneAt ls s.toNat) m.q)) i) := by
      rw [laneAt_set]
      split
      · rename_i hc; rw [msgs_set hin rfl, hc.1]
      · rfl
    rw [hA, laneAt_set]
    by_cases hi : s.toNat = i
    · subst hi
      rw [if_pos ⟨rfl, hsl⟩, msgs_told (h.at_ _) h4]
      have : delsOf s.toNat (Option.toList (some (⟨s, m.b⟩ : Dv))) = [⟨s, m.b⟩] := by
        show List.filter _ [_] = _
        rw [List.filter_cons, if_pos (by simp; omega)]; rfl
      rw [this]
      rfl
    · rw [if_neg (fun e => hi e.1)]
      have : delsOf i (Option.toList (some (⟨s, m.b⟩ : Dv))) = [] := by
        show List.filter _ [_] = _
        rw [List.filter_cons, if_neg (by simp; omega)]; rfl
      rw [this]
      rfl
theorem Goes.msgs {d : List Dv} (h : Goes t ls d t1 ls1) (ho : Ok t ls) (i : Nat) : (Seqr.msgs (laneAt ls i)).map (·.b) = (delsOf i d).map (·.b) ++ (Seqr.msgs (laneAt ls1 i)).map (·.b) := by
  induction h with
  | refl => rfl
  | more hs _ ih =>
    rw [step_msgs ho hs i, ih (step_ok ho hs).1, delsOf_append, List.map_append, List.append_assoc]
theorem Goes.many {d : List Dv} (h : Goes t ls d t1 ls1) (ho : Ok t ls) (i : Nat) : Lane.many (laneAt ls i) = (delsOf i d).length + Lane.many (laneAt ls1 i) := by
  have := congrArg List.length (h.msgs ho i)
  simpa [Lane.many, Seqr.msgs] using this
theorem step_src (h : Ok t ls) (hs : step t ls = some (t1, ls1, o)) : ∀ x ∈ o.toList, 0 ≤ x.src ∧ x.src < (ls.length : Int) := by
  rcases step_cases t ls with h1 | ⟨e, h1, h2⟩ | ⟨e, s, r, h1, h2, h3⟩ | ⟨e, s, r, h1, h2, h3, h4⟩ | ⟨e, s, r, m, h1, h2, h3, h4⟩
  · rw [step_none h1] at hs; cases hs
  · rw [step_pop h1 h2] at hs
    injection hs with hs
    injection hs with e1 e2
    injection e2 with e2 e3
    subst e3
    intro x hx; cases hx
  · rw [step_skip h1 h2 h3] at hs
    injection hs with hs
    injection hs with e1 e2
    injection e2 with e2 e3
    subst e3
    intro x hx; cases hx
  · rw [step_stop h1 h2 h3 h4] at hs; cases hs
  · rw [step_tell h1 h2 h3 h4] at hs
    injection hs with hs
    injection hs with e1 e2
    injection e2 with e2 e3
    subst e3
    obtain ⟨he, hk⟩ := control_mem h1
    obtain ⟨k1, k2, k3, k4, k5, k6, k7⟩ := order_kind (h.may he) h2
    intro x hx
    obtain rfl : x = ⟨s, m.b⟩ := by simpa using hx
    exact ⟨k4, h3⟩
theorem Goes.src {d : List Dv} (h : Goes t ls d t1 ls1) (ho : Ok t ls) : ∀ x ∈ d, 0 ≤ x.src ∧ x.src < (ls.length : Int) := by
  induction h with
  | refl => intro x hx; cases hx
  | more hs _ ih =>
    intro x hx
    rcases List.mem_append.1 hx with h1 | h1
    · exact step_src ho hs x h1
    · have h2 := ih (step_ok ho hs).1 x h1
      rwa [(step_ok ho hs).2] at h2
end
/-- The message that is the k-th delivered of a member is the k-th of its lane. -/
theorem told_at {l : Ln} {bs : List (List UInt8)} {d : List Dv} {i j k : Nat} {x : En} {y : Dv} (h : (msgs l).map (·.b) = (delsOf i d).map (·.b) ++ bs) (hx : l.es[k]? = some x) (hm : isMsg x = true)
    (hc : ((l.es.take k).filter isMsg).length = (delsOf i (d.take j)).length) (hy : d[j]? = some y) (hs : y.src = (i : Int)) : x.b = y.b := by
  have h1 := filter_at isMsg l.es k x hx hm
  have h2 := filter_at (fun z : Dv => decide (z.src = (i : Int))) d j y hy (by simpa using hs)
  have h3 : ((msgs l).map (·.b))[(delsOf i (d.take j)).length]? = some x.b := by
    rw [List.getElem?_map, ← hc]
    show ((l.es.filter isMsg)[((l.es.take k).filter isMsg).length]?).map _ = _
    rw [h1]; rfl
  have hlt : (delsOf i (d.take j)).length < ((delsOf i d).map (·.b)).length := by
    rw [List.length_map]
    exact (List.getElem?_eq_some_iff.1 h2).1
  rw [h, List.getElem?_append_left hlt, List.getElem?_map] at h3
  have h2' : (delsOf i d)[(delsOf i (d.take j)).length]? = some y := h2
  rw [h2'] at h3
  injection h3 with h3
  exact h3.symm
theorem told_more {l : Ln} {bs : List (List UInt8)} {d : List Dv} {i j : Nat} {y : Dv} (h : (msgs l).map (·.b) = (delsOf i d).map (·.b) ++ bs) (hy : d[j]? = some y) (hs : y.src = (i : Int)) : (delsOf i (d.take j)).length < (l.es.filter isMsg).length := by
  have h2 := filter_at (fun z : Dv => decide (z.src = (i : Int))) d j y hy (by simpa using hs)
  have hlt : (delsOf i (d.take j)).length < (delsOf i d).length := (List.getElem?_eq_some_iff.1 h2).1
  have := congrArg List.length h
  rw [List.length_map, List.length_append, List.length_map] at this
  have e : (msgs l).length = (l.es.filter isMsg).length := rfl
  omega
theorem delsOf_succ {d : List Dv} {i j : Nat} {y : Dv} (hy : d[j]? = some y) : (delsOf i (d.take (j + 1))).length = (delsOf i (d.take j)).length + (if y.src = (i : Int) then 1 else 0) := by
  have := filter_step (fun z : Dv => decide (z.src = (i : Int))) d j y hy
  simp only [decide_eq_true_eq] at this
  exact this
theorem delsOf_all {d : List Dv} {i n : Nat} (h : d.length = n) : delsOf i (d.take n) = delsOf i d := by rw [List.take_of_length_le (by omega)]
end Go.Proofs.Ytdchgnmkeefffaa.Seqr
