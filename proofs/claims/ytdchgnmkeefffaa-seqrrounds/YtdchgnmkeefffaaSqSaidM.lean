/- An order walked to its end. No program is named here. -/
import Derived.Test.YtdchgnmkeefffaaSqStay
import Derived.Test.YtdchgnmkeefffaaSqSay2
import Derived.Test.YtdchgnmkeefffaaSqReadM
set_option maxRecDepth 100000
namespace Go.Proofs.Ytdchgnmkeefffaa.Seqr
open Go.Proofs.Ytdchgnmkeefffaa.Item (It)
open Go.Proofs.Ytdchgnmkeefffaa.Lane
set_option linter.unusedVariables false

/-- The orders and tokens of a lane. -/
def ctls (l : Ln) : List En := l.es.filter fun e => !isMsg e
theorem control_head (l : Ln) : Lane.control l = (ctls l).head? := by unfold Lane.control ctls; rw [List.head?_filter]
theorem ctls_pop_msg {l : Ln} {m : En} (h : right l = true) (hm : m ∈ l.es) (hk : isMsg m = true) : ctls (pop l m.q) = ctls l := by
  unfold ctls pop
  show (l.es.filter _).filter _ = _
  rw [List.filter_filter]
  apply List.filter_congr
  intro x hx
  by_cases hq : x.q = m.q
  · rw [rises_inj (right_iff.1 h).1 hx hm hq, hk]; simp
  · simp [hq]
theorem ctls_pop_one {l : Ln} {e : En} (hc : ctls l = [e]) : ctls (pop l e.q) = [] := by
  unfold ctls
  rw [List.filter_eq_nil_iff]
  intro x hx hm
  obtain ⟨h1, h2⟩ := pop_mem hx
  have h3 : x ∈ ctls l := List.mem_filter.2 ⟨h1, hm⟩
  rw [hc] at h3
  rw [List.mem_singleton] at h3
  exact h2 (by rw [h3])
theorem ctls_set_one {l : Ln} {e e' : En} (h : right l = true) (hc : ctls l = [e]) (hq : e'.q = e.q) (hk : isMsg e' = false) (hm : may e' = true) : ctls (Lane.set l e') = [e'] := by
  have hin : e ∈ ctls l := by rw [hc]; exact List.mem_singleton.2 rfl
  obtain ⟨he, hek⟩ := List.mem_filter.1 hin
  unfold Lane.set
  rw [if_pos hm]
  unfold ctls
  show (l.es.map (put e')).filter _ = _
  rw [List.filter_map]
  have e1 : l.es.filter ((fun e => !isMsg e) ∘ put e') = ctls l := by
    unfold ctls
    apply List.filter_congr
    intro x hx
    simp only [Function.comp]
    unfold put
    split
    · rename_i hxq
      rw [rises_inj (right_iff.1 h).1 hx he (by omega), hk]
      have : isMsg e = false := by simpa using hek
      rw [this]
    · rfl
  rw [e1, hc]
  simp [put, hq]
theorem ctls_mem {l : Ln} {e : En} (hc : ctls l = [e]) : e ∈ l.es ∧ isMsg e = false ∧ Lane.control l = some e := by
  have hin : e ∈ ctls l := by rw [hc]; exact List.mem_singleton.2 rfl
  obtain ⟨he, hek⟩ := List.mem_filter.1 hin
  exact ⟨he, by simpa using hek, by rw [control_head, hc]; rfl⟩
theorem message_of {l : Ln} (h : 0 < many l) : ∃ m, message l = some m := by
  rw [message_head]
  cases hm : msgs l with
  | nil => unfold many at h; unfold msgs at hm; rw [hm] at h; cases h
  | cons x r => exact ⟨x, rfl⟩
def cntOf (L : List Int) (i : Nat) : Nat := (L.filter fun x => decide (x = (i : Int))).length
theorem cntOf_cons (s : Int) (r : List Int) (i : Nat) : cntOf (s :: r) i = (if s = (i : Int) then 1 else 0) + cntOf r i := by
  unfold cntOf
  rw [List.filter_cons]
  by_cases h : s = (i : Int)
  · rw [if_pos (by simpa using h), if_pos h, List.length_cons]; omega
  · rw [if_neg (by simpa using h), if_neg h]; omega
/-- An order whose senders all have messages is walked to its end. -/
theorem order_goes : ∀ (L : List Int) {t : Tn} {ls : List Ln} {e : En}, Ok t ls → ctls (laneAt ls t.who) = [e] → e.l = L → (∀ s ∈ L, s < (ls.length : Int)) → (∀ i, cntOf L i ≤ many (laneAt ls i)) →
    ∃ d ls1 e1, Goes t ls d ⟨t.who, t.used + L.length⟩ ls1 ∧ d.map (·.src) = L ∧ ctls (laneAt ls1 t.who) = [e1] ∧ e1.l = [] ∧ e1.h = e.h
  | [], t, ls, e, ho, hc, hl, _, _ => ⟨[], ls, e, by simpa using Goes.refl t ls, rfl, hc, hl, rfl⟩
  | s :: r, t, ls, e, ho, hc, hl, hs, hn => by
    obtain ⟨he, hek, hcon⟩ := ctls_mem hc
    obtain ⟨k1, k2, k3, k4, k5, k6, k7⟩ := order_kind (ho.may he) hl
    have hsl := hs s List.mem_cons_self
    have hpos : 0 < many (laneAt ls s.toNat) := by
      have h1 := hn s.toNat
      rw [cntOf_cons, if_pos (by omega)] at h1
      omega
    obtain ⟨m, hm⟩ := message_of hpos
    have hst := step_tell hcon hl hsl hm
    obtain ⟨ho1, hl1⟩ := step_ok ho hst
    have hmsg := step_msgs ho hst
    have hrw : right (laneAt (ls.set s.toNat (pop (laneAt ls s.toNat) m.q)) t.who) = true ∧ ctls (laneAt (ls.set s.toNat (pop (laneAt ls s.toNat) m.q)) t.who) = [e] := by
      rw [laneAt_set]
      split
      · rename_i hc2
        rw [hc2.1]
        exact ⟨right_pop (ho.at_ _) _, by rw [ctls_pop_msg (ho.at_ _) (by rw [← hc2.1]; exact (message_mem hm).1) (message_mem hm).2]; exact hc⟩
      · exact ⟨ho.at_ _, hc⟩
    have hc1 : ctls (laneAt ((ls.set s.toNat (pop (laneAt ls s.toNat) m.q)).set t.who (Lane.set (laneAt (ls.set s.toNat (pop (laneAt ls s.toNat) m.q)) t.who) (order e r))) t.who) = [order e r] := by
      rw [laneAt_same (by rw [List.length_set]; exact ho.1)]
      exact ctls_set_one hrw.1 hrw.2 rfl rfl k6
    obtain ⟨d, ls2, e2, hg, hd, hc2, hl2, hh2⟩ := order_goes r ho1 hc1 rfl (fun x hx => by rw [hl1]; exact hs x (List.mem_cons_of_mem _ hx)) (fun i => by
      have h1 := hn i
      have h2 := congrArg List.length (hmsg i)
      rw [List.length_append, List.length_map, List.length_map, List.length_map] at h2
      have e1 : ∀ l, (msgs l).length = many l := fun _ => rfl
      rw [e1, e1] at h2
      rw [cntOf_cons] at h1
      by_cases hsi : s = (i : Int)
      · rw [if_pos hsi] at h1
        have e2 : (delsOf i (Option.toList (some (⟨s, m.b⟩ : Dv)))).length = 1 := by
          show (List.filter _ [_]).length = _
          rw [List.filter_cons, if_pos (by simpa using hsi)]; rfl
        omega
      · rw [if_neg hsi] at h1
        have e2 : (delsOf i (Option.toList (some (⟨s, m.b⟩ : Dv)))).length = 0 := by
          show (List.filter _ [_]).length = _
          rw [List.filter_cons, if_neg (by simpa using hsi)]; rfl
        omega)
    refine ⟨⟨s, m.b⟩ :: d, ls2, e2, ?_, by rw [List.map_cons, hd], hc2, hl2, hh2⟩
    have h3 := Goes.more hst hg
    have e3 : t.used + ((s :: r).length : Int) = t.used + 1 + (r.length : Int) := by rw [List.length_cons]; omega
    rw [e3]
    exact h3
theorem step_len {t t1 : Tn} {ls ls1 : List Ln} {o : Option Dv} (hs : step t ls = some (t1, ls1, o)) (i : Nat) : (laneAt ls1 i).es.length ≤ (laneAt ls i).es.length := by
  have hset : ∀ (l : Ln) (e : En), (Lane.set l e).es.length = l.es.length := fun l e => by
    unfold Lane.set
    split
    · show (l.es.map _).length = _; rw [List.length_map]
    · rfl
  have hpop : ∀ (l : Ln) (q : Int), (pop l q).es.length ≤ l.es.length := fun l q => List.length_filter_le _ _
  rcases step_cases t ls with h1 | ⟨e, h1, h2⟩ | ⟨e, s, r, h1, h2, h3⟩ | ⟨e, s, r, h1, h2, h3, h4⟩ | ⟨e, s, r, m, h1, h2, h3, h4⟩
  · rw [step_none h1] at hs; cases hs
  · rw [step_pop h1 h2] at hs
    injection hs with hs; injection hs with e1 e2; injection e2 with e2 e3
    subst e2
    rw [laneAt_set]
    split
    · rename_i hc; rw [hc.1]; exact hpop _ _
    · exact Nat.le_refl _
  · rw [step_skip h1 h2 h3] at hs
    injection hs with hs; injection hs with e1 e2; injection e2 with e2 e3
    subst e2
    rw [laneAt_set]
    split
    · rename_i hc; rw [hc.1, hset]; exact Nat.le_refl _
    · exact Nat.le_refl _
  · rw [step_stop h1 h2 h3 h4] at hs; cases hs
  · rw [step_tell h1 h2 h3 h4] at hs
    injection hs with hs; injection hs with e1 e2; injection e2 with e2 e3
    subst e2
    have hp : ∀ j, (laneAt (ls.set s.toNat (pop (laneAt ls s.toNat) m.q)) j).es.length ≤ (laneAt ls j).es.length := fun j => by
      rw [laneAt_set]
      split
      · rename_i hc; rw [hc.1]; exact hpop _ _
      · exact Nat.le_refl _
    rw [laneAt_set]
    split
    · rename_i hc; rw [hc.1, hset]; exact hp _
    · exact hp _
theorem Goes.len {t t1 : Tn} {ls ls1 : List Ln} {d : List Dv} (h : Goes t ls d t1 ls1) (i : Nat) : (laneAt ls1 i).es.length ≤ (laneAt ls i).es.length := by
  induction h with
  | refl => exact Nat.le_refl _
  | more hs _ ih => exact Nat.le_trans ih (step_len hs i)
/-- What a walk comes to where an order is the only one. -/
theorem order_walk {t : Tn} {ls : List Ln} {e : En} (ho : Ok t ls) (hc : ctls (laneAt ls t.who) = [e]) (hs : ∀ s ∈ e.l, s < (ls.length : Int)) (hn : ∀ i, cntOf e.l i ≤ many (laneAt ls i)) :
    ∃ b m d d2, walk t ls = (b, m, d ++ d2) ∧ d.map (·.src) = e.l ∧ (e.h = false → d2 = [] ∧ b = ⟨t.who, t.used + e.l.length⟩) ∧ (laneAt m t.who).es.length < (laneAt ls t.who).es.length ∧ m.length = ls.length := by
  obtain ⟨d, ls1, e1, hg, hd, hc1, hl1, hh1⟩ := order_goes e.l ho hc rfl hs hn
  obtain ⟨ho1, hln1⟩ := hg.ok ho
  obtain ⟨he1, _, hcon1⟩ := ctls_mem hc1
  have hst := step_pop (t := ⟨t.who, t.used + e.l.length⟩) (ls := ls1) hcon1 hl1
  have hw : t.who < ls1.length := ho1.1
  obtain ⟨ho2, hln2⟩ := step_ok ho1 hst
  have hg2 := hg.trans (Goes.one hst)
  rw [show Option.toList (none : Option Dv) = [] from rfl, List.append_nil] at hg2
  have hlt : (laneAt (ls1.set t.who (pop (laneAt ls1 t.who) e1.q)) t.who).es.length < (laneAt ls t.who).es.length := by
    rw [laneAt_same hw]
    exact Nat.lt_of_lt_of_le (filter_lt he1 (by simp)) (hg.len t.who)
  cases hh : e.h with
  | false =>
    rw [hh1, hh, if_neg (by simp)] at hst hg2
    have hend : step ⟨t.who, t.used + e.l.length⟩ (ls1.set t.who (pop (laneAt ls1 t.who) e1.q)) = none := step_none (by
      show Lane.control (laneAt _ t.who) = none
      rw [laneAt_same hw, control_head, ctls_pop_one hc1]; rfl)
    exact ⟨_, _, d, [], by rw [walk_is ho hg2 hend, List.append_nil], hd, fun _ => ⟨rfl, rfl⟩, hlt, by rw [List.length_set]; exact hln1⟩
  | true =>
    have hg3 := hg2.trans (walk_goes _ _)
    refine ⟨_, _, d, _, walk_is ho hg3 (walk_end ho2), hd, (fun h => by cases h), ?_, ?_⟩
    · exact Nat.lt_of_le_of_lt ((walk_goes _ _).len t.who) hlt
    · rw [((walk_goes _ _).ok ho2).2, hln2]; exact hln1
/-- Whom an order names, each at most as often as its messages wait. -/
theorem cntOf_append (a b : List Int) (i : Nat) : cntOf (a ++ b) i = cntOf a i + cntOf b i := by unfold cntOf; rw [List.filter_append, List.length_append]
theorem cntOf_rep (k : Nat) (x : Int) (i : Nat) : cntOf (List.replicate k x) i = if x = (i : Int) then k else 0 := by
  unfold cntOf
  by_cases h : x = (i : Int)
  · rw [if_pos h, List.filter_eq_self.2 (fun y hy => by rw [(List.mem_replicate.1 hy).2]; simpa using h), List.length_replicate]
  · rw [if_neg h, List.filter_eq_nil_iff.2 (fun y hy => by rw [(List.mem_replicate.1 hy).2]; simpa using h)]; rfl
theorem mod_inj {me n j k : Nat} (hme : me < n) (hj : j < n) (hk : k < n) (h : (me + j) % n = (me + k) % n) : j = k := by
  have h1 := rnd_at hme hj
  rw [h, rnd_at hme hk] at h1
  omega
theorem cntOf_saysOf {ls : List Ln} {n me : Nat} (hme : me < n) (i : Nat) : ∀ k, k ≤ n → cntOf (saysOf ls n me k) i ≤ (if ∃ j, j < k ∧ (me + j) % n = i then many (laneAt ls i) else 0)
  | 0, _ => by rw [saysOf_zero]; exact Nat.zero_le _
  | k + 1, hk => by
    have ih := cntOf_saysOf (ls := ls) hme i k (by omega)
    rw [saysOf_succ, cntOf_append, cntOf_rep]
    by_cases h : (me + k) % n = i
    · rw [if_pos (by rw [h]), if_pos ⟨k, by omega, h⟩, h]
      rw [if_neg (fun ⟨j, hj, hji⟩ => by have := mod_inj hme (by omega) (by omega) (hji.trans h.symm); omega)] at ih
      omega
    · rw [if_neg (by omega)]
      refine Nat.le_trans (by omega : _ ≤ cntOf (saysOf ls n me k) i) (Nat.le_trans ih ?_)
      by_cases h2 : ∃ j, j < k ∧ (me + j) % n = i
      · rw [if_pos h2, if_pos (by obtain ⟨j, hj, hji⟩ := h2; exact ⟨j, by omega, hji⟩)]; exact Nat.le_refl _
      · rw [if_neg h2]; exact Nat.zero_le _
theorem cntOf_take (L : List Int) (k i : Nat) : cntOf (L.take k) i ≤ cntOf L i := List.Sublist.length_le ((List.take_sublist k L).filter _)
theorem cntOf_said {ls : List Ln} {me : Nat} (hme : me < ls.length) (most : Int) (i : Nat) : cntOf (saidL ls me most) i ≤ many (laneAt ls i) := by
  refine Nat.le_trans (cntOf_take _ _ _) (Nat.le_trans (cntOf_saysOf hme i ls.length (Nat.le_refl _)) ?_)
  split
  · exact Nat.le_refl _
  · exact Nat.zero_le _
/-- An order of what waits, read and walked. -/
theorem said_walk {t : Tn} {ls : List Ln} {it : It} {most : Int} (ho : Ok t ls) (hc : Lane.control (laneAt ls t.who) = none) (hk : it.k = 2) (hq : last (laneAt ls t.who) < it.q) (hg : ¬ 0 < (laneAt ls t.who).p.got) (hm : Item.may it = true) (hL : it.l = saidL ls t.who most) :
    ∃ b m d d2, walk t (readAll ls [((t.who : Int), it)]) = (b, m, d ++ d2) ∧ d.map (·.src) = it.l ∧ (it.i ≠ 1 → d2 = [] ∧ b = ⟨t.who, t.used + it.l.length⟩) ∧ (laneAt m t.who).es.length < (laneAt (readAll ls [((t.who : Int), it)]) t.who).es.length ∧ m.length = ls.length ∧ Ok t (readAll ls [((t.who : Int), it)]) := by
  have hx : readAll ls [((t.who : Int), it)] = ls.set t.who ⟨(laneAt ls t.who).es ++ [⟨2, it.q, [], it.l, decide (it.i = 1)⟩], (laneAt ls t.who).p⟩ := by
    show readOne ls ((t.who : Int), it) = _
    unfold readOne
    simp only [Int.toNat_natCast]
    rw [read_order (.inl hk) (by omega) hg, hk, if_pos rfl]
    simp
  have hr : right (read (laneAt ls t.who) it).1 = true := right_read (ho.at_ _) hm
  have hox : Ok t (readAll ls [((t.who : Int), it)]) := by
    show Ok t (readOne ls ((t.who : Int), it))
    unfold readOne
    simp only [Int.toNat_natCast]
    exact ho.set _ hr t ho.1
  have hat : laneAt (readAll ls [((t.who : Int), it)]) t.who = ⟨(laneAt ls t.who).es ++ [⟨2, it.q, [], it.l, decide (it.i = 1)⟩], (laneAt ls t.who).p⟩ := by rw [hx, laneAt_same ho.1]
  have hct : ctls (laneAt (readAll ls [((t.who : Int), it)]) t.who) = [⟨2, it.q, [], it.l, decide (it.i = 1)⟩] := by
    rw [hat]
    unfold ctls
    show List.filter _ (List.append _ _) = _
    rw [List.append_eq, List.filter_append]
    have e1 : (laneAt ls t.who).es.filter (fun e => !isMsg e) = [] := by
      have h1 := hc
      unfold Lane.control at h1
      rw [List.find?_eq_none] at h1
      rw [List.filter_eq_nil_iff]
      exact h1
    rw [e1]
    rfl
  have hmany : ∀ i, many (laneAt (readAll ls [((t.who : Int), it)]) i) = many (laneAt ls i) := fun i => by
    rw [hx, laneAt_set]
    split
    · rename_i hc2
      rw [← hc2.1]
      unfold many
      show (List.filter _ (List.append _ _)).length = _
      rw [List.append_eq, List.filter_append, List.length_append]
      rfl
    · rfl
  have hlen : (readAll ls [((t.who : Int), it)]).length = ls.length := readAll_length _ _
  obtain ⟨b, m, d, d2, h1, h2, h3, h4, h5⟩ := order_walk hox hct (fun s hs => by
    rw [hlen]
    have hs' : s ∈ saidL ls t.who most := by rw [← hL]; exact hs
    exact (saidL_mem ho.1 hs').2) (fun i => by
    rw [hmany]
    show cntOf it.l i ≤ _
    rw [hL]
    exact cntOf_said ho.1 most i)
  exact ⟨b, m, d, d2, h1, h2, fun hi => h3 (by simpa using hi), h4, h5.trans hlen, hox⟩
end Go.Proofs.Ytdchgnmkeefffaa.Seqr
