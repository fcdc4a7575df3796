/- What is read while a walk stands still, and what is read ahead of it. No program is named here. -/
import Derived.Test.YtdchgnmkeefffaaSqReadM
set_option maxRecDepth 100000
namespace Go.Proofs.Ytdchgnmkeefffaa.Seqr
open Go.Proofs.Ytdchgnmkeefffaa.Item (It)
open Go.Proofs.Ytdchgnmkeefffaa (Pt none_ addOf nextP fits AddR)
open Go.Proofs.Ytdchgnmkeefffaa.Lane
set_option linter.unusedVariables false

theorem top_le {es : List En} {B : Int} (h : ∀ x ∈ es, x.q ≤ B) : ∀ lo, lo ≤ B → top lo es ≤ B := by
  induction es with
  | nil => intro lo h; exact h
  | cons x es ih => intro lo _; exact ih (fun y hy => h y (List.mem_cons_of_mem _ hy)) _ (h x List.mem_cons_self)
theorem may_sizes {it : It} (h : Item.may it = true) : (it.k = 1 → it.b.length ≤ 1024) ∧ (it.k = 2 → it.l.length ≤ 64) := by
  simp only [Item.may, Bool.and_eq_true] at h
  have h3 := h.2.2
  refine ⟨fun hk => ?_, fun hk => ?_⟩
  · unfold Item.ask at h3
    rw [if_pos hk] at h3
    simp only [Item.ask1, Item.body, Bool.and_eq_true, decide_eq_true_eq] at h3
    have := h3.2.2.2.2
    omega
  · unfold Item.ask at h3
    rw [if_neg (by omega), if_pos hk] at h3
    simp only [Item.askN, Item.list, Bool.and_eq_true] at h3
    have := (Item.win_iff.1 h3.2.2.2.1.1).2
    omega
/-- What an item that is read lays behind a lane's entries, and what is under way then: by what was under way alone. -/
theorem read_tells (p : Pt) (it : It) (hm : Item.may it = true) : ∃ (ex : List En) (p' : Pt), (∀ l : Ln, l.p = p → last l < it.q → (read l it).1 = ⟨l.es ++ ex, p'⟩) ∧ (∀ x ∈ ex, x.q = it.q ∨ (0 < p.got ∧ x.q = p.seq)) ∧
    (0 < p'.got → p'.seq = it.q ∨ (p.got ≠ 0 ∧ p'.seq = p.seq)) ∧ ex.length ≤ 1 ∧ (∀ x ∈ ex, x.l.length ≤ 64 ∧ x.b.length ≤ p.b.length + 1024) ∧ p'.b.length ≤ p.b.length + 1024 := by
  obtain ⟨hs1, hs2⟩ := may_sizes hm
  have hno : (∀ l : Ln, l.p = p → last l < it.q → (read l it).1 = l) → ∃ (ex : List En) (p' : Pt), (∀ l : Ln, l.p = p → last l < it.q → (read l it).1 = ⟨l.es ++ ex, p'⟩) ∧ (∀ x ∈ ex, x.q = it.q ∨ (0 < p.got ∧ x.q = p.seq)) ∧
    (0 < p'.got → p'.seq = it.q ∨ (p.got ≠ 0 ∧ p'.seq = p.seq)) ∧ ex.length ≤ 1 ∧ (∀ x ∈ ex, x.l.length ≤ 64 ∧ x.b.length ≤ p.b.length + 1024) ∧ p'.b.length ≤ p.b.length + 1024 := fun h =>
    ⟨[], p, fun l hl hq => by rw [h l hl hq, List.append_nil, ← hl], (fun x hx => by cases hx), fun hg => .inr ⟨by omega, rfl⟩, Nat.zero_le _, (fun x hx => by cases hx), by omega⟩
  by_cases h1 : it.k < 1 ∨ 3 < it.k
  · exact hno fun l _ _ => by rw [read_kind h1]
  by_cases hk : it.k = 1
  · have hb := hs1 hk
    have hnb : (nextP p it.q it.t it.b).b.length ≤ p.b.length + 1024 := by
      unfold nextP
      split
      · show it.b.length ≤ _; omega
      · show (p.b ++ it.b).length ≤ _; rw [List.length_append]; omega
    rcases add_cases p it.q it.i it.t it.b with ⟨_, e⟩ | ⟨hf, hg, e⟩ | ⟨hf, hg, e⟩
    · exact hno fun l hl hq => by rw [read_bad hk (by omega) (by rw [hl, e]; show (2 : Int) ≠ 0; decide)]
    · refine ⟨[⟨1, if 0 < p.got then p.seq else it.q, (nextP p it.q it.t it.b).b, [], false⟩], none_, fun l hl hq => ?_, fun x hx => ?_, fun hg => ?_, Nat.le_refl _, fun x hx => ?_, ?_⟩
      · rw [read_whole hk (by omega) (by rw [hl]; exact e), hl]
      · rw [List.mem_singleton.1 hx]
        show (if 0 < p.got then p.seq else it.q) = it.q ∨ (0 < p.got ∧ (if 0 < p.got then p.seq else it.q) = p.seq)
        split
        · rename_i h; exact .inr ⟨h, rfl⟩
        · exact .inl rfl
      · exact absurd hg (by show ¬ (0 : Int) < 0; omega)
      · rw [List.mem_singleton.1 hx]; exact ⟨Nat.zero_le _, hnb⟩
      · show ([] : List UInt8).length ≤ _; exact Nat.zero_le _
    · refine ⟨[], nextP p it.q it.t it.b, fun l hl hq => ?_, (fun x hx => by cases hx), fun _ => ?_, Nat.zero_le _, (fun x hx => by cases hx), hnb⟩
      · rw [read_part hk (by omega) (by rw [hl]; exact e), List.append_nil]
      · unfold nextP
        split
        · exact .inl rfl
        · rename_i h; exact .inr ⟨h, rfl⟩
  · have hk2 : it.k = 2 ∨ it.k = 3 := by omega
    by_cases hp : 0 < p.got
    · exact hno fun l hl hq => by rw [read_under hk2 (by omega) (by rw [hl]; exact hp)]
    · refine ⟨[⟨it.k, it.q, [], if it.k = 2 then it.l else [], decide (it.k = 2) && decide (it.i = 1)⟩], p, fun l hl hq => ?_, fun x hx => ?_, fun hg => absurd hg hp, Nat.le_refl _, fun x hx => ?_, by omega⟩
      · rw [read_order hk2 (by omega) (by rw [hl]; exact hp), hl]
      · rw [List.mem_singleton.1 hx]; exact .inl rfl
      · rw [List.mem_singleton.1 hx]
        refine ⟨?_, Nat.zero_le _⟩
        show (if it.k = 2 then it.l else []).length ≤ 64
        split
        · rename_i h; exact hs2 h
        · exact Nat.zero_le _
theorem last_read {l : Ln} {it : It} (h : right l = true) (hm : Item.may it = true) (hq : last l < it.q) : last (read l it).1 ≤ it.q := by
  obtain ⟨ex, p', h1, h2, h3, _⟩ := read_tells l.p it hm
  rw [h1 l rfl hq]
  have hseq : 0 < l.p.got → l.p.seq < it.q := fun hg => by unfold last at hq; rw [if_pos hg] at hq; exact hq
  have hlt := last_top h
  unfold last
  split
  · rename_i hg
    rcases h3 hg with h4 | ⟨h4, h5⟩
    · exact Int.le_of_eq h4
    · have h5 : p'.seq = l.p.seq := h5
      have h6 := part_nonneg (right_iff.1 h).2
      have := hseq (by omega)
      show p'.seq ≤ it.q
      omega
  · show top 0 (l.es ++ ex) ≤ it.q
    rw [top_append]
    refine top_le (fun x hx => ?_) _ (by omega)
    rcases h2 x hx with h4 | ⟨h4, h5⟩
    · omega
    · have := hseq h4; omega
/-- Lanes with such entries behind one's, and such a message under way. -/
def E (ls : List Ln) (i : Nat) (ex : List En) (p' : Pt) : List Ln := ls.set i ⟨(laneAt ls i).es ++ ex, p'⟩
section
variable {t t1 : Tn} {ls ls1 : List Ln} {o : Option Dv} {i : Nat} {ex : List En} {p' : Pt}
theorem E_length : (E ls i ex p').length = ls.length := List.length_set ..
theorem laneAt_E (hi : i < ls.length) (j : Nat) : laneAt (E ls i ex p') j = if i = j then ⟨(laneAt ls i).es ++ ex, p'⟩ else laneAt ls j := by
  unfold E
  rw [laneAt_set]
  by_cases h : i = j
  · rw [if_pos ⟨h, hi⟩, if_pos h]
  · rw [if_neg (fun e => h e.1), if_neg h]
theorem E_set (hi : i < ls.length) (j : Nat) (f : Ln → Ln) (hf : i = j → f ⟨(laneAt ls i).es ++ ex, p'⟩ = ⟨(f (laneAt ls i)).es ++ ex, p'⟩) :
    (E ls i ex p').set j (f (laneAt (E ls i ex p') j)) = E (ls.set j (f (laneAt ls j))) i ex p' := by
  rw [laneAt_E hi]
  by_cases h : i = j
  · subst h
    rw [if_pos rfl, hf rfl]
    unfold E
    rw [List.set_set, laneAt_same hi, List.set_set]
  · rw [if_neg h]
    unfold E
    rw [laneAt_other (fun e => h e.symm), List.set_comm _ _ h]
theorem control_E {e : En} (hi : i < ls.length) {j : Nat} (h : Lane.control (laneAt ls j) = some e) : Lane.control (laneAt (E ls i ex p') j) = some e := by
  rw [laneAt_E hi]
  split
  · rename_i hij
    subst hij
    unfold Lane.control at h ⊢
    show List.find? _ (_ ++ _) = _
    rw [List.find?_append, h]; rfl
  · exact h
theorem message_E {e : En} (hi : i < ls.length) {j : Nat} (h : message (laneAt ls j) = some e) : message (laneAt (E ls i ex p') j) = some e := by
  rw [laneAt_E hi]
  split
  · rename_i hij
    subst hij
    unfold message at h ⊢
    show List.find? _ (_ ++ _) = _
    rw [List.find?_append, h]; rfl
  · exact h
theorem pop_ext {l : Ln} {q : Int} (h : ∀ x ∈ ex, x.q ≠ q) : pop ⟨l.es ++ ex, p'⟩ q = ⟨(pop l q).es ++ ex, p'⟩ := by
  unfold pop
  simp only [List.filter_append, Ln.mk.injEq, and_true, List.append_cancel_left_eq]
  rw [List.filter_eq_self]
  intro x hx
  simpa using h x hx
theorem set_ext {l : Ln} {e : En} (he : may e = true) (h : ∀ x ∈ ex, x.q ≠ e.q) : Lane.set ⟨l.es ++ ex, p'⟩ e = ⟨(Lane.set l e).es ++ ex, p'⟩ := by
  unfold Lane.set
  rw [if_pos he, if_pos he]
  simp only [List.map_append, Ln.mk.injEq, and_true, List.append_cancel_left_eq]
  have : ex.map (put e) = ex.map id := List.map_congr_left fun x hx => by unfold put; rw [if_neg (h x hx)]; rfl
  rw [this, List.map_id]
theorem top_set (l : Ln) (e : En) : top 0 (Lane.set l e).es = top 0 l.es := by
  unfold Lane.set
  split
  · exact top_put 0 l.es e
  · rfl
theorem p_set (l : Ln) (e : En) : (Lane.set l e).p = l.p := by unfold Lane.set; split <;> rfl
theorem top_pop {l : Ln} (h : right l = true) (q : Int) : top 0 (pop l q).es ≤ top 0 l.es := top_filter (right_iff.1 h).1 _
/-- A lane's own change does not raise its last number, and leaves what is under way. -/
theorem put_lane (hok : Ok t ls) (i j : Nat) (x : Ln) (h1 : top 0 x.es ≤ top 0 (laneAt ls j).es) (h2 : x.p = (laneAt ls j).p) : top 0 (laneAt (ls.set j x) i).es ≤ top 0 (laneAt ls i).es ∧ (laneAt (ls.set j x) i).p = (laneAt ls i).p := by
  rw [laneAt_set]
  split
  · rename_i h; rw [← h.1]; exact ⟨h1, h2⟩
  · exact ⟨Int.le_refl _, rfl⟩
theorem step_E (hok : Ok t ls) (hi : i < ls.length) (hx : ∀ x ∈ ex, top 0 (laneAt ls i).es < x.q) (hs : step t ls = some (t1, ls1, o)) :
    step t (E ls i ex p') = some (t1, E ls1 i ex p', o) ∧ top 0 (laneAt ls1 i).es ≤ top 0 (laneAt ls i).es ∧ (laneAt ls1 i).p = (laneAt ls i).p := by
  have hr := fun j => (right_iff.1 (hok.at_ j)).1
  rcases step_cases t ls with h1 | ⟨e, h1, h2⟩ | ⟨e, s, r, h1, h2, h3⟩ | ⟨e, s, r, h1, h2, h3, h4⟩ | ⟨e, s, r, m, h1, h2, h3, h4⟩
  · rw [step_none h1] at hs; cases hs
  · rw [step_pop h1 h2] at hs
    injection hs with hs; injection hs with e1 e2; injection e2 with e2 e3
    subst e1 e2 e3
    have he := (control_mem h1).1
    refine ⟨?_, put_lane hok i t.who _ (top_pop (hok.at_ _) _) rfl⟩
    rw [step_pop (control_E hi h1) h2, E_length, E_set hi t.who (fun l => pop l e.q) (fun hij => pop_ext fun x hxx => by
      have := hx x hxx
      have h5 := (rises_mem (hr t.who) he).2.2
      rw [← hij] at h5
      omega)]
  · rw [step_skip h1 h2 h3] at hs
    injection hs with hs; injection hs with e1 e2; injection e2 with e2 e3
    subst e1 e2 e3
    have he := (control_mem h1).1
    obtain ⟨k1, k2, k3, k4, k5, k6, k7⟩ := order_kind (hok.may he) h2
    refine ⟨?_, put_lane hok i t.who _ (Int.le_of_eq (top_set _ _)) (p_set _ _)⟩
    rw [step_skip (control_E hi h1) h2 (by rw [E_length]; exact h3), E_set hi t.who (fun l => Lane.set l (order e r)) (fun hij => set_ext k6 fun x hxx => by
      have := hx x hxx
      have h5 := (rises_mem (hr t.who) he).2.2
      rw [← hij] at h5
      show x.q ≠ e.q
      omega)]
  · rw [step_stop h1 h2 h3 h4] at hs; cases hs
  · rw [step_tell h1 h2 h3 h4] at hs
    injection hs with hs; injection hs with e1 e2; injection e2 with e2 e3
    subst e1 e2 e3
    have he := (control_mem h1).1
    have hm := (message_mem h4).1
    obtain ⟨k1, k2, k3, k4, k5, k6, k7⟩ := order_kind (hok.may he) h2
    have hp : Ok t (ls.set s.toNat (pop (laneAt ls s.toNat) m.q)) := hok.set _ (right_pop (hok.at_ _) _) _ hok.1
    have hA := put_lane hok i s.toNat _ (top_pop (hok.at_ s.toNat) m.q) rfl
    have hB := put_lane hp i t.who _ (Int.le_of_eq (top_set (laneAt (ls.set s.toNat (pop (laneAt ls s.toNat) m.q)) t.who) (order e r))) (p_set _ _)
    refine ⟨?_, Int.le_trans hB.1 hA.1, hB.2.trans hA.2⟩
    rw [step_tell (control_E hi h1) h2 (by rw [E_length]; exact h3) (message_E hi h4), E_set hi s.toNat (fun l => pop l m.q) (fun hij => pop_ext fun x hxx => by
      have := hx x hxx
      have h5 := (rises_mem (hr s.toNat) hm).2.2
      rw [← hij] at h5
      omega), E_set (ls := ls.set s.toNat (pop (laneAt ls s.toNat) m.q)) (by rw [List.length_set]; exact hi) t.who (fun l => Lane.set l (order e r)) (fun hij => set_ext k6 fun x hxx => by
      have := hx x hxx
      have h5 := (rises_mem (hr t.who) he).2.2
      rw [← hij] at h5
      show x.q ≠ e.q
      omega)]
theorem Goes.E {d : List Dv} (h : Goes t ls d t1 ls1) (hok : Ok t ls) (hi : i < ls.length) (hx : ∀ x ∈ ex, top 0 (laneAt ls i).es < x.q) :
    Goes t (Seqr.E ls i ex p') d t1 (Seqr.E ls1 i ex p') ∧ top 0 (laneAt ls1 i).es ≤ top 0 (laneAt ls i).es ∧ (laneAt ls1 i).p = (laneAt ls i).p := by
  induction h with
  | refl => exact ⟨.refl _ _, Int.le_refl _, rfl⟩
  | more hs _ ih =>
    obtain ⟨h1, h2, h3⟩ := step_E hok hi hx hs
    obtain ⟨h4, h5⟩ := step_ok hok hs
    obtain ⟨h6, h7, h8⟩ := ih h4 (by rw [h5]; exact hi) (fun x hxx => by have := hx x hxx; omega)
    exact ⟨.more h1 h6, Int.le_trans h7 h2, h8.trans h3⟩
theorem last_le {a b : Ln} (h1 : top 0 a.es ≤ top 0 b.es) (h2 : a.p = b.p) : last a ≤ last b := by
  unfold last
  rw [h2]
  split
  · exact Int.le_refl _
  · exact h1
theorem readOne_ok {p : Int × It} (hok : Ok t ls) (hm : Item.may p.2 = true) : Ok t (readOne ls p) := hok.set _ (right_read (hok.at_ _) hm) t hok.1
theorem Goes.read {d : List Dv} {p : Int × It} (h : Goes t ls d t1 ls1) (hok : Ok t ls) (hi : p.1.toNat < ls.length) (hm : Item.may p.2 = true) (hq : last (laneAt ls p.1.toNat) < p.2.q) :
    Goes t (readOne ls p) d t1 (readOne ls1 p) ∧ last (laneAt ls1 p.1.toNat) < p.2.q := by
  obtain ⟨ex, p', h1, h2, _⟩ := read_tells (laneAt ls p.1.toNat).p p.2 hm
  have hpt := (right_iff.1 (hok.at_ p.1.toNat)).2
  obtain ⟨h4, h5, h6⟩ := h.E (ex := ex) (p' := p') hok hi (fun x hx => by
    have hlt := last_top (hok.at_ p.1.toNat)
    rcases h2 x hx with h3 | ⟨h3, h4⟩
    · omega
    · have := (part_got hpt (by omega)).2.2.2.2; omega)
  have hl := last_le h5 h6
  have e0 : readOne ls p = Seqr.E ls p.1.toNat ex p' := by unfold readOne Seqr.E; rw [h1 _ rfl hq]
  have e1 : readOne ls1 p = Seqr.E ls1 p.1.toNat ex p' := by unfold readOne Seqr.E; rw [h1 _ h6 (by omega)]
  rw [e0, e1]
  exact ⟨h4, by omega⟩
end
/-- Items that come behind all that waits. -/
def Fit : List Ln → List (Int × It) → Prop
  | _, [] => True
  | ls, p :: ps => (p.1.toNat < ls.length ∧ Item.may p.2 = true ∧ last (laneAt ls p.1.toNat) < p.2.q) ∧ Fit (readOne ls p) ps
theorem Fit.append {ls : List Ln} {ps qs : List (Int × It)} : Fit ls (ps ++ qs) ↔ Fit ls ps ∧ Fit (readAll ls ps) qs := by
  induction ps generalizing ls with
  | nil => exact ⟨fun h => ⟨trivial, h⟩, fun h => h.2⟩
  | cons p ps ih =>
    show (_ ∧ Fit (readOne ls p) (ps ++ qs)) ↔ (_ ∧ Fit (readOne ls p) ps) ∧ Fit (readAll (readOne ls p) ps) qs
    rw [ih]
    simp only [and_assoc]
theorem Goes.reads {t t1 : Tn} {ls ls1 : List Ln} {d : List Dv} {ps : List (Int × It)} (h : Goes t ls d t1 ls1) (hok : Ok t ls) (hf : Fit ls ps) : Goes t (readAll ls ps) d t1 (readAll ls1 ps) ∧ Fit ls1 ps ∧ Ok t (readAll ls ps) := by
  induction ps generalizing ls ls1 with
  | nil => exact ⟨h, trivial, hok⟩
  | cons p ps ih =>
    obtain ⟨⟨f1, f2, f3⟩, f4⟩ := hf
    obtain ⟨h1, h2⟩ := h.read hok f1 f2 f3
    obtain ⟨h3, h4, h5⟩ := ih h1 (readOne_ok hok f2) f4
    exact ⟨h3, ⟨⟨by rw [(h.ok hok).2]; exact f1, f2, h2⟩, h4⟩, h5⟩
/-- A walk in parts comes to what the walk at once comes to. -/
theorem parts_walk {t a b c : Tn} {ls m n o : List Ln} {d e f : List Dv} {ps qs : List (Int × It)} (hok : Ok t ls) (hf : Fit ls (ps ++ qs)) (h1 : walk t ls = (a, m, d)) (h2 : walk a (readAll m ps) = (b, n, e)) (h3 : walk b (readAll n qs) = (c, o, f)) :
    walk t (readAll ls (ps ++ qs)) = (c, o, d ++ e ++ f) ∧ Ok a (readAll m ps) ∧ Ok b (readAll n qs) ∧ Ok t (readAll ls (ps ++ qs)) := by
  obtain ⟨hf1, hf2⟩ := Fit.append.1 hf
  have g1 := walk_goes t ls
  rw [h1] at g1
  obtain ⟨g2, f2, ok2⟩ := g1.reads hok hf1
  have ok3 := (g2.ok ok2).1
  have g3 := walk_goes a (readAll m ps)
  rw [h2] at g3
  have g4 := g2.trans g3
  obtain ⟨g5, f5, ok5⟩ := g4.reads ok2 hf2
  have ok6 := (g5.ok ok5).1
  have g6 := walk_goes b (readAll n qs)
  rw [h3] at g6
  have g7 := g5.trans g6
  have hend := walk_end ok6
  rw [h3] at hend
  refine ⟨?_, ok3, ok6, ?_⟩
  · rw [readAll_append]; exact walk_is ok5 g7 hend
  · rw [readAll_append]; exact ok5
/-- What the items are like that are asked of. -/
theorem fit_of {ps : List (Int × It)} : ∀ {t : Tn} {ls : List Ln}, Ok t ls → ps.Pairwise (fun a b => a.1 = b.1 → a.2.q < b.2.q) → (∀ p ∈ ps, 0 ≤ p.1 ∧ p.1 < (ls.length : Int) ∧ Item.may p.2 = true ∧ last (laneAt ls p.1.toNat) < p.2.q) → Fit ls ps := by
  induction ps with
  | nil => intro _ _ _ _ _; trivial
  | cons p ps ih =>
    intro t ls hok hp h
    obtain ⟨h0, h1, h2, h3⟩ := h p List.mem_cons_self
    obtain ⟨hp1, hp2⟩ := List.pairwise_cons.1 hp
    refine ⟨⟨by omega, h2, h3⟩, ih (readOne_ok hok h2) hp2 fun x hx => ?_⟩
    obtain ⟨a0, a1, a2, a3⟩ := h x (List.mem_cons_of_mem _ hx)
    refine ⟨a0, by unfold readOne; rw [List.length_set]; exact a1, a2, ?_⟩
    unfold readOne
    rw [laneAt_set]
    split
    · rename_i hc
      have hlt := hp1 x hx (by omega)
      have := last_read (hok.at_ p.1.toNat) h2 h3
      omega
    · exact a3
/-- How much lanes hold behind so many items that were read. -/
def BigL (k : Nat) (l : Ln) : Prop := l.es.length ≤ 80 + k ∧ (∀ x ∈ l.es, x.l.length ≤ 80 ∧ x.b.length ≤ 40000 + 1024 * k) ∧ l.p.b.length ≤ 40000 + 1024 * k
def BigK (k : Nat) (ls : List Ln) : Prop := ∀ l ∈ ls, BigL k l
theorem BigL.zero (k : Nat) : BigL k Ln.zero := ⟨Nat.zero_le _, (fun x hx => by cases hx), Nat.zero_le _⟩
theorem BigK.at_ {k : Nat} {ls : List Ln} (h : BigK k ls) (i : Nat) : BigL k (laneAt ls i) := by
  by_cases hi : i < ls.length
  · exact h _ (laneAt_mem hi)
  · rw [laneAt_out hi]; exact BigL.zero k
theorem BigK.set {k : Nat} {ls : List Ln} (h : BigK k ls) (i : Nat) {x : Ln} (hx : BigL k x) : BigK k (ls.set i x) := fun l hl => by
  rcases List.mem_or_eq_of_mem_set hl with h1 | rfl
  · exact h l h1
  · exact hx
theorem BigL.pop {k : Nat} {l : Ln} (h : BigL k l) (q : Int) : BigL k (Lane.pop l q) := ⟨Nat.le_trans (List.length_filter_le _ _) h.1, fun x hx => h.2.1 x (List.mem_filter.1 hx).1, h.2.2⟩
theorem BigL.put {k : Nat} {l : Ln} (h : BigL k l) {e : En} (he : e.l.length ≤ 80 ∧ e.b.length ≤ 40000 + 1024 * k) : BigL k (Lane.set l e) := by
  unfold Lane.set
  split
  · refine ⟨by show (l.es.map (Lane.put e)).length ≤ _; rw [List.length_map]; exact h.1, fun x hx => ?_, h.2.2⟩
    obtain ⟨y, hy, rfl⟩ := List.mem_map.1 hx
    unfold Lane.put
    split
    · exact he
    · exact h.2.1 y hy
  · exact h
theorem BigL.order {k : Nat} {l : Ln} (h : BigL k l) {e : En} (he : e ∈ l.es) {s : Int} {r : List Int} (hl : e.l = s :: r) : (order e r).l.length ≤ 80 ∧ (order e r).b.length ≤ 40000 + 1024 * k := by
  have h1 := (h.2.1 e he).1
  rw [hl, List.length_cons] at h1
  exact ⟨by show r.length ≤ 80; omega, Nat.zero_le _⟩
theorem BigL.more {k j : Nat} {l : Ln} (h : BigL k l) (hj : k ≤ j) : BigL j l := ⟨by have := h.1; omega, fun x hx => ⟨(h.2.1 x hx).1, by have := (h.2.1 x hx).2; omega⟩, by have := h.2.2; omega⟩
theorem step_big {k : Nat} {t t1 : Tn} {ls ls1 : List Ln} {o : Option Dv} (h : BigK k ls) (hs : step t ls = some (t1, ls1, o)) : BigK k ls1 := by
  rcases step_cases t ls with h1 | ⟨e, h1, h2⟩ | ⟨e, s, r, h1, h2, h3⟩ | ⟨e, s, r, h1, h2, h3, h4⟩ | ⟨e, s, r, m, h1, h2, h3, h4⟩
  · rw [step_none h1] at hs; cases hs
  · rw [step_pop h1 h2] at hs
    injection hs with hs; injection hs with e1 e2; injection e2 with e2 e3
    subst e2
    exact h.set _ ((h.at_ _).pop _)
  · rw [step_skip h1 h2 h3] at hs
    injection hs with hs; injection hs with e1 e2; injection e2 with e2 e3
    subst e2
    exact h.set _ ((h.at_ _).put ((h.at_ _).order (control_mem h1).1 h2))
  · rw [step_stop h1 h2 h3 h4] at hs; cases hs
  · rw [step_tell h1 h2 h3 h4] at hs
    injection hs with hs; injection hs with e1 e2; injection e2 with e2 e3
    subst e2
    have hp := h.set s.toNat ((h.at_ s.toNat).pop m.q)
    exact hp.set _ ((hp.at_ _).put ((h.at_ t.who).order (control_mem h1).1 h2))
theorem Goes.big {k : Nat} {t t1 : Tn} {ls ls1 : List Ln} {d : List Dv} (h : Goes t ls d t1 ls1) (hb : BigK k ls) : BigK k ls1 := by
  induction h with
  | refl => exact hb
  | more hs _ ih => exact ih (step_big hb hs)
theorem read_big {k : Nat} {l : Ln} {it : It} (h : BigL k l) (hm : Item.may it = true) (hq : last l < it.q) : BigL (k + 1) (read l it).1 := by
  obtain ⟨ex, p', h1, _, _, h4, h5, h6⟩ := read_tells l.p it hm
  rw [h1 l rfl hq]
  refine ⟨by show (l.es ++ ex).length ≤ _; rw [List.length_append]; have := h.1; omega, fun x hx => ?_, by have := h.2.2; show p'.b.length ≤ _; omega⟩
  rcases List.mem_append.1 hx with hx | hx
  · exact ((h.more (Nat.le_succ k)).2.1 x hx)
  · have := h5 x hx; have := h.2.2; omega
theorem reads_big {ps : List (Int × It)} : ∀ {k : Nat} {ls : List Ln}, BigK k ls → Fit ls ps → BigK (k + ps.length) (readAll ls ps) := by
  induction ps with
  | nil => intro k ls h _; exact h
  | cons p ps ih =>
    intro k ls h hf
    obtain ⟨⟨f1, f2, f3⟩, f4⟩ := hf
    have h1 : BigK (k + 1) (readOne ls p) := BigK.set (fun l hl => (h l hl).more (Nat.le_succ k)) _ (read_big (h.at_ _) f2 f3)
    have := ih h1 f4
    rw [List.length_cons, show k + (ps.length + 1) = k + 1 + ps.length by omega]
    exact this
theorem Fit.take {ls : List Ln} {ps : List (Int × It)} (h : Fit ls ps) (k : Nat) : Fit ls (ps.take k) := by
  rw [← List.take_append_drop k ps] at h
  exact (Fit.append.1 h).1
theorem BigL.size {k : Nat} {l : Ln} (h : BigL k l) (hk : k ≤ 20) : size l ≤ 8100 := by
  have h1 := h.1
  unfold Seqr.size
  have h3 : (l.es.map fun e => e.l.length).sum ≤ 80 * l.es.length := by
    have : ∀ es : List En, (∀ x ∈ es, x.l.length ≤ 80) → (es.map fun e => e.l.length).sum ≤ 80 * es.length := by
      intro es
      induction es with
      | nil => intro _; exact Nat.le_refl _
      | cons x es ih =>
        intro h
        have h1 := ih fun y hy => h y (List.mem_cons_of_mem _ hy)
        have h2 := h x List.mem_cons_self
        simp only [List.map_cons, List.sum_cons, List.length_cons]
        omega
    exact this _ fun x hx => (h.2.1 x hx).1
  omega
theorem BigK.mu {k : Nat} {ls : List Ln} (h : BigK k ls) (hk : k ≤ 20) : mu ls ≤ 8100 * ls.length := by
  unfold Seqr.mu
  induction ls with
  | nil => exact Nat.le_refl _
  | cons l ls ih =>
    have h1 := ih fun x hx => h x (List.mem_cons_of_mem _ hx)
    have h2 := (h l List.mem_cons_self).size hk
    simp only [List.map_cons, List.sum_cons, List.length_cons]
    omega
end Go.Proofs.Ytdchgnmkeefffaa.Seqr
