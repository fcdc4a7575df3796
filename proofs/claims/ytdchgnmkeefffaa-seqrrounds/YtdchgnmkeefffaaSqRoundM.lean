/- All speak in their turns: what that comes to. No program is named here. -/
import Derived.Test.YtdchgnmkeefffaaSqSaidM
set_option maxRecDepth 100000
namespace Go.Proofs.Ytdchgnmkeefffaa.Seqr
open Go.Proofs.Ytdchgnmkeefffaa.Item (It)
open Go.Proofs.Ytdchgnmkeefffaa (Pt none_)
open Go.Proofs.Ytdchgnmkeefffaa.Lane
set_option linter.unusedVariables false

/-- The k-th message of a member, and its lane of so many messages. -/
def roundE (i k : Nat) : En := ⟨1, (k : Int) + 1, [UInt8.ofNat i, UInt8.ofNat k], [], false⟩
def roundL (i c : Nat) : Ln := ⟨(List.range c).map (roundE i), none_⟩
theorem roundE_may (i k : Nat) : may (roundE i k) = true := by
  rw [may_iff]
  exact ⟨by show (1 : Int) ≤ (k : Int) + 1; omega, rfl, rfl⟩
theorem roundL_rises (i : Nat) : ∀ c, rises 0 ((List.range c).map (roundE i)) = true ∧ top 0 ((List.range c).map (roundE i)) = (c : Int)
  | 0 => ⟨rfl, rfl⟩
  | c + 1 => by
    obtain ⟨h1, h2⟩ := roundL_rises i c
    rw [List.range_succ, List.map_append, List.map_cons, List.map_nil]
    refine ⟨rises_append.2 ⟨h1, ?_⟩, ?_⟩
    · rw [h2]; exact rises_cons.2 ⟨roundE_may i c, by show (c : Int) < (c : Int) + 1; omega, rfl⟩
    · rw [top_snoc]; show (c : Int) + 1 = ((c + 1 : Nat) : Int); omega
theorem roundL_right (i c : Nat) : right (roundL i c) = true := right_iff.2 ⟨(roundL_rises i c).1, part_none⟩
theorem roundL_msg (i c : Nat) : ∀ x ∈ (roundL i c).es, isMsg x = true ∧ 1 ≤ x.q ∧ x.q ≤ (c : Int) ∧ x.l = [] ∧ x.b.length = 2 := fun x hx => by
  obtain ⟨k, hk, rfl⟩ := List.mem_map.1 hx
  have := List.mem_range.1 hk
  exact ⟨rfl, by show (1 : Int) ≤ (k : Int) + 1; omega, by show (k : Int) + 1 ≤ (c : Int); omega, rfl, rfl⟩
theorem roundL_msgs (i c : Nat) : msgs (roundL i c) = (roundL i c).es := List.filter_eq_self.2 fun x hx => (roundL_msg i c x hx).1
theorem roundL_ctls (i c : Nat) : ctls (roundL i c) = [] := List.filter_eq_nil_iff.2 fun x hx => by rw [(roundL_msg i c x hx).1]; simp
theorem roundL_many (i c : Nat) : many (roundL i c) = c := by
  show (msgs (roundL i c)).length = c
  rw [roundL_msgs]
  show ((List.range c).map _).length = c
  rw [List.length_map, List.length_range]
theorem ctls_none {l : Ln} (h : ctls l = []) : Lane.control l = none := by rw [control_head, h]; rfl
theorem ctls_msg {l : Ln} (h : ctls l = []) {x : En} (hx : x ∈ l.es) : isMsg x = true := by
  cases hm : isMsg x with
  | true => rfl
  | false =>
    have : x ∈ ctls l := List.mem_filter.2 ⟨hx, by rw [hm]; rfl⟩
    rw [h] at this; cases this
theorem msgs_all {l : Ln} (h : ctls l = []) : msgs l = l.es := List.filter_eq_self.2 fun x hx => ctls_msg h hx
theorem set_mem {l : Ln} {e x : En} (h : x ∈ (Lane.set l e).es) : x = e ∨ x ∈ l.es := by
  unfold Lane.set at h
  split at h
  · obtain ⟨y, hy, rfl⟩ := List.mem_map.1 h
    unfold put
    split
    · exact .inl rfl
    · exact .inr hy
  · exact .inr h
section
variable {t t1 : Tn} {ls ls1 : List Ln} {o : Option Dv} {d : List Dv}
/-- What a step leaves in a lane was there, or is an order of a lane that has one. -/
theorem step_mem (h : Ok t ls) (hs : step t ls = some (t1, ls1, o)) (i : Nat) {x : En} (hx : x ∈ (laneAt ls1 i).es) : x ∈ (laneAt ls i).es ∨ (isMsg x = false ∧ ctls (laneAt ls i) ≠ []) := by
  have hctl : ∀ e, Lane.control (laneAt ls t.who) = some e → ctls (laneAt ls t.who) ≠ [] := fun e he hn => by rw [ctls_none hn] at he; cases he
  rcases step_cases t ls with h1 | ⟨e, h1, h2⟩ | ⟨e, s, r, h1, h2, h3⟩ | ⟨e, s, r, h1, h2, h3, h4⟩ | ⟨e, s, r, m, h1, h2, h3, h4⟩
  · rw [step_none h1] at hs; cases hs
  · rw [step_pop h1 h2] at hs
    injection hs with hs; injection hs with e1 e2; injection e2 with e2 e3
    subst e2
    rw [laneAt_set] at hx
    split at hx
    · rename_i hc; rw [← hc.1]; exact .inl (pop_mem hx).1
    · exact .inl hx
  · rw [step_skip h1 h2 h3] at hs
    injection hs with hs; injection hs with e1 e2; injection e2 with e2 e3
    subst e2
    rw [laneAt_set] at hx
    split at hx
    · rename_i hc
      rw [← hc.1]
      rcases set_mem hx with rfl | hx
      · exact .inr ⟨rfl, hctl e h1⟩
      · exact .inl hx
    · exact .inl hx
  · rw [step_stop h1 h2 h3 h4] at hs; cases hs
  · rw [step_tell h1 h2 h3 h4] at hs
    injection hs with hs; injection hs with e1 e2; injection e2 with e2 e3
    subst e2
    have hp : ∀ j y, y ∈ (laneAt (ls.set s.toNat (pop (laneAt ls s.toNat) m.q)) j).es → y ∈ (laneAt ls j).es := fun j y hy => by
      rw [laneAt_set] at hy
      split at hy
      · rename_i hc; rw [← hc.1]; exact (pop_mem hy).1
      · exact hy
    rw [laneAt_set] at hx
    split at hx
    · rename_i hc
      rw [← hc.1]
      rcases set_mem hx with rfl | hx
      · exact .inr ⟨rfl, hctl e h1⟩
      · exact .inl (hp _ _ hx)
    · exact .inl (hp _ _ hx)
theorem step_nil (h : Ok t ls) (hs : step t ls = some (t1, ls1, o)) {i : Nat} (hc : ctls (laneAt ls i) = []) : ctls (laneAt ls1 i) = [] := by
  unfold ctls
  rw [List.filter_eq_nil_iff]
  intro x hx
  rcases step_mem h hs i hx with h1 | h1
  · rw [ctls_msg hc h1]; simp
  · exact absurd hc h1.2
theorem Goes.nil (h : Goes t ls d t1 ls1) (ho : Ok t ls) {i : Nat} (hc : ctls (laneAt ls i) = []) : ctls (laneAt ls1 i) = [] := by
  induction h with
  | refl => exact hc
  | more hs _ ih => exact ih (step_ok ho hs).1 (step_nil ho hs hc)
theorem Goes.mem (h : Goes t ls d t1 ls1) (ho : Ok t ls) (i : Nat) {x : En} (hx : x ∈ (laneAt ls1 i).es) (hm : isMsg x = true) : x ∈ (laneAt ls i).es := by
  induction h with
  | refl => exact hx
  | more hs _ ih =>
    rcases step_mem ho hs i (ih (step_ok ho hs).1 hx) with h1 | h1
    · exact h1
    · rw [h1.1] at hm; cases hm
theorem step_p (hs : step t ls = some (t1, ls1, o)) (i : Nat) : (laneAt ls1 i).p = (laneAt ls i).p := by
  have hp : ∀ (ls : List Ln) (j : Nat) (x : Ln), x.p = (laneAt ls j).p → (laneAt (ls.set j x) i).p = (laneAt ls i).p := fun ls j x h => by
    rw [laneAt_set]
    split
    · rename_i hc; rw [h, hc.1]
    · rfl
  have hset : ∀ (l : Ln) (e : En), (Lane.set l e).p = l.p := fun l e => by unfold Lane.set; split <;> rfl
  rcases step_cases t ls with h1 | ⟨e, h1, h2⟩ | ⟨e, s, r, h1, h2, h3⟩ | ⟨e, s, r, h1, h2, h3, h4⟩ | ⟨e, s, r, m, h1, h2, h3, h4⟩
  · rw [step_none h1] at hs; cases hs
  · rw [step_pop h1 h2] at hs
    injection hs with hs; injection hs with e1 e2; injection e2 with e2 e3
    subst e2
    exact hp _ _ _ rfl
  · rw [step_skip h1 h2 h3] at hs
    injection hs with hs; injection hs with e1 e2; injection e2 with e2 e3
    subst e2
    exact hp _ _ _ (hset _ _)
  · rw [step_stop h1 h2 h3 h4] at hs; cases hs
  · rw [step_tell h1 h2 h3 h4] at hs
    injection hs with hs; injection hs with e1 e2; injection e2 with e2 e3
    subst e2
    exact (hp _ _ _ (hset _ _)).trans (hp _ _ _ rfl)
theorem Goes.p (h : Goes t ls d t1 ls1) (i : Nat) : (laneAt ls1 i).p = (laneAt ls i).p := by
  induction h with
  | refl => rfl
  | more hs _ ih => rw [ih, step_p hs i]
end
theorem sumFrom_plus (f g : Nat → Nat) (a : Nat) : ∀ k, sumFrom (fun i => f i + g i) a k = sumFrom f a k + sumFrom g a k
  | 0 => rfl
  | k + 1 => by
    show sumFrom _ a k + (f (a + k) + g (a + k)) = (sumFrom f a k + f (a + k)) + (sumFrom g a k + g (a + k))
    rw [sumFrom_plus f g a k]; omega
theorem sumFrom_one (s : Nat) : ∀ n, sumFrom (fun i => if (s : Int) = (i : Int) then 1 else 0) 0 n = if s < n then 1 else 0
  | 0 => rfl
  | n + 1 => by
    show sumFrom _ 0 n + (if (s : Int) = ((0 + n : Nat) : Int) then 1 else 0) = _
    rw [sumFrom_one s n]
    by_cases h : s < n
    · rw [if_pos h, if_neg (show ¬ (s : Int) = ((0 + n : Nat) : Int) by omega), if_pos (show s < n + 1 by omega)]
    · by_cases h2 : s = n
      · rw [if_neg h, if_pos (show (s : Int) = ((0 + n : Nat) : Int) by omega), if_pos (show s < n + 1 by omega)]
      · rw [if_neg h, if_neg (show ¬ (s : Int) = ((0 + n : Nat) : Int) by omega), if_neg (show ¬ s < n + 1 by omega)]
theorem sum_dels {n : Nat} : ∀ {d : List Dv}, (∀ x ∈ d, 0 ≤ x.src ∧ x.src < (n : Int)) → sumFrom (fun i => (delsOf i d).length) 0 n = d.length
  | [], _ => by
    have : ∀ k, sumFrom (fun i => (delsOf i []).length) 0 k = 0 := fun k => by
      induction k with
      | zero => rfl
      | succ k ih => show sumFrom _ 0 k + 0 = 0; rw [ih]
    exact this n
  | x :: d, h => by
    have ih := sum_dels (n := n) (d := d) fun y hy => h y (List.mem_cons_of_mem _ hy)
    obtain ⟨h0, h1⟩ := h x List.mem_cons_self
    obtain ⟨s, hs⟩ : ∃ s : Nat, x.src = (s : Int) := ⟨x.src.toNat, by omega⟩
    have e : (fun i : Nat => (delsOf i (x :: d)).length) = fun i : Nat => (if (s : Int) = (i : Int) then 1 else 0) + (delsOf i d).length := by
      funext i
      show (List.filter _ (x :: d)).length = _
      rw [List.filter_cons, hs]
      by_cases hi : (s : Int) = (i : Int)
      · rw [if_pos (by simpa using hi), if_pos hi, List.length_cons]
        show (delsOf i d).length + 1 = _
        omega
      · rw [if_neg (by simpa using hi), if_neg hi]
        show (delsOf i d).length = _
        omega
    rw [e, sumFrom_plus, sumFrom_one, ih, if_pos (by omega), List.length_cons]
    omega
theorem Goes.total {t t1 : Tn} {ls ls1 : List Ln} {d : List Dv} (h : Goes t ls d t1 ls1) (ho : Ok t ls) : Seqr.total ls = d.length + Seqr.total ls1 := by
  rw [total_sum, total_sum, (h.ok ho).2, ← sum_dels (h.src ho), ← sumFrom_plus]
  congr 1
  funext i
  exact h.many ho i
/-- What holds between the rounds. -/
def RInv (ls0 : List Ln) (Q : Nat) (t : Tn) (ls : List Ln) (all : List Dv) : Prop :=
  Ok t ls ∧ ls.length = ls0.length ∧ (∀ i, ctls (laneAt ls i) = [] ∧ (laneAt ls i).p = none_ ∧ ∀ x ∈ (laneAt ls i).es, x ∈ (laneAt ls0 i).es) ∧ (∀ i, (msgs (laneAt ls0 i)).map (·.b) = (delsOf i all).map (·.b) ++ (msgs (laneAt ls i)).map (·.b)) ∧
    (∀ x ∈ all, 0 ≤ x.src ∧ x.src < (ls0.length : Int)) ∧ all.length + total ls = total ls0 ∧ t.who = all.length / Q % ls0.length ∧ t.used = ((all.length % Q : Nat) : Int)
theorem next_div {A Q r k : Nat} (hQ : 0 < Q) (hr : A % Q = r) (hk : r + k = Q) : (A + k) / Q = A / Q + 1 ∧ (A + k) % Q = 0 := by
  have h1 := Nat.div_add_mod A Q
  have e : A + k = Q * (A / Q + 1) := by rw [Nat.mul_add, Nat.mul_one]; omega
  rw [e]
  exact ⟨Nat.mul_div_cancel_left _ hQ, Nat.mul_mod_right _ _⟩
theorem same_div {A Q r k : Nat} (hr : A % Q = r) (hk : r + k < Q) : (A + k) / Q = A / Q ∧ (A + k) % Q = r + k := by
  have h1 := Nat.div_add_mod A Q
  have e : A + k = Q * (A / Q) + (r + k) := by omega
  refine ⟨?_, ?_⟩
  · rw [e, Nat.mul_add_div (by omega), Nat.div_eq_of_lt hk, Nat.add_zero]
  · rw [e, Nat.mul_add_mod, Nat.mod_eq_of_lt hk]
theorem round_step {ls0 : List Ln} {Q : Nat} {t : Tn} {ls : List Ln} {all : List Dv} (h : RInv ls0 Q t ls all) (hQ : 0 < Q) {L : List Int} (hL : saidL ls t.who ((Q : Int) - t.used) = L) (hne : L ≠ []) {seq : Int} (hs : last (laneAt ls t.who) < seq) {ix : Int} (hix : (if (Q : Int) ≤ t.used + (L.length : Int) then (1 : Int) else 0) = ix)
    (hm : Item.may ⟨2, seq, 0, ix, 0, 0, L, []⟩ = true) :
    ∃ t' ls' d, walk t (readAll ls [((t.who : Int), ⟨2, seq, 0, ix, 0, 0, L, []⟩)]) = (t', ls', d) ∧ RInv ls0 Q t' ls' (all ++ d) ∧ d ≠ [] ∧ Ok t (readAll ls [((t.who : Int), ⟨2, seq, 0, ix, 0, 0, L, []⟩)]) ∧ ls'.length = ls0.length := by
  obtain ⟨ho, hlen, hl, hmsgs, hsrc, htot, hwho, hused⟩ := h
  have hw := ho.1
  obtain ⟨hc0, hp0, _⟩ := hl t.who
  have hx : readAll ls [((t.who : Int), ⟨2, seq, 0, ix, 0, 0, L, []⟩)] = ls.set t.who ⟨(laneAt ls t.who).es ++ [⟨2, seq, [], L, decide (ix = 1)⟩], (laneAt ls t.who).p⟩ := by
    show readOne ls _ = _
    unfold readOne
    simp only [Int.toNat_natCast]
    rw [read_order (l := laneAt ls t.who) (it := ⟨2, seq, 0, ix, 0, 0, L, []⟩) (.inl rfl) (by show ¬ seq ≤ _; omega) (by rw [hp0]; show ¬ (0 : Int) < 0; omega)]
    simp
  have hox : Ok t (readAll ls [((t.who : Int), ⟨2, seq, 0, ix, 0, 0, L, []⟩)]) := by
    show Ok t (readOne ls _)
    unfold readOne
    simp only [Int.toNat_natCast]
    exact ho.set _ (right_read (ho.at_ _) hm) t ho.1
  obtain ⟨xs, hxs⟩ : ∃ xs, readAll ls [((t.who : Int), (⟨2, seq, 0, ix, 0, 0, L, []⟩ : It))] = xs := ⟨_, rfl⟩
  rw [hxs] at hx hox ⊢
  have hxl : xs.length = ls.length := by rw [hx, List.length_set]
  have hat : ∀ i, laneAt xs i = if t.who = i then ⟨(laneAt ls i).es ++ [⟨2, seq, [], L, decide (ix = 1)⟩], (laneAt ls i).p⟩ else laneAt ls i := fun i => by
    rw [hx, laneAt_set]
    by_cases hi : t.who = i
    · rw [if_pos ⟨hi, hw⟩, if_pos hi, hi]
    · rw [if_neg (fun e => hi e.1), if_neg hi]
  have hct : ctls (laneAt xs t.who) = [⟨2, seq, [], L, decide (ix = 1)⟩] := by
    rw [hat, if_pos rfl]
    unfold ctls
    show List.filter _ (List.append _ _) = _
    rw [List.append_eq, List.filter_append]
    have e1 : (laneAt ls t.who).es.filter (fun e => !isMsg e) = [] := hc0
    rw [e1]; rfl
  have hmx : ∀ i, msgs (laneAt xs i) = msgs (laneAt ls i) := fun i => by
    rw [hat]
    split
    · unfold msgs
      show List.filter _ (List.append _ _) = _
      rw [List.append_eq, List.filter_append]
      show _ ++ [] = _
      rw [List.append_nil]
    · rfl
  have hmy : ∀ i, many (laneAt xs i) = many (laneAt ls i) := fun i => congrArg List.length (hmx i)
  obtain ⟨d, ls1, e1, hg, hd, hc1, hl1, hh1⟩ := order_goes L hox hct rfl (fun s hs => by
    rw [hxl]
    rw [← hL] at hs
    exact (saidL_mem ho.1 hs).2) (fun i => by
    rw [hmy, ← hL]
    exact cntOf_said ho.1 _ i)
  obtain ⟨ho1, hln1⟩ := hg.ok hox
  obtain ⟨he1, _, hcon1⟩ := ctls_mem hc1
  have hst := step_pop (t := ⟨t.who, t.used + L.length⟩) (ls := ls1) hcon1 hl1
  have hw1 : t.who < ls1.length := ho1.1
  obtain ⟨ho2, hln2⟩ := step_ok ho1 hst
  have hg2 := hg.trans (Goes.one hst)
  rw [show Option.toList (none : Option Dv) = [] from rfl, List.append_nil] at hg2
  obtain ⟨m, hmm⟩ : ∃ m, ls1.set t.who (pop (laneAt ls1 t.who) e1.q) = m := ⟨_, rfl⟩
  obtain ⟨t', ht'⟩ : ∃ t', (if e1.h = true then next ⟨t.who, t.used + L.length⟩ ls1.length else ⟨t.who, t.used + L.length⟩) = t' := ⟨_, rfl⟩
  simp only at hst ho2 hln2 hg2
  rw [hmm, ht'] at hst ho2 hg2
  rw [hmm] at hln2
  have hnil : ∀ i, ctls (laneAt m i) = [] := fun i => by
    by_cases hi : t.who = i
    · subst hi
      rw [← hmm, laneAt_same hw1]
      exact ctls_pop_one hc1
    · exact hg2.nil hox (by rw [hat, if_neg hi]; exact (hl i).1)
  have hend : step t' m = none := step_none (ctls_none (hnil _))
  have hdl : d.length = L.length := by rw [← hd, List.length_map]
  have hk := saidL_length (ls := ls) (me := t.who) hw ((Q : Int) - t.used)
  rw [hL] at hk
  have hr : all.length % Q < Q := Nat.mod_lt _ hQ
  have hml : m.length = ls0.length := by rw [hln2, hln1, hxl, hlen]
  refine ⟨t', m, d, by rw [walk_is hox hg2 hend], ⟨ho2, hml, fun i => ⟨hnil i, ?_, fun x hxm => ?_⟩, fun i => ?_, fun x hx2 => ?_, ?_, ?_, ?_⟩, fun e => hne (List.eq_nil_of_length_eq_zero (by rw [← hdl, e]; rfl)), hox, hml⟩
  · rw [hg2.p i, hat]
    split <;> exact (hl i).2.1
  · have hmg := ctls_msg (hnil i) hxm
    have hin := hg2.mem hox i hxm hmg
    rw [hat] at hin
    split at hin
    · rcases List.mem_append.1 hin with h1 | h1
      · exact (hl i).2.2 x h1
      · rw [List.mem_singleton.1 h1] at hmg; cases hmg
    · exact (hl i).2.2 x hin
  · rw [hmsgs i, delsOf_append, List.map_append, List.append_assoc, ← hg2.msgs hox i, hmx]
  · rcases List.mem_append.1 hx2 with h1 | h1
    · exact hsrc x h1
    · have := hg2.src hox x h1
      rw [hxl, hlen] at this
      exact this
  · have h1 := hg2.total hox
    have h2 : total xs = total ls := by
      rw [total_sum, total_sum, hxl]
      congr 1
      funext i
      exact hmy i
    rw [List.length_append]
    omega
  · rw [List.length_append, hdl]
    by_cases hq : (Q : Int) ≤ t.used + (L.length : Int)
    · have hi1 : ix = 1 := by rw [← hix, if_pos hq]
      have hh : e1.h = true := by rw [hh1, hi1]; rfl
      rw [hh, if_pos rfl] at ht'
      rw [(next_div hQ rfl (by omega)).1, ← ht', hln1, hxl, hlen]
      show (if t.who + 1 = ls0.length then 0 else t.who + 1) = _
      have hn0 : 0 < ls0.length := by omega
      rw [Nat.add_mod, ← hwho]
      by_cases h1 : ls0.length = 1
      · rw [h1]; simp only [Nat.mod_one]; rw [if_pos (by omega)]
      · rw [Nat.mod_eq_of_lt (show 1 < ls0.length by omega)]
        split
        · rename_i h2; rw [h2, Nat.mod_self]
        · rw [Nat.mod_eq_of_lt (by omega)]
    · have hi0 : ix = 0 := by rw [← hix, if_neg hq]
      have hh : e1.h = false := by rw [hh1, hi0]; rfl
      rw [hh, if_neg (by simp)] at ht'
      rw [(same_div rfl (by omega)).1, ← ht']
      exact hwho
  · rw [List.length_append, hdl]
    by_cases hq : (Q : Int) ≤ t.used + (L.length : Int)
    · have hi1 : ix = 1 := by rw [← hix, if_pos hq]
      have hh : e1.h = true := by rw [hh1, hi1]; rfl
      rw [hh, if_pos rfl] at ht'
      rw [(next_div hQ rfl (by omega)).2, ← ht']; rfl
    · have hi0 : ix = 0 := by rw [← hix, if_neg hq]
      have hh : e1.h = false := by rw [hh1, hi0]; rfl
      rw [hh, if_neg (by simp)] at ht'
      rw [(same_div rfl (by omega)).2, ← ht']
      show t.used + (L.length : Int) = _
      omega
/-- Where nothing is said any more, all is delivered. -/
theorem round_done {ls0 : List Ln} {Q : Nat} {t : Tn} {ls : List Ln} {all : List Dv} (h : RInv ls0 Q t ls all) (hQ : 0 < Q) (hL : saidL ls t.who ((Q : Int) - t.used) = []) : total ls = 0 ∧ all.length = total ls0 := by
  obtain ⟨ho, hlen, hl, hmsgs, hsrc, htot, hwho, hused⟩ := h
  have hk := saidL_length (ls := ls) (me := t.who) ho.1 ((Q : Int) - t.used)
  rw [hL] at hk
  have hr : all.length % Q < Q := Nat.mod_lt _ hQ
  have : total ls = 0 := by
    have hk : min ((Q : Int) - t.used).toNat (total ls) = 0 := hk.symm
    omega
  exact ⟨this, by omega⟩
theorem dels_at {all : List Dv} : ∀ {j : Nat} {y : Dv} {i : Nat}, all[j]? = some y → y.src = (i : Int) → (delsOf i all)[(delsOf i (all.take j)).length]? = some y := by
  induction all with
  | nil => intro j y i h; simp at h
  | cons x d ih =>
    intro j y i h hs
    cases j with
    | zero =>
      simp only [List.getElem?_cons_zero, Option.some.injEq] at h
      subst h
      show (List.filter _ (x :: d))[0]? = _
      rw [List.filter_cons, if_pos (by simpa using hs)]; rfl
    | succ j =>
      have h1 := ih (by simpa using h) hs
      show (List.filter _ (x :: d))[(List.filter _ (x :: d.take j)).length]? = _
      rw [List.filter_cons, List.filter_cons]
      by_cases hx : x.src = (i : Int)
      · rw [if_pos (by simpa using hx), if_pos (by simpa using hx), List.length_cons, List.getElem?_cons_succ]
        exact h1
      · rw [if_neg (by simpa using hx), if_neg (by simpa using hx)]
        exact h1
theorem total_zero {ls : List Ln} (h : total ls = 0) (i : Nat) : msgs (laneAt ls i) = [] := by
  by_cases hi : i < ls.length
  · refine List.eq_nil_of_length_eq_zero ?_
    show many (laneAt ls i) = 0
    have : ∀ (l : List Ln), (l.map many).sum = 0 → ∀ x ∈ l, many x = 0 := by
      intro l
      induction l with
      | nil => intro _ x hx; cases hx
      | cons a l ih =>
        intro hs x hx
        rw [List.map_cons, List.sum_cons] at hs
        rcases List.mem_cons.1 hx with rfl | hx
        · omega
        · exact ih (by omega) x hx
    exact this ls h _ (laneAt_mem hi)
  · rw [laneAt_out hi]; rfl
/-- The lanes of so many messages each. -/
def lanes0 (c : Nat → Nat) (n : Nat) : List Ln := (List.range n).map fun i => roundL i (c i)
theorem lanes0_length (c : Nat → Nat) (n : Nat) : (lanes0 c n).length = n := by unfold lanes0; rw [List.length_map, List.length_range]
theorem lanes0_at (c : Nat → Nat) {n i : Nat} (hi : i < n) : laneAt (lanes0 c n) i = roundL i (c i) := by
  refine laneAt_of ?_
  unfold lanes0
  rw [List.getElem?_map, List.getElem?_range hi]; rfl
theorem lanes0_succ (c : Nat → Nat) (n : Nat) : lanes0 c (n + 1) = lanes0 c n ++ [roundL n (c n)] := by
  unfold lanes0
  rw [List.range_succ, List.map_append]; rfl
theorem lanes0_total (c : Nat → Nat) (n : Nat) : total (lanes0 c n) = sumFrom c 0 n := by
  rw [total_sum, lanes0_length]
  refine sumFrom_congr n fun j hj => ?_
  show many (laneAt (lanes0 c n) (0 + j)) = c (0 + j)
  rw [lanes0_at c (by omega), roundL_many]
theorem lanes0_inv (c : Nat → Nat) {n Q : Nat} (hn : 0 < n) : RInv (lanes0 c n) Q ⟨0, 0⟩ (lanes0 c n) [] := by
  refine ⟨⟨by rw [lanes0_length]; exact hn, fun l hl => ?_⟩, rfl, fun i => ?_, fun i => rfl, (fun x hx => by cases hx), Nat.zero_add _, by simp, by simp⟩
  · unfold lanes0 at hl
    obtain ⟨i, _, rfl⟩ := List.mem_map.1 hl
    exact roundL_right _ _
  · refine ⟨?_, ?_, fun x hx => hx⟩
    · by_cases hi : i < n
      · rw [lanes0_at c hi]; exact roundL_ctls _ _
      · rw [laneAt_out (by rw [lanes0_length]; exact hi)]; rfl
    · by_cases hi : i < n
      · rw [lanes0_at c hi]; rfl
      · rw [laneAt_out (by rw [lanes0_length]; exact hi)]; rfl
/-- What is delivered where all is delivered: each member's messages, in order. -/
theorem round_body {c : Nat → Nat} {n Q : Nat} {t : Tn} {ls : List Ln} {all : List Dv} (h : RInv (lanes0 c n) Q t ls all) (ht : total ls = 0) {j : Nat} {y : Dv} (hy : all[j]? = some y) :
    ∃ i : Nat, y.src = (i : Int) ∧ i < n ∧ (delsOf i (all.take j)).length < c i ∧ y.b = [UInt8.ofNat i, UInt8.ofNat (delsOf i (all.take j)).length] := by
  obtain ⟨ho, hlen, hl, hmsgs, hsrc, htot, hwho, hused⟩ := h
  obtain ⟨h0, h1⟩ := hsrc y (List.mem_of_getElem? hy)
  rw [lanes0_length] at h1
  obtain ⟨i, hi⟩ : ∃ i : Nat, y.src = (i : Int) := ⟨y.src.toNat, by omega⟩
  have hin : i < n := by omega
  have hd := dels_at hy hi
  have hm := hmsgs i
  rw [total_zero ht i, List.map_nil, List.append_nil, lanes0_at c hin, roundL_msgs] at hm
  refine ⟨i, hi, hin, ?_⟩
  obtain ⟨k, hk⟩ : ∃ k, (delsOf i (all.take j)).length = k := ⟨_, rfl⟩
  rw [hk] at hd ⊢
  have hb : ((roundL i (c i)).es.map (·.b))[k]? = some y.b := by rw [hm, List.getElem?_map, hd]; rfl
  unfold roundL at hb
  rw [List.map_map, List.getElem?_map] at hb
  have hkc : k < c i := by
    rcases Nat.lt_or_ge k (c i) with h | h
    · exact h
    · rw [List.getElem?_eq_none (by rw [List.length_range]; exact h)] at hb; cases hb
  rw [List.getElem?_range hkc] at hb
  injection hb with hb
  exact ⟨hkc, hb.symm⟩
end Go.Proofs.Ytdchgnmkeefffaa.Seqr
