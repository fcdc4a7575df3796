/- Lanes over many calls, in lists: messages told one by one, an order set and set back, a stream read in order. No program is named here. -/
import Derived.Test.YtmlmkkfieeaejaaLaneMath
set_option maxRecDepth 100000
namespace Go.Proofs.Ytmlmkkfieeaejaa.Lane
open Go.Proofs.Ytmlmkkfieeaejaa.Item (It)
open Go.Proofs.Ytmlmkkfieeaejaa (Pt none_ addOf nextP fits AddR manyN piece Mid piece_behind all_taken manyN_pos)
set_option linter.unusedVariables false

theorem rises_at {low : Int} {es : List En} (h : rises low es = true) {i j : Nat} {x y : En} (hi : es[i]? = some x) (hj : es[j]? = some y) (hij : i < j) : x.q < y.q := by
  induction es generalizing low i j with
  | nil => simp at hi
  | cons z es ih =>
    obtain ⟨h1, h2, h3⟩ := rises_cons.1 h
    cases j with
    | zero => omega
    | succ j =>
      simp only [List.getElem?_cons_succ] at hj
      cases i with
      | zero =>
        simp only [List.getElem?_cons_zero, Option.some.injEq] at hi
        subst hi
        exact (rises_mem h3 (List.mem_of_getElem? hj)).2.1
      | succ i =>
        simp only [List.getElem?_cons_succ] at hi
        exact ih h3 hi hj (by omega)
theorem rises_take {low : Int} {es : List En} (h : rises low es = true) (i : Nat) : rises low (es.take i) = true := by
  have e := List.take_append_drop i es
  rw [← e] at h
  exact (rises_append.1 h).1
/-- The next one's number is above those ahead. -/
theorem rises_next {low : Int} {es : List En} (h : rises low es = true) {i : Nat} {x : En} (hi : es[i]? = some x) : top low (es.take i) < x.q ∧ top low (es.take (i + 1)) = x.q := by
  have e : es.take (i + 1) = es.take i ++ [x] := by rw [List.take_add_one, hi]; rfl
  have h2 := rises_take h (i + 1)
  rw [e, rises_snoc] at h2
  simp only [Bool.and_eq_true, decide_eq_true_eq] at h2
  exact ⟨h2.2.2, by rw [e, top_snoc]⟩
/-- The first entry, taken away by its number. -/
theorem pop_head {low : Int} {e : En} {es : List En} (h : rises low (e :: es) = true) : ((e :: es).filter fun x => decide (x.q ≠ e.q)) = es := by
  obtain ⟨_, _, h3⟩ := rises_cons.1 h
  rw [List.filter_cons, if_neg (by simp)]
  refine List.filter_eq_self.2 fun x hx => ?_
  have := (rises_mem h3 hx).2.1
  simp only [decide_eq_true_eq]
  omega
theorem pop_none {es : List En} {s : Int} (h : ∀ x ∈ es, x.q ≠ s) : (es.filter fun x => decide (x.q ≠ s)) = es :=
  List.filter_eq_self.2 fun x hx => by simpa using h x hx

/-- Without the first i messages. -/
def drp : Nat → List En → List En
  | 0, es => es
  | _ + 1, [] => []
  | i + 1, e :: es => if isMsg e = true then drp i es else e :: drp (i + 1) es
theorem drp_zero (es : List En) : drp 0 es = es := by cases es <;> rfl
theorem drp_nil (i : Nat) : drp i [] = [] := by cases i <;> rfl
theorem drp_msg (i : Nat) {e : En} (es : List En) (h : isMsg e = true) : drp (i + 1) (e :: es) = drp i es := by
  show (if isMsg e = true then drp i es else e :: drp (i + 1) es) = _
  rw [if_pos h]
theorem drp_not (i : Nat) {e : En} (es : List En) (h : isMsg e = false) : drp i (e :: es) = e :: drp i es := by
  cases i with
  | zero => rw [drp_zero, drp_zero]
  | succ i =>
    show (if isMsg e = true then drp i es else e :: drp (i + 1) es) = _
    rw [if_neg (by simp [h])]
theorem drp_filter (i : Nat) (es : List En) : (drp i es).filter isMsg = (es.filter isMsg).drop i := by
  induction es generalizing i with
  | nil => rw [drp_nil]; simp
  | cons e es ih =>
    cases h : isMsg e with
    | true =>
      cases i with
      | zero => rw [drp_zero]; rfl
      | succ i => rw [drp_msg i es h, ih, List.filter_cons, if_pos h]; rfl
    | false => rw [drp_not i es h, List.filter_cons, if_neg (by simp [h]), ih, List.filter_cons, if_neg (by simp [h])]
theorem drp_all (es : List En) : drp (es.filter isMsg).length es = es.filter fun e => !isMsg e := by
  induction es with
  | nil => rfl
  | cons e es ih =>
    cases h : isMsg e with
    | true => rw [List.filter_cons, if_pos h, List.length_cons, drp_msg _ es h, ih, List.filter_cons, if_neg (by simp [h])]
    | false => rw [List.filter_cons, if_neg (by simp [h]), drp_not _ es h, ih, List.filter_cons, if_pos (by simp [h])]
theorem drp_pop {low : Int} {es : List En} (h : rises low es = true) {i : Nat} {x : En} (hx : (es.filter isMsg)[i]? = some x) : ((drp i es).filter fun e => decide (e.q ≠ x.q)) = drp (i + 1) es := by
  induction es generalizing low i with
  | nil => simp at hx
  | cons e es ih =>
    obtain ⟨_, _, h3⟩ := rises_cons.1 h
    cases hm : isMsg e with
    | true =>
      rw [List.filter_cons, if_pos hm] at hx
      cases i with
      | zero =>
        simp only [List.getElem?_cons_zero, Option.some.injEq] at hx
        subst hx
        rw [drp_msg 0 es hm, drp_zero, drp_zero]
        exact pop_head h
      | succ i =>
        simp only [List.getElem?_cons_succ] at hx
        rw [drp_msg i es hm, drp_msg (i + 1) es hm]
        exact ih h3 hx
    | false =>
      rw [List.filter_cons, if_neg (by simp [hm])] at hx
      have hq := (rises_mem h3 (List.mem_filter.1 (List.mem_of_getElem? hx)).1).2.1
      rw [drp_not i es hm, drp_not (i + 1) es hm, List.filter_cons, if_pos (by simp only [decide_eq_true_eq]; omega), ih h3 hx]
theorem message_is (l : Ln) : message l = (l.es.filter isMsg).head? := by
  unfold message
  rw [List.head?_filter]
theorem message_drp (i : Nat) (es : List En) (p : Pt) : message ⟨drp i es, p⟩ = (es.filter isMsg)[i]? := by
  rw [message_is]
  show ((drp i es).filter isMsg).head? = _
  rw [drp_filter, List.head?_drop]
/-- Of entries that are no messages the first one is the first order or token. -/
theorem control_head {es : List En} (h : ∀ e ∈ es, isMsg e = false) (p : Pt) : control ⟨es, p⟩ = es.head? := by
  cases es with
  | nil => rfl
  | cons e es =>
    show List.find? _ (e :: es) = some e
    rw [List.find?_cons_of_pos (by rw [h e List.mem_cons_self]; rfl)]
theorem control_drop (es : List En) (m : Nat) (p : Pt) : control ⟨(es.filter fun e => !isMsg e).drop m, p⟩ = (es.filter fun e => !isMsg e)[m]? := by
  rw [control_head, List.head?_drop]
  intro e he
  have := (List.mem_filter.1 (List.mem_of_mem_drop he)).2
  simpa using this
theorem drop_pop {low : Int} {es : List En} (h : rises low es = true) {m : Nat} {x : En} (hx : es[m]? = some x) : ((es.drop m).filter fun e => decide (e.q ≠ x.q)) = es.drop (m + 1) := by
  have hd : es.drop m = x :: es.drop (m + 1) := by
    rw [List.drop_eq_getElem_cons (by
      rcases Nat.lt_or_ge m es.length with h | h
      · exact h
      · rw [List.getElem?_eq_none h] at hx; cases hx)]
    congr 1
    exact (List.getElem?_eq_some_iff.1 hx).2
  have hr : rises (top low (es.take m)) (es.drop m) = true := by
    have e := List.take_append_drop m es
    rw [← e] at h
    exact (rises_append.1 h).2
  rw [hd] at hr ⊢
  exact pop_head hr
theorem parts_length (es : List En) : (es.filter isMsg).length + (es.filter fun e => !isMsg e).length = es.length := by
  induction es with
  | nil => rfl
  | cons e es ih =>
    rw [List.filter_cons, List.filter_cons]
    cases isMsg e <;> simp <;> omega

/-- The first entry has the lowest number. -/
theorem first_low {l : Ln} (h : right l = true) {f x : En} (hf : first l = some f) (hx : x ∈ l.es) : f.q ≤ x.q := by
  obtain ⟨h1, _⟩ := right_iff.1 h
  obtain ⟨es, p⟩ := l
  cases es with
  | nil => cases hx
  | cons e es =>
    have he : e = f := by simpa [first] using hf
    subst he
    rcases List.mem_cons.1 hx with rfl | hx
    · exact Int.le_refl _
    · have := (rises_mem (rises_cons.1 h1).2.2 hx).2.1
      omega
/-- Setting the first order. -/
theorem control_split {l : Ln} {e : En} (h : control l = some e) : ∃ as bs, l.es = as ++ e :: bs ∧ isMsg e = false ∧ ∀ a ∈ as, isMsg a = true := by
  unfold control at h
  obtain ⟨he, as, bs, hl, ha⟩ := List.find?_eq_some_iff_append.1 h
  exact ⟨as, bs, hl, by simpa using he, fun a ha' => by have := ha a ha'; simpa using this⟩
theorem put_back {low : Int} {es : List En} (h : rises low es = true) {e x : En} (he : e ∈ es) (hx : x.q = e.q) : (es.map (put x)).map (put e) = es := by
  rw [List.map_map]
  conv => rhs; rw [← List.map_id es]
  refine List.map_congr_left fun y hy => ?_
  show put e (put x y) = y
  by_cases hq : y.q = e.q
  · have : y = e := rises_inj h hy he hq
    subst this
    unfold put
    rw [if_pos hx.symm, if_pos hx]
  · have e1 : put x y = y := by unfold put; rw [if_neg (by omega)]
    rw [e1]
    unfold put
    rw [if_neg hq]
theorem control_set {l : Ln} (h : right l = true) {e x : En} (hc : control l = some e) (hq : x.q = e.q) (hx : may x = true) (hk : isMsg x = false) :
    control (set l x) = some x ∧ set (set l x) e = l ∧ many (set l x) = many l := by
  obtain ⟨as, bs, hl, hm, ha⟩ := control_split hc
  obtain ⟨h1, h2⟩ := right_iff.1 h
  have hmem : e ∈ l.es := by rw [hl]; simp
  have hs : set l x = ⟨l.es.map (put x), l.p⟩ := by unfold set; rw [if_pos hx]
  have pe : put x e = x := by unfold put; rw [if_pos hq.symm]
  have pa : as.map (put x) = as := by
    conv => rhs; rw [← List.map_id as]
    refine List.map_congr_left fun y hy => ?_
    show put x y = y
    unfold put
    rw [if_neg]
    intro hyq
    have := rises_inj h1 (e := y) (f := e) (by rw [hl]; simp [hy]) hmem (by omega)
    have h3 := ha y hy
    rw [this, hm] at h3
    cases h3
  rw [hs]
  refine ⟨?_, ?_, ?_⟩
  · show List.find? _ (l.es.map (put x)) = some x
    rw [hl, List.map_append, List.map_cons, pa, pe]
    refine List.find?_eq_some_iff_append.2 ⟨by simp [hk], as, bs.map (put x), rfl, fun a ha' => by simp [ha a ha']⟩
  · unfold set
    rw [if_pos (rises_mem h1 hmem).1]
    show (⟨(l.es.map (put x)).map (put e), l.p⟩ : Ln) = l
    rw [put_back h1 hmem hq]
  · unfold many
    show ((l.es.map (put x)).filter isMsg).length = _
    rw [List.filter_map, List.length_map]
    congr 1
    refine List.filter_congr fun y hy => ?_
    show isMsg (put x y) = isMsg y
    by_cases hyq : y.q = x.q
    · have := rises_inj h1 hy hmem (by omega)
      subst this
      rw [pe, hk, hm]
    · unfold put
      rw [if_neg hyq]

/-- A message's pieces that are off, as what is under way. -/
def under (seq : Int) (K : Nat) (l : List UInt8) (m k : Nat) : Pt := if k = 0 then none_ else ⟨seq, K, k, l.take (k * m)⟩
theorem under_got (seq : Int) (K : Nat) (l : List UInt8) (m k : Nat) : (under seq K l m k).got = k := by
  unfold under
  split
  · rename_i h; subst h; rfl
  · rfl
theorem under_zero (seq : Int) (K : Nat) (l : List UInt8) (m : Nat) : under seq K l m 0 = none_ := rfl
theorem under_add {seq q : Int} {l : List UInt8} {m k : Nat} (hm : 1 ≤ m) (hK : manyN l.length m ≤ 32) (hk : k < manyN l.length m) (hq : k = 0 → q = seq) :
    addOf (under seq (manyN l.length m) l m k) q (k : Int) (manyN l.length m : Nat) (piece l m k) =
      if k + 1 = manyN l.length m then ⟨none_, l, true, 0⟩ else ⟨under seq (manyN l.length m) l m (k + 1), [], false, 0⟩ := by
  obtain ⟨K, hKK⟩ : ∃ K, manyN l.length m = K := ⟨_, rfl⟩
  have hl := all_taken (l := l) (m := m) (k := K) hm hKK
  rw [hKK] at hK hk ⊢
  have hf : fits (under seq K l m k) (k : Int) (K : Nat) = true := by
    refine fits_iff.2 ⟨by omega, by omega, (under_got ..).symm, ?_⟩
    unfold under
    split
    · exact .inl rfl
    · exact .inr rfl
  have hn : nextP (under seq K l m k) q (K : Nat) (piece l m k) = ⟨seq, K, ((k + 1 : Nat) : Int), l.take ((k + 1) * m)⟩ := by
    have hb := piece_behind l m k
    unfold nextP
    rw [under_got]
    by_cases h0 : k = 0
    · subst h0
      rw [if_pos (by omega), hq rfl, ← hb]
      simp
    · have e : under seq K l m k = ⟨seq, K, k, l.take (k * m)⟩ := by unfold under; rw [if_neg h0]
      have ew : IntKind.i64.wrap ((k : Int) + 1) = ((k + 1 : Nat) : Int) := by
        rw [show ((k + 1 : Nat) : Int) = (k : Int) + 1 by omega]
        exact IntWalk.i64_in _ (by omega)
      rw [if_neg (by omega), e, ew, ← hb]
  unfold addOf
  rw [if_pos hf, hn]
  dsimp only
  by_cases hlast : k + 1 = K
  · rw [if_pos (by omega), if_pos hlast, hlast, hl]
  · rw [if_neg (by omega), if_neg hlast]
    unfold under
    rw [if_neg (by omega)]

/-- A stream of messages, with a token behind some: its entries, from a number on, and the number behind it. -/
def sz (m : Nat) (x : List UInt8 × Bool) : Int := (manyN x.1.length m : Int) + (if x.2 = true then 1 else 0)
def seqOf (m : Nat) (s : Int) : List (List UInt8 × Bool) → Int
  | [] => s
  | x :: xs => seqOf m (s + sz m x) xs
def msg (s : Int) (l : List UInt8) : En := ⟨1, s, l, [], false⟩
def tok (s : Int) : En := ⟨3, s, [], [], false⟩
def ents1 (m : Nat) (s : Int) (x : List UInt8 × Bool) : List En := msg s x.1 :: (if x.2 = true then [tok (s + manyN x.1.length m)] else [])
def ents (m : Nat) (s : Int) : List (List UInt8 × Bool) → List En
  | [] => []
  | x :: xs => ents1 m s x ++ ents m (s + sz m x) xs
theorem seqOf_append (m : Nat) (s : Int) (xs ys : List (List UInt8 × Bool)) : seqOf m s (xs ++ ys) = seqOf m (seqOf m s xs) ys := by
  induction xs generalizing s with
  | nil => rfl
  | cons x xs ih => exact ih _
theorem ents_append (m : Nat) (s : Int) (xs ys : List (List UInt8 × Bool)) : ents m s (xs ++ ys) = ents m s xs ++ ents m (seqOf m s xs) ys := by
  induction xs generalizing s with
  | nil => rfl
  | cons x xs ih =>
    show ents1 m s x ++ ents m (s + sz m x) (xs ++ ys) = (ents1 m s x ++ ents m (s + sz m x) xs) ++ ents m (seqOf m (s + sz m x) xs) ys
    rw [ih, List.append_assoc]
theorem seqOf_snoc (m : Nat) (s : Int) (xs : List (List UInt8 × Bool)) (x : List UInt8 × Bool) : seqOf m s (xs ++ [x]) = seqOf m s xs + sz m x := by
  rw [seqOf_append]; rfl
theorem ents_snoc (m : Nat) (s : Int) (xs : List (List UInt8 × Bool)) (x : List UInt8 × Bool) : ents m s (xs ++ [x]) = ents m s xs ++ ents1 m (seqOf m s xs) x := by
  rw [ents_append]
  show _ ++ (ents1 m _ x ++ []) = _
  rw [List.append_nil]
theorem sz_pos (m : Nat) (x : List UInt8 × Bool) : 1 ≤ sz m x := by
  have := manyN_pos x.1.length m
  unfold sz
  split <;> omega
theorem seqOf_le (m : Nat) (s : Int) (xs : List (List UInt8 × Bool)) : s + xs.length ≤ seqOf m s xs := by
  induction xs generalizing s with
  | nil => simp [seqOf]
  | cons x xs ih =>
    have := ih (s + sz m x)
    have := sz_pos m x
    show s + ((xs.length + 1 : Nat) : Int) ≤ seqOf m (s + sz m x) xs
    omega
theorem sz_le {m : Nat} {x : List UInt8 × Bool} (hm : 2 ≤ m) (hx : x.1.length ≤ 60) : manyN x.1.length m ≤ 30 ∧ sz m x ≤ 31 := by
  have h : manyN x.1.length m ≤ 30 := by
    unfold manyN
    split
    · omega
    · have : (x.1.length - 1) / m ≤ (x.1.length - 1) / 2 := Nat.div_le_div_left hm (by omega)
      omega
  refine ⟨h, ?_⟩
  unfold sz
  split <;> omega
theorem seqOf_top {m : Nat} (hm : 2 ≤ m) (s : Int) (xs : List (List UInt8 × Bool)) (h : ∀ x ∈ xs, x.1.length ≤ 60) : seqOf m s xs ≤ s + 31 * xs.length := by
  induction xs generalizing s with
  | nil => simp [seqOf]
  | cons x xs ih =>
    have := ih (s + sz m x) (fun y hy => h y (List.mem_cons_of_mem _ hy))
    have := (sz_le hm (h x List.mem_cons_self)).2
    show seqOf m (s + sz m x) xs ≤ s + 31 * ((xs.length + 1 : Nat) : Int)
    omega
theorem ents1_rises {m : Nat} {s low : Int} (x : List UInt8 × Bool) (h0 : 1 ≤ s) (hl : low < s) : rises low (ents1 m s x) = true ∧ top low (ents1 m s x) < s + sz m x := by
  have hp := manyN_pos x.1.length m
  obtain ⟨l, o⟩ := x
  have h1 : may (msg s l) = true := may_iff.2 ⟨h0, rfl, rfl⟩
  have h2 : may (tok (s + manyN l.length m)) = true := may_iff.2 ⟨by show 1 ≤ s + (manyN l.length m : Int); omega, rfl, rfl⟩
  cases o with
  | true =>
    refine ⟨rises_cons.2 ⟨h1, hl, rises_cons.2 ⟨h2, ?_, rfl⟩⟩, ?_⟩
    · show s < s + (manyN l.length m : Int)
      simp only at hp
      omega
    · show s + (manyN l.length m : Int) < s + ((manyN l.length m : Int) + 1)
      omega
  | false =>
    refine ⟨rises_cons.2 ⟨h1, hl, rfl⟩, ?_⟩
    show s < s + ((manyN l.length m : Int) + 0)
    simp only at hp
    omega
theorem ents_rises {m : Nat} {s low : Int} (xs : List (List UInt8 × Bool)) (h0 : 1 ≤ s) (hl : low < s) : rises low (ents m s xs) = true ∧ top low (ents m s xs) < seqOf m s xs := by
  induction xs generalizing s low with
  | nil => exact ⟨rfl, hl⟩
  | cons x xs ih =>
    obtain ⟨h1, h2⟩ := ents1_rises (m := m) x h0 hl
    have := sz_pos m x
    obtain ⟨h3, h4⟩ := ih (s := s + sz m x) (low := top low (ents1 m s x)) (by omega) h2
    refine ⟨rises_append.2 ⟨h1, h3⟩, ?_⟩
    show top low (ents1 m s x ++ ents m (s + sz m x) xs) < seqOf m (s + sz m x) xs
    rw [top_append]
    exact h4
theorem ents_many (m : Nat) (s : Int) (xs : List (List UInt8 × Bool)) (p : Pt) : many ⟨ents m s xs, p⟩ = xs.length := by
  unfold many
  show ((ents m s xs).filter isMsg).length = _
  induction xs generalizing s with
  | nil => rfl
  | cons x xs ih =>
    show ((ents1 m s x ++ ents m (s + sz m x) xs).filter isMsg).length = xs.length + 1
    rw [List.filter_append, List.length_append, ih]
    obtain ⟨l, o⟩ := x
    cases o <;> simp [ents1, msg, tok, isMsg] <;> omega
/-- A piece that is read. -/
theorem read_piece {es : List En} {s : Int} {l : List UInt8} {m k : Nat} (hm : 1 ≤ m) (hK : manyN l.length m ≤ 32) (hk : k < manyN l.length m) (hes : rises 0 es = true) (hs : top 0 es < s) {it : It}
    (e1 : it.k = 1) (e2 : it.q = s + k) (e3 : it.i = k) (e4 : it.t = (manyN l.length m : Nat)) (e5 : it.b = piece l m k) :
    read ⟨es, under s (manyN l.length m) l m k⟩ it = if k + 1 = manyN l.length m then (⟨es ++ [msg s l], none_⟩, 0) else (⟨es, under s (manyN l.length m) l m (k + 1)⟩, 0) := by
  have ha := under_add (seq := s) (q := it.q) (l := l) (m := m) (k := k) hm hK hk (fun h => by rw [e2, h]; simp)
  rw [← e3, ← e4, ← e5] at ha
  have hl : ¬ it.q ≤ last ⟨es, under s (manyN l.length m) l m k⟩ := by
    unfold last
    show ¬ it.q ≤ if 0 < (under s (manyN l.length m) l m k).got then (under s (manyN l.length m) l m k).seq else top 0 es
    rw [under_got]
    by_cases h0 : k = 0
    · rw [if_neg (by omega)]; omega
    · rw [if_pos (by omega)]
      have : (under s (manyN l.length m) l m k).seq = s := by unfold under; rw [if_neg h0]
      omega
  by_cases hlast : k + 1 = manyN l.length m
  · rw [if_pos hlast] at ha ⊢
    have hw := read_whole e1 hl ha
    rw [hw]
    congr 3
    show [(⟨1, if 0 < (under s (manyN l.length m) l m k).got then (under s (manyN l.length m) l m k).seq else it.q, l, [], false⟩ : En)] = [msg s l]
    rw [under_got]
    by_cases h0 : k = 0
    · rw [if_neg (by omega), e2, h0]; simp [msg]
    · rw [if_pos (by omega)]
      have : (under s (manyN l.length m) l m k).seq = s := by unfold under; rw [if_neg h0]
      rw [this]; rfl
  · rw [if_neg hlast] at ha ⊢
    exact read_part e1 hl ha
/-- A token that is read. -/
theorem read_token {es : List En} {s : Int} (hs : top 0 es < s) {it : It} (e1 : it.k = 3) (e2 : it.q = s) : read ⟨es, none_⟩ it = (⟨es ++ [tok s], none_⟩, 0) := by
  rw [read_order (.inr e1) (by show ¬ it.q ≤ top 0 es; omega) (by show ¬ (0 : Int) < 0; omega)]
  rw [e1, e2]
  rfl
/-- What is told of a stream in its order. -/
theorem stream_message (m : Nat) (s : Int) (x : List UInt8 × Bool) (xs : List (List UInt8 × Bool)) (p : Pt) : message ⟨ents m s (x :: xs), p⟩ = some (msg s x.1) := rfl
theorem stream_done (m : Nat) (s : Int) (x : List UInt8 × Bool) (xs : List (List UInt8 × Bool)) (p : Pt) (r : Int) : done ⟨ents m s (x :: xs), p⟩ r = s - 1 := rfl
/-- Behind a stream's first message. -/
def behind (m : Nat) (s : Int) (x : List UInt8 × Bool) (xs : List (List UInt8 × Bool)) : List En := (if x.2 = true then [tok (s + manyN x.1.length m)] else []) ++ ents m (s + sz m x) xs
theorem stream_pop {m : Nat} {s : Int} (x : List UInt8 × Bool) (xs : List (List UInt8 × Bool)) (p : Pt) (h : 1 ≤ s) : pop ⟨ents m s (x :: xs), p⟩ s = ⟨behind m s x xs, p⟩ := by
  have hr := (ents_rises (m := m) (low := 0) (x :: xs) h (by omega)).1
  unfold pop
  show (⟨(msg s x.1 :: behind m s x xs).filter _, p⟩ : Ln) = _
  have e : (msg s x.1 :: behind m s x xs).filter (fun e => decide (e.q ≠ s)) = behind m s x xs := pop_head (e := msg s x.1) hr
  rw [e]
theorem stream_control {m : Nat} {s : Int} (l : List UInt8) (xs : List (List UInt8 × Bool)) (p : Pt) : control ⟨behind m s (l, true) xs, p⟩ = some (tok (s + manyN l.length m)) := rfl
theorem stream_behind {m : Nat} {s : Int} (l : List UInt8) (xs : List (List UInt8 × Bool)) (p : Pt) (h : 1 ≤ s) : pop ⟨behind m s (l, true) xs, p⟩ (s + manyN l.length m) = ⟨ents m (s + sz m (l, true)) xs, p⟩ := by
  have hr := (ents_rises (m := m) (low := 0) ((l, true) :: xs) h (by omega)).1
  have hr2 := (rises_cons.1 hr).2.2
  unfold pop
  show (⟨(tok (s + manyN l.length m) :: ents m (s + sz m (l, true)) xs).filter _, p⟩ : Ln) = _
  have e : (tok (s + manyN l.length m) :: ents m (s + sz m (l, true)) xs).filter (fun e => decide (e.q ≠ s + manyN l.length m)) = ents m (s + sz m (l, true)) xs := pop_head (e := tok (s + manyN l.length m)) hr2
  rw [e]
theorem stream_none {m : Nat} {s : Int} (l : List UInt8) (xs : List (List UInt8 × Bool)) : behind m s (l, false) xs = ents m (s + sz m (l, false)) xs := rfl
end Go.Proofs.Ytmlmkkfieeaejaa.Lane
