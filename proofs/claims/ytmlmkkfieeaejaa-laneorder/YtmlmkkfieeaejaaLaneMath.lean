/- Lanes in lists: which are right, what is read, told, taken away and set. No program is named here. -/
import Derived.Test.YtmlmkkfieeaejaaItemMath
import Derived.Test.YtmlmkkfieeaejaaFragMath
import Derived.WalkKit
import Derived.IntWalk
set_option maxRecDepth 100000
namespace Go.Proofs.Ytmlmkkfieeaejaa.Lane
open Go.Proofs.Ytmlmkkfieeaejaa.Item (It)
open Go.Proofs.Ytmlmkkfieeaejaa (Pt none_ addOf nextP fits AddR)
set_option linter.unusedVariables false

structure En where
  (k q : Int)
  (b : List UInt8)
  (l : List Int)
  (h : Bool)
  deriving DecidableEq
def En.zero : En := ⟨0, 0, [], [], false⟩
structure Ln where
  es : List En
  p : Pt
  deriving DecidableEq
def Ln.zero : Ln := ⟨[], none_⟩

def senders (l : List Int) : Bool := l.all fun n => decide (0 ≤ n) && decide (n ≤ 63)
/-- What an entry of its kind may not have. -/
def kind (e : En) : Bool :=
  if e.k = 1 then decide (e.l.length = 0) && !e.h else if e.k = 2 then decide (e.b.length = 0)
  else if e.k = 3 then decide (e.b.length = 0) && (decide (e.l.length = 0) && !e.h) else false
/-- May an entry be? -/
def may (e : En) : Bool := decide (1 ≤ e.q) && (senders e.l && kind e)
theorem may_iff {e : En} : may e = true ↔ 1 ≤ e.q ∧ senders e.l = true ∧ kind e = true := by simp [may]
theorem may_kind {e : En} (h : may e = true) : e.k = 1 ∨ e.k = 2 ∨ e.k = 3 := by
  have h := (may_iff.1 h).2.2
  unfold kind at h
  by_cases h1 : e.k = 1
  · exact .inl h1
  · by_cases h2 : e.k = 2
    · exact .inr (.inl h2)
    · by_cases h3 : e.k = 3
      · exact .inr (.inr h3)
      · simp [h1, h2, h3] at h
/-- Entries that may be, with numbers that rise from above low on. -/
def rises (low : Int) : List En → Bool
  | [] => true
  | e :: es => (may e && decide (low < e.q)) && rises e.q es
/-- The last number of entries, or low. -/
def top (low : Int) : List En → Int
  | [] => low
  | e :: es => top e.q es
theorem rises_cons {low : Int} {e : En} {es : List En} : rises low (e :: es) = true ↔ may e = true ∧ low < e.q ∧ rises e.q es = true := by simp [rises, and_assoc]
theorem top_snoc (low : Int) (es : List En) (e : En) : top low (es ++ [e]) = e.q := by
  induction es generalizing low with
  | nil => rfl
  | cons x es ih => exact ih x.q
theorem top_last (low : Int) (es : List En) (e : En) (h : es[es.length - 1]? = some e) : top low es = e.q := by
  induction es generalizing low with
  | nil => simp at h
  | cons x es ih =>
    cases es with
    | nil => simp at h; subst h; rfl
    | cons y es => exact ih x.q (by simpa using h)
theorem rises_top {low : Int} {es : List En} (h : rises low es = true) : low ≤ top low es := by
  induction es generalizing low with
  | nil => exact Int.le_refl _
  | cons x es ih =>
    obtain ⟨_, h2, h3⟩ := rises_cons.1 h
    have := ih h3
    show low ≤ top x.q es
    omega
theorem rises_mem {low : Int} {es : List En} (h : rises low es = true) {e : En} (he : e ∈ es) : may e = true ∧ low < e.q ∧ e.q ≤ top low es := by
  induction es generalizing low with
  | nil => cases he
  | cons x es ih =>
    obtain ⟨h1, h2, h3⟩ := rises_cons.1 h
    rcases List.mem_cons.1 he with rfl | he
    · exact ⟨h1, h2, rises_top h3⟩
    · obtain ⟨a, b, c⟩ := ih h3 he
      exact ⟨a, by omega, c⟩
theorem rises_snoc {low : Int} {es : List En} {e : En} : rises low (es ++ [e]) = (rises low es && (may e && decide (top low es < e.q))) := by
  induction es generalizing low with
  | nil =>
    show ((may e && decide (low < e.q)) && true) = (true && (may e && decide (low < e.q)))
    rw [Bool.and_true, Bool.true_and]
  | cons x es ih =>
    show ((may x && decide (low < x.q)) && rises x.q (es ++ [e])) = _
    rw [ih]
    show _ = (((may x && decide (low < x.q)) && rises x.q es) && (may e && decide (top x.q es < e.q)))
    rw [Bool.and_assoc (may x && decide (low < x.q))]
theorem rises_low {low low2 : Int} {es : List En} (h : rises low es = true) (hl : low2 ≤ low) : rises low2 es = true := by
  cases es with
  | nil => rfl
  | cons x es =>
    obtain ⟨h1, h2, h3⟩ := rises_cons.1 h
    exact rises_cons.2 ⟨h1, by omega, h3⟩
theorem rises_append {low : Int} {es fs : List En} : rises low (es ++ fs) = true ↔ rises low es = true ∧ rises (top low es) fs = true := by
  induction es generalizing low with
  | nil => simp [rises, top]
  | cons x es ih =>
    rw [List.cons_append, rises_cons, rises_cons, ih]
    show _ ↔ _ ∧ rises (top x.q es) fs = true
    constructor
    · rintro ⟨a, b, c, d⟩; exact ⟨⟨a, b, c⟩, d⟩
    · rintro ⟨⟨a, b, c⟩, d⟩; exact ⟨a, b, c, d⟩
theorem top_append (low : Int) (es fs : List En) : top low (es ++ fs) = top (top low es) fs := by
  induction es generalizing low with
  | nil => rfl
  | cons x es ih => exact ih x.q
/-- Numbers are told apart. -/
theorem rises_inj {low : Int} {es : List En} (h : rises low es = true) {e f : En} (he : e ∈ es) (hf : f ∈ es) (hq : e.q = f.q) : e = f := by
  induction es generalizing low with
  | nil => cases he
  | cons x es ih =>
    obtain ⟨h1, h2, h3⟩ := rises_cons.1 h
    rcases List.mem_cons.1 he with a | a <;> rcases List.mem_cons.1 hf with b | b
    · rw [a, b]
    · have := (rises_mem h3 b).2.1; rw [a] at hq; omega
    · have := (rises_mem h3 a).2.1; rw [b] at hq; omega
    · exact ih h3 a b
theorem top_filter {low : Int} {es : List En} (h : rises low es = true) (f : En → Bool) : top low (es.filter f) ≤ top low es := by
  induction es generalizing low with
  | nil => exact Int.le_refl _
  | cons x es ih =>
    obtain ⟨h1, h2, h3⟩ := rises_cons.1 h
    rw [List.filter_cons]
    split
    · exact ih h3
    · refine Int.le_trans ?_ (ih h3)
      cases hh : es.filter f with
      | nil => show low ≤ x.q; omega
      | cons y ys => exact Int.le_refl _
theorem rises_filter {low : Int} {es : List En} (h : rises low es = true) (f : En → Bool) : rises low (es.filter f) = true := by
  induction es generalizing low with
  | nil => rfl
  | cons x es ih =>
    obtain ⟨h1, h2, h3⟩ := rises_cons.1 h
    rw [List.filter_cons]
    split
    · exact rises_cons.2 ⟨h1, h2, ih h3⟩
    · exact rises_low (ih h3) (by omega)
/-- An entry in another's place. -/
def put (e x : En) : En := if x.q = e.q then e else x
theorem put_q (e x : En) : (put e x).q = x.q := by
  unfold put
  split
  · rename_i h; exact h.symm
  · rfl
theorem rises_put {low : Int} {es : List En} {e : En} (he : may e = true) (h : rises low es = true) : rises low (es.map (put e)) = true := by
  induction es generalizing low with
  | nil => rfl
  | cons x es ih =>
    obtain ⟨h1, h2, h3⟩ := rises_cons.1 h
    rw [List.map_cons, rises_cons, put_q]
    refine ⟨?_, h2, ih h3⟩
    unfold put
    split
    · exact he
    · exact h1
theorem top_put (low : Int) (es : List En) (e : En) : top low (es.map (put e)) = top low es := by
  induction es generalizing low with
  | nil => rfl
  | cons x es ih =>
    show top (put e x).q (es.map (put e)) = top x.q es
    rw [put_q]
    exact ih x.q

/-- Is a message under way right, behind entries up to low? -/
def part (p : Pt) (low : Int) : Bool :=
  if p.got = 0 then decide (p.seq = 0) && (decide (p.total = 0) && decide (p.b.length = 0))
  else decide (1 ≤ p.got) && (decide (p.got < p.total) && (decide (p.total ≤ 32) && (decide (1 ≤ p.seq) && decide (low < p.seq))))
theorem part_none {low : Int} : part none_ low = true := rfl
theorem part_zero {p : Pt} {low : Int} (h : part p low = true) (h0 : p.got = 0) : p = none_ := by
  unfold part at h
  rw [if_pos h0] at h
  simp only [Bool.and_eq_true, decide_eq_true_eq] at h
  obtain ⟨s, t, g, b⟩ := p
  obtain ⟨h1, h2, h3⟩ := h
  simp only at h0 h1 h2 h3
  have := List.eq_nil_of_length_eq_zero h3
  subst h0 h1 h2 this
  rfl
theorem part_got {p : Pt} {low : Int} (h : part p low = true) (h0 : p.got ≠ 0) : 1 ≤ p.got ∧ p.got < p.total ∧ p.total ≤ 32 ∧ 1 ≤ p.seq ∧ low < p.seq := by
  unfold part at h
  rw [if_neg h0] at h
  simpa only [Bool.and_eq_true, decide_eq_true_eq] using h
theorem part_of {p : Pt} {low : Int} (h : 1 ≤ p.got ∧ p.got < p.total ∧ p.total ≤ 32 ∧ 1 ≤ p.seq ∧ low < p.seq) : part p low = true := by
  unfold part
  rw [if_neg (by omega)]
  simpa only [Bool.and_eq_true, decide_eq_true_eq] using h
theorem part_low {p : Pt} {low low2 : Int} (h : part p low = true) (hl : low2 ≤ low) : part p low2 = true := by
  by_cases h0 : p.got = 0
  · rw [part_zero h h0]; rfl
  · obtain ⟨a, b, c, d, e⟩ := part_got h h0
    exact part_of ⟨a, b, c, d, by omega⟩
theorem part_nonneg {p : Pt} {low : Int} (h : part p low = true) : 0 ≤ p.got := by
  by_cases h0 : p.got = 0
  · omega
  · have := (part_got h h0).1; omega
/-- Is a lane right? -/
def right (l : Ln) : Bool := rises 0 l.es && part l.p (top 0 l.es)
theorem right_iff {l : Ln} : right l = true ↔ rises 0 l.es = true ∧ part l.p (top 0 l.es) = true := by simp [right]
/-- A lane's last number. -/
def last (l : Ln) : Int := if 0 < l.p.got then l.p.seq else top 0 l.es
theorem last_top {l : Ln} (h : right l = true) : top 0 l.es ≤ last l := by
  obtain ⟨h1, h2⟩ := right_iff.1 h
  unfold last
  split
  · have := part_got h2 (by omega); omega
  · exact Int.le_refl _

/-- Read. -/
def read (l : Ln) (it : It) : Ln × Int :=
  if it.k < 1 ∨ 3 < it.k then (l, 1) else if it.q ≤ last l then (l, 2)
  else if it.k = 1 then
    (if (addOf l.p it.q it.i it.t it.b).err = 0 then
      (if (addOf l.p it.q it.i it.t it.b).whole = true then (⟨l.es ++ [⟨1, if 0 < l.p.got then l.p.seq else it.q, (addOf l.p it.q it.i it.t it.b).s, [], false⟩], (addOf l.p it.q it.i it.t it.b).p⟩, 0)
        else (⟨l.es, (addOf l.p it.q it.i it.t it.b).p⟩, 0))
      else (l, 2))
  else if 0 < l.p.got then (l, 2)
  else (⟨l.es ++ [⟨it.k, it.q, [], if it.k = 2 then it.l else [], decide (it.k = 2) && decide (it.i = 1)⟩], l.p⟩, 0)
/-- Told. -/
def first (l : Ln) : Option En := l.es.head?
def isMsg (e : En) : Bool := decide (e.k = 1)
def message (l : Ln) : Option En := l.es.find? isMsg
def control (l : Ln) : Option En := l.es.find? fun e => !isMsg e
def many (l : Ln) : Nat := (l.es.filter isMsg).length
def pop (l : Ln) (s : Int) : Ln := ⟨l.es.filter fun e => decide (e.q ≠ s), l.p⟩
def set (l : Ln) (e : En) : Ln := if may e = true then ⟨l.es.map (put e), l.p⟩ else l
def done (l : Ln) (r : Int) : Int := match l.es with | e :: _ => e.q - 1 | [] => if 0 < l.p.got then l.p.seq - 1 else r

/-- Lanes stay right. -/
theorem right_pop {l : Ln} (h : right l = true) (s : Int) : right (pop l s) = true := by
  obtain ⟨h1, h2⟩ := right_iff.1 h
  exact right_iff.2 ⟨rises_filter h1 _, part_low h2 (top_filter h1 _)⟩
theorem right_set {l : Ln} (h : right l = true) (e : En) : right (set l e) = true := by
  unfold set
  split
  · rename_i he
    obtain ⟨h1, h2⟩ := right_iff.1 h
    exact right_iff.2 ⟨rises_put he h1, by rw [top_put]; exact h2⟩
  · exact h
theorem read_kind {l : Ln} {it : It} (h : it.k < 1 ∨ 3 < it.k) : read l it = (l, 1) := by unfold read; rw [if_pos h]
theorem read_low {l : Ln} {it : It} (h : ¬(it.k < 1 ∨ 3 < it.k)) (h2 : it.q ≤ last l) : read l it = (l, 2) := by unfold read; rw [if_neg h, if_pos h2]
theorem read_bad {l : Ln} {it : It} (h : it.k = 1) (h2 : ¬ it.q ≤ last l) (h3 : (addOf l.p it.q it.i it.t it.b).err ≠ 0) : read l it = (l, 2) := by
  unfold read; rw [if_neg (by omega), if_neg h2, if_pos h, if_neg h3]
theorem read_whole {l : Ln} {it : It} (h : it.k = 1) (h2 : ¬ it.q ≤ last l) {p : Pt} {s : List UInt8} (h3 : addOf l.p it.q it.i it.t it.b = ⟨p, s, true, 0⟩) :
    read l it = (⟨l.es ++ [⟨1, if 0 < l.p.got then l.p.seq else it.q, s, [], false⟩], p⟩, 0) := by
  unfold read; rw [if_neg (by omega), if_neg h2, if_pos h, h3, if_pos rfl, if_pos rfl]
theorem read_part {l : Ln} {it : It} (h : it.k = 1) (h2 : ¬ it.q ≤ last l) {p : Pt} {s : List UInt8} (h3 : addOf l.p it.q it.i it.t it.b = ⟨p, s, false, 0⟩) : read l it = (⟨l.es, p⟩, 0) := by
  unfold read; rw [if_neg (by omega), if_neg h2, if_pos h, h3, if_pos rfl, if_neg (by simp)]
theorem read_under {l : Ln} {it : It} (h : it.k = 2 ∨ it.k = 3) (h2 : ¬ it.q ≤ last l) (h3 : 0 < l.p.got) : read l it = (l, 2) := by
  unfold read; rw [if_neg (by omega), if_neg h2, if_neg (by omega), if_pos h3]
theorem read_order {l : Ln} {it : It} (h : it.k = 2 ∨ it.k = 3) (h2 : ¬ it.q ≤ last l) (h3 : ¬ 0 < l.p.got) :
    read l it = (⟨l.es ++ [⟨it.k, it.q, [], if it.k = 2 then it.l else [], decide (it.k = 2) && decide (it.i = 1)⟩], l.p⟩, 0) := by
  unfold read; rw [if_neg (by omega), if_neg h2, if_neg (by omega), if_neg h3]
/-- What is added to a message under way, in one of three ways. -/
theorem add_cases (p : Pt) (q i t : Int) (b : List UInt8) :
    (fits p i t = false ∧ addOf p q i t b = ⟨p, [], false, 2⟩) ∨ (fits p i t = true ∧ (nextP p q t b).got = t ∧ addOf p q i t b = ⟨none_, (nextP p q t b).b, true, 0⟩) ∨
      (fits p i t = true ∧ (nextP p q t b).got ≠ t ∧ addOf p q i t b = ⟨nextP p q t b, [], false, 0⟩) := by
  cases hf : fits p i t with
  | false => exact .inl ⟨rfl, by unfold addOf; rw [if_neg (by simp [hf])]⟩
  | true =>
    by_cases hg : (nextP p q t b).got = t
    · exact .inr (.inl ⟨rfl, hg, by unfold addOf; rw [if_pos hf, if_pos hg]⟩)
    · exact .inr (.inr ⟨rfl, hg, by unfold addOf; rw [if_pos hf, if_neg hg]⟩)
theorem fits_iff {p : Pt} {i t : Int} : fits p i t = true ↔ 1 ≤ t ∧ t ≤ 32 ∧ i = p.got ∧ (p.got = 0 ∨ t = p.total) := by
  unfold fits
  simp only [Bool.and_eq_true, Bool.or_eq_true, decide_eq_true_eq, and_assoc]
theorem next_part {p : Pt} {q i t low : Int} {b : List UInt8} (h : part p low = true) (hf : fits p i t = true) (hg : (nextP p q t b).got ≠ t) (hq : low < q) (hq0 : 0 ≤ low) : part (nextP p q t b) low = true := by
  obtain ⟨f1, f2, f3, f4⟩ := fits_iff.1 hf
  by_cases h0 : p.got = 0
  · have e : nextP p q t b = ⟨q, t, 1, b⟩ := by unfold nextP; rw [if_pos h0]
    rw [e] at hg ⊢
    simp only at hg
    exact part_of ⟨Int.le_refl _, by show (1 : Int) < t; omega, f2, by show 1 ≤ q; omega, hq⟩
  · obtain ⟨a, bb, c, d, ee⟩ := part_got h h0
    have ew : IntKind.i64.wrap (p.got + 1) = p.got + 1 := IntWalk.i64_in _ (by omega)
    have e : nextP p q t b = ⟨p.seq, p.total, p.got + 1, p.b ++ b⟩ := by unfold nextP; rw [if_neg h0, ew]
    rw [e] at hg ⊢
    simp only at hg
    exact part_of ⟨by show 1 ≤ p.got + 1; omega, by show p.got + 1 < p.total; omega, c, d, ee⟩
theorem senders_of {l : List Int} (h : Item.allIn l 63 = true) : senders l = true := by
  unfold Item.allIn Item.win at h
  exact h
/-- An order's entry, and a token's, may be. -/
theorem may_order {it : It} (h : Item.may it = true) (hk : it.k = 2 ∨ it.k = 3) : may ⟨it.k, it.q, [], if it.k = 2 then it.l else [], decide (it.k = 2) && decide (it.i = 1)⟩ = true := by
  unfold Item.may at h
  simp only [Bool.and_eq_true] at h
  obtain ⟨h1, _, h3⟩ := h
  refine may_iff.2 ⟨(Item.win_iff.1 h1).1, ?_, ?_⟩
  · show senders (if it.k = 2 then it.l else []) = true
    rcases hk with hk | hk
    · rw [if_pos hk]
      unfold Item.ask at h3
      rw [if_neg (by omega), if_pos hk] at h3
      unfold Item.askN at h3
      simp only [Bool.and_eq_true] at h3
      have := h3.2.2.2.1
      unfold Item.list at this
      rw [Bool.and_eq_true] at this
      exact senders_of this.2
    · rw [if_neg (by omega)]; rfl
  · unfold kind
    rcases hk with hk | hk
    · simp [hk]
    · simp [hk]
theorem right_read {l : Ln} {it : It} (h : right l = true) (hi : Item.may it = true) : right (read l it).1 = true := by
  by_cases h1 : it.k < 1 ∨ 3 < it.k
  · rw [read_kind h1]; exact h
  by_cases h2 : it.q ≤ last l
  · rw [read_low h1 h2]; exact h
  obtain ⟨r1, r2⟩ := right_iff.1 h
  have hl := last_top h
  have h0 := rises_top r1
  by_cases hk : it.k = 1
  · rcases add_cases l.p it.q it.i it.t it.b with ⟨_, e⟩ | ⟨hf, hg, e⟩ | ⟨hf, hg, e⟩
    · rw [read_bad hk h2 (by rw [e]; show (2 : Int) ≠ 0; decide)]; exact h
    · rw [read_whole hk h2 e]
      refine right_iff.2 ⟨?_, part_none⟩
      show rises 0 (l.es ++ [_]) = true
      rw [rises_snoc, r1]
      simp only [Bool.true_and, Bool.and_eq_true, decide_eq_true_eq]
      by_cases hp : 0 < l.p.got
      · obtain ⟨a, b, c, d, ee⟩ := part_got r2 (by omega)
        rw [if_pos hp]
        exact ⟨may_iff.2 ⟨d, rfl, rfl⟩, ee⟩
      · rw [if_neg hp]
        exact ⟨may_iff.2 ⟨by show 1 ≤ it.q; omega, rfl, rfl⟩, by omega⟩
    · rw [read_part hk h2 e]
      exact right_iff.2 ⟨r1, next_part r2 hf hg (show top 0 l.es < it.q by omega) h0⟩
  · have hk2 : it.k = 2 ∨ it.k = 3 := by omega
    by_cases hp : 0 < l.p.got
    · rw [read_under hk2 h2 hp]; exact h
    · rw [read_order hk2 h2 hp]
      have hp0 : l.p = none_ := part_zero r2 (by have := part_nonneg r2; omega)
      refine right_iff.2 ⟨?_, by show part l.p _ = true; rw [hp0]; rfl⟩
      show rises 0 (l.es ++ [_]) = true
      rw [rises_snoc, r1]
      simp only [Bool.true_and, Bool.and_eq_true, decide_eq_true_eq]
      exact ⟨may_order hi hk2, by omega⟩
/-- What is refused changes nothing; what is read lays one entry at most behind the others. -/
theorem read_stays (l : Ln) (it : It) : ((read l it).2 ≠ 0 → (read l it).1 = l) ∧ ((read l it).1.es = l.es ∨ ∃ e, (read l it).1.es = l.es ++ [e]) := by
  unfold read
  split
  · exact ⟨fun _ => rfl, .inl rfl⟩
  split
  · exact ⟨fun _ => rfl, .inl rfl⟩
  split
  · split
    · split
      · exact ⟨fun h => absurd rfl h, .inr ⟨_, rfl⟩⟩
      · exact ⟨fun h => absurd rfl h, .inl rfl⟩
    · exact ⟨fun _ => rfl, .inl rfl⟩
  split
  · exact ⟨fun _ => rfl, .inl rfl⟩
  · exact ⟨fun h => absurd rfl h, .inr ⟨_, rfl⟩⟩
theorem read_err (l : Ln) (it : It) : (read l it).2 = 0 ∨ (read l it).2 = 1 ∨ (read l it).2 = 2 := by
  unfold read
  split
  · exact .inr (.inl rfl)
  split
  · exact .inr (.inr rfl)
  split
  · split
    · split
      · exact .inl rfl
      · exact .inl rfl
    · exact .inr (.inr rfl)
  split
  · exact .inr (.inr rfl)
  · exact .inl rfl
/-- Of what stays when some are taken away, each stands where so many stood ahead of it. -/
theorem filter_at {α : Type} (f : α → Bool) (l : List α) (i : Nat) (x : α) (hx : l[i]? = some x) (hf : f x = true) : (l.filter f)[((l.take i).filter f).length]? = some x := by
  induction l generalizing i with
  | nil => simp at hx
  | cons y l ih =>
    cases i with
    | zero =>
      simp only [List.getElem?_cons_zero, Option.some.injEq] at hx
      subst hx
      rw [List.filter_cons, if_pos hf]
      rfl
    | succ i =>
      simp only [List.getElem?_cons_succ] at hx
      rw [List.take_succ_cons, List.filter_cons, List.filter_cons]
      cases hy : f y with
      | true => simpa using ih i hx
      | false => simpa using ih i hx
theorem filter_step {α : Type} (f : α → Bool) (l : List α) (i : Nat) (x : α) (hx : l[i]? = some x) : ((l.take (i + 1)).filter f).length = ((l.take i).filter f).length + (if f x = true then 1 else 0) := by
  rw [List.take_add_one, hx, List.filter_append, List.length_append]
  cases hf : f x <;> simp [hf]
end Go.Proofs.Ytmlmkkfieeaejaa.Lane
