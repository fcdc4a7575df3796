/- Rows of counts in lists: joined place by place, which is below which, the least, sums that go round. No program is named here. -/
import Derived.IntWalk
set_option maxRecDepth 100000
namespace Go.Proofs.Ytghcpfdmdhdcgaa
open Go.RowKit
set_option linter.unusedVariables false

/-- The greater one, the lesser one, as the model's own max and min tell them. -/
def big (x y : Int) : Int := if y > x then y else x
def les (x y : Int) : Int := if y < x then y else x
theorem big_comm (x y : Int) : big x y = big y x := by unfold big; split <;> split <;> omega
theorem les_comm (x y : Int) : les x y = les y x := by unfold les; split <;> split <;> omega
theorem big_assoc (x y z : Int) : big (big x y) z = big x (big y z) := by unfold big; repeat' split <;> omega
theorem les_assoc (x y z : Int) : les (les x y) z = les x (les y z) := by unfold les; repeat' split <;> omega
theorem big_self (x : Int) : big x x = x := by unfold big; split <;> omega
theorem les_self (x : Int) : les x x = x := by unfold les; split <;> omega
theorem big_les (x y : Int) : big x y + les x y = x + y := by unfold big les; split <;> split <;> omega
theorem big_iff (x y z : Int) : big x y ≤ z ↔ x ≤ z ∧ y ≤ z := by unfold big; split <;> omega
theorem les_iff (x y z : Int) : z ≤ les x y ↔ z ≤ x ∧ z ≤ y := by unfold les; split <;> omega

/-- What a row has at a place; one that it doesn't have counts as 0. -/
def at0 (l : List Int) (i : Nat) : Int := (l[i]?).getD 0
def atI (l : List Int) (i : Int) : Int := if i < 0 then 0 else at0 l i.toNat
theorem at0_of {l : List Int} {i : Nat} {x : Int} (h : l[i]? = some x) : at0 l i = x := by unfold at0; rw [h]; rfl
theorem at0_beyond {l : List Int} {i : Nat} (h : l.length ≤ i) : at0 l i = 0 := by unfold at0; rw [List.getElem?_eq_none h]; rfl
theorem atI_nat (l : List Int) (i : Nat) : atI l (i : Int) = at0 l i := by
  unfold atI
  rw [if_neg (by omega), Int.toNat_natCast]
theorem at_ext {a b : List Int} (hl : a.length = b.length) (h : ∀ i, at0 a i = at0 b i) : a = b := by
  apply List.ext_getElem hl
  intro i h1 h2
  have := h i
  rwa [at0_of (List.getElem?_eq_getElem h1), at0_of (List.getElem?_eq_getElem h2)] at this

/-- Two rows joined. -/
def jn (f : Int → Int → Int) (a b : List Int) : List Int := (List.range (max a.length b.length)).map fun i => f (at0 a i) (at0 b i)
theorem jn_length (f : Int → Int → Int) (a b : List Int) : (jn f a b).length = max a.length b.length := by simp [jn]
theorem jn_get (f : Int → Int → Int) (a b : List Int) {i : Nat} (h : i < max a.length b.length) : (jn f a b)[i]? = some (f (at0 a i) (at0 b i)) := by
  simp only [jn, List.getElem?_map, List.getElem?_range h, Option.map_some]
theorem at0_jn {f : Int → Int → Int} (hf : f 0 0 = 0) (a b : List Int) (i : Nat) : at0 (jn f a b) i = f (at0 a i) (at0 b i) := by
  rcases Nat.lt_or_ge i (max a.length b.length) with h | h
  · exact at0_of (jn_get f a b h)
  · rw [at0_beyond (by rw [jn_length]; exact h), at0_beyond (l := a) (by omega), at0_beyond (l := b) (by omega), hf]
abbrev mx (a b : List Int) : List Int := jn big a b
abbrev mn (a b : List Int) : List Int := jn les a b
theorem at0_mx (a b : List Int) (i : Nat) : at0 (mx a b) i = big (at0 a i) (at0 b i) := at0_jn rfl a b i
theorem at0_mn (a b : List Int) (i : Nat) : at0 (mn a b) i = les (at0 a i) (at0 b i) := at0_jn rfl a b i
theorem mx_comm (a b : List Int) : mx a b = mx b a :=
  at_ext (by rw [jn_length, jn_length]; omega) fun i => by rw [at0_mx, at0_mx, big_comm]
theorem mn_comm (a b : List Int) : mn a b = mn b a :=
  at_ext (by rw [jn_length, jn_length]; omega) fun i => by rw [at0_mn, at0_mn, les_comm]
theorem mx_assoc (a b c : List Int) : mx (mx a b) c = mx a (mx b c) :=
  at_ext (by simp only [jn_length]; omega) fun i => by simp only [at0_mx, big_assoc]
theorem mn_assoc (a b c : List Int) : mn (mn a b) c = mn a (mn b c) :=
  at_ext (by simp only [jn_length]; omega) fun i => by simp only [at0_mn, les_assoc]
theorem mx_self (a : List Int) : mx a a = a := at_ext (by rw [jn_length]; omega) fun i => by rw [at0_mx, big_self]
theorem mn_self (a : List Int) : mn a a = a := at_ext (by rw [jn_length]; omega) fun i => by rw [at0_mn, les_self]

/-- Is no place of a row greater than another one's? -/
def blw (a b : List Int) : Bool := (List.range (max a.length b.length)).all fun i => decide (at0 a i ≤ at0 b i)
theorem blw_iff (a b : List Int) : blw a b = true ↔ ∀ i, at0 a i ≤ at0 b i := by
  simp only [blw, List.all_eq_true, List.mem_range, decide_eq_true_eq]
  constructor
  · intro h i
    rcases Nat.lt_or_ge i (max a.length b.length) with hi | hi
    · exact h i hi
    · rw [at0_beyond (l := a) (by omega), at0_beyond (l := b) (by omega)]; omega
  · exact fun h i _ => h i
theorem blw_all {a b : List Int} {n : Nat} (hn : max a.length b.length ≤ n) (h : ∀ i, i < n → at0 a i ≤ at0 b i) : blw a b = true := by
  simp only [blw, List.all_eq_true, List.mem_range, decide_eq_true_eq]
  exact fun i hi => h i (by omega)
theorem blw_not {a b : List Int} {i : Nat} (h : at0 a i > at0 b i) : blw a b = false := by
  rw [Bool.eq_false_iff]
  intro hb
  have := (blw_iff a b).1 hb i
  omega
theorem blw_self (a : List Int) : blw a a = true := (blw_iff a a).2 fun i => Int.le_refl _
theorem blw_mx1 (a b : List Int) : blw a (mx a b) = true := (blw_iff _ _).2 fun i => by rw [at0_mx]; exact ((big_iff _ _ _).1 (Int.le_refl _)).1
theorem blw_mx2 (a b : List Int) : blw b (mx a b) = true := (blw_iff _ _).2 fun i => by rw [at0_mx]; exact ((big_iff _ _ _).1 (Int.le_refl _)).2
theorem blw_mn1 (a b : List Int) : blw (mn a b) a = true := (blw_iff _ _).2 fun i => by rw [at0_mn]; exact ((les_iff _ _ _).1 (Int.le_refl _)).1
theorem blw_mn2 (a b : List Int) : blw (mn a b) b = true := (blw_iff _ _).2 fun i => by rw [at0_mn]; exact ((les_iff _ _ _).1 (Int.le_refl _)).2
theorem blw_mx (a b c : List Int) : blw (mx a b) c = (blw a c && blw b c) := by
  rw [Bool.eq_iff_iff, Bool.and_eq_true, blw_iff, blw_iff, blw_iff]
  simp only [at0_mx, big_iff]
  exact ⟨fun h => ⟨fun i => (h i).1, fun i => (h i).2⟩, fun h i => ⟨h.1 i, h.2 i⟩⟩
theorem blw_mn (a b c : List Int) : blw c (mn a b) = (blw c a && blw c b) := by
  rw [Bool.eq_iff_iff, Bool.and_eq_true, blw_iff, blw_iff, blw_iff]
  simp only [at0_mn, les_iff]
  exact ⟨fun h => ⟨fun i => (h i).1, fun i => (h i).2⟩, fun h i => ⟨h.1 i, h.2 i⟩⟩
theorem blw_trans {a b c : List Int} (h1 : blw a b = true) (h2 : blw b c = true) : blw a c = true :=
  (blw_iff _ _).2 fun i => Int.le_trans ((blw_iff _ _).1 h1 i) ((blw_iff _ _).1 h2 i)
theorem blw_both {a b : List Int} (h1 : blw a b = true) (h2 : blw b a = true) : mx a b = mn a b :=
  at_ext (by rw [jn_length, jn_length]) fun i => by
    have e : at0 a i = at0 b i := Int.le_antisymm ((blw_iff _ _).1 h1 i) ((blw_iff _ _).1 h2 i)
    rw [at0_mx, at0_mn, e, big_self, les_self]

/-- A row being filled. -/
theorem fill_set {L : List Int} {n j : Nat} {x : Int} (hL : L.length = n) (hj : L[j]? = some x) : (L.take j ++ List.replicate (n - j) 0).set j x = L.take (j + 1) ++ List.replicate (n - (j + 1)) 0 := by
  have hlt : j < n := by
    rcases Nat.lt_or_ge j n with h | h
    · exact h
    · rw [List.getElem?_eq_none (by omega)] at hj; cases hj
  rw [List.set_append_right _ _ (by rw [List.length_take]; omega), List.length_take, show j - min j L.length = 0 from by omega,
    show n - j = n - (j + 1) + 1 from by omega, List.replicate_succ, List.set_cons_zero, List.take_add_one, hj]
  simp

/-- The least of what rows have at a place. -/
def lst (ls : List (List Int)) (i : Int) : Int := match ls with
  | [] => 0
  | r :: rs => rs.foldl (fun m q => les m (atI q i)) (atI r i)
theorem lst_one (r : List Int) (i : Int) : lst [r] i = atI r i := rfl
theorem lst_snoc (ls : List (List Int)) (r : List Int) (i : Int) (h : ls ≠ []) : lst (ls ++ [r]) i = les (lst ls i) (atI r i) := by
  match ls, h with
  | q :: qs, _ => simp [lst, List.foldl_append]
theorem lst_mem (ls : List (List Int)) (i : Int) (h : ls ≠ []) : ∃ r ∈ ls, atI r i = lst ls i := by
  match ls, h with
  | q :: qs, _ =>
    have key : ∀ (qs : List (List Int)) (m : Int), (qs.foldl (fun m q => les m (atI q i)) m) = m ∨ ∃ r ∈ qs, atI r i = qs.foldl (fun m q => les m (atI q i)) m := by
      intro qs
      induction qs with
      | nil => exact fun m => .inl rfl
      | cons p ps ih =>
        intro m
        simp only [List.foldl_cons]
        rcases ih (les m (atI p i)) with h | ⟨r, hr, h⟩
        · rw [h]
          unfold les
          split
          · exact .inr ⟨p, List.mem_cons_self, rfl⟩
          · exact .inl rfl
        · exact .inr ⟨r, List.mem_cons_of_mem _ hr, h⟩
    rcases key qs (atI q i) with h | ⟨r, hr, h⟩
    · exact ⟨q, List.mem_cons_self, h.symm⟩
    · exact ⟨r, List.mem_cons_of_mem _ hr, h⟩
theorem lst_le {ls : List (List Int)} {r : List Int} (i : Int) (h : r ∈ ls) : lst ls i ≤ atI r i := by
  match ls, h with
  | q :: qs, h =>
    have key : ∀ (qs : List (List Int)) (m : Int), (qs.foldl (fun m q => les m (atI q i)) m) ≤ m ∧ ∀ r ∈ qs, (qs.foldl (fun m q => les m (atI q i)) m) ≤ atI r i := by
      intro qs
      induction qs with
      | nil => exact fun m => ⟨Int.le_refl _, fun r hr => by cases hr⟩
      | cons p ps ih =>
        intro m
        simp only [List.foldl_cons]
        obtain ⟨h1, h2⟩ := ih (les m (atI p i))
        have hl := (les_iff m (atI p i) _).1 (Int.le_refl _)
        refine ⟨by omega, fun r hr => ?_⟩
        rcases List.mem_cons.1 hr with rfl | hr
        · omega
        · exact h2 r hr
    rcases List.mem_cons.1 h with rfl | hr
    · exact (key qs _).1
    · exact (key qs _).2 r hr
theorem lst_ge {ls ms : List (List Int)} {i : Int} (h : ls ≠ []) (hm : ∀ r ∈ ls, ∃ q ∈ ms, atI q i ≤ atI r i) : lst ms i ≤ lst ls i := by
  obtain ⟨r, hr, e⟩ := lst_mem ls i h
  obtain ⟨q, hq, hle⟩ := hm r hr
  rw [← e]
  exact Int.le_trans (lst_le i hq) hle
theorem lst_take (ls : List (List Int)) (i : Int) {k : Nat} (h : ls.take k ≠ []) : lst ls i ≤ lst (ls.take k) i :=
  lst_ge h fun r hr => ⟨r, List.mem_of_mem_take hr, Int.le_refl _⟩
theorem lst_drop (ls : List (List Int)) (i : Int) {k : Nat} (h : ls.drop k ≠ []) : lst ls i ≤ lst (ls.drop k) i :=
  lst_ge h fun r hr => ⟨r, List.mem_of_mem_drop hr, Int.le_refl _⟩
theorem atI_mx1 (a b : List Int) (i : Int) : atI a i ≤ atI (mx a b) i := by
  unfold atI
  split
  · exact Int.le_refl _
  · rw [at0_mx]; exact ((big_iff _ _ _).1 (Int.le_refl _)).1
theorem lst_set (ls : List (List Int)) (i : Int) (j : Nat) {r : List Int} (hr : ls[j]? = some r) (more : List Int) : lst ls i ≤ lst (ls.set j (mx r more)) i := by
  refine lst_ge ?_ fun q hq => ?_
  · intro h
    have := congrArg List.length h
    rw [List.length_set] at this
    rw [List.eq_nil_of_length_eq_zero this] at hr
    cases hr
  · rcases List.mem_or_eq_of_mem_set hq with h | rfl
    · exact ⟨q, h, Int.le_refl _⟩
    · exact ⟨r, List.mem_of_getElem? hr, atI_mx1 _ _ _⟩

/-- The sum, which goes round. -/
def sm (l : List Int) : Int := l.foldl (fun s n => wrap64 (s + n)) 0
theorem sm_snoc (l : List Int) (x : Int) : sm (l ++ [x]) = wrap64 (sm l + x) := by simp [sm, List.foldl_append]
theorem w_left (a b : Int) : wrap64 (wrap64 a + b) = wrap64 (a + b) := by unfold wrap64; omega
theorem w_right (a b : Int) : wrap64 (a + wrap64 b) = wrap64 (a + b) := by unfold wrap64; omega
theorem w_zero : wrap64 0 = 0 := by unfold wrap64; omega
theorem sm_from (l : List Int) : ∀ s, l.foldl (fun s n => wrap64 (s + n)) (wrap64 s) = wrap64 (s + l.sum) := by
  induction l with
  | nil => intro s; simp
  | cons x l ih =>
    intro s
    simp only [List.foldl_cons, List.sum_cons]
    rw [w_left, ih]
    congr 1
    omega
theorem sm_eq (l : List Int) : sm l = wrap64 l.sum := by
  have := sm_from l 0
  rw [w_zero] at this
  unfold sm
  rw [this]
  congr 1
  omega
theorem sm_append (a b : List Int) : sm (a ++ b) = wrap64 (sm a + sm b) := by
  rw [sm_eq, sm_eq, sm_eq, w_left, w_right, List.sum_append]
theorem sum_add (l : List Nat) (f g : Nat → Int) : (l.map fun i => f i + g i).sum = (l.map f).sum + (l.map g).sum := by
  induction l with
  | nil => rfl
  | cons x l ih => simp only [List.map_cons, List.sum_cons, ih]; omega
theorem sum_at (a : List Int) : ∀ n, a.length ≤ n → ((List.range n).map (at0 a)).sum = a.sum := by
  induction a with
  | nil =>
    intro n _
    have : ∀ l : List Nat, (l.map (at0 [])).sum = 0 := by
      intro l
      induction l with
      | nil => rfl
      | cons x l ih => rw [List.map_cons, List.sum_cons, ih]; rfl
    rw [this]; rfl
  | cons x a ih =>
    intro n hn
    match n, hn with
    | n + 1, hn =>
      rw [List.range_succ_eq_map, List.map_cons, List.sum_cons, List.sum_cons, List.map_map]
      rw [show (at0 (x :: a)) ∘ Nat.succ = at0 a from funext fun i => rfl, ih n (by simpa using hn)]
      rfl
theorem sm_order (a b : List Int) : wrap64 (sm (mx a b) + sm (mn a b)) = wrap64 (sm a + sm b) := by
  rw [sm_eq, sm_eq, sm_eq, sm_eq, w_left, w_right, w_left, w_right]
  congr 1
  unfold mx mn jn
  rw [← sum_add]
  simp only [big_les]
  rw [sum_add, sum_at a _ (by omega), sum_at b _ (by omega)]
end Go.Proofs.Ytghcpfdmdhdcgaa
