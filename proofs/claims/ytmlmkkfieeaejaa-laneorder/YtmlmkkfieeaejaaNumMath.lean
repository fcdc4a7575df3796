/- Plain mathematics of numbers as bytes, the highest first: what is written is read, what is read is written, the order of the bytes is that of the numbers; rows. No program is named here. -/
import Derived.WalkKit
set_option maxRecDepth 100000
namespace Go.Proofs.Ytmlmkkfieeaejaa.Num
set_option linter.unusedVariables false

/-- So many bytes, the highest first. -/
def be : Nat → Nat → List UInt8
  | 0, _ => []
  | k + 1, n => be k (n / 256) ++ [UInt8.ofNat n]
/-- The number that bytes are. -/
def val (l : List UInt8) : Nat := l.foldl (fun s x => 256 * s + x.toNat) 0

theorem be_length (k n : Nat) : (be k n).length = k := by
  induction k generalizing n with
  | zero => rfl
  | succ k ih => simp [be, ih]
theorem val_snoc (l : List UInt8) (x : UInt8) : val (l ++ [x]) = 256 * val l + x.toNat := by simp [val]
theorem u8_ofNat (n : Nat) : (UInt8.ofNat n).toNat = n % 256 := by simp
theorem byte_lt (x : UInt8) : x.toNat < 256 := x.toNat_lt
theorem val_be (k n : Nat) : val (be k n) = n % 256 ^ k := by
  induction k generalizing n with
  | zero => simp [be, val, Nat.mod_one]
  | succ k ih =>
    rw [be, val_snoc, ih, u8_ofNat, Nat.pow_succ, Nat.mul_comm (256 ^ k) 256, Nat.mod_mul]
    omega
theorem val_be_of {k n : Nat} (h : n < 256 ^ k) : val (be k n) = n := by rw [val_be, Nat.mod_eq_of_lt h]
theorem snoc_ind {P : List UInt8 → Prop} (h0 : P []) (h1 : ∀ l x, P l → P (l ++ [x])) (l : List UInt8) : P l := by
  have : ∀ n (l : List UInt8), l.length = n → P l := by
    intro n
    induction n with
    | zero => intro l hl; rw [List.eq_nil_of_length_eq_zero hl]; exact h0
    | succ n ih =>
      intro l hl
      have hne : l ≠ [] := by intro e; subst e; simp at hl
      rw [← List.dropLast_concat_getLast hne]
      exact h1 _ _ (ih _ (by simp [hl]))
  exact this _ l rfl
theorem val_lt (l : List UInt8) : val l < 256 ^ l.length := by
  induction l using snoc_ind with
  | h0 => simp [val]
  | h1 l x ih =>
    rw [val_snoc, List.length_append, List.length_singleton, Nat.pow_succ]
    have := byte_lt x
    omega
theorem be_val (l : List UInt8) : be l.length (val l) = l := by
  induction l using snoc_ind with
  | h0 => rfl
  | h1 l x ih =>
    have hx := byte_lt x
    rw [val_snoc, List.length_append, List.length_singleton, be]
    rw [show (256 * val l + x.toNat) / 256 = val l from by omega, ih]
    congr 1
    rw [List.cons.injEq]
    refine ⟨?_, rfl⟩
    apply UInt8.toNat_inj.1
    rw [u8_ofNat]
    omega
theorem be_get {k i : Nat} (n : Nat) (h : i < k) : (be k n)[i]? = some (UInt8.ofNat (n / 256 ^ (k - 1 - i))) := by
  induction k generalizing n with
  | zero => omega
  | succ k ih =>
    rw [be]
    by_cases hi : i < k
    · rw [List.getElem?_append_left (by rw [be_length]; exact hi), ih _ hi, Nat.div_div_eq_div_mul, show k + 1 - 1 - i = (k - 1 - i) + 1 from by omega, Nat.pow_succ, Nat.mul_comm]
    · have : i = k := by omega
      subst this
      rw [List.getElem?_append_right (by rw [be_length]; omega), be_length]
      simp
theorem be_inj {k n m : Nat} (hn : n < 256 ^ k) (hm : m < 256 ^ k) : be k n = be k m ↔ n = m := by
  constructor
  · intro h
    have := congrArg val h
    rwa [val_be_of hn, val_be_of hm] at this
  · rintro rfl; rfl

/-- The order of bytes. -/
theorem less_snoc (l m : List UInt8) (x y : UInt8) (h : l.length = m.length) : Op.bytesLess (l ++ [x]) (m ++ [y]) = (Op.bytesLess l m || (decide (l = m) && decide (x.toNat < y.toNat))) := by
  induction l generalizing m with
  | nil =>
    have : m = [] := List.eq_nil_of_length_eq_zero (by simpa using h.symm)
    subst this
    simp [Op.bytesLess, UInt8.lt_iff_toNat_lt]
  | cons a l ih =>
    cases m with
    | nil => simp at h
    | cons b m =>
      simp only [List.cons_append, Op.bytesLess]
      rw [ih m (by simpa using h)]
      by_cases hab : a = b
      · subst hab; simp
      · have : (a == b) = false := by simpa using hab
        simp [this, hab]
theorem less_be {k n m : Nat} (hn : n < 256 ^ k) (hm : m < 256 ^ k) : Op.bytesLess (be k n) (be k m) = decide (n < m) := by
  induction k generalizing n m with
  | zero => simp at hn hm; subst hn; subst hm; simp [be, Op.bytesLess]
  | succ k ih =>
    rw [Nat.pow_succ] at hn hm
    have h1 : n / 256 < 256 ^ k := by rw [Nat.div_lt_iff_lt_mul (by omega)]; exact hn
    have h2 : m / 256 < 256 ^ k := by rw [Nat.div_lt_iff_lt_mul (by omega)]; exact hm
    rw [be, be, less_snoc _ _ _ _ (by rw [be_length, be_length]), ih h1 h2, Bool.eq_iff_iff]
    simp only [Bool.or_eq_true, Bool.and_eq_true, decide_eq_true_eq, be_inj h1 h2, u8_ofNat]
    omega

/-- The greatest number of a width; below 0: there is no such one. -/
def most (k : Int) : Int := if k = 1 then 255 else if k = 2 then 65535 else if k = 8 then 4611686018427387904 else -1
def fits (n k : Int) : Bool := decide (0 ≤ n) && decide (n ≤ most k)
def put (n k : Int) : List UInt8 := if fits n k = true then be k.toNat n.toNat else []
theorem most_cases (k : Int) : (k = 1 ∧ most k = 255) ∨ (k = 2 ∧ most k = 65535) ∨ (k = 8 ∧ most k = 4611686018427387904) ∨ (k ≠ 1 ∧ k ≠ 2 ∧ k ≠ 8 ∧ most k = -1) := by
  unfold most
  split
  · simp_all
  · split
    · simp_all
    · split
      · simp_all
      · simp_all
/-- A width, as a natural number. -/
def IsW (k : Nat) : Prop := k = 1 ∨ k = 2 ∨ k = 8
theorem isW_of {k : Int} (h : ¬ most k < 0) : ∃ j : Nat, k = j ∧ IsW j := by
  rcases most_cases k with ⟨rfl, _⟩ | ⟨rfl, _⟩ | ⟨rfl, _⟩ | ⟨_, _, _, h'⟩
  · exact ⟨1, rfl, .inl rfl⟩
  · exact ⟨2, rfl, .inr (.inl rfl)⟩
  · exact ⟨8, rfl, .inr (.inr rfl)⟩
  · omega
theorem most_lt {k : Nat} (h : IsW k) : 0 ≤ most k ∧ most k < (256 ^ k : Nat) := by
  rcases h with rfl | rfl | rfl <;> decide
theorem IsW.pos {k : Nat} (h : IsW k) : 1 ≤ k ∧ k ≤ 8 := by rcases h with rfl | rfl | rfl <;> omega
theorem fits_nat {n : Int} {k : Nat} (hk : IsW k) (h : fits n k = true) : ∃ m : Nat, n = m ∧ m < 256 ^ k ∧ (m : Int) ≤ most k ∧ m ≤ 4611686018427387904 := by
  simp only [fits, Bool.and_eq_true, decide_eq_true_eq] at h
  have hl := most_lt hk
  refine ⟨n.toNat, by omega, ?_, by omega, ?_⟩
  · have : ((n.toNat : Nat) : Int) < (256 ^ k : Nat) := by omega
    exact_mod_cast this
  · have : most k ≤ 4611686018427387904 := by rcases hk with rfl | rfl | rfl <;> decide
    omega
theorem fits_width {n k : Int} (h : fits n k = true) : ∃ j : Nat, k = j ∧ IsW j := by
  simp only [fits, Bool.and_eq_true, decide_eq_true_eq] at h
  exact isW_of (by omega)
theorem put_length {n k : Int} (h : fits n k = true) : (put n k).length = k.toNat := by rw [put, if_pos h, be_length]
theorem put_not {n k : Int} (h : fits n k = false) : put n k = [] := by rw [put, if_neg (by simp [h])]

/-- The number that bytes begin with: its code, itself, what is behind it. -/
def code (l : List UInt8) (k : Int) : Int := if most k < 0 then 1 else if l.length < k.toNat then 2 else if most k < (val (l.take k.toNat) : Int) then 2 else 0
def num (l : List UInt8) (k : Int) : Nat := if code l k = 0 then val (l.take k.toNat) else 0
def rest (l : List UInt8) (k : Int) : List UInt8 := if code l k = 0 then l.drop k.toNat else []
theorem code_cases (l : List UInt8) (k : Int) : (code l k = 1 ∧ most k < 0) ∨ (code l k = 2 ∧ ¬ most k < 0) ∨ (code l k = 0 ∧ ¬ most k < 0 ∧ k.toNat ≤ l.length ∧ (val (l.take k.toNat) : Int) ≤ most k) := by
  unfold code
  by_cases h : most k < 0
  · simp [h]
  · by_cases h2 : l.length < k.toNat
    · simp [h, h2]
    · by_cases h3 : most k < (val (l.take k.toNat) : Int)
      · simp [h, h2, h3]
      · simp only [if_neg h, if_neg h2, if_neg h3]
        exact .inr (.inr ⟨trivial, h, by omega, by omega⟩)
theorem num_le (l : List UInt8) (k : Int) : num l k ≤ 4611686018427387904 := by
  unfold num
  split
  · rename_i h
    rcases code_cases l k with ⟨h1, _⟩ | ⟨h1, _⟩ | ⟨_, _, _, h4⟩
    · omega
    · omega
    · rcases most_cases k with ⟨_, e⟩ | ⟨_, e⟩ | ⟨_, e⟩ | ⟨_, _, _, e⟩ <;> omega
  · omega
theorem code_bad {l : List UInt8} {k : Int} (h : code l k ≠ 0) : num l k = 0 ∧ rest l k = [] := by unfold num rest; simp [h]
theorem num_fits {l : List UInt8} {k : Int} (h : code l k = 0) : fits (num l k) k = true := by
  rcases code_cases l k with ⟨h1, _⟩ | ⟨h1, _⟩ | ⟨_, _, _, h4⟩
  · omega
  · omega
  · unfold num
    rw [if_pos h]
    simp only [fits, Bool.and_eq_true, decide_eq_true_eq]
    omega
theorem rest_length {l : List UInt8} {k : Int} (h : code l k = 0) : (rest l k).length = l.length - k.toNat := by rw [rest, if_pos h, List.length_drop]
/-- What is taken, put again, is what stood there. -/
theorem put_num {l : List UInt8} {k : Int} (h : code l k = 0) : put (num l k) k ++ rest l k = l := by
  have hf := num_fits h
  rcases code_cases l k with ⟨h1, _⟩ | ⟨h1, _⟩ | ⟨_, _, h3, h4⟩
  · omega
  · omega
  · rw [put, if_pos hf, rest, if_pos h, num, if_pos h, Int.toNat_natCast]
    have hl : (l.take k.toNat).length = k.toNat := by rw [List.length_take]; omega
    have := be_val (l.take k.toNat)
    rw [hl] at this
    rw [this, List.take_append_drop]
/-- What is put is taken, with whatever stands behind it. -/
theorem put_back {n k : Int} (h : fits n k = true) (tail : List UInt8) : code (put n k ++ tail) k = 0 ∧ (num (put n k ++ tail) k : Int) = n ∧ rest (put n k ++ tail) k = tail := by
  obtain ⟨j, rfl, hj⟩ := fits_width h
  obtain ⟨m, rfl, hm, hm2, _⟩ := fits_nat hj h
  have hl : (put (m : Int) (j : Int)).length = j := by rw [put_length h]; simp
  have ht : (put (m : Int) (j : Int) ++ tail).take j = put (m : Int) (j : Int) := List.take_left' hl
  have hd : (put (m : Int) (j : Int) ++ tail).drop j = tail := List.drop_left' hl
  have hv : val (put (m : Int) (j : Int)) = m := by rw [put, if_pos h, Int.toNat_natCast, Int.toNat_natCast, val_be_of hm]
  have hk := most_lt hj
  have hc : code (put (m : Int) (j : Int) ++ tail) j = 0 := by
    unfold code
    rw [if_neg (by omega), Int.toNat_natCast, if_neg (by rw [List.length_append, hl]; omega), ht, hv, if_neg (by omega)]
  refine ⟨hc, ?_, ?_⟩
  · rw [num, if_pos hc, Int.toNat_natCast, ht, hv]
  · rw [rest, if_pos hc, Int.toNat_natCast, hd]

/-- A row's bytes. -/
def putRow (l : List Int) (k : Int) : List UInt8 := if (l.all fun n => fits n k) = true then (l.map fun n => put n k).flatten else []
/-- Take, so many times. -/
def takes (k : Int) : Nat → List UInt8 → Option (List Int × List UInt8)
  | 0, l => some ([], l)
  | m + 1, l => if code l k = 0 then (takes k m (rest l k)).map (fun p => ((num l k : Int) :: p.1, p.2)) else none
theorem takes_length {k : Int} : ∀ {m : Nat} {l : List UInt8} {a : List Int} {r : List UInt8}, takes k m l = some (a, r) → a.length = m := by
  intro m
  induction m with
  | zero => intro l a r h; simp [takes] at h; simp [h.1]
  | succ m ih =>
    intro l a r h
    simp only [takes] at h
    split at h
    · obtain ⟨⟨a', r'⟩, h', e⟩ := Option.map_eq_some_iff.1 h
      simp only [Prod.mk.injEq] at e
      rw [← e.1, List.length_cons, ih h']
    · cases h
theorem takes_rest {k : Int} : ∀ {m : Nat} {l : List UInt8} {a : List Int} {r : List UInt8}, takes k m l = some (a, r) → m * k.toNat + r.length = l.length := by
  intro m
  induction m with
  | zero => intro l a r h; simp [takes] at h; rw [← h.2]; omega
  | succ m ih =>
    intro l a r h
    simp only [takes] at h
    split at h
    · rename_i hc
      obtain ⟨⟨a', r'⟩, h', e⟩ := Option.map_eq_some_iff.1 h
      simp only [Prod.mk.injEq] at e
      have h1 := ih h'
      rw [rest_length hc] at h1
      rcases code_cases l k with ⟨hx, _⟩ | ⟨hx, _⟩ | ⟨_, _, h3, _⟩
      · omega
      · omega
      · rw [← e.2, Nat.succ_mul]; omega
    · cases h
/-- Too few bytes. -/
theorem takes_none {k : Int} {m : Nat} {l : List UInt8} (h : l.length < m * k.toNat) : takes k m l = none := by
  cases e : takes k m l with
  | none => rfl
  | some p => have := takes_rest (a := p.1) (r := p.2) e; omega
/-- In two parts. -/
theorem takes_add (k : Int) (q : Nat) : ∀ (p : Nat) (l : List UInt8), takes k (p + q) l = (takes k p l).bind fun x => (takes k q x.2).map fun y => (x.1 ++ y.1, y.2) := by
  intro p
  induction p with
  | zero => intro l; simp [takes]
  | succ p ih =>
    intro l
    rw [show p + 1 + q = (p + q) + 1 from by omega]
    simp only [takes]
    by_cases hc : code l k = 0
    · rw [if_pos hc, if_pos hc, ih]
      cases h1 : takes k p (rest l k) with
      | none => rfl
      | some x =>
        simp only [Option.map_some, Option.bind_some]
        cases h2 : takes k q x.2 with
        | none => rfl
        | some y => rfl
    · rw [if_neg hc, if_neg hc]; rfl
theorem takes_put {k : Int} (tail : List UInt8) : ∀ (l : List Int), (l.all fun n => fits n k) = true → takes k l.length ((l.map fun n => put n k).flatten ++ tail) = some (l, tail) := by
  intro l
  induction l with
  | nil => intro _; rfl
  | cons n l ih =>
    intro h
    simp only [List.all_cons, Bool.and_eq_true] at h
    simp only [List.map_cons, List.flatten_cons, List.length_cons, takes, List.append_assoc]
    obtain ⟨h1, h2, h3⟩ := put_back h.1 ((l.map fun n => put n k).flatten ++ tail)
    rw [if_pos h1, h3, ih h.2, h2]
    rfl
theorem flat_length {k : Int} : ∀ (l : List Int), (l.all fun n => fits n k) = true → (l.map fun n => put n k).flatten.length = k.toNat * l.length := by
  intro l
  induction l with
  | nil => intro _; simp
  | cons n l ih =>
    intro h
    simp only [List.all_cons, Bool.and_eq_true] at h
    simp only [List.map_cons, List.flatten_cons, List.length_append, List.length_cons, put_length h.1, ih h.2, Nat.mul_succ]
    omega
theorem putRow_append (a c : List Int) (k : Int) (ha : (a.all fun n => fits n k) = true) (hc : (c.all fun n => fits n k) = true) : putRow (a ++ c) k = putRow a k ++ putRow c k := by
  unfold putRow
  rw [if_pos ha, if_pos hc, if_pos (by rw [List.all_append, ha, hc]; rfl), List.map_append, List.flatten_append]
theorem putRow_one (n k : Int) : putRow [n] k = put n k := by
  unfold putRow
  by_cases h : fits n k = true
  · simp [h]
  · simp [h, put]
/-- So many of a row are taken: these, and that is left. -/
def Tk (k : Int) (m : Nat) (l : List UInt8) (j : Nat) (acc : List Int) (r : List UInt8) : Prop :=
  acc.length = j ∧ takes k m l = (takes k (m - j) r).map fun p => (acc ++ p.1, p.2)
theorem Tk.zero (k : Int) (m : Nat) (l : List UInt8) : Tk k m l 0 [] l := by
  refine ⟨rfl, ?_⟩
  rw [Nat.sub_zero]
  cases takes k m l with
  | none => rfl
  | some p => rfl
theorem Tk.succ {k : Int} {m : Nat} {l : List UInt8} {j : Nat} {acc : List Int} {r : List UInt8} (h : Tk k m l j acc r) (hj : j < m) (hc : code r k = 0) : Tk k m l (j + 1) (acc ++ [(num r k : Int)]) (rest r k) := by
  obtain ⟨h1, h2⟩ := h
  refine ⟨by simp [h1], ?_⟩
  rw [h2, show m - j = (m - (j + 1)) + 1 from by omega, takes, if_pos hc]
  cases takes k (m - (j + 1)) (rest r k) with
  | none => rfl
  | some p => simp
theorem Tk.bad {k : Int} {m : Nat} {l : List UInt8} {j : Nat} {acc : List Int} {r : List UInt8} (h : Tk k m l j acc r) (hj : j < m) (hc : code r k ≠ 0) : takes k m l = none := by
  obtain ⟨h1, h2⟩ := h
  rw [h2, show m - j = (m - (j + 1)) + 1 from by omega, takes, if_neg hc]
  rfl
theorem Tk.done {k : Int} {m : Nat} {l : List UInt8} {acc : List Int} {r : List UInt8} (h : Tk k m l m acc r) : takes k m l = some (acc, r) := by
  obtain ⟨h1, h2⟩ := h
  rw [h2, Nat.sub_self]
  simp [takes]
/-- A row's numbers, what is left, a code. -/
def rowOf (l : List UInt8) (many k : Int) : List Int × List UInt8 × Int :=
  if most k < 0 ∨ many < 0 then ([], [], 1) else match takes k many.toNat l with | some p => (p.1, p.2, 0) | none => ([], [], 2)
theorem rowOf_arg {l : List UInt8} {many k : Int} (h : most k < 0 ∨ many < 0) : rowOf l many k = ([], [], 1) := by rw [rowOf, if_pos h]
theorem rowOf_none {l : List UInt8} {m : Nat} {k : Int} (h : ¬ most k < 0) (ht : takes k m l = none) : rowOf l m k = ([], [], 2) := by
  rw [rowOf, if_neg (by omega), Int.toNat_natCast, ht]
theorem rowOf_some {l : List UInt8} {m : Nat} {k : Int} {a : List Int} {r : List UInt8} (h : ¬ most k < 0) (ht : takes k m l = some (a, r)) : rowOf l m k = (a, r, 0) := by
  rw [rowOf, if_neg (by omega), Int.toNat_natCast, ht]
theorem code_width {l : List UInt8} {k : Int} (h : ¬ most k < 0) (hc : code l k ≠ 0) : code l k = 2 := by
  rcases code_cases l k with ⟨_, h2⟩ | ⟨h1, _⟩ | ⟨h1, _⟩
  · omega
  · exact h1
  · omega
end Go.Proofs.Ytmlmkkfieeaejaa.Num
