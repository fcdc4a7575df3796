import Derived.WalkKit
set_option maxRecDepth 100000
/- Plain mathematics of numbers as bytes, the highest first: what is written is read, what is read is written, the order of the bytes is that of the numbers; rows. No program is named here. -/
namespace Go.Proofs.YtcppbfjdilpjgaaDoor.Num
set_option linter.unusedVariables false

/-- So many bytes, the highest first. -/
def be : Nat → Nat → List UInt8
  | 0, _ => []
  | k + 1, n => be k (n / 256) ++ [UInt8.ofNat n]
/-- The number that bytes are. -/
def val (l : List UInt8) : Nat := l.foldl (fun s x => 256 * s + x.toNat) 0

theorem be_length (k n : Nat) : (be k n).length = k := by
  induction k generalizing n with
  | zero => rfl
  | succ k ih => simp [be, ih]
theorem val_snoc (l : List UInt8) (x : UInt8) : val (l ++ [x]) = 256 * val l + x.toNat := by simp [val]
theorem u8_ofNat (n : Nat) : (UInt8.ofNat n).toNat = n % 256 := by simp
theorem byte_lt (x : UInt8) : x.toNat < 256 := x.toNat_lt
theorem val_be (k n : Nat) : val (be k n) = n % 256 ^ k := by
  induction k generalizing n with
  | zero => simp [be, val, Nat.mod_one]
  | succ k ih =>
    rw [be, val_snoc, ih, u8_ofNat, Nat.pow_succ, Nat.mul_comm (256 ^ k) 256, Nat.mod_mul]
    omega
theorem val_be_of {k n : Nat} (h : n < 256 ^ k) : val (be k n) = n := by rw [val_be, Nat.mod_eq_of_lt h]
theorem snoc_ind {P : List UInt8 → Prop} (h0 : P []) (h1 : ∀ l x, P l → P (l ++ [x])) (l : List UInt8) : P l := by
  have : ∀ n (l : List UInt8), l.length = n → P l := by
    intro n
    induction n with
    | zero => intro l hl; rw [List.eq_nil_of_length_eq_zero hl]; exact h0
    | succ n ih =>
      intro l hl
      have hne : l ≠ [] := by intro e; subst e; simp at hl
      rw [← List.dropLast_concat_getLast hne]
      exact h1 _ _ (ih _ (by simp [hl]))
  exact this _ l rfl
theorem val_lt (l : List UInt8) : val l < 256 ^ l.length := by
  induction l using snoc_ind with
  | h0 => simp [val]
  | h1 l x ih =>
    rw [val_snoc, List.length_append, List.length_singleton, Nat.pow_succ]
    have := byte_lt x
    omega
theorem be_val (l : List UInt8) : be l.length (val l) = l := by
  induction l using snoc_ind with
  | h0 => rfl
  | h1 l x ih =>
    have hx := byte_lt x
    rw [val_snoc, List.length_append, List.length_singleton, be]
    rw [show (256 * val l + x.toNat) / 256 = val l from by omega, ih]
    congr 1
    rw [List.cons.injEq]
    refine ⟨?_, rfl⟩
    apply UInt8.toNat_inj.1
    rw [u8_ofNat]
    omega
theorem be_get {k i : Nat} (n : Nat) (h : i < k) : (be k n)[i]? = some (UInt8.ofNat (n / 256 ^ (k - 1 - i))) := by
  induction k generalizing n with
  | zero => omega
  | succ k ih =>
    rw [be]
    by_cases hi : i < k
    · rw [List.getElem?_append_left (by rw [be_length]; exact hi), ih _ hi, Nat.div_div_eq_div_mul, show k + 1 - 1 - i = (k - 1 - i) + 1 from by omega, Nat.pow_succ, Nat.mul_comm]
    · have : i = k := by omega
      subst this
      rw [List.getElem?_append_right (by rw [be_length]; omega), be_length]
      simp
theorem be_inj {k n m : Nat} (hn : n < 256 ^ k) (hm : m < 256 ^ k) : be k n = be k m ↔ n = m := by
  constructor
  · intro h
    have := congrArg val h
    rwa [val_be_of hn, val_be_of hm] at this
  · rintro rfl; rfl

/-- The order of bytes. -/
theorem less_snoc (l m : List UInt8) (x y : UInt8) (h : l.length = m.length) : Op.bytesLess (l ++ [x]) (m ++ [y]) = (Op.bytesLess l m || (decide (l = m) && decide (x.toNat < y.toNat))) := by
  induction l generalizing m with
  | nil =>
    have : m = [] := List.eq_nil_of_length_eq_zero (by simpa using h.symm)
    subst this
    simp [Op.bytesLess, UInt8.lt_iff_toNat_lt]
  | cons a l ih =>
    cases m with
    | nil => simp at h
    | cons b m =>
      simp only [List.cons_append, Op.bytesLess]
      rw [ih m (by simpa using h)]
      by_cases hab : a = b
      · subst hab; simp
      · have : (a == b) = false := by simpa using hab
        simp [this, hab]
theorem less_be {k n m : Nat} (hn : n < 256 ^ k) (hm : m < 256 ^ k) : Op.bytesLess (be k n) (be k m) = decide (n < m) := by
  induction k generalizing n m with
  | zero => simp at hn hm; subst hn; subst hm; simp [be, Op.bytesLess]
  | succ k ih =>
    rw [Nat.pow_succ] at hn hm
    have h1 : n / 256 < 256 ^ k := by rw [Nat.div_lt_iff_lt_mul (by omega)]; exact hn
    have h2 : m / 256 < 256 ^ k := by rw [Nat.div_lt_iff_lt_mul (by omega)]; exact hm
    rw [be, be, less_snoc _ _ _ _ (by rw [be_length, be_length]), ih h1 h2, Bool.eq_iff_iff]
    simp only [Bool.or_eq_true, Bool.and_eq_true, decide_eq_true_eq, be_inj h1 h2, u8_ofNat]
    omega

/-- The greatest number of a width; below 0: there is no such one. -/
def most (k : Int) : Int := if k = 1 then 255 else if k = 2 then 65535 else if k = 8 then 4611686018427387904 else -1
def fits (n k : Int) : Bool := decide (0 ≤ n) && decide (n ≤ most k)
def put (n k : Int) : List UInt8 := if fits n k = true then be k.toNat n.toNat else []
theorem most_cases (k : Int) : (k = 1 ∧ most k = 255) ∨ (k = 2 ∧ most k = 65535) ∨ (k = 8 ∧ most k = 4611686018427387904) ∨ (k ≠ 1 ∧ k ≠ 2 ∧ k ≠ 8 ∧ most k = -1) := by
  unfold most
  split
  · simp_all
  · split
    · simp_all
    · split
      · simp_all
      · simp_all
/-- A width, as a natural number. -/
def IsW (k : Nat) : Prop := k = 1 ∨ k = 2 ∨ k = 8
theorem isW_of {k : Int} (h : ¬ most k < 0) : ∃ j : Nat, k = j ∧ IsW j := by
  rcases most_cases k with ⟨rfl, _⟩ | ⟨rfl, _⟩ | ⟨rfl, _⟩ | ⟨_, _, _, h'⟩
  · exact ⟨1, rfl, .inl rfl⟩
  · exact ⟨2, rfl, .inr (.inl rfl)⟩
  · exact ⟨8, rfl, .inr (.inr rfl)⟩
  · omega
theorem most_lt {k : Nat} (h : IsW k) : 0 ≤ most k ∧ most k < (256 ^ k : Nat) := by
  rcases h with rfl | rfl | rfl <;> decide
theorem IsW.pos {k : Nat} (h : IsW k) : 1 ≤ k ∧ k ≤ 8 := by rcases h with rfl | rfl | rfl <;> omega
theorem fits_nat {n : Int} {k : Nat} (hk : IsW k) (h : fits n k = true) : ∃ m : Nat, n = m ∧ m < 256 ^ k ∧ (m : Int) ≤ most k ∧ m ≤ 4611686018427387904 := by
  simp only [fits, Bool.and_eq_true, decide_eq_true_eq] at h
  have hl := most_lt hk
  refine ⟨n.toNat, by omega, ?_, by omega, ?_⟩
  · have : ((n.toNat : Nat) : Int) < (256 ^ k : Nat) := by omega
    exact_mod_cast this
  · have : most k ≤ 4611686018427387904 := by rcases hk with rfl | rfl | rfl <;> decide
    omega
theorem fits_width {n k : Int} (h : fits n k = true) : ∃ j : Nat, k = j ∧ IsW j := by
  simp only [fits, Bool.and_eq_true, decide_eq_true_eq] at h
  exact isW_of (by omega)
theorem put_length {n k : Int} (h : fits n k = true) : (put n k).length = k.toNat := by rw [put, if_pos h, be_length]
theorem put_not {n k : Int} (h : fits n k = false) : put n k = [] := by rw [put, if_neg (by simp [h])]

/-- The number that bytes begin with: its code, itself, what is behind it. -/
def code (l : List UInt8) (k : Int) : Int := if most k < 0 then 1 else if l.length < k.toNat then 2 else if most k < (val (l.take k.toNat) : Int) then 2 else 0
def num (l : List UInt8) (k : Int) : Nat := if code l k = 0 then val (l.take k.toNat) else 0
def rest (l : List UInt8) (k : Int) : List UInt8 := if code l k = 0 then l.drop k.toNat else []
theorem code_cases (l : List UInt8) (k : Int) : (code l k = 1 ∧ most k < 0) ∨ (code l k = 2 ∧ ¬ most k < 0) ∨ (code l k = 0 ∧ ¬ most k < 0 ∧ k.toNat ≤ l.length ∧ (val (l.take k.toNat) : Int) ≤ most k) := by
  unfold code
  by_cases h : most k < 0
  · simp [h]
  · by_cases h2 : l.length < k.toNat
    · simp [h, h2]
    · by_cases h3 : most k < (val (l.take k.toNat) : Int)
      · simp [h, h2, h3]
      · simp only [if_neg h, if_neg h2, if_neg h3]
        exact .inr (.inr ⟨trivial, h, by omega, by omega⟩)
theorem num_le (l : List UInt8) (k : Int) : num l k ≤ 4611686018427387904 := by
  unfold num
  split
  · rename_i h
    rcases code_cases l k with ⟨h1, _⟩ | ⟨h1, _⟩ | ⟨_, _, _, h4⟩
    · omega
    · omega
    · rcases most_cases k with ⟨_, e⟩ | ⟨_, e⟩ | ⟨_, e⟩ | ⟨_, _, _, e⟩ <;> omega
  · omega
theorem code_bad {l : List UInt8} {k : Int} (h : code l k ≠ 0) : num l k = 0 ∧ rest l k = [] := by unfold num rest; simp [h]
theorem num_fits {l : List UInt8} {k : Int} (h : code l k = 0) : fits (num l k) k = true := by
  rcases code_cases l k with ⟨h1, _⟩ | ⟨h1, _⟩ | ⟨_, _, _, h4⟩
  · omega
  · omega
  · unfold num
    rw [if_pos h]
    simp only [fits, Bool.and_eq_true, decide_eq_true_eq]
    omega
theorem rest_length {l : List UInt8} {k : Int} (h : code l k = 0) : (rest l k).length = l.length - k.toNat := by rw [rest, if_pos h, List.length_drop]
/-- What is taken, put again, is what stood there. -/
theorem put_num {l : List UInt8} {k : Int} (h : code l k = 0) : put (num l k) k ++ rest l k = l := by
  have hf := num_fits h
  rcases code_cases l k with ⟨h1, _⟩ | ⟨h1, _⟩ | ⟨_, _, h3, h4⟩
  · omega
  · omega
  · rw [put, if_pos hf, rest, if_pos h, num, if_pos h, Int.toNat_natCast]
    have hl : (l.take k.toNat).length = k.toNat := by rw [List.length_take]; omega
    have := be_val (l.take k.toNat)
    rw [hl] at this
    rw [this, List.take_append_drop]
/-- What is put is taken, with whatever stands behind it. -/
theorem put_back {n k : Int} (h : fits n k = true) (tail : List UInt8) : code (put n k ++ tail) k = 0 ∧ (num (put n k ++ tail) k : Int) = n ∧ rest (put n k ++ tail) k = tail := by
  obtain ⟨j, rfl, hj⟩ := fits_width h
  obtain ⟨m, rfl, hm, hm2, _⟩ := fits_nat hj h
  have hl : (put (m : Int) (j : Int)).length = j := by rw [put_length h]; simp
  have ht : (put (m : Int) (j : Int) ++ tail).take j = put (m : Int) (j : Int) := List.take_left' hl
  have hd : (put (m : Int) (j : Int) ++ tail).drop j = tail := List.drop_left' hl
  have hv : val (put (m : Int) (j : Int)) = m := by rw [put, if_pos h, Int.toNat_natCast, Int.toNat_natCast, val_be_of hm]
  have hk := most_lt hj
  have hc : code (put (m : Int) (j : Int) ++ tail) j = 0 := by
    unfold code
    rw [if_neg (by omega), Int.toNat_natCast, if_neg (by rw [List.length_append, hl]; omega), ht, hv, if_neg (by omega)]
  refine ⟨hc, ?_, ?_⟩
  · rw [num, if_pos hc, Int.toNat_natCast, ht, hv]
  · rw [rest, if_pos hc, Int.toNat_natCast, hd]

/-- A row's bytes. -/
def putRow (l : List Int) (k : Int) : List UInt8 := if (l.all fun n => fits n k) = true then (l.map fun n => put n k).flatten else []
/-- Take, so many times. -/
def takes (k : Int) : Nat → List UInt8 → Option (List Int × List UInt8)
  | 0, l => some ([], l)
  | m + 1, l => if code l k = 0 then (takes k m (rest l k)).map (fun p => ((num l k : Int) :: p.1, p.2)) else none
theorem takes_length {k : Int} : ∀ {m : Nat} {l : List UInt8} {a : List Int} {r : List UInt8}, takes k m l = some (a, r) → a.length = m := by
  intro m
  induction m with
  | zero => intro l a r h; simp [takes] at h; simp [h.1]
  | succ m ih =>
    intro l a r h
    simp only [takes] at h
    split at h
    · obtain ⟨⟨a', r'⟩, h', e⟩ := Option.map_eq_some_iff.1 h
      simp only [Prod.mk.injEq] at e
      rw [← e.1, List.length_cons, ih h']
    · cases h
theorem takes_rest {k : Int} : ∀ {m : Nat} {l : List UInt8} {a : List Int} {r : List UInt8}, takes k m l = some (a, r) → m * k.toNat + r.length = l.length := by
  intro m
  induction m with
  | zero => intro l a r h; simp [takes] at h; rw [← h.2]; omega
  | succ m ih =>
    intro l a r h
    simp only [takes] at h
    split at h
    · rename_i hc
      obtain ⟨⟨a', r'⟩, h', e⟩ := Option.map_eq_some_iff.1 h
      simp only [Prod.mk.injEq] at e
      have h1 := ih h'
      rw [rest_length hc] at h1
      rcases code_cases l k with ⟨hx, _⟩ | ⟨hx, _⟩ | ⟨_, _, h3, _⟩
      · omega
      · omega
      · rw [← e.2, Nat.succ_mul]; omega
    · cases h
/-- Too few bytes. -/
theorem takes_none {k : Int} {m : Nat} {l : List UInt8} (h : l.length < m * k.toNat) : takes k m l = none := by
  cases e : takes k m l with
  | none => rfl
  | some p => have := takes_rest (a := p.1) (r := p.2) e; omega
/-- In two parts. -/
theorem takes_add (k : Int) (q : Nat) : ∀ (p : Nat) (l : List UInt8), takes k (p + q) l = (takes k p l).bind fun x => (takes k q x.2).map fun y => (x.1 ++ y.1, y.2) := by
  intro p
  induction p with
  | zero => intro l; simp [takes]
  | succ p ih =>
    intro l
    rw [show p + 1 + q = (p + q) + 1 from by omega]
    simp only [takes]
    by_cases hc : code l k = 0
    · rw [if_pos hc, if_pos hc, ih]
      cases h1 : takes k p (rest l k) with
      | none => rfl
      | some x =>
        simp only [Option.map_some, Option.bind_some]
        cases h2 : takes k q x.2 with
        | none => rfl
        | some y => rfl
    · rw [if_neg hc, if_neg hc]; rfl
theorem takes_put {k : Int} (tail : List UInt8) : ∀ (l : List Int), (l.all fun n => fits n k) = true → takes k l.length ((l.map fun n => put n k).flatten ++ tail) = some (l, tail) := by
  intro l
  induction l with
  | nil => intro _; rfl
  | cons n l ih =>
    intro h
    simp only [List.all_cons, Bool.and_eq_true] at h
    simp only [List.map_cons, List.flatten_cons, List.length_cons, takes, List.append_assoc]
    obtain ⟨h1, h2, h3⟩ := put_back h.1 ((l.map fun n => put n k).flatten ++ tail)
    rw [if_pos h1, h3, ih h.2, h2]
    rfl
theorem flat_length {k : Int} : ∀ (l : List Int), (l.all fun n => fits n k) = true → (l.map fun n => put n k).flatten.length = k.toNat * l.length := by
  intro l
  induction l with
  | nil => intro _; simp
  | cons n l ih =>
    intro h
    simp only [List.all_cons, Bool.and_eq_true] at h
    simp only [List.map_cons, List.flatten_cons, List.length_append, List.length_cons, put_length h.1, ih h.2, Nat.mul_succ]
    omega
theorem putRow_append (a c : List Int) (k : Int) (ha : (a.all fun n => fits n k) = true) (hc : (c.all fun n => fits n k) = true) : putRow (a ++ c) k = putRow a k ++ putRow c k := by
  unfold putRow
  rw [if_pos ha, if_pos hc, if_pos (by rw [List.all_append, ha, hc]; rfl), List.map_append, List.flatten_append]
theorem putRow_one (n k : Int) : putRow [n] k = put n k := by
  unfold putRow
  by_cases h : fits n k = true
  · simp [h]
  · simp [h, put]
/-- So many of a row are taken: these, and that is left. -/
def Tk (k : Int) (m : Nat) (l : List UInt8) (j : Nat) (acc : List Int) (r : List UInt8) : Prop :=
  acc.length = j ∧ takes k m l = (takes k (m - j) r).map fun p => (acc ++ p.1, p.2)
theorem Tk.zero (k : Int) (m : Nat) (l : List UInt8) : Tk k m l 0 [] l := by
  refine ⟨rfl, ?_⟩
  rw [Nat.sub_zero]
  cases takes k m l with
  | none => rfl
  | some p => rfl
theorem Tk.succ {k : Int} {m : Nat} {l : List UInt8} {j : Nat} {acc : List Int} {r : List UInt8} (h : Tk k m l j acc r) (hj : j < m) (hc : code r k = 0) : Tk k m l (j + 1) (acc ++ [(num r k : Int)]) (rest r k) := by
  obtain ⟨h1, h2⟩ := h
  refine ⟨by simp [h1], ?_⟩
  rw [h2, show m - j = (m - (j + 1)) + 1 from by omega, takes, if_pos hc]
  cases takes k (m - (j + 1)) (rest r k) with
  | none => rfl
  | some p => simp
theorem Tk.bad {k : Int} {m : Nat} {l : List UInt8} {j : Nat} {acc : List Int} {r : List UInt8} (h : Tk k m l j acc r) (hj : j < m) (hc : code r k ≠ 0) : takes k m l = none := by
  obtain ⟨h1, h2⟩ := h
  rw [h2, show m - j = (m - (j + 1)) + 1 from by omega, takes, if_neg hc]
  rfl
theorem Tk.done {k : Int} {m : Nat} {l : List UInt8} {acc : List Int} {r : List UInt8} (h : Tk k m l m acc r) : takes k m l = some (acc, r) := by
  obtain ⟨h1, h2⟩ := h
  rw [h2, Nat.sub_self]
  simp [takes]
/-- A row's numbers, what is left, a code. -/
def rowOf (l : List UInt8) (many k : Int) : List Int × List UInt8 × Int :=
  if most k < 0 ∨ many < 0 then ([], [], 1) else match takes k many.toNat l with | some p => (p.1, p.2, 0) | none => ([], [], 2)
theorem rowOf_arg {l : List UInt8} {many k : Int} (h : most k < 0 ∨ many < 0) : rowOf l many k = ([], [], 1) := by rw [rowOf, if_pos h]
theorem rowOf_none {l : List UInt8} {m : Nat} {k : Int} (h : ¬ most k < 0) (ht : takes k m l = none) : rowOf l m k = ([], [], 2) := by
  rw [rowOf, if_neg (by omega), Int.toNat_natCast, ht]
theorem rowOf_some {l : List UInt8} {m : Nat} {k : Int} {a : List Int} {r : List UInt8} (h : ¬ most k < 0) (ht : takes k m l = some (a, r)) : rowOf l m k = (a, r, 0) := by
  rw [rowOf, if_neg (by omega), Int.toNat_natCast, ht]
theorem code_width {l : List UInt8} {k : Int} (h : ¬ most k < 0) (hc : code l k ≠ 0) : code l k = 2 := by
  rcases code_cases l k with ⟨_, h2⟩ | ⟨h1, _⟩ | ⟨h1, _⟩
  · omega
  · exact h1
  · omega
end Go.Proofs.YtcppbfjdilpjgaaDoor.Num
/- What chapter 3 says of items, in numbers and lists alone: which may be, their bytes, and items of bytes. No program is named here. -/
namespace Go.Proofs.YtcppbfjdilpjgaaDoor.Item
set_option linter.unusedVariables false

structure It where
  (k q e i t c : Int)
  (l : List Int)
  (b : List UInt8)
  deriving DecidableEq
def It.zero : It := ⟨0, 0, 0, 0, 0, 0, [], []⟩

/-- Is a number from one to another? -/
def win (n a b : Int) : Bool := decide (a ≤ n) && decide (n ≤ b)
theorem win_iff {n a b : Int} : win n a b = true ↔ a ≤ n ∧ n ≤ b := by simp [win]
def far : Int := 4611686018427387904
def allIn (l : List Int) (top : Int) : Bool := l.all fun n => win n 0 top
def list (l : List Int) (lo hi top : Int) : Bool := win l.length lo hi && allIn l top
def body (b : List UInt8) (most : Int) : Bool := decide ((b.length : Int) ≤ most)

def ask1 (x : It) : Bool := win x.t 1 32 && (win x.i 0 (x.t - 1) && (win x.c 0 0 && (list x.l 0 0 0 && body x.b 1024)))
def askN (x : It) (im cm lo hi top : Int) : Bool := win x.t 0 0 && (win x.i 0 im && (win x.c 0 cm && (list x.l lo hi top && body x.b 0)))
def ask (x : It) : Bool :=
  if x.k = 1 then ask1 x else if x.k = 2 then askN x 1 0 1 64 63 else if x.k = 3 then askN x 0 0 0 0 0 else if x.k = 4 then askN x 1 0 0 0 0
  else if x.k = 5 then askN x 0 4611686018427387904 0 0 0 else if x.k = 6 then askN x 0 0 2 64 4611686018427387904 else false
def may (x : It) : Bool := win x.q 1 4611686018427387904 && (win x.e 0 4611686018427387904 && ask x)

/-- An item's bytes behind kind, Seq and Epoch. -/
def tail (x : It) : List UInt8 :=
  if x.k = 1 then Num.putRow [x.i, x.t] 1 ++ x.b else if x.k = 2 then Num.put x.i 1 ++ Num.putRow x.l 1 else if x.k = 4 then Num.put x.i 1
  else if x.k = 5 then Num.put x.c 8 else if x.k = 6 then Num.putRow x.l 8 else []
def bytes (x : It) : List UInt8 := if may x = true then (Num.put x.k 1 ++ Num.putRow [x.q, x.e] 8) ++ tail x else []

end Go.Proofs.YtcppbfjdilpjgaaDoor.Item
/- Items of bytes, as chapter 3 says it: the head, what a kind has behind it, and the item. No program is named here. -/
namespace Go.Proofs.YtcppbfjdilpjgaaDoor.Item
set_option linter.unusedVariables false

def headC (l : List UInt8) : Option (Int × Int × Int × List UInt8) :=
  if Num.code l 1 = 0 then
    match Num.takes 8 2 (Num.rest l 1) with
    | some ([q, e], r) => some (Num.num l 1, q, e, r)
    | _ => none
  else none
def tailC (k q e : Int) (r : List UInt8) : Option (It × List UInt8) :=
  if k = 1 then
    match Num.takes 1 2 r with
    | some ([i, t], b) => some (⟨1, q, e, i, t, 0, [], b⟩, [])
    | _ => none
  else if k = 2 then
    if Num.code r 1 = 0 then
      match Num.takes 1 (Num.rest r 1).length (Num.rest r 1) with
      | some (a, b) => some (⟨2, q, e, Num.num r 1, 0, 0, a, []⟩, b)
      | none => none
    else none
  else if k = 4 then
    if Num.code r 1 = 0 then some (⟨4, q, e, Num.num r 1, 0, 0, [], []⟩, Num.rest r 1) else none
  else if k = 5 then
    if Num.code r 8 = 0 then some (⟨5, q, e, 0, 0, Num.num r 8, [], []⟩, Num.rest r 8) else none
  else if k = 6 then
    match Num.takes 8 (r.length / 8) r with
    | some (a, b) => some (⟨6, q, e, 0, 0, 0, a, []⟩, b)
    | none => none
  else some (⟨k, q, e, 0, 0, 0, [], []⟩, r)
def lastC (p : It × List UInt8) : Option It := if p.2 = [] ∧ may p.1 = true then some p.1 else none
def takeOf (l : List UInt8) : Option It :=
  match headC l with
  | some (k, q, e, r) => match tailC k q e r with
    | some p => lastC p
    | none => none
  | none => none

theorem takes_two {k : Int} {l : List UInt8} {p : List Int × List UInt8} (h : Num.takes k 2 l = some p) : ∃ a b r, p = ([a, b], r) := by
  obtain ⟨l2, r⟩ := p
  have := Num.takes_length h
  match l2, this with
  | [a, b], _ => exact ⟨a, b, r, rfl⟩
theorem headC_len {l : List UInt8} {k q e : Int} {r : List UInt8} (h : headC l = some (k, q, e, r)) : r.length + 17 = l.length := by
  unfold headC at h
  split at h
  · rename_i hc
    split at h
    · rename_i q' e' r' ht
      simp only [Option.some.injEq, Prod.mk.injEq] at h
      obtain ⟨_, _, _, rfl⟩ := h
      have h1 := Num.takes_rest ht
      have h2 := Num.rest_length hc
      rcases Num.code_cases l 1 with ⟨hx, _⟩ | ⟨hx, _⟩ | ⟨_, _, h3, _⟩
      · omega
      · omega
      · rw [h2] at h1
        simp only [show (8 : Int).toNat = 8 from rfl, show (1 : Int).toNat = 1 from rfl] at h1 h3
        omega
    · cases h
  · cases h
end Go.Proofs.YtcppbfjdilpjgaaDoor.Item
/- What is written is taken, and nothing else is: the item's bytes and items of bytes are one and the same road. No program is named here. -/
namespace Go.Proofs.YtcppbfjdilpjgaaDoor.Item
set_option linter.unusedVariables false

theorem takes_inv {k : Int} : ∀ {m : Nat} {l : List UInt8} {a : List Int} {r : List UInt8}, Num.takes k m l = some (a, r) → (a.all fun n => Num.fits n k) = true ∧ (a.map fun n => Num.put n k).flatten ++ r = l := by
  intro m
  induction m with
  | zero =>
    intro l a r h
    simp only [Num.takes, Option.some.injEq, Prod.mk.injEq] at h
    obtain ⟨rfl, rfl⟩ := h
    exact ⟨rfl, rfl⟩
  | succ m ih =>
    intro l a r h
    simp only [Num.takes] at h
    split at h
    · rename_i hc
      obtain ⟨⟨a', r'⟩, h', e⟩ := Option.map_eq_some_iff.1 h
      simp only [Prod.mk.injEq] at e
      obtain ⟨rfl, rfl⟩ := e
      obtain ⟨h1, h2⟩ := ih h'
      refine ⟨by simp [Num.num_fits hc, h1], ?_⟩
      simp only [List.map_cons, List.flatten_cons, List.append_assoc]
      rw [h2]
      exact Num.put_num hc
    · cases h
theorem row_inv {k : Int} {m : Nat} {l : List UInt8} {a : List Int} {r : List UInt8} (h : Num.takes k m l = some (a, r)) : Num.putRow a k ++ r = l := by
  obtain ⟨h1, h2⟩ := takes_inv h
  rw [Num.putRow, if_pos h1]
  exact h2

theorem head_inv {l : List UInt8} {k q e : Int} {r : List UInt8} (h : headC l = some (k, q, e, r)) : (Num.put k 1 ++ Num.putRow [q, e] 8) ++ r = l := by
  unfold headC at h
  split at h
  · rename_i hc
    split at h
    · rename_i q' e' r' ht
      simp only [Option.some.injEq, Prod.mk.injEq] at h
      obtain ⟨rfl, rfl, rfl, rfl⟩ := h
      rw [List.append_assoc, row_inv ht]
      exact Num.put_num hc
    · cases h
  · cases h
theorem tail_inv {k q e : Int} {r : List UInt8} {x : It} (h : tailC k q e r = some (x, [])) (hm : may x = true) : x.k = k ∧ x.q = q ∧ x.e = e ∧ tail x = r := by
  unfold tailC at h
  split at h
  · rename_i hk
    split at h
    · rename_i i t b ht
      simp only [Option.some.injEq, Prod.mk.injEq] at h
      obtain ⟨rfl, _⟩ := h
      refine ⟨hk.symm, rfl, rfl, ?_⟩
      show Num.putRow [i, t] 1 ++ b = r
      exact row_inv ht
    · cases h
  split at h
  · rename_i hk
    split at h
    · rename_i hc
      split at h
      · rename_i a b ht
        simp only [Option.some.injEq, Prod.mk.injEq] at h
        obtain ⟨rfl, rfl⟩ := h
        refine ⟨hk.symm, rfl, rfl, ?_⟩
        show Num.put (Num.num r 1) 1 ++ Num.putRow a 1 = r
        have := row_inv ht
        rw [List.append_nil] at this
        rw [this]
        exact Num.put_num hc
      · cases h
    · cases h
  split at h
  · rename_i hk
    split at h
    · rename_i hc
      simp only [Option.some.injEq, Prod.mk.injEq] at h
      obtain ⟨rfl, hr⟩ := h
      refine ⟨hk.symm, rfl, rfl, ?_⟩
      show Num.put (Num.num r 1) 1 = r
      have := Num.put_num hc
      rwa [hr, List.append_nil] at this
    · cases h
  split at h
  · rename_i hk
    split at h
    · rename_i hc
      simp only [Option.some.injEq, Prod.mk.injEq] at h
      obtain ⟨rfl, hr⟩ := h
      refine ⟨hk.symm, rfl, rfl, ?_⟩
      show Num.put (Num.num r 8) 8 = r
      have := Num.put_num hc
      rwa [hr, List.append_nil] at this
    · cases h
  split at h
  · rename_i hk
    split at h
    · rename_i a b ht
      simp only [Option.some.injEq, Prod.mk.injEq] at h
      obtain ⟨rfl, rfl⟩ := h
      refine ⟨hk.symm, rfl, rfl, ?_⟩
      show Num.putRow a 8 = r
      have := row_inv ht
      rwa [List.append_nil] at this
    · cases h
  · rename_i h1 h2 h4 h5 h6
    simp only [Option.some.injEq, Prod.mk.injEq] at h
    obtain ⟨rfl, rfl⟩ := h
    refine ⟨rfl, rfl, rfl, ?_⟩
    simp [tail, h1, h2, h4, h5, h6]
/-- What is taken may be, and its bytes are those. -/
theorem take_inv {l : List UInt8} {x : It} (h : takeOf l = some x) : may x = true ∧ bytes x = l := by
  unfold takeOf at h
  split at h
  · rename_i k q e r hh
    split at h
    · rename_i p ht
      obtain ⟨y, r'⟩ := p
      unfold lastC at h
      split at h
      · rename_i hc
        obtain ⟨hr, hm⟩ := hc
        dsimp only at hr hm
        subst hr
        simp only [Option.some.injEq] at h
        subst h
        obtain ⟨h1, h2, h3, h4⟩ := tail_inv ht hm
        refine ⟨hm, ?_⟩
        rw [bytes, if_pos hm, h1, h2, h3, h4]
        exact head_inv hh
      · cases h
    · cases h
  · cases h

theorem fits_in {n : Int} {k : Nat} (h : 0 ≤ n) (h2 : n ≤ Num.most k) : Num.fits n k = true := by
  unfold Num.fits
  simp only [Bool.and_eq_true, decide_eq_true_eq]
  omega
theorem head_put {k q e : Int} (r : List UInt8) (hk : 0 ≤ k) (hk2 : k ≤ 255) (hq : 0 ≤ q) (hq2 : q ≤ 4611686018427387904) (he : 0 ≤ e) (he2 : e ≤ 4611686018427387904) :
    headC ((Num.put k 1 ++ Num.putRow [q, e] 8) ++ r) = some (k, q, e, r) := by
  have fk : Num.fits k 1 = true := fits_in (k := 1) hk hk2
  have fq : Num.fits q 8 = true := fits_in (k := 8) hq hq2
  have fe : Num.fits e 8 = true := fits_in (k := 8) he he2
  have hall : ([q, e].all fun n => Num.fits n 8) = true := by simp [fq, fe]
  obtain ⟨h1, h2, h3⟩ := Num.put_back fk (Num.putRow [q, e] 8 ++ r)
  unfold headC
  rw [List.append_assoc, if_pos h1, h3, Num.putRow, if_pos hall]
  have ht : Num.takes 8 2 (([q, e].map fun n => Num.put n 8).flatten ++ r) = some ([q, e], r) := Num.takes_put r [q, e] hall
  rw [Num.putRow, if_pos hall] at h2
  rw [ht, h2]
end Go.Proofs.YtcppbfjdilpjgaaDoor.Item
/- An item that may be is taken as it was written; how long its bytes are, by its kind. No program is named here. -/
namespace Go.Proofs.YtcppbfjdilpjgaaDoor.Item
set_option linter.unusedVariables false

theorem may_parts {x : It} (h : may x = true) : (1 ≤ x.q ∧ x.q ≤ 4611686018427387904) ∧ (0 ≤ x.e ∧ x.e ≤ 4611686018427387904) ∧ ask x = true := by
  simp only [may, Bool.and_eq_true, win_iff] at h
  exact h
theorem list0 {l : List Int} {top : Int} (h : list l 0 0 top = true) : l = [] := by
  simp only [list, Bool.and_eq_true, win_iff] at h
  exact List.eq_nil_of_length_eq_zero (by omega)
theorem body0 {b : List UInt8} (h : body b 0 = true) : b = [] := by
  simp only [body, decide_eq_true_eq] at h
  exact List.eq_nil_of_length_eq_zero (by omega)
theorem listN {l : List Int} {lo hi top : Int} (h : list l lo hi top = true) : (lo ≤ l.length ∧ (l.length : Int) ≤ hi) ∧ allIn l top = true := by
  simp only [list, Bool.and_eq_true, win_iff] at h
  exact h
theorem all_fits {l : List Int} {top : Int} {k : Nat} (h : allIn l top = true) (ht : top ≤ Num.most k) : (l.all fun n => Num.fits n k) = true := by
  rw [List.all_eq_true]
  intro n hn
  unfold allIn at h
  rw [List.all_eq_true] at h
  have := win_iff.1 (h n hn)
  exact fits_in this.1 (by omega)

/-- What an item that may be is, by its kind. -/
inductive Kinds : It → Prop
  | data (q e i t : Int) (b : List UInt8) : 1 ≤ t → t ≤ 32 → 0 ≤ i → i < t → b.length ≤ 1024 → Kinds ⟨1, q, e, i, t, 0, [], b⟩
  | order (q e i : Int) (l : List Int) : 0 ≤ i → i ≤ 1 → 1 ≤ l.length → l.length ≤ 64 → allIn l 63 = true → Kinds ⟨2, q, e, i, 0, 0, l, []⟩
  | token (q e : Int) : Kinds ⟨3, q, e, 0, 0, 0, [], []⟩
  | flush (q e i : Int) : 0 ≤ i → i ≤ 1 → Kinds ⟨4, q, e, i, 0, 0, [], []⟩
  | ack (q e c : Int) : 0 ≤ c → c ≤ 4611686018427387904 → Kinds ⟨5, q, e, 0, 0, c, [], []⟩
  | install (q e : Int) (l : List Int) : 2 ≤ l.length → l.length ≤ 64 → allIn l 4611686018427387904 = true → Kinds ⟨6, q, e, 0, 0, 0, l, []⟩
theorem may_kinds {x : It} (h : may x = true) : Kinds x := by
  obtain ⟨_, _, ha⟩ := may_parts h
  obtain ⟨k, q, e, i, t, c, l, b⟩ := x
  unfold ask at ha
  dsimp only at ha
  split at ha
  · rename_i hk
    subst hk
    simp only [ask1, Bool.and_eq_true, win_iff] at ha
    obtain ⟨h1, h2, h3, h4, h5⟩ := ha
    obtain rfl := list0 h4
    obtain rfl : c = 0 := by omega
    simp only [body, decide_eq_true_eq] at h5
    exact .data q e i t b (by omega) (by omega) (by omega) (by omega) (by omega)
  split at ha
  · rename_i hk
    subst hk
    simp only [askN, Bool.and_eq_true, win_iff] at ha
    obtain ⟨h1, h2, h3, h4, h5⟩ := ha
    obtain rfl := body0 h5
    obtain ⟨h6, h7⟩ := listN h4
    obtain rfl : c = 0 := by omega
    obtain rfl : t = 0 := by omega
    exact .order q e i l (by omega) (by omega) (by omega) (by omega) h7
  split at ha
  · rename_i hk
    subst hk
    simp only [askN, Bool.and_eq_true, win_iff] at ha
    obtain ⟨h1, h2, h3, h4, h5⟩ := ha
    obtain rfl := body0 h5
    obtain rfl := list0 h4
    obtain rfl : c = 0 := by omega
    obtain rfl : t = 0 := by omega
    obtain rfl : i = 0 := by omega
    exact .token q e
  split at ha
  · rename_i hk
    subst hk
    simp only [askN, Bool.and_eq_true, win_iff] at ha
    obtain ⟨h1, h2, h3, h4, h5⟩ := ha
    obtain rfl := body0 h5
    obtain rfl := list0 h4
    obtain rfl : c = 0 := by omega
    obtain rfl : t = 0 := by omega
    exact .flush q e i (by omega) (by omega)
  split at ha
  · rename_i hk
    subst hk
    simp only [askN, Bool.and_eq_true, win_iff] at ha
    obtain ⟨h1, h2, h3, h4, h5⟩ := ha
    obtain rfl := body0 h5
    obtain rfl := list0 h4
    obtain rfl : t = 0 := by omega
    obtain rfl : i = 0 := by omega
    exact .ack q e c (by omega) (by omega)
  split at ha
  · rename_i hk
    subst hk
    simp only [askN, Bool.and_eq_true, win_iff] at ha
    obtain ⟨h1, h2, h3, h4, h5⟩ := ha
    obtain rfl := body0 h5
    obtain ⟨h6, h7⟩ := listN h4
    obtain rfl : c = 0 := by omega
    obtain rfl : t = 0 := by omega
    obtain rfl : i = 0 := by omega
    exact .install q e l (by omega) (by omega) h7
  · cases ha

theorem most1 : Num.most (1 : Nat) = 255 := rfl
theorem most8 : Num.most (8 : Nat) = 4611686018427387904 := rfl
theorem tail_put {x : It} (h : Kinds x) : tailC x.k x.q x.e (tail x) = some (x, []) := by
  cases h with
  | data q e i t b h1 h2 h3 h4 h5 =>
    have fi : Num.fits i 1 = true := fits_in (k := 1) h3 (by rw [most1]; omega)
    have ft : Num.fits t 1 = true := fits_in (k := 1) (by omega) (by rw [most1]; omega)
    have hall : ([i, t].all fun n => Num.fits n 1) = true := by simp [fi, ft]
    have ht : Num.takes 1 2 (([i, t].map fun n => Num.put n 1).flatten ++ b) = some ([i, t], b) := Num.takes_put b [i, t] hall
    show tailC 1 q e (Num.putRow [i, t] 1 ++ b) = _
    rw [Num.putRow, if_pos hall, tailC, if_pos rfl, ht]
  | order q e i l h1 h2 h3 h4 h5 =>
    have fi : Num.fits i 1 = true := fits_in (k := 1) h1 (by rw [most1]; omega)
    have hall : (l.all fun n => Num.fits n 1) = true := all_fits (k := 1) h5 (by rw [most1]; omega)
    have ht := Num.takes_put [] l hall
    have hlen := Num.flat_length l hall
    rw [List.append_nil] at ht
    obtain ⟨p1, p2, p3⟩ := Num.put_back fi (Num.putRow l 1)
    show tailC 2 q e (Num.put i 1 ++ Num.putRow l 1) = _
    rw [tailC, if_neg (by omega), if_pos rfl, if_pos p1, p3, Num.putRow, if_pos hall, hlen]
    rw [Num.putRow, if_pos hall] at p2
    rw [show (1 : Int).toNat * l.length = l.length from by simp, ht, p2]
  | token q e => rfl
  | flush q e i h1 h2 =>
    have fi : Num.fits i 1 = true := fits_in (k := 1) h1 (by rw [most1]; omega)
    obtain ⟨p1, p2, p3⟩ := Num.put_back fi []
    rw [List.append_nil] at p1 p2 p3
    show tailC 4 q e (Num.put i 1) = _
    rw [tailC, if_neg (by omega), if_neg (by omega), if_pos rfl, if_pos p1, p2, p3]
  | ack q e c h1 h2 =>
    have fi : Num.fits c 8 = true := fits_in (k := 8) h1 (by rw [most8]; omega)
    obtain ⟨p1, p2, p3⟩ := Num.put_back fi []
    rw [List.append_nil] at p1 p2 p3
    show tailC 5 q e (Num.put c 8) = _
    rw [tailC, if_neg (by omega), if_neg (by omega), if_neg (by omega), if_pos rfl, if_pos p1, p2, p3]
  | install q e l h1 h2 h3 =>
    have hall : (l.all fun n => Num.fits n 8) = true := all_fits (k := 8) h3 (by rw [most8]; omega)
    have ht := Num.takes_put [] l hall
    have hlen := Num.flat_length l hall
    rw [List.append_nil] at ht
    show tailC 6 q e (Num.putRow l 8) = _
    rw [tailC, if_neg (by omega), if_neg (by omega), if_neg (by omega), if_neg (by omega), if_pos rfl, Num.putRow, if_pos hall, hlen]
    rw [show (8 : Int).toNat * l.length / 8 = l.length from by simp, ht]
theorem kinds_k {x : It} (h : Kinds x) : 1 ≤ x.k ∧ x.k ≤ 6 := by cases h <;> (dsimp only; omega)
/-- An item that may be is taken as it was written. -/
theorem take_put {x : It} (h : may x = true) : takeOf (bytes x) = some x := by
  obtain ⟨⟨q1, q2⟩, ⟨e1, e2⟩, _⟩ := may_parts h
  have hk := may_kinds h
  have hkk := kinds_k hk
  rw [bytes, if_pos h, takeOf, head_put (tail x) (by omega) (by omega) (by omega) q2 e1 e2]
  dsimp only
  rw [tail_put hk]
  dsimp only
  rw [lastC, if_pos ⟨rfl, h⟩]
theorem bytes_inj {x y : It} (hx : may x = true) (hy : may y = true) (h : bytes x = bytes y) : x = y := by
  have h1 := take_put hx
  rw [h, take_put hy] at h1
  injection h1 with h1
  exact h1.symm

theorem put_one {n : Int} (h : Num.fits n 1 = true) : (Num.put n 1).length = 1 := by rw [Num.put_length h]; rfl
theorem put_eight {n : Int} (h : Num.fits n 8 = true) : (Num.put n 8).length = 8 := by rw [Num.put_length h]; rfl
theorem head_len {x : It} (h : may x = true) : (Num.put x.k 1 ++ Num.putRow [x.q, x.e] 8).length = 17 := by
  obtain ⟨⟨q1, q2⟩, ⟨e1, e2⟩, _⟩ := may_parts h
  have hkk := kinds_k (may_kinds h)
  have fk : Num.fits x.k 1 = true := fits_in (k := 1) (by omega) (by rw [most1]; omega)
  have fq : Num.fits x.q 8 = true := fits_in (k := 8) (by omega) (by rw [most8]; omega)
  have fe : Num.fits x.e 8 = true := fits_in (k := 8) e1 (by rw [most8]; omega)
  have hall : ([x.q, x.e].all fun n => Num.fits n 8) = true := by simp [fq, fe]
  rw [List.length_append, put_one fk, Num.putRow, if_pos hall, Num.flat_length _ hall]
  rfl
theorem bytes_len {x : It} (h : may x = true) : (bytes x).length = 17 + (tail x).length := by
  rw [bytes, if_pos h, List.length_append, head_len h]
/-- How many bytes a kind has behind its head. -/
theorem tail_len {x : It} (h : Kinds x) : (x.k = 3 → (tail x).length = 0) ∧ (x.k = 4 → (tail x).length = 1) ∧ (x.k = 5 → (tail x).length = 8) ∧ (x.k = 6 → (tail x).length % 8 = 0) ∧ (tail x).length ≤ 1026 := by
  cases h with
  | data q e i t b h1 h2 h3 h4 h5 =>
    have fi : Num.fits i 1 = true := fits_in (k := 1) h3 (by rw [most1]; omega)
    have ft : Num.fits t 1 = true := fits_in (k := 1) (by omega) (by rw [most1]; omega)
    have hall : ([i, t].all fun n => Num.fits n 1) = true := by simp [fi, ft]
    have e1 : tail ⟨1, q, e, i, t, 0, [], b⟩ = Num.putRow [i, t] 1 ++ b := rfl
    rw [e1, List.length_append, Num.putRow, if_pos hall, Num.flat_length _ hall]
    simp
    omega
  | order q e i l h1 h2 h3 h4 h5 =>
    have fi : Num.fits i 1 = true := fits_in (k := 1) h1 (by rw [most1]; omega)
    have hall : (l.all fun n => Num.fits n 1) = true := all_fits (k := 1) h5 (by rw [most1]; omega)
    have e1 : tail ⟨2, q, e, i, 0, 0, l, []⟩ = Num.put i 1 ++ Num.putRow l 1 := rfl
    rw [e1, List.length_append, Num.putRow, if_pos hall, Num.flat_length _ hall, put_one fi]
    simp
    omega
  | token q e =>
    have e1 : tail ⟨3, q, e, 0, 0, 0, [], []⟩ = [] := rfl
    rw [e1]
    simp
  | flush q e i h1 h2 =>
    have fi : Num.fits i 1 = true := fits_in (k := 1) h1 (by rw [most1]; omega)
    have e1 : tail ⟨4, q, e, i, 0, 0, [], []⟩ = Num.put i 1 := rfl
    rw [e1, put_one fi]
    simp
  | ack q e c h1 h2 =>
    have fi : Num.fits c 8 = true := fits_in (k := 8) h1 (by rw [most8]; omega)
    have e1 : tail ⟨5, q, e, 0, 0, c, [], []⟩ = Num.put c 8 := rfl
    rw [e1, put_eight fi]
    simp
  | install q e l h1 h2 h3 =>
    have hall : (l.all fun n => Num.fits n 8) = true := all_fits (k := 8) h3 (by rw [most8]; omega)
    have e1 : tail ⟨6, q, e, 0, 0, 0, l, []⟩ = Num.putRow l 8 := rfl
    rw [e1, Num.putRow, if_pos hall, Num.flat_length _ hall]
    simp
    omega
end Go.Proofs.YtcppbfjdilpjgaaDoor.Item
/- Items of bytes as the document's own answer finds them: the only item that bytes may be is tried; it is the item that is taken. No program is named here. -/
namespace Go.Proofs.YtcppbfjdilpjgaaDoor.Item
set_option linter.unusedVariables false

/-- A byte of some, as a number. -/
def at_ (r : List UInt8) (i : Nat) : Int := ((r.getD i 0).toNat : Int)
/-- The only item that a head and bytes behind it may be. -/
def refC (k q e : Int) (r : List UInt8) : It :=
  if k = 1 then (if 2 ≤ r.length then ⟨1, q, e, at_ r 0, at_ r 1, 0, [], r.drop 2⟩ else ⟨1, q, e, 0, 0, 0, [], []⟩)
  else if k = 2 then (if 1 ≤ r.length then ⟨2, q, e, at_ r 0, 0, 0, (Num.rowOf (r.drop 1) (r.length - 1 : Nat) 1).1, []⟩ else ⟨2, q, e, 0, 0, 0, [], []⟩)
  else if k = 4 then (if 1 ≤ r.length then ⟨4, q, e, at_ r 0, 0, 0, [], []⟩ else ⟨4, q, e, 0, 0, 0, [], []⟩)
  else if k = 5 then ⟨5, q, e, 0, 0, Num.num r 8, [], []⟩
  else if k = 6 then ⟨6, q, e, 0, 0, 0, (Num.rowOf r (r.length / 8 : Nat) 8).1, []⟩
  else ⟨k, q, e, 0, 0, 0, [], []⟩
def tried (x : It) (l : List UInt8) : Option It := if may x = true ∧ bytes x = l then some x else none
def refOf (l : List UInt8) : Option It :=
  if l.length < 17 then none
  else match Num.takes 8 2 ((l.drop 1).take 16) with
    | some ([q, e], _) => tried (refC (at_ l 0) q e (l.drop 17)) l
    | _ => none

theorem byte_at {i : Int} (h : 0 ≤ i) (h2 : i ≤ 255) : ((UInt8.ofNat i.toNat).toNat : Int) = i := by
  rw [UInt8.toNat_ofNat']
  omega
theorem put1 {i : Int} (h : 0 ≤ i) (h2 : i ≤ 255) : Num.put i 1 = [UInt8.ofNat i.toNat] := by
  have f : Num.fits i 1 = true := fits_in (k := 1) h (by rw [most1]; omega)
  rw [Num.put, if_pos f]
  simp [Num.be]
theorem refC_put {x : It} (h : Kinds x) : refC x.k x.q x.e (tail x) = x := by
  cases h with
  | data q e i t b h1 h2 h3 h4 h5 =>
    have fi : Num.fits i 1 = true := fits_in (k := 1) h3 (by rw [most1]; omega)
    have ft : Num.fits t 1 = true := fits_in (k := 1) (by omega) (by rw [most1]; omega)
    have hall : ([i, t].all fun n => Num.fits n 1) = true := by simp [fi, ft]
    have e1 : tail ⟨1, q, e, i, t, 0, [], b⟩ = UInt8.ofNat i.toNat :: UInt8.ofNat t.toNat :: b := by
      show Num.putRow [i, t] 1 ++ b = _
      rw [Num.putRow, if_pos hall]
      simp [put1 h3 (by omega), put1 (i := t) (by omega) (by omega)]
    rw [e1]
    unfold refC
    rw [if_pos rfl, if_pos (by simp)]
    show It.mk 1 q e ((UInt8.ofNat i.toNat).toNat : Int) ((UInt8.ofNat t.toNat).toNat : Int) 0 [] b = _
    rw [byte_at h3 (by omega), byte_at (i := t) (by omega) (by omega)]
  | order q e i l h1 h2 h3 h4 h5 =>
    have hall : (l.all fun n => Num.fits n 1) = true := all_fits (k := 1) h5 (by rw [most1]; omega)
    have ht := Num.takes_put [] l hall
    have hlen := Num.flat_length l hall
    rw [List.append_nil] at ht
    have e1 : tail ⟨2, q, e, i, 0, 0, l, []⟩ = UInt8.ofNat i.toNat :: (l.map fun n => Num.put n 1).flatten := by
      show Num.put i 1 ++ Num.putRow l 1 = _
      rw [put1 h1 (by omega), Num.putRow, if_pos hall]
      rfl
    rw [e1]
    unfold refC
    rw [if_neg (by show ¬ (2 : Int) = 1; omega), if_pos rfl, if_pos (by simp)]
    have hr : Num.rowOf ((UInt8.ofNat i.toNat :: (l.map fun n => Num.put n 1).flatten).drop 1) (((UInt8.ofNat i.toNat :: (l.map fun n => Num.put n 1).flatten).length - 1 : Nat) : Int) 1 = (l, [], 0) := by
      rw [List.drop_succ_cons, List.drop_zero, List.length_cons, Nat.add_sub_cancel, hlen]
      refine Num.rowOf_some (by decide) ?_
      rw [show (1 : Int).toNat * l.length = l.length from by simp]
      exact ht
    rw [hr]
    show It.mk 2 q e ((UInt8.ofNat i.toNat).toNat : Int) 0 0 l [] = _
    rw [byte_at h1 (by omega)]
  | token q e => rfl
  | flush q e i h1 h2 =>
    have e1 : tail ⟨4, q, e, i, 0, 0, [], []⟩ = [UInt8.ofNat i.toNat] := by
      show Num.put i 1 = _
      exact put1 h1 (by omega)
    rw [e1]
    unfold refC
    rw [if_neg (by show ¬ (4 : Int) = 1; omega), if_neg (by show ¬ (4 : Int) = 2; omega), if_pos rfl, if_pos (by simp)]
    show It.mk 4 q e ((UInt8.ofNat i.toNat).toNat : Int) 0 0 [] [] = _
    rw [byte_at h1 (by omega)]
  | ack q e c h1 h2 =>
    have fi : Num.fits c 8 = true := fits_in (k := 8) h1 (by rw [most8]; omega)
    obtain ⟨p1, p2, p3⟩ := Num.put_back fi []
    rw [List.append_nil] at p2
    show It.mk 5 q e 0 0 (Num.num (Num.put c 8) 8) [] [] = _
    rw [p2]
  | install q e l h1 h2 h3 =>
    have hall : (l.all fun n => Num.fits n 8) = true := all_fits (k := 8) h3 (by rw [most8]; omega)
    have ht := Num.takes_put [] l hall
    have hlen := Num.flat_length l hall
    rw [List.append_nil] at ht
    have e1 : tail ⟨6, q, e, 0, 0, 0, l, []⟩ = (l.map fun n => Num.put n 8).flatten := by
      show Num.putRow l 8 = _
      rw [Num.putRow, if_pos hall]
    rw [e1]
    have hr : Num.rowOf ((l.map fun n => Num.put n 8).flatten) (((l.map fun n => Num.put n 8).flatten.length / 8 : Nat) : Int) 8 = (l, [], 0) := by
      rw [hlen]
      refine Num.rowOf_some (by decide) ?_
      rw [show (8 : Int).toNat * l.length / 8 = l.length from by simp]
      exact ht
    show It.mk 6 q e 0 0 0 (Num.rowOf ((l.map fun n => Num.put n 8).flatten) (((l.map fun n => Num.put n 8).flatten.length / 8 : Nat) : Int) 8).1 [] = _
    rw [hr]
theorem refOf_put {x : It} (h : may x = true) : refOf (bytes x) = some x := by
  obtain ⟨⟨q1, q2⟩, ⟨e1, e2⟩, _⟩ := may_parts h
  have hk := may_kinds h
  obtain ⟨k1, k6⟩ := kinds_k hk
  have fq : Num.fits x.q 8 = true := fits_in (k := 8) (by omega) (by rw [most8]; omega)
  have fe : Num.fits x.e 8 = true := fits_in (k := 8) e1 (by rw [most8]; omega)
  have hall : ([x.q, x.e].all fun n => Num.fits n 8) = true := by simp [fq, fe]
  have hfl := Num.flat_length [x.q, x.e] hall
  have hfl2 : (([x.q, x.e].map fun n => Num.put n 8).flatten).length = 16 := by rw [hfl]; rfl
  have hb : bytes x = UInt8.ofNat x.k.toNat :: (([x.q, x.e].map fun n => Num.put n 8).flatten ++ tail x) := by
    rw [bytes, if_pos h, put1 (by omega) (by omega), Num.putRow, if_pos hall]
    rfl
  have hl := bytes_len h
  have ht : Num.takes 8 2 ([x.q, x.e].map fun n => Num.put n 8).flatten = some ([x.q, x.e], []) := by
    have := Num.takes_put [] [x.q, x.e] hall
    rwa [List.append_nil] at this
  have hd : ((bytes x).drop 1).take 16 = ([x.q, x.e].map fun n => Num.put n 8).flatten := by
    rw [hb, List.drop_succ_cons, List.drop_zero]
    exact List.take_left' hfl2
  have hd2 : (bytes x).drop 17 = tail x := by
    rw [hb, List.drop_succ_cons]
    exact List.drop_left' hfl2
  have h0 : at_ (bytes x) 0 = x.k := by
    rw [hb]
    exact byte_at (by omega) (by omega)
  unfold refOf
  rw [if_neg (by omega), hd, ht]
  dsimp only
  rw [hd2, h0, refC_put hk, tried, if_pos ⟨h, rfl⟩]
theorem refOf_eq (l : List UInt8) : refOf l = takeOf l := by
  cases hr : refOf l with
  | some x =>
    have : may x = true ∧ bytes x = l := by
      unfold refOf at hr
      split at hr
      · cases hr
      · split at hr
        · unfold tried at hr
          split at hr
          · rename_i hc
            injection hr with hr
            subst hr
            exact hc
          · cases hr
        · cases hr
    obtain ⟨hm, rfl⟩ := this
    exact (take_put hm).symm
  | none =>
    cases ht : takeOf l with
    | none => rfl
    | some x =>
      obtain ⟨hm, rfl⟩ := take_inv ht
      rw [refOf_put hm] at hr
      cases hr
end Go.Proofs.YtcppbfjdilpjgaaDoor.Item
