import Derived.WalkKit
import Derived.IntWalk
set_option maxRecDepth 100000
/- Plain mathematics of numbers as bytes, the highest first: what is written is read, what is read is written, the order of the bytes is that of the numbers; rows. No program is named here. -/
namespace Go.Proofs.Ytdchgnmkeefffaa.Num
set_option linter.unusedVariables false

/-- So many bytes, the highest first. -/
def be : Nat → Nat → List UInt8
  | 0, _ => []
  | k + 1, n => be k (n / 256) ++ [UInt8.ofNat n]
/-- The number that bytes are. -/
def val (l : List UInt8) : Nat := l.foldl (fun s x => 256 * s + x.toNat) 0

theorem be_length (k n : Nat) : (be k n).length = k := by
  induction k generalizing n with
  | zero => rfl
  | succ k ih => simp [be, ih]
theorem val_snoc (l : List UInt8) (x : UInt8) : val (l ++ [x]) = 256 * val l + x.toNat := by simp [val]
theorem u8_ofNat (n : Nat) : (UInt8.ofNat n).toNat = n % 256 := by simp
theorem byte_lt (x : UInt8) : x.toNat < 256 := x.toNat_lt
theorem val_be (k n : Nat) : val (be k n) = n % 256 ^ k := by
  induction k generalizing n with
  | zero => simp [be, val, Nat.mod_one]
  | succ k ih =>
    rw [be, val_snoc, ih, u8_ofNat, Nat.pow_succ, Nat.mul_comm (256 ^ k) 256, Nat.mod_mul]
    omega
theorem val_be_of {k n : Nat} (h : n < 256 ^ k) : val (be k n) = n := by rw [val_be, Nat.mod_eq_of_lt h]
theorem snoc_ind {P : List UInt8 → Prop} (h0 : P []) (h1 : ∀ l x, P l → P (l ++ [x])) (l : List UInt8) : P l := by
  have : ∀ n (l : List UInt8), l.length = n → P l := by
    intro n
    induction n with
    | zero => intro l hl; rw [List.eq_nil_of_length_eq_zero hl]; exact h0
    | succ n ih =>
      intro l hl
      have hne : l ≠ [] := by intro e; subst e; simp at hl
      rw [← List.dropLast_concat_getLast hne]
      exact h1 _ _ (ih _ (by simp [hl]))
  exact this _ l rfl
theorem val_lt (l : List UInt8) : val l < 256 ^ l.length := by
  induction l using snoc_ind with
  | h0 => simp [val]
  | h1 l x ih =>
    rw [val_snoc, List.length_append, List.length_singleton, Nat.pow_succ]
    have := byte_lt x
    omega
theorem be_val (l : List UInt8) : be l.length (val l) = l := by
  induction l using snoc_ind with
  | h0 => rfl
  | h1 l x ih =>
    have hx := byte_lt x
    rw [val_snoc, List.length_append, List.length_singleton, be]
    rw [show (256 * val l + x.toNat) / 256 = val l from by omega, ih]
    congr 1
    rw [List.cons.injEq]
    refine ⟨?_, rfl⟩
    apply UInt8.toNat_inj.1
    rw [u8_ofNat]
    omega
theorem be_get {k i : Nat} (n : Nat) (h : i < k) : (be k n)[i]? = some (UInt8.ofNat (n / 256 ^ (k - 1 - i))) := by
  induction k generalizing n with
  | zero => omega
  | succ k ih =>
    rw [be]
    by_cases hi : i < k
    · rw [List.getElem?_append_left (by rw [be_length]; exact hi), ih _ hi, Nat.div_div_eq_div_mul, show k + 1 - 1 - i = (k - 1 - i) + 1 from by omega, Nat.pow_succ, Nat.mul_comm]
    · have : i = k := by omega
      subst this
      rw [List.getElem?_append_right (by rw [be_length]; omega), be_length]
      simp
theorem be_inj {k n m : Nat} (hn : n < 256 ^ k) (hm : m < 256 ^ k) : be k n = be k m ↔ n = m := by
  constructor
  · intro h
    have := congrArg val h
    rwa [val_be_of hn, val_be_of hm] at this
  · rintro rfl; rfl

/-- The order of bytes. -/
theorem less_snoc (l m : List UInt8) (x y : UInt8) (h : l.length = m.length) : Op.bytesLess (l ++ [x]) (m ++ [y]) = (Op.bytesLess l m || (decide (l = m) && decide (x.toNat < y.toNat))) := by
  induction l generalizing m with
  | nil =>
    have : m = [] := List.eq_nil_of_length_eq_zero (by simpa using h.symm)
    subst this
    simp [Op.bytesLess, UInt8.lt_iff_toNat_lt]
  | cons a l ih =>
    cases m with
    | nil => simp at h
    | cons b m =>
      simp only [List.cons_append, Op.bytesLess]
      rw [ih m (by simpa using h)]
      by_cases hab : a = b
      · subst hab; simp
      · have : (a == b) = false := by simpa using hab
        simp [this, hab]
theorem less_be {k n m : Nat} (hn : n < 256 ^ k) (hm : m < 256 ^ k) : Op.bytesLess (be k n) (be k m) = decide (n < m) := by
  induction k generalizing n m with
  | zero => simp at hn hm; subst hn; subst hm; simp [be, Op.bytesLess]
  | succ k ih =>
    rw [Nat.pow_succ] at hn hm
    have h1 : n / 256 < 256 ^ k := by rw [Nat.div_lt_iff_lt_mul (by omega)]; exact hn
    have h2 : m / 256 < 256 ^ k := by rw [Nat.div_lt_iff_lt_mul (by omega)]; exact hm
    rw [be, be, less_snoc _ _ _ _ (by rw [be_length, be_length]), ih h1 h2, Bool.eq_iff_iff]
    simp only [Bool.or_eq_true, Bool.and_eq_true, decide_eq_true_eq, be_inj h1 h2, u8_ofNat]
    omega

/-- The greatest number of a width; below 0: there is no such one. -/
def most (k : Int) : Int := if k = 1 then 255 else if k = 2 then 65535 else if k = 8 then 4611686018427387904 else -1
def fits (n k : Int) : Bool := decide (0 ≤ n) && decide (n ≤ most k)
def put (n k : Int) : List UInt8 := if fits n k = true then be k.toNat n.toNat else []
theorem most_cases (k : Int) : (k = 1 ∧ most k = 255) ∨ (k = 2 ∧ most k = 65535) ∨ (k = 8 ∧ most k = 4611686018427387904) ∨ (k ≠ 1 ∧ k ≠ 2 ∧ k ≠ 8 ∧ most k = -1) := by
  unfold most
  split
  · simp_all
  · split
    · simp_all
    · split
      · simp_all
      · simp_all
/-- A width, as a natural number. -/
def IsW (k : Nat) : Prop := k = 1 ∨ k = 2 ∨ k = 8
theorem isW_of {k : Int} (h : ¬ most k < 0) : ∃ j : Nat, k = j ∧ IsW j := by
  rcases most_cases k with ⟨rfl, _⟩ | ⟨rfl, _⟩ | ⟨rfl, _⟩ | ⟨_, _, _, h'⟩
  · exact ⟨1, rfl, .inl rfl⟩
  · exact ⟨2, rfl, .inr (.inl rfl)⟩
  · exact ⟨8, rfl, .inr (.inr rfl)⟩
  · omega
theorem most_lt {k : Nat} (h : IsW k) : 0 ≤ most k ∧ most k < (256 ^ k : Nat) := by
  rcases h with rfl | rfl | rfl <;> decide
theorem IsW.pos {k : Nat} (h : IsW k) : 1 ≤ k ∧ k ≤ 8 := by rcases h with rfl | rfl | rfl <;> omega
theorem fits_nat {n : Int} {k : Nat} (hk : IsW k) (h : fits n k = true) : ∃ m : Nat, n = m ∧ m < 256 ^ k ∧ (m : Int) ≤ most k ∧ m ≤ 4611686018427387904 := by
  simp only [fits, Bool.and_eq_true, decide_eq_true_eq] at h
  have hl := most_lt hk
  refine ⟨n.toNat, by omega, ?_, by omega, ?_⟩
  · have : ((n.toNat : Nat) : Int) < (256 ^ k : Nat) := by omega
    exact_mod_cast this
  · have : most k ≤ 4611686018427387904 := by rcases hk with rfl | rfl | rfl <;> decide
    omega
theorem fits_width {n k : Int} (h : fits n k = true) : ∃ j : Nat, k = j ∧ IsW j := by
  simp only [fits, Bool.and_eq_true, decide_eq_true_eq] at h
  exact isW_of (by omega)
theorem put_length {n k : Int} (h : fits n k = true) : (put n k).length = k.toNat := by rw [put, if_pos h, be_length]
theorem put_not {n k : Int} (h : fits n k = false) : put n k = [] := by rw [put, if_neg (by simp [h])]

/-- The number that bytes begin with: its code, itself, what is behind it. -/
def code (l : List UInt8) (k : Int) : Int := if most k < 0 then 1 else if l.length < k.toNat then 2 else if most k < (val (l.take k.toNat) : Int) then 2 else 0
def num (l : List UInt8) (k : Int) : Nat := if code l k = 0 then val (l.take k.toNat) else 0
def rest (l : List UInt8) (k : Int) : List UInt8 := if code l k = 0 then l.drop k.toNat else []
theorem code_cases (l : List UInt8) (k : Int) : (code l k = 1 ∧ most k < 0) ∨ (code l k = 2 ∧ ¬ most k < 0) ∨ (code l k = 0 ∧ ¬ most k < 0 ∧ k.toNat ≤ l.length ∧ (val (l.take k.toNat) : Int) ≤ most k) := by
  unfold code
  by_cases h : most k < 0
  · simp [h]
  · by_cases h2 : l.length < k.toNat
    · simp [h, h2]
    · by_cases h3 : most k < (val (l.take k.toNat) : Int)
      · simp [h, h2, h3]
      · simp only [if_neg h, if_neg h2, if_neg h3]
        exact .inr (.inr ⟨trivial, h, by omega, by omega⟩)
theorem num_le (l : List UInt8) (k : Int) : num l k ≤ 4611686018427387904 := by
  unfold num
  split
  · rename_i h
    rcases code_cases l k with ⟨h1, _⟩ | ⟨h1, _⟩ | ⟨_, _, _, h4⟩
    · omega
    · omega
    · rcases most_cases k with ⟨_, e⟩ | ⟨_, e⟩ | ⟨_, e⟩ | ⟨_, _, _, e⟩ <;> omega
  · omega
theorem code_bad {l : List UInt8} {k : Int} (h : code l k ≠ 0) : num l k = 0 ∧ rest l k = [] := by unfold num rest; simp [h]
theorem num_fits {l : List UInt8} {k : Int} (h : code l k = 0) : fits (num l k) k = true := by
  rcases code_cases l k with ⟨h1, _⟩ | ⟨h1, _⟩ | ⟨_, _, _, h4⟩
  · omega
  · omega
  · unfold num
    rw [if_pos h]
    simp only [fits, Bool.and_eq_true, decide_eq_true_eq]
    omega
theorem rest_length {l : List UInt8} {k : Int} (h : code l k = 0) : (rest l k).length = l.length - k.toNat := by rw [rest, if_pos h, List.length_drop]
/-- What is taken, put again, is what stood there. -/
theorem put_num {l : List UInt8} {k : Int} (h : code l k = 0) : put (num l k) k ++ rest l k = l := by
  have hf := num_fits h
  rcases code_cases l k with ⟨h1, _⟩ | ⟨h1, _⟩ | ⟨_, _, h3, h4⟩
  · omega
  · omega
  · rw [put, if_pos hf, rest, if_pos h, num, if_pos h, Int.toNat_natCast]
    have hl : (l.take k.toNat).length = k.toNat := by rw [List.length_take]; omega
    have := be_val (l.take k.toNat)
    rw [hl] at this
    rw [this, List.take_append_drop]
/-- What is put is taken, with whatever stands behind it. -/
theorem put_back {n k : Int} (h : fits n k = true) (tail : List UInt8) : code (put n k ++ tail) k = 0 ∧ (num (put n k ++ tail) k : Int) = n ∧ rest (put n k ++ tail) k = tail := by
  obtain ⟨j, rfl, hj⟩ := fits_width h
  obtain ⟨m, rfl, hm, hm2, _⟩ := fits_nat hj h
  have hl : (put (m : Int) (j : Int)).length = j := by rw [put_length h]; simp
  have ht : (put (m : Int) (j : Int) ++ tail).take j = put (m : Int) (j : Int) := List.take_left' hl
  have hd : (put (m : Int) (j : Int) ++ tail).drop j = tail := List.drop_left' hl
  have hv : val (put (m : Int) (j : Int)) = m := by rw [put, if_pos h, Int.toNat_natCast, Int.toNat_natCast, val_be_of hm]
  have hk := most_lt hj
  have hc : code (put (m : Int) (j : Int) ++ tail) j = 0 := by
    unfold code
    rw [if_neg (by omega), Int.toNat_natCast, if_neg (by rw [List.length_append, hl]; omega), ht, hv, if_neg (by omega)]
  refine ⟨hc, ?_, ?_⟩
  · rw [num, if_pos hc, Int.toNat_natCast, ht, hv]
  · rw [rest, if_pos hc, Int.toNat_natCast, hd]

/-- A row's bytes. -/
def putRow (l : List Int) (k : Int) : List UInt8 := if (l.all fun n => fits n k) = true then (l.map fun n => put n k).flatten else []
/-- Take, so many times. -/
def takes (k : Int) : Nat → List UInt8 → Option (List Int × List UInt8)
  | 0, l => some ([], l)
  | m + 1, l => if code l k = 0 then (takes k m (rest l k)).map (fun p => ((num l k : Int) :: p.1, p.2)) else none
theorem takes_length {k : Int} : ∀ {m : Nat} {l : List UInt8} {a : List Int} {r : List UInt8}, takes k m l = some (a, r) → a.length = m := by
  intro m
  induction m with
  | zero => intro l a r h; simp [takes] at h; simp [h.1]
  | succ m ih =>
    intro l a r h
    simp only [takes] at h
    split at h
    · obtain ⟨⟨a', r'⟩, h', e⟩ := Option.map_eq_some_iff.1 h
      simp only [Prod.mk.injEq] at e
      rw [← e.1, List.length_cons, ih h']
    · cases h
theorem takes_rest {k : Int} : ∀ {m : Nat} {l : List UInt8} {a : List Int} {r : List UInt8}, takes k m l = some (a, r) → m * k.toNat + r.length = l.length := by
  intro m
  induction m with
  | zero => intro l a r h; simp [takes] at h; rw [← h.2]; omega
  | succ m ih =>
    intro l a r h
    simp only [takes] at h
    split at h
    · rename_i hc
      obtain ⟨⟨a', r'⟩, h', e⟩ := Option.map_eq_some_iff.1 h
      simp only [Prod.mk.injEq] at e
      have h1 := ih h'
      rw [rest_length hc] at h1
      rcases code_cases l k with ⟨hx, _⟩ | ⟨hx, _⟩ | ⟨_, _, h3, _⟩
      · omega
      · omega
      · rw [← e.2, Nat.succ_mul]; omega
    · cases h
/-- Too few bytes. -/
theorem takes_none {k : Int} {m : Nat} {l : List UInt8} (h : l.length < m * k.toNat) : takes k m l = none := by
  cases e : takes k m l with
  | none => rfl
  | some p => have := takes_rest (a := p.1) (r := p.2) e; omega
/-- In two parts. -/
theorem takes_add (k : Int) (q : Nat) : ∀ (p : Nat) (l : List UInt8), takes k (p + q) l = (takes k p l).bind fun x => (takes k q x.2).map fun y => (x.1 ++ y.1, y.2) := by
  intro p
  induction p with
  | zero => intro l; simp [takes]
  | succ p ih =>
    intro l
    rw [show p + 1 + q = (p + q) + 1 from by omega]
    simp only [takes]
    by_cases hc : code l k = 0
    · rw [if_pos hc, if_pos hc, ih]
      cases h1 : takes k p (rest l k) with
      | none => rfl
      | some x =>
        simp only [Option.map_some, Option.bind_some]
        cases h2 : takes k q x.2 with
        | none => rfl
        | some y => rfl
    · rw [if_neg hc, if_neg hc]; rfl
theorem takes_put {k : Int} (tail : List UInt8) : ∀ (l : List Int), (l.all fun n => fits n k) = true → takes k l.length ((l.map fun n => put n k).flatten ++ tail) = some (l, tail) := by
  intro l
  induction l with
  | nil => intro _; rfl
  | cons n l ih =>
    intro h
    simp only [List.all_cons, Bool.and_eq_true] at h
    simp only [List.map_cons, List.flatten_cons, List.length_cons, takes, List.append_assoc]
    obtain ⟨h1, h2, h3⟩ := put_back h.1 ((l.map fun n => put n k).flatten ++ tail)
    rw [if_pos h1, h3, ih h.2, h2]
    rfl
theorem flat_length {k : Int} : ∀ (l : List Int), (l.all fun n => fits n k) = true → (l.map fun n => put n k).flatten.length = k.toNat * l.length := by
  intro l
  induction l with
  | nil => intro _; simp
  | cons n l ih =>
    intro h
    simp only [List.all_cons, Bool.and_eq_true] at h
    simp only [List.map_cons, List.flatten_cons, List.length_append, List.length_cons, put_length h.1, ih h.2, Nat.mul_succ]
    omega
theorem putRow_append (a c : List Int) (k : Int) (ha : (a.all fun n => fits n k) = true) (hc : (c.all fun n => fits n k) = true) : putRow (a ++ c) k = putRow a k ++ putRow c k := by
  unfold putRow
  rw [if_pos ha, if_pos hc, if_pos (by rw [List.all_append, ha, hc]; rfl), List.map_append, List.flatten_append]
theorem putRow_one (n k : Int) : putRow [n] k = put n k := by
  unfold putRow
  by_cases h : fits n k = true
  · simp [h]
  · simp [h, put]
/-- So many of a row are taken: these, and that is left. -/
def Tk (k : Int) (m : Nat) (l : List UInt8) (j : Nat) (acc : List Int) (r : List UInt8) : Prop :=
  acc.length = j ∧ takes k m l = (takes k (m - j) r).map fun p => (acc ++ p.1, p.2)
theorem Tk.zero (k : Int) (m : Nat) (l : List UInt8) : Tk k m l 0 [] l := by
  refine ⟨rfl, ?_⟩
  rw [Nat.sub_zero]
  cases takes k m l with
  | none => rfl
  | some p => rfl
theorem Tk.succ {k : Int} {m : Nat} {l : List UInt8} {j : Nat} {acc : List Int} {r : List UInt8} (h : Tk k m l j acc r) (hj : j < m) (hc : code r k = 0) : Tk k m l (j + 1) (acc ++ [(num r k : Int)]) (rest r k) := by
  obtain ⟨h1, h2⟩ := h
  refine ⟨by simp [h1], ?_⟩
  rw [h2, show m - j = (m - (j + 1)) + 1 from by omega, takes, if_pos hc]
  cases takes k (m - (j + 1)) (rest r k) with
  | none => rfl
  | some p => simp
theorem Tk.bad {k : Int} {m : Nat} {l : List UInt8} {j : Nat} {acc : List Int} {r : List UInt8} (h : Tk k m l j acc r) (hj : j < m) (hc : code r k ≠ 0) : takes k m l = none := by
  obtain ⟨h1, h2⟩ := h
  rw [h2, show m - j = (m - (j + 1)) + 1 from by omega, takes, if_neg hc]
  rfl
theorem Tk.done {k : Int} {m : Nat} {l : List UInt8} {acc : List Int} {r : List UInt8} (h : Tk k m l m acc r) : takes k m l = some (acc, r) := by
  obtain ⟨h1, h2⟩ := h
  rw [h2, Nat.sub_self]
  simp [takes]
/-- A row's numbers, what is left, a code. -/
def rowOf (l : List UInt8) (many k : Int) : List Int × List UInt8 × Int :=
  if most k < 0 ∨ many < 0 then ([], [], 1) else match takes k many.toNat l with | some p => (p.1, p.2, 0) | none => ([], [], 2)
theorem rowOf_arg {l : List UInt8} {many k : Int} (h : most k < 0 ∨ many < 0) : rowOf l many k = ([], [], 1) := by rw [rowOf, if_pos h]
theorem rowOf_none {l : List UInt8} {m : Nat} {k : Int} (h : ¬ most k < 0) (ht : takes k m l = none) : rowOf l m k = ([], [], 2) := by
  rw [rowOf, if_neg (by omega), Int.toNat_natCast, ht]
theorem rowOf_some {l : List UInt8} {m : Nat} {k : Int} {a : List Int} {r : List UInt8} (h : ¬ most k < 0) (ht : takes k m l = some (a, r)) : rowOf l m k = (a, r, 0) := by
  rw [rowOf, if_neg (by omega), Int.toNat_natCast, ht]
theorem code_width {l : List UInt8} {k : Int} (h : ¬ most k < 0) (hc : code l k ≠ 0) : code l k = 2 := by
  rcases code_cases l k with ⟨_, h2⟩ | ⟨h1, _⟩ | ⟨h1, _⟩
  · omega
  · exact h1
  · omega
end Go.Proofs.Ytdchgnmkeefffaa.Num
/- What chapter 3 says of items, in numbers and lists alone: which may be, their bytes, and items of bytes. No program is named here. -/
namespace Go.Proofs.Ytdchgnmkeefffaa.Item
set_option linter.unusedVariables false

structure It where
  (k q e i t c : Int)
  (l : List Int)
  (b : List UInt8)
  deriving DecidableEq
def It.zero : It := ⟨0, 0, 0, 0, 0, 0, [], []⟩

/-- Is a number from one to another? -/
def win (n a b : Int) : Bool := decide (a ≤ n) && decide (n ≤ b)
theorem win_iff {n a b : Int} : win n a b = true ↔ a ≤ n ∧ n ≤ b := by simp [win]
def far : Int := 4611686018427387904
def allIn (l : List Int) (top : Int) : Bool := l.all fun n => win n 0 top
def list (l : List Int) (lo hi top : Int) : Bool := win l.length lo hi && allIn l top
def body (b : List UInt8) (most : Int) : Bool := decide ((b.length : Int) ≤ most)

def ask1 (x : It) : Bool := win x.t 1 32 && (win x.i 0 (x.t - 1) && (win x.c 0 0 && (list x.l 0 0 0 && body x.b 1024)))
def askN (x : It) (im cm lo hi top : Int) : Bool := win x.t 0 0 && (win x.i 0 im && (win x.c 0 cm && (list x.l lo hi top && body x.b 0)))
def ask (x : It) : Bool :=
  if x.k = 1 then ask1 x else if x.k = 2 then askN x 1 0 1 64 63 else if x.k = 3 then askN x 0 0 0 0 0 else if x.k = 4 then askN x 1 0 0 0 0
  else if x.k = 5 then askN x 0 4611686018427387904 0 0 0 else if x.k = 6 then askN x 0 0 2 64 4611686018427387904 else false
def may (x : It) : Bool := win x.q 1 4611686018427387904 && (win x.e 0 4611686018427387904 && ask x)

/-- An item's bytes behind kind, Seq and Epoch. -/
def tail (x : It) : List UInt8 :=
  if x.k = 1 then Num.putRow [x.i, x.t] 1 ++ x.b else if x.k = 2 then Num.put x.i 1 ++ Num.putRow x.l 1 else if x.k = 4 then Num.put x.i 1
  else if x.k = 5 then Num.put x.c 8 else if x.k = 6 then Num.putRow x.l 8 else []
def bytes (x : It) : List UInt8 := if may x = true then (Num.put x.k 1 ++ Num.putRow [x.q, x.e] 8) ++ tail x else []

end Go.Proofs.Ytdchgnmkeefffaa.Item
/- Messages in pieces, in numbers and lists. No program is named here. -/
namespace Go.Proofs.Ytdchgnmkeefffaa
set_option linter.unusedVariables false

/-- A message under way. -/
structure Pt where
  seq : Int
  total : Int
  got : Int
  b : List UInt8
  deriving DecidableEq

/-- Numbers that an int holds. -/
def I64 (x : Int) : Prop := -9223372036854775808 ≤ x ∧ x ≤ 9223372036854775807
def Pt.Ok (p : Pt) : Prop := I64 p.seq ∧ I64 p.total ∧ I64 p.got
def none_ : Pt := ⟨0, 0, 0, []⟩

/-- How many pieces. -/
def manyI (n m : Int) : Int := if n < 0 ∨ m < 1 then 0 else if n = 0 then 1 else (n - 1) / m + 1
def manyN (n m : Nat) : Nat := if n = 0 then 1 else (n - 1) / m + 1
theorem manyI_nat (n m : Nat) (hm : 1 ≤ m) : manyI (n : Int) (m : Int) = (manyN n m : Int) := by
  unfold manyI manyN
  rw [if_neg (by omega)]
  by_cases h0 : n = 0
  · rw [if_pos (by omega), if_pos h0]; rfl
  · rw [if_neg (by omega), if_neg h0]
    have e : ((n : Int) - 1) = ((n - 1 : Nat) : Int) := by omega
    rw [e]
    simp
theorem manyN_pos (n m : Nat) : 1 ≤ manyN n m := by
  unfold manyN
  split
  · exact Nat.le_refl _
  · exact Nat.le_add_left _ _
theorem manyN_le (n m : Nat) (hm : 1 ≤ m) : manyN n m ≤ n + 1 := by
  unfold manyN
  split
  · omega
  · have := Nat.div_le_self (n - 1) m
    omega
/-- Under way: k pieces are off, and the next one is one. -/
def Mid (n m k : Nat) : Prop := k = 0 ∨ k * m < n
theorem Mid.last {n m k : Nat} (h : Mid n m k) (hm : 1 ≤ m) (hl : n - k * m ≤ m) : manyN n m = k + 1 := by
  unfold manyN
  split
  · rename_i h0
    rcases h with rfl | h
    · rfl
    · omega
  · rename_i h0
    have hk : k * m ≤ n - 1 := by
      rcases h with rfl | h
      · simp
      · omega
    have e : (n - 1) / m = k := by
      apply Nat.div_eq_of_lt_le
      · exact hk
      · rw [Nat.succ_mul]; omega
    rw [e]
theorem Mid.next {n m k : Nat} (h : Mid n m k) (hl : m < n - k * m) : Mid n m (k + 1) := .inr (by rw [Nat.succ_mul]; omega)
theorem Mid.lt {n m k : Nat} (h : Mid n m k) (hm : 1 ≤ m) : k < manyN n m := by
  unfold manyN
  rcases h with rfl | h
  · split
    · exact Nat.one_pos
    · exact Nat.succ_pos _
  · have hn : n ≠ 0 := by omega
    rw [if_neg hn]
    have : k ≤ (n - 1) / m := (Nat.le_div_iff_mul_le (by omega)).2 (by omega)
    omega
theorem Mid.of {n m k : Nat} (hm : 1 ≤ m) (h : k < manyN n m) : Mid n m k := by
  unfold manyN at h
  split at h
  · exact .inl (by omega)
  · have : k ≤ (n - 1) / m := by omega
    have := (Nat.le_div_iff_mul_le (by omega)).1 this
    exact .inr (by omega)
theorem Mid.le {n m k : Nat} (h : Mid n m k) : k * m ≤ n := by
  rcases h with rfl | h
  · simp
  · omega

/-- The pieces. -/
def piece (l : List UInt8) (m k : Nat) : List UInt8 := (l.drop (k * m)).take m
def cutOf (l : List UInt8) (m : Nat) : List (List UInt8) := (List.range (manyN l.length m)).map (piece l m)
theorem cutOf_length (l : List UInt8) (m : Nat) : (cutOf l m).length = manyN l.length m := by simp [cutOf]
theorem cutOf_at (l : List UInt8) (m k : Nat) (h : k < manyN l.length m) : (cutOf l m)[k]? = some (piece l m k) := by
  unfold cutOf
  rw [List.getElem?_map, List.getElem?_range h]
  rfl
/-- The first k of them. -/
def uptoP (l : List UInt8) (m k : Nat) : List (List UInt8) := (List.range k).map (piece l m)
theorem uptoP_succ (l : List UInt8) (m k : Nat) : uptoP l m (k + 1) = uptoP l m k ++ [piece l m k] := by simp [uptoP, List.range_succ]
theorem piece_behind (l : List UInt8) (m k : Nat) : l.take (k * m) ++ piece l m k = l.take ((k + 1) * m) := by
  unfold piece
  rw [Nat.succ_mul, List.take_add]
theorem all_taken {l : List UInt8} {m k : Nat} (hm : 1 ≤ m) (h : manyN l.length m = k) : l.take (k * m) = l := by
  apply List.take_of_length_le
  subst h
  have hp := manyN_pos l.length m
  have hmid := Mid.of (n := l.length) (m := m) (k := manyN l.length m - 1) hm (by omega)
  rcases Nat.lt_or_ge m (l.length - (manyN l.length m - 1) * m) with h | h
  · have := (hmid.next h).lt hm
    omega
  · have e : manyN l.length m = (manyN l.length m - 1) + 1 := by omega
    rw [e, Nat.succ_mul]
    omega
theorem piece_length (l : List UInt8) (m k : Nat) : (piece l m k).length = min m (l.length - k * m) := by simp [piece]
theorem piece_full {l : List UInt8} {m k : Nat} (hm : 1 ≤ m) (h : k + 1 < manyN l.length m) : (piece l m k).length = m := by
  have := Mid.of hm h
  rw [piece_length]
  rcases this with h | h
  · omega
  · rw [Nat.succ_mul] at h; omega
theorem piece_some {l : List UInt8} {m k : Nat} (hm : 1 ≤ m) (h : k < manyN l.length m) (hl : 0 < l.length) : 0 < (piece l m k).length := by
  have := Mid.of hm h
  rw [piece_length]
  rcases this with rfl | h
  · simp; omega
  · omega

/-- What Add tells. -/
def fits (p : Pt) (index total : Int) : Bool := decide (1 ≤ total) && decide (total ≤ 32) && decide (index = p.got) && (decide (p.got = 0) || decide (total = p.total))
def nextP (p : Pt) (seq total : Int) (piece : List UInt8) : Pt := if p.got = 0 then ⟨seq, total, 1, piece⟩ else ⟨p.seq, p.total, IntKind.i64.wrap (p.got + 1), p.b ++ piece⟩
structure AddR where
  p : Pt
  s : List UInt8
  whole : Bool
  err : Int
  deriving DecidableEq
def addOf (p : Pt) (seq index total : Int) (piece : List UInt8) : AddR :=
  if fits p index total = true then
    if (nextP p seq total piece).got = total then ⟨none_, (nextP p seq total piece).b, true, 0⟩ else ⟨nextP p seq total piece, [], false, 0⟩
  else ⟨p, [], false, 2⟩
end Go.Proofs.Ytdchgnmkeefffaa
/- Lanes in lists: which are right, what is read, told, taken away and set. No program is named here. -/
namespace Go.Proofs.Ytdchgnmkeefffaa.Lane
open Go.Proofs.Ytdchgnmkeefffaa.Item (It)
open Go.Proofs.Ytdchgnmkeefffaa (Pt none_ addOf nextP fits AddR)
set_option linter.unusedVariables false

structure En where
  (k q : Int)
  (b : List UInt8)
  (l : List Int)
  (h : Bool)
  deriving DecidableEq
def En.zero : En := ⟨0, 0, [], [], false⟩
structure Ln where
  es : List En
  p : Pt
  deriving DecidableEq
def Ln.zero : Ln := ⟨[], none_⟩

def senders (l : List Int) : Bool := l.all fun n => decide (0 ≤ n) && decide (n ≤ 63)
/-- What an entry of its kind may not have. -/
def kind (e : En) : Bool :=
  if e.k = 1 then decide (e.l.length = 0) && !e.h else if e.k = 2 then decide (e.b.length = 0)
  else if e.k = 3 then decide (e.b.length = 0) && (decide (e.l.length = 0) && !e.h) else false
/-- May an entry be? -/
def may (e : En) : Bool := decide (1 ≤ e.q) && (senders e.l && kind e)
theorem may_iff {e : En} : may e = true ↔ 1 ≤ e.q ∧ senders e.l = true ∧ kind e = true := by simp [may]
theorem may_kind {e : En} (h : may e = true) : e.k = 1 ∨ e.k = 2 ∨ e.k = 3 := by
  have h := (may_iff.1 h).2.2
  unfold kind at h
  by_cases h1 : e.k = 1
  · exact .inl h1
  · by_cases h2 : e.k = 2
    · exact .inr (.inl h2)
    · by_cases h3 : e.k = 3
      · exact .inr (.inr h3)
      · simp [h1, h2, h3] at h
/-- Entries that may be, with numbers that rise from above low on. -/
def rises (low : Int) : List En → Bool
  | [] => true
  | e :: es => (may e && decide (low < e.q)) && rises e.q es
/-- The last number of entries, or low. -/
def top (low : Int) : List En → Int
  | [] => low
  | e :: es => top e.q es
theorem rises_cons {low : Int} {e : En} {es : List En} : rises low (e :: es) = true ↔ may e = true ∧ low < e.q ∧ rises e.q es = true := by simp [rises, and_assoc]
theorem top_snoc (low : Int) (es : List En) (e : En) : top low (es ++ [e]) = e.q := by
  induction es generalizing low with
  | nil => rfl
  | cons x es ih => exact ih x.q
theorem top_last (low : Int) (es : List En) (e : En) (h : es[es.length - 1]? = some e) : top low es = e.q := by
  induction es generalizing low with
  | nil => simp at h
  | cons x es ih =>
    cases es with
    | nil => simp at h; subst h; rfl
    | cons y es => exact ih x.q (by simpa using h)
theorem rises_top {low : Int} {es : List En} (h : rises low es = true) : low ≤ top low es := by
  induction es generalizing low with
  | nil => exact Int.le_refl _
  | cons x es ih =>
    obtain ⟨_, h2, h3⟩ := rises_cons.1 h
    have := ih h3
    show low ≤ top x.q es
    omega
theorem rises_mem {low : Int} {es : List En} (h : rises low es = true) {e : En} (he : e ∈ es) : may e = true ∧ low < e.q ∧ e.q ≤ top low es := by
  induction es generalizing low with
  | nil => cases he
  | cons x es ih =>
    obtain ⟨h1, h2, h3⟩ := rises_cons.1 h
    rcases List.mem_cons.1 he with rfl | he
    · exact ⟨h1, h2, rises_top h3⟩
    · obtain ⟨a, b, c⟩ := ih h3 he
      exact ⟨a, by omega, c⟩
theorem rises_snoc {low : Int} {es : List En} {e : En} : rises low (es ++ [e]) = (rises low es && (may e && decide (top low es < e.q))) := by
  induction es generalizing low with
  | nil =>
    show ((may e && decide (low < e.q)) && true) = (true && (may e && decide (low < e.q)))
    rw [Bool.and_true, Bool.true_and]
  | cons x es ih =>
    show ((may x && decide (low < x.q)) && rises x.q (es ++ [e])) = _
    rw [ih]
    show _ = (((may x && decide (low < x.q)) && rises x.q es) && (may e && decide (top x.q es < e.q)))
    rw [Bool.and_assoc (may x && decide (low < x.q))]
theorem rises_low {low low2 : Int} {es : List En} (h : rises low es = true) (hl : low2 ≤ low) : rises low2 es = true := by
  cases es with
  | nil => rfl
  | cons x es =>
    obtain ⟨h1, h2, h3⟩ := rises_cons.1 h
    exact rises_cons.2 ⟨h1, by omega, h3⟩
theorem rises_append {low : Int} {es fs : List En} : rises low (es ++ fs) = true ↔ rises low es = true ∧ rises (top low es) fs = true := by
  induction es generalizing low with
  | nil => simp [rises, top]
  | cons x es ih =>
    rw [List.cons_append, rises_cons, rises_cons, ih]
    show _ ↔ _ ∧ rises (top x.q es) fs = true
    constructor
    · rintro ⟨a, b, c, d⟩; exact ⟨⟨a, b, c⟩, d⟩
    · rintro ⟨⟨a, b, c⟩, d⟩; exact ⟨a, b, c, d⟩
theorem top_append (low : Int) (es fs : List En) : top low (es ++ fs) = top (top low es) fs := by
  induction es generalizing low with
  | nil => rfl
  | cons x es ih => exact ih x.q
/-- Numbers are told apart. -/
theorem rises_inj {low : Int} {es : List En} (h : rises low es = true) {e f : En} (he : e ∈ es) (hf : f ∈ es) (hq : e.q = f.q) : e = f := by
  induction es generalizing low with
  | nil => cases he
  | cons x es ih =>
    obtain ⟨h1, h2, h3⟩ := rises_cons.1 h
    rcases List.mem_cons.1 he with a | a <;> rcases List.mem_cons.1 hf with b | b
    · rw [a, b]
    · have := (rises_mem h3 b).2.1; rw [a] at hq; omega
    · have := (rises_mem h3 a).2.1; rw [b] at hq; omega
    · exact ih h3 a b
theorem top_filter {low : Int} {es : List En} (h : rises low es = true) (f : En → Bool) : top low (es.filter f) ≤ top low es := by
  induction es generalizing low with
  | nil => exact Int.le_refl _
  | cons x es ih =>
    obtain ⟨h1, h2, h3⟩ := rises_cons.1 h
    rw [List.filter_cons]
    split
    · exact ih h3
    · refine Int.le_trans ?_ (ih h3)
      cases hh : es.filter f with
      | nil => show low ≤ x.q; omega
      | cons y ys => exact Int.le_refl _
theorem rises_filter {low : Int} {es : List En} (h : rises low es = true) (f : En → Bool) : rises low (es.filter f) = true := by
  induction es generalizing low with
  | nil => rfl
  | cons x es ih =>
    obtain ⟨h1, h2, h3⟩ := rises_cons.1 h
    rw [List.filter_cons]
    split
    · exact rises_cons.2 ⟨h1, h2, ih h3⟩
    · exact rises_low (ih h3) (by omega)
/-- An entry in another's place. -/
def put (e x : En) : En := if x.q = e.q then e else x
theorem put_q (e x : En) : (put e x).q = x.q := by
  unfold put
  split
  · rename_i h; exact h.symm
  · rfl
theorem rises_put {low : Int} {es : List En} {e : En} (he : may e = true) (h : rises low es = true) : rises low (es.map (put e)) = true := by
  induction es generalizing low with
  | nil => rfl
  | cons x es ih =>
    obtain ⟨h1, h2, h3⟩ := rises_cons.1 h
    rw [List.map_cons, rises_cons, put_q]
    refine ⟨?_, h2, ih h3⟩
    unfold put
    split
    · exact he
    · exact h1
theorem top_put (low : Int) (es : List En) (e : En) : top low (es.map (put e)) = top low es := by
  induction es generalizing low with
  | nil => rfl
  | cons x es ih =>
    show top (put e x).q (es.map (put e)) = top x.q es
    rw [put_q]
    exact ih x.q

/-- Is a message under way right, behind entries up to low? -/
def part (p : Pt) (low : Int) : Bool :=
  if p.got = 0 then decide (p.seq = 0) && (decide (p.total = 0) && decide (p.b.length = 0))
  else decide (1 ≤ p.got) && (decide (p.got < p.total) && (decide (p.total ≤ 32) && (decide (1 ≤ p.seq) && decide (low < p.seq))))
theorem part_none {low : Int} : part none_ low = true := rfl
theorem part_zero {p : Pt} {low : Int} (h : part p low = true) (h0 : p.got = 0) : p = none_ := by
  unfold part at h
  rw [if_pos h0] at h
  simp only [Bool.and_eq_true, decide_eq_true_eq] at h
  obtain ⟨s, t, g, b⟩ := p
  obtain ⟨h1, h2, h3⟩ := h
  simp only at h0 h1 h2 h3
  have := List.eq_nil_of_length_eq_zero h3
  subst h0 h1 h2 this
  rfl
theorem part_got {p : Pt} {low : Int} (h : part p low = true) (h0 : p.got ≠ 0) : 1 ≤ p.got ∧ p.got < p.total ∧ p.total ≤ 32 ∧ 1 ≤ p.seq ∧ low < p.seq := by
  unfold part at h
  rw [if_neg h0] at h
  simpa only [Bool.and_eq_true, decide_eq_true_eq] using h
theorem part_of {p : Pt} {low : Int} (h : 1 ≤ p.got ∧ p.got < p.total ∧ p.total ≤ 32 ∧ 1 ≤ p.seq ∧ low < p.seq) : part p low = true := by
  unfold part
  rw [if_neg (by omega)]
  simpa only [Bool.and_eq_true, decide_eq_true_eq] using h
theorem part_low {p : Pt} {low low2 : Int} (h : part p low = true) (hl : low2 ≤ low) : part p low2 = true := by
  by_cases h0 : p.got = 0
  · rw [part_zero h h0]; rfl
  · obtain ⟨a, b, c, d, e⟩ := part_got h h0
    exact part_of ⟨a, b, c, d, by omega⟩
theorem part_nonneg {p : Pt} {low : Int} (h : part p low = true) : 0 ≤ p.got := by
  by_cases h0 : p.got = 0
  · omega
  · have := (part_got h h0).1; omega
/-- Is a lane right? -/
def right (l : Ln) : Bool := rises 0 l.es && part l.p (top 0 l.es)
theorem right_iff {l : Ln} : right l = true ↔ rises 0 l.es = true ∧ part l.p (top 0 l.es) = true := by simp [right]
/-- A lane's last number. -/
def last (l : Ln) : Int := if 0 < l.p.got then l.p.seq else top 0 l.es
theorem last_top {l : Ln} (h : right l = true) : top 0 l.es ≤ last l := by
  obtain ⟨h1, h2⟩ := right_iff.1 h
  unfold last
  split
  · have := part_got h2 (by omega); omega
  · exact Int.le_refl _

/-- Read. -/
def read (l : Ln) (it : It) : Ln × Int :=
  if it.k < 1 ∨ 3 < it.k then (l, 1) else if it.q ≤ last l then (l, 2)
  else if it.k = 1 then
    (if (addOf l.p it.q it.i it.t it.b).err = 0 then
      (if (addOf l.p it.q it.i it.t it.b).whole = true then (⟨l.es ++ [⟨1, if 0 < l.p.got then l.p.seq else it.q, (addOf l.p it.q it.i it.t it.b).s, [], false⟩], (addOf l.p it.q it.i it.t it.b).p⟩, 0)
        else (⟨l.es, (addOf l.p it.q it.i it.t it.b).p⟩, 0))
      else (l, 2))
  else if 0 < l.p.got then (l, 2)
  else (⟨l.es ++ [⟨it.k, it.q, [], if it.k = 2 then it.l else [], decide (it.k = 2) && decide (it.i = 1)⟩], l.p⟩, 0)
/-- Told. -/
def first (l : Ln) : Option En := l.es.head?
def isMsg (e : En) : Bool := decide (e.k = 1)
def message (l : Ln) : Option En := l.es.find? isMsg
def control (l : Ln) : Option En := l.es.find? fun e => !isMsg e
def many (l : Ln) : Nat := (l.es.filter isMsg).length
def pop (l : Ln) (s : Int) : Ln := ⟨l.es.filter fun e => decide (e.q ≠ s), l.p⟩
def set (l : Ln) (e : En) : Ln := if may e = true then ⟨l.es.map (put e), l.p⟩ else l
def done (l : Ln) (r : Int) : Int := match l.es with | e :: _ => e.q - 1 | [] => if 0 < l.p.got then l.p.seq - 1 else r

/-- Lanes stay right. -/
theorem right_pop {l : Ln} (h : right l = true) (s : Int) : right (pop l s) = true := by
  obtain ⟨h1, h2⟩ := right_iff.1 h
  exact right_iff.2 ⟨rises_filter h1 _, part_low h2 (top_filter h1 _)⟩
theorem right_set {l : Ln} (h : right l = true) (e : En) : right (set l e) = true := by
  unfold set
  split
  · rename_i he
    obtain ⟨h1, h2⟩ := right_iff.1 h
    exact right_iff.2 ⟨rises_put he h1, by rw [top_put]; exact h2⟩
  · exact h
theorem read_kind {l : Ln} {it : It} (h : it.k < 1 ∨ 3 < it.k) : read l it = (l, 1) := by unfold read; rw [if_pos h]
theorem read_low {l : Ln} {it : It} (h : ¬(it.k < 1 ∨ 3 < it.k)) (h2 : it.q ≤ last l) : read l it = (l, 2) := by unfold read; rw [if_neg h, if_pos h2]
theorem read_bad {l : Ln} {it : It} (h : it.k = 1) (h2 : ¬ it.q ≤ last l) (h3 : (addOf l.p it.q it.i it.t it.b).err ≠ 0) : read l it = (l, 2) := by
  unfold read; rw [if_neg (by omega), if_neg h2, if_pos h, if_neg h3]
theorem read_whole {l : Ln} {it : It} (h : it.k = 1) (h2 : ¬ it.q ≤ last l) {p : Pt} {s : List UInt8} (h3 : addOf l.p it.q it.i it.t it.b = ⟨p, s, true, 0⟩) :
    read l it = (⟨l.es ++ [⟨1, if 0 < l.p.got then l.p.seq else it.q, s, [], false⟩], p⟩, 0) := by
  unfold read; rw [if_neg (by omega), if_neg h2, if_pos h, h3, if_pos rfl, if_pos rfl]
theorem read_part {l : Ln} {it : It} (h : it.k = 1) (h2 : ¬ it.q ≤ last l) {p : Pt} {s : List UInt8} (h3 : addOf l.p it.q it.i it.t it.b = ⟨p, s, false, 0⟩) : read l it = (⟨l.es, p⟩, 0) := by
  unfold read; rw [if_neg (by omega), if_neg h2, if_pos h, h3, if_pos rfl, if_neg (by simp)]
theorem read_under {l : Ln} {it : It} (h : it.k = 2 ∨ it.k = 3) (h2 : ¬ it.q ≤ last l) (h3 : 0 < l.p.got) : read l it = (l, 2) := by
  unfold read; rw [if_neg (by omega), if_neg h2, if_neg (by omega), if_pos h3]
theorem read_order {l : Ln} {it : It} (h : it.k = 2 ∨ it.k = 3) (h2 : ¬ it.q ≤ last l) (h3 : ¬ 0 < l.p.got) :
    read l it = (⟨l.es ++ [⟨it.k, it.q, [], if it.k = 2 then it.l else [], decide (it.k = 2) && decide (it.i = 1)⟩], l.p⟩, 0) := by
  unfold read; rw [if_neg (by omega), if_neg h2, if_neg (by omega), if_neg h3]
/-- What is added to a message under way, in one of three ways. -/
theorem add_cases (p : Pt) (q i t : Int) (b : List UInt8) :
    (fits p i t = false ∧ addOf p q i t b = ⟨p, [], false, 2⟩) ∨ (fits p i t = true ∧ (nextP p q t b).got = t ∧ addOf p q i t b = ⟨none_, (nextP p q t b).b, true, 0⟩) ∨
      (fits p i t = true ∧ (nextP p q t b).got ≠ t ∧ addOf p q i t b = ⟨nextP p q t b, [], false, 0⟩) := by
  cases hf : fits p i t with
  | false => exact .inl ⟨rfl, by unfold addOf; rw [if_neg (by simp [hf])]⟩
  | true =>
    by_cases hg : (nextP p q t b).got = t
    · exact .inr (.inl ⟨rfl, hg, by unfold addOf; rw [if_pos hf, if_pos hg]⟩)
    · exact .inr (.inr ⟨rfl, hg, by unfold addOf; rw [if_pos hf, if_neg hg]⟩)
theorem fits_iff {p : Pt} {i t : Int} : fits p i t = true ↔ 1 ≤ t ∧ t ≤ 32 ∧ i = p.got ∧ (p.got = 0 ∨ t = p.total) := by
  unfold fits
  simp only [Bool.and_eq_true, Bool.or_eq_true, decide_eq_true_eq, and_assoc]
theorem next_part {p : Pt} {q i t low : Int} {b : List UInt8} (h : part p low = true) (hf : fits p i t = true) (hg : (nextP p q t b).got ≠ t) (hq : low < q) (hq0 : 0 ≤ low) : part (nextP p q t b) low = true := by
  obtain ⟨f1, f2, f3, f4⟩ := fits_iff.1 hf
  by_cases h0 : p.got = 0
  · have e : nextP p q t b = ⟨q, t, 1, b⟩ := by unfold nextP; rw [if_pos h0]
    rw [e] at hg ⊢
    simp only at hg
    exact part_of ⟨Int.le_refl _, by show (1 : Int) < t; omega, f2, by show 1 ≤ q; omega, hq⟩
  · obtain ⟨a, bb, c, d, ee⟩ := part_got h h0
    have ew : IntKind.i64.wrap (p.got + 1) = p.got + 1 := IntWalk.i64_in _ (by omega)
    have e : nextP p q t b = ⟨p.seq, p.total, p.got + 1, p.b ++ b⟩ := by unfold nextP; rw [if_neg h0, ew]
    rw [e] at hg ⊢
    simp only at hg
    exact part_of ⟨by show 1 ≤ p.got + 1; omega, by show p.got + 1 < p.total; omega, c, d, ee⟩
theorem senders_of {l : List Int} (h : Item.allIn l 63 = true) : senders l = true := by
  unfold Item.allIn Item.win at h
  exact h
/-- An order's entry, and a token's, may be. -/
theorem may_order {it : It} (h : Item.may it = true) (hk : it.k = 2 ∨ it.k = 3) : may ⟨it.k, it.q, [], if it.k = 2 then it.l else [], decide (it.k = 2) && decide (it.i = 1)⟩ = true := by
  unfold Item.may at h
  simp only [Bool.and_eq_true] at h
  obtain ⟨h1, _, h3⟩ := h
  refine may_iff.2 ⟨(Item.win_iff.1 h1).1, ?_, ?_⟩
  · show senders (if it.k = 2 then it.l else []) = true
    rcases hk with hk | hk
    · rw [if_pos hk]
      unfold Item.ask at h3
      rw [if_neg (by omega), if_pos hk] at h3
      unfold Item.askN at h3
      simp only [Bool.and_eq_true] at h3
      have := h3.2.2.2.1
      unfold Item.list at this
      rw [Bool.and_eq_true] at this
      exact senders_of this.2
    · rw [if_neg (by omega)]; rfl
  · unfold kind
    rcases hk with hk | hk
    · simp [hk]
    · simp [hk]
theorem right_read {l : Ln} {it : It} (h : right l = true) (hi : Item.may it = true) : right (read l it).1 = true := by
  by_cases h1 : it.k < 1 ∨ 3 < it.k
  · rw [read_kind h1]; exact h
  by_cases h2 : it.q ≤ last l
  · rw [read_low h1 h2]; exact h
  obtain ⟨r1, r2⟩ := right_iff.1 h
  have hl := last_top h
  have h0 := rises_top r1
  by_cases hk : it.k = 1
  · rcases add_cases l.p it.q it.i it.t it.b with ⟨_, e⟩ | ⟨hf, hg, e⟩ | ⟨hf, hg, e⟩
    · rw [read_bad hk h2 (by rw [e]; show (2 : Int) ≠ 0; decide)]; exact h
    · rw [read_whole hk h2 e]
      refine right_iff.2 ⟨?_, part_none⟩
      show rises 0 (l.es ++ [_]) = true
      rw [rises_snoc, r1]
      simp only [Bool.true_and, Bool.and_eq_true, decide_eq_true_eq]
      by_cases hp : 0 < l.p.got
      · obtain ⟨a, b, c, d, ee⟩ := part_got r2 (by omega)
        rw [if_pos hp]
        exact ⟨may_iff.2 ⟨d, rfl, rfl⟩, ee⟩
      · rw [if_neg hp]
        exact ⟨may_iff.2 ⟨by show 1 ≤ it.q; omega, rfl, rfl⟩, by omega⟩
    · rw [read_part hk h2 e]
      exact right_iff.2 ⟨r1, next_part r2 hf hg (show top 0 l.es < it.q by omega) h0⟩
  · have hk2 : it.k = 2 ∨ it.k = 3 := by omega
    by_cases hp : 0 < l.p.got
    · rw [read_under hk2 h2 hp]; exact h
    · rw [read_order hk2 h2 hp]
      have hp0 : l.p = none_ := part_zero r2 (by have := part_nonneg r2; omega)
      refine right_iff.2 ⟨?_, by show part l.p _ = true; rw [hp0]; rfl⟩
      show rises 0 (l.es ++ [_]) = true
      rw [rises_snoc, r1]
      simp only [Bool.true_and, Bool.and_eq_true, decide_eq_true_eq]
      exact ⟨may_order hi hk2, by omega⟩
/-- What is refused changes nothing; what is read lays one entry at most behind the others. -/
theorem read_stays (l : Ln) (it : It) : ((read l it).2 ≠ 0 → (read l it).1 = l) ∧ ((read l it).1.es = l.es ∨ ∃ e, (read l it).1.es = l.es ++ [e]) := by
  unfold read
  split
  · exact ⟨fun _ => rfl, .inl rfl⟩
  split
  · exact ⟨fun _ => rfl, .inl rfl⟩
  split
  · split
    · split
      · exact ⟨fun h => absurd rfl h, .inr ⟨_, rfl⟩⟩
      · exact ⟨fun h => absurd rfl h, .inl rfl⟩
    · exact ⟨fun _ => rfl, .inl rfl⟩
  split
  · exact ⟨fun _ => rfl, .inl rfl⟩
  · exact ⟨fun h => absurd rfl h, .inr ⟨_, rfl⟩⟩
theorem read_err (l : Ln) (it : It) : (read l it).2 = 0 ∨ (read l it).2 = 1 ∨ (read l it).2 = 2 := by
  unfold read
  split
  · exact .inr (.inl rfl)
  split
  · exact .inr (.inr rfl)
  split
  · split
    · split
      · exact .inl rfl
      · exact .inl rfl
    · exact .inr (.inr rfl)
  split
  · exact .inr (.inr rfl)
  · exact .inl rfl
/-- Of what stays when some are taken away, each stands where so many stood ahead of it. -/
theorem filter_at {α : Type} (f : α → Bool) (l : List α) (i : Nat) (x : α) (hx : l[i]? = some x) (hf : f x = true) : (l.filter f)[((l.take i).filter f).length]? = some x := by
  induction l generalizing i with
  | nil => simp at hx
  | cons y l ih =>
    cases i with
    | zero =>
      simp only [List.getElem?_cons_zero, Option.some.injEq] at hx
      subst hx
      rw [List.filter_cons, if_pos hf]
      rfl
    | succ i =>
      simp only [List.getElem?_cons_succ] at hx
      rw [List.take_succ_cons, List.filter_cons, List.filter_cons]
      cases hy : f y with
      | true => simpa using ih i hx
      | false => simpa using ih i hx
theorem filter_step {α : Type} (f : α → Bool) (l : List α) (i : Nat) (x : α) (hx : l[i]? = some x) : ((l.take (i + 1)).filter f).length = ((l.take i).filter f).length + (if f x = true then 1 else 0) := by
  rw [List.take_add_one, hx, List.filter_append, List.length_append]
  cases hf : f x <;> simp [hf]
end Go.Proofs.Ytdchgnmkeefffaa.Lane
/- Lanes over many calls, in lists: messages told one by one, an order set and set back, a stream read in order. No program is named here. -/
namespace Go.Proofs.Ytdchgnmkeefffaa.Lane
open Go.Proofs.Ytdchgnmkeefffaa.Item (It)
open Go.Proofs.Ytdchgnmkeefffaa (Pt none_ addOf nextP fits AddR manyN piece Mid piece_behind all_taken manyN_pos)
set_option linter.unusedVariables false

theorem rises_at {low : Int} {es : List En} (h : rises low es = true) {i j : Nat} {x y : En} (hi : es[i]? = some x) (hj : es[j]? = some y) (hij : i < j) : x.q < y.q := by
  induction es generalizing low i j with
  | nil => simp at hi
  | cons z es ih =>
    obtain ⟨h1, h2, h3⟩ := rises_cons.1 h
    cases j with
    | zero => omega
    | succ j =>
      simp only [List.getElem?_cons_succ] at hj
      cases i with
      | zero =>
        simp only [List.getElem?_cons_zero, Option.some.injEq] at hi
        subst hi
        exact (rises_mem h3 (List.mem_of_getElem? hj)).2.1
      | succ i =>
        simp only [List.getElem?_cons_succ] at hi
        exact ih h3 hi hj (by omega)
theorem rises_take {low : Int} {es : List En} (h : rises low es = true) (i : Nat) : rises low (es.take i) = true := by
  have e := List.take_append_drop i es
  rw [← e] at h
  exact (rises_append.1 h).1
/-- The next one's number is above those ahead. -/
theorem rises_next {low : Int} {es : List En} (h : rises low es = true) {i : Nat} {x : En} (hi : es[i]? = some x) : top low (es.take i) < x.q ∧ top low (es.take (i + 1)) = x.q := by
  have e : es.take (i + 1) = es.take i ++ [x] := by rw [List.take_add_one, hi]; rfl
  have h2 := rises_take h (i + 1)
  rw [e, rises_snoc] at h2
  simp only [Bool.and_eq_true, decide_eq_true_eq] at h2
  exact ⟨h2.2.2, by rw [e, top_snoc]⟩
/-- The first entry, taken away by its number. -/
theorem pop_head {low : Int} {e : En} {es : List En} (h : rises low (e :: es) = true) : ((e :: es).filter fun x => decide (x.q ≠ e.q)) = es := by
  obtain ⟨_, _, h3⟩ := rises_cons.1 h
  rw [List.filter_cons, if_neg (by simp)]
  refine List.filter_eq_self.2 fun x hx => ?_
  have := (rises_mem h3 hx).2.1
  simp only [decide_eq_true_eq]
  omega
theorem pop_none {es : List En} {s : Int} (h : ∀ x ∈ es, x.q ≠ s) : (es.filter fun x => decide (x.q ≠ s)) = es :=
  List.filter_eq_self.2 fun x hx => by simpa using h x hx

/-- Without the first i messages. -/
def drp : Nat → List En → List En
  | 0, es => es
  | _ + 1, [] => []
  | i + 1, e :: es => if isMsg e = true then drp i es else e :: drp (i + 1) es
theorem drp_zero (es : List En) : drp 0 es = es := by cases es <;> rfl
theorem drp_nil (i : Nat) : drp i [] = [] := by cases i <;> rfl
theorem drp_msg (i : Nat) {e : En} (es : List En) (h : isMsg e = true) : drp (i + 1) (e :: es) = drp i es := by
  show (if isMsg e = true then drp i es else e :: drp (i + 1) es) = _
  rw [if_pos h]
theorem drp_not (i : Nat) {e : En} (es : List En) (h : isMsg e = false) : drp i (e :: es) = e :: drp i es := by
  cases i with
  | zero => rw [drp_zero, drp_zero]
  | succ i =>
    show (if isMsg e = true then drp i es else e :: drp (i + 1) es) = _
    rw [if_neg (by simp [h])]
theorem drp_filter (i : Nat) (es : List En) : (drp i es).filter isMsg = (es.filter isMsg).drop i := by
  induction es generalizing i with
  | nil => rw [drp_nil]; simp
  | cons e es ih =>
    cases h : isMsg e with
    | true =>
      cases i with
      | zero => rw [drp_zero]; rfl
      | succ i => rw [drp_msg i es h, ih, List.filter_cons, if_pos h]; rfl
    | false => rw [drp_not i es h, List.filter_cons, if_neg (by simp [h]), ih, List.filter_cons, if_neg (by simp [h])]
theorem drp_all (es : List En) : drp (es.filter isMsg).length es = es.filter fun e => !isMsg e := by
  induction es with
  | nil => rfl
  | cons e es ih =>
    cases h : isMsg e with
    | true => rw [List.filter_cons, if_pos h, List.length_cons, drp_msg _ es h, ih, List.filter_cons, if_neg (by simp [h])]
    | false => rw [List.filter_cons, if_neg (by simp [h]), drp_not _ es h, ih, List.filter_cons, if_pos (by simp [h])]
theorem drp_pop {low : Int} {es : List En} (h : rises low es = true) {i : Nat} {x : En} (hx : (es.filter isMsg)[i]? = some x) : ((drp i es).filter fun e => decide (e.q ≠ x.q)) = drp (i + 1) es := by
  induction es generalizing low i with
  | nil => simp at hx
  | cons e es ih =>
    obtain ⟨_, _, h3⟩ := rises_cons.1 h
    cases hm : isMsg e with
    | true =>
      rw [List.filter_cons, if_pos hm] at hx
      cases i with
      | zero =>
        simp only [List.getElem?_cons_zero, Option.some.injEq] at hx
        subst hx
        rw [drp_msg 0 es hm, drp_zero, drp_zero]
        exact pop_head h
      | succ i =>
        simp only [List.getElem?_cons_succ] at hx
        rw [drp_msg i es hm, drp_msg (i + 1) es hm]
        exact ih h3 hx
    | false =>
      rw [List.filter_cons, if_neg (by simp [hm])] at hx
      have hq := (rises_mem h3 (List.mem_filter.1 (List.mem_of_getElem? hx)).1).2.1
      rw [drp_not i es hm, drp_not (i + 1) es hm, List.filter_cons, if_pos (by simp only [decide_eq_true_eq]; omega), ih h3 hx]
theorem message_is (l : Ln) : message l = (l.es.filter isMsg).head? := by
  unfold message
  rw [List.head?_filter]
theorem message_drp (i : Nat) (es : List En) (p : Pt) : message ⟨drp i es, p⟩ = (es.filter isMsg)[i]? := by
  rw [message_is]
  show ((drp i es).filter isMsg).head? = _
  rw [drp_filter, List.head?_drop]
/-- Of entries that are no messages the first one is the first order or token. -/
theorem control_head {es : List En} (h : ∀ e ∈ es, isMsg e = false) (p : Pt) : control ⟨es, p⟩ = es.head? := by
  cases es with
  | nil => rfl
  | cons e es =>
    show List.find? _ (e :: es) = some e
    rw [List.find?_cons_of_pos (by rw [h e List.mem_cons_self]; rfl)]
theorem control_drop (es : List En) (m : Nat) (p : Pt) : control ⟨(es.filter fun e => !isMsg e).drop m, p⟩ = (es.filter fun e => !isMsg e)[m]? := by
  rw [control_head, List.head?_drop]
  intro e he
  have := (List.mem_filter.1 (List.mem_of_mem_drop he)).2
  simpa using this
theorem drop_pop {low : Int} {es : List En} (h : rises low es = true) {m : Nat} {x : En} (hx : es[m]? = some x) : ((es.drop m).filter fun e => decide (e.q ≠ x.q)) = es.drop (m + 1) := by
  have hd : es.drop m = x :: es.drop (m + 1) := by
    rw [List.drop_eq_getElem_cons (by
      rcases Nat.lt_or_ge m es.length with h | h
      · exact h
      · rw [List.getElem?_eq_none h] at hx; cases hx)]
    congr 1
    exact (List.getElem?_eq_some_iff.1 hx).2
  have hr : rises (top low (es.take m)) (es.drop m) = true := by
    have e := List.take_append_drop m es
    rw [← e] at h
    exact (rises_append.1 h).2
  rw [hd] at hr ⊢
  exact pop_head hr
theorem parts_length (es : List En) : (es.filter isMsg).length + (es.filter fun e => !isMsg e).length = es.length := by
  induction es with
  | nil => rfl
  | cons e es ih =>
    rw [List.filter_cons, List.filter_cons]
    cases isMsg e <;> simp <;> omega

/-- The first entry has the lowest number. -/
theorem first_low {l : Ln} (h : right l = true) {f x : En} (hf : first l = some f) (hx : x ∈ l.es) : f.q ≤ x.q := by
  obtain ⟨h1, _⟩ := right_iff.1 h
  obtain ⟨es, p⟩ := l
  cases es with
  | nil => cases hx
  | cons e es =>
    have he : e = f := by simpa [first] using hf
    subst he
    rcases List.mem_cons.1 hx with rfl | hx
    · exact Int.le_refl _
    · have := (rises_mem (rises_cons.1 h1).2.2 hx).2.1
      omega
/-- Setting the first order. -/
theorem control_split {l : Ln} {e : En} (h : control l = some e) : ∃ as bs, l.es = as ++ e :: bs ∧ isMsg e = false ∧ ∀ a ∈ as, isMsg a = true := by
  unfold control at h
  obtain ⟨he, as, bs, hl, ha⟩ := List.find?_eq_some_iff_append.1 h
  exact ⟨as, bs, hl, by simpa using he, fun a ha' => by have := ha a ha'; simpa using this⟩
theorem put_back {low : Int} {es : List En} (h : rises low es = true) {e x : En} (he : e ∈ es) (hx : x.q = e.q) : (es.map (put x)).map (put e) = es := by
  rw [List.map_map]
  conv => rhs; rw [← List.map_id es]
  refine List.map_congr_left fun y hy => ?_
  show put e (put x y) = y
  by_cases hq : y.q = e.q
  · have : y = e := rises_inj h hy he hq
    subst this
    unfold put
    rw [if_pos hx.symm, if_pos hx]
  · have e1 : put x y = y := by unfold put; rw [if_neg (by omega)]
    rw [e1]
    unfold put
    rw [if_neg hq]
theorem control_set {l : Ln} (h : right l = true) {e x : En} (hc : control l = some e) (hq : x.q = e.q) (hx : may x = true) (hk : isMsg x = false) :
    control (set l x) = some x ∧ set (set l x) e = l ∧ many (set l x) = many l := by
  obtain ⟨as, bs, hl, hm, ha⟩ := control_split hc
  obtain ⟨h1, h2⟩ := right_iff.1 h
  have hmem : e ∈ l.es := by rw [hl]; simp
  have hs : set l x = ⟨l.es.map (put x), l.p⟩ := by unfold set; rw [if_pos hx]
  have pe : put x e = x := by unfold put; rw [if_pos hq.symm]
  have pa : as.map (put x) = as := by
    conv => rhs; rw [← List.map_id as]
    refine List.map_congr_left fun y hy => ?_
    show put x y = y
    unfold put
    rw [if_neg]
    intro hyq
    have := rises_inj h1 (e := y) (f := e) (by rw [hl]; simp [hy]) hmem (by omega)
    have h3 := ha y hy
    rw [this, hm] at h3
    cases h3
  rw [hs]
  refine ⟨?_, ?_, ?_⟩
  · show List.find? _ (l.es.map (put x)) = some x
    rw [hl, List.map_append, List.map_cons, pa, pe]
    refine List.find?_eq_some_iff_append.2 ⟨by simp [hk], as, bs.map (put x), rfl, fun a ha' => by simp [ha a ha']⟩
  · unfold set
    rw [if_pos (rises_mem h1 hmem).1]
    show (⟨(l.es.map (put x)).map (put e), l.p⟩ : Ln) = l
    rw [put_back h1 hmem hq]
  · unfold many
    show ((l.es.map (put x)).filter isMsg).length = _
    rw [List.filter_map, List.length_map]
    congr 1
    refine List.filter_congr fun y hy => ?_
    show isMsg (put x y) = isMsg y
    by_cases hyq : y.q = x.q
    · have := rises_inj h1 hy hmem (by omega)
      subst this
      rw [pe, hk, hm]
    · unfold put
      rw [if_neg hyq]

/-- A message's pieces that are off, as what is under way. -/
def under (seq : Int) (K : Nat) (l : List UInt8) (m k : Nat) : Pt := if k = 0 then none_ else ⟨seq, K, k, l.take (k * m)⟩
theorem under_got (seq : Int) (K : Nat) (l : List UInt8) (m k : Nat) : (under seq K l m k).got = k := by
  unfold under
  split
  · rename_i h; subst h; rfl
  · rfl
theorem under_zero (seq : Int) (K : Nat) (l : List UInt8) (m : Nat) : under seq K l m 0 = none_ := rfl
theorem under_add {seq q : Int} {l : List UInt8} {m k : Nat} (hm : 1 ≤ m) (hK : manyN l.length m ≤ 32) (hk : k < manyN l.length m) (hq : k = 0 → q = seq) :
    addOf (under seq (manyN l.length m) l m k) q (k : Int) (manyN l.length m : Nat) (piece l m k) =
      if k + 1 = manyN l.length m then ⟨none_, l, true, 0⟩ else ⟨under seq (manyN l.length m) l m (k + 1), [], false, 0⟩ := by
  obtain ⟨K, hKK⟩ : ∃ K, manyN l.length m = K := ⟨_, rfl⟩
  have hl := all_taken (l := l) (m := m) (k := K) hm hKK
  rw [hKK] at hK hk ⊢
  have hf : fits (under seq K l m k) (k : Int) (K : Nat) = true := by
    refine fits_iff.2 ⟨by omega, by omega, (under_got ..).symm, ?_⟩
    unfold under
    split
    · exact .inl rfl
    · exact .inr rfl
  have hn : nextP (under seq K l m k) q (K : Nat) (piece l m k) = ⟨seq, K, ((k + 1 : Nat) : Int), l.take ((k + 1) * m)⟩ := by
    have hb := piece_behind l m k
    unfold nextP
    rw [under_got]
    by_cases h0 : k = 0
    · subst h0
      rw [if_pos (by omega), hq rfl, ← hb]
      simp
    · have e : under seq K l m k = ⟨seq, K, k, l.take (k * m)⟩ := by unfold under; rw [if_neg h0]
      have ew : IntKind.i64.wrap ((k : Int) + 1) = ((k + 1 : Nat) : Int) := by
        rw [show ((k + 1 : Nat) : Int) = (k : Int) + 1 by omega]
        exact IntWalk.i64_in _ (by omega)
      rw [if_neg (by omega), e, ew, ← hb]
  unfold addOf
  rw [if_pos hf, hn]
  dsimp only
  by_cases hlast : k + 1 = K
  · rw [if_pos (by omega), if_pos hlast, hlast, hl]
  · rw [if_neg (by omega), if_neg hlast]
    unfold under
    rw [if_neg (by omega)]

/-- A stream of messages, with a token behind some: its entries, from a number on, and the number behind it. -/
def sz (m : Nat) (x : List UInt8 × Bool) : Int := (manyN x.1.length m : Int) + (if x.2 = true then 1 else 0)
def seqOf (m : Nat) (s : Int) : List (List UInt8 × Bool) → Int
  | [] => s
  | x :: xs => seqOf m (s + sz m x) xs
def msg (s : Int) (l : List UInt8) : En := ⟨1, s, l, [], false⟩
def tok (s : Int) : En := ⟨3, s, [], [], false⟩
def ents1 (m : Nat) (s : Int) (x : List UInt8 × Bool) : List En := msg s x.1 :: (if x.2 = true then [tok (s + manyN x.1.length m)] else [])
def ents (m : Nat) (s : Int) : List (List UInt8 × Bool) → List En
  | [] => []
  | x :: xs => ents1 m s x ++ ents m (s + sz m x) xs
theorem seqOf_append (m : Nat) (s : Int) (xs ys : List (List UInt8 × Bool)) : seqOf m s (xs ++ ys) = seqOf m (seqOf m s xs) ys := by
  induction xs generalizing s with
  | nil => rfl
  | cons x xs ih => exact ih _
theorem ents_append (m : Nat) (s : Int) (xs ys : List (List UInt8 × Bool)) : ents m s (xs ++ ys) = ents m s xs ++ ents m (seqOf m s xs) ys := by
  induction xs generalizing s with
  | nil => rfl
  | cons x xs ih =>
    show ents1 m s x ++ ents m (s + sz m x) (xs ++ ys) = (ents1 m s x ++ ents m (s + sz m x) xs) ++ ents m (seqOf m (s + sz m x) xs) ys
    rw [ih, List.append_assoc]
theorem seqOf_snoc (m : Nat) (s : Int) (xs : List (List UInt8 × Bool)) (x : List UInt8 × Bool) : seqOf m s (xs ++ [x]) = seqOf m s xs + sz m x := by
  rw [seqOf_append]; rfl
theorem ents_snoc (m : Nat) (s : Int) (xs : List (List UInt8 × Bool)) (x : List UInt8 × Bool) : ents m s (xs ++ [x]) = ents m s xs ++ ents1 m (seqOf m s xs) x := by
  rw [ents_append]
  show _ ++ (ents1 m _ x ++ []) = _
  rw [List.append_nil]
theorem sz_pos (m : Nat) (x : List UInt8 × Bool) : 1 ≤ sz m x := by
  have := manyN_pos x.1.length m
  unfold sz
  split <;> omega
theorem seqOf_le (m : Nat) (s : Int) (xs : List (List UInt8 × Bool)) : s + xs.length ≤ seqOf m s xs := by
  induction xs generalizing s with
  | nil => simp [seqOf]
  | cons x xs ih =>
    have := ih (s + sz m x)
    have := sz_pos m x
    show s + ((xs.length + 1 : Nat) : Int) ≤ seqOf m (s + sz m x) xs
    omega
theorem sz_le {m : Nat} {x : List UInt8 × Bool} (hm : 2 ≤ m) (hx : x.1.length ≤ 60) : manyN x.1.length m ≤ 30 ∧ sz m x ≤ 31 := by
  have h : manyN x.1.length m ≤ 30 := by
    unfold manyN
    split
    · omega
    · have : (x.1.length - 1) / m ≤ (x.1.length - 1) / 2 := Nat.div_le_div_left hm (by omega)
      omega
  refine ⟨h, ?_⟩
  unfold sz
  split <;> omega
theorem seqOf_top {m : Nat} (hm : 2 ≤ m) (s : Int) (xs : List (List UInt8 × Bool)) (h : ∀ x ∈ xs, x.1.length ≤ 60) : seqOf m s xs ≤ s + 31 * xs.length := by
  induction xs generalizing s with
  | nil => simp [seqOf]
  | cons x xs ih =>
    have := ih (s + sz m x) (fun y hy => h y (List.mem_cons_of_mem _ hy))
    have := (sz_le hm (h x List.mem_cons_self)).2
    show seqOf m (s + sz m x) xs ≤ s + 31 * ((xs.length + 1 : Nat) : Int)
    omega
theorem ents1_rises {m : Nat} {s low : Int} (x : List UInt8 × Bool) (h0 : 1 ≤ s) (hl : low < s) : rises low (ents1 m s x) = true ∧ top low (ents1 m s x) < s + sz m x := by
  have hp := manyN_pos x.1.length m
  obtain ⟨l, o⟩ := x
  have h1 : may (msg s l) = true := may_iff.2 ⟨h0, rfl, rfl⟩
  have h2 : may (tok (s + manyN l.length m)) = true := may_iff.2 ⟨by show 1 ≤ s + (manyN l.length m : Int); omega, rfl, rfl⟩
  cases o with
  | true =>
    refine ⟨rises_cons.2 ⟨h1, hl, rises_cons.2 ⟨h2, ?_, rfl⟩⟩, ?_⟩
    · show s < s + (manyN l.length m : Int)
      simp only at hp
      omega
    · show s + (manyN l.length m : Int) < s + ((manyN l.length m : Int) + 1)
      omega
  | false =>
    refine ⟨rises_cons.2 ⟨h1, hl, rfl⟩, ?_⟩
    show s < s + ((manyN l.length m : Int) + 0)
    simp only at hp
    omega
theorem ents_rises {m : Nat} {s low : Int} (xs : List (List UInt8 × Bool)) (h0 : 1 ≤ s) (hl : low < s) : rises low (ents m s xs) = true ∧ top low (ents m s xs) < seqOf m s xs := by
  induction xs generalizing s low with
  | nil => exact ⟨rfl, hl⟩
  | cons x xs ih =>
    obtain ⟨h1, h2⟩ := ents1_rises (m := m) x h0 hl
    have := sz_pos m x
    obtain ⟨h3, h4⟩ := ih (s := s + sz m x) (low := top low (ents1 m s x)) (by omega) h2
    refine ⟨rises_append.2 ⟨h1, h3⟩, ?_⟩
    show top low (ents1 m s x ++ ents m (s + sz m x) xs) < seqOf m (s + sz m x) xs
    rw [top_append]
    exact h4
theorem ents_many (m : Nat) (s : Int) (xs : List (List UInt8 × Bool)) (p : Pt) : many ⟨ents m s xs, p⟩ = xs.length := by
  unfold many
  show ((ents m s xs).filter isMsg).length = _
  induction xs generalizing s with
  | nil => rfl
  | cons x xs ih =>
    show ((ents1 m s x ++ ents m (s + sz m x) xs).filter isMsg).length = xs.length + 1
    rw [List.filter_append, List.length_append, ih]
    obtain ⟨l, o⟩ := x
    cases o <;> simp [ents1, msg, tok, isMsg] <;> omega
/-- A piece that is read. -/
theorem read_piece {es : List En} {s : Int} {l : List UInt8} {m k : Nat} (hm : 1 ≤ m) (hK : manyN l.length m ≤ 32) (hk : k < manyN l.length m) (hes : rises 0 es = true) (hs : top 0 es < s) {it : It}
    (e1 : it.k = 1) (e2 : it.q = s + k) (e3 : it.i = k) (e4 : it.t = (manyN l.length m : Nat)) (e5 : it.b = piece l m k) :
    read ⟨es, under s (manyN l.length m) l m k⟩ it = if k + 1 = manyN l.length m then (⟨es ++ [msg s l], none_⟩, 0) else (⟨es, under s (manyN l.length m) l m (k + 1)⟩, 0) := by
  have ha := under_add (seq := s) (q := it.q) (l := l) (m := m) (k := k) hm hK hk (fun h => by rw [e2, h]; simp)
  rw [← e3, ← e4, ← e5] at ha
  have hl : ¬ it.q ≤ last ⟨es, under s (manyN l.length m) l m k⟩ := by
    unfold last
    show ¬ it.q ≤ if 0 < (under s (manyN l.length m) l m k).got then (under s (manyN l.length m) l m k).seq else top 0 es
    rw [under_got]
    by_cases h0 : k = 0
    · rw [if_neg (by omega)]; omega
    · rw [if_pos (by omega)]
      have : (under s (manyN l.length m) l m k).seq = s := by unfold under; rw [if_neg h0]
      omega
  by_cases hlast : k + 1 = manyN l.length m
  · rw [if_pos hlast] at ha ⊢
    have hw := read_whole e1 hl ha
    rw [hw]
    congr 3
    show [(⟨1, if 0 < (under s (manyN l.length m) l m k).got then (under s (manyN l.length m) l m k).seq else it.q, l, [], false⟩ : En)] = [msg s l]
    rw [under_got]
    by_cases h0 : k = 0
    · rw [if_neg (by omega), e2, h0]; simp [msg]
    · rw [if_pos (by omega)]
      have : (under s (manyN l.length m) l m k).seq = s := by unfold under; rw [if_neg h0]
      rw [this]; rfl
  · rw [if_neg hlast] at ha ⊢
    exact read_part e1 hl ha
/-- A token that is read. -/
theorem read_token {es : List En} {s : Int} (hs : top 0 es < s) {it : It} (e1 : it.k = 3) (e2 : it.q = s) : read ⟨es, none_⟩ it = (⟨es ++ [tok s], none_⟩, 0) := by
  rw [read_order (.inr e1) (by show ¬ it.q ≤ top 0 es; omega) (by show ¬ (0 : Int) < 0; omega)]
  rw [e1, e2]
  rfl
/-- What is told of a stream in its order. -/
theorem stream_message (m : Nat) (s : Int) (x : List UInt8 × Bool) (xs : List (List UInt8 × Bool)) (p : Pt) : message ⟨ents m s (x :: xs), p⟩ = some (msg s x.1) := rfl
theorem stream_done (m : Nat) (s : Int) (x : List UInt8 × Bool) (xs : List (List UInt8 × Bool)) (p : Pt) (r : Int) : done ⟨ents m s (x :: xs), p⟩ r = s - 1 := rfl
/-- Behind a stream's first message. -/
def behind (m : Nat) (s : Int) (x : List UInt8 × Bool) (xs : List (List UInt8 × Bool)) : List En := (if x.2 = true then [tok (s + manyN x.1.length m)] else []) ++ ents m (s + sz m x) xs
theorem stream_pop {m : Nat} {s : Int} (x : List UInt8 × Bool) (xs : List (List UInt8 × Bool)) (p : Pt) (h : 1 ≤ s) : pop ⟨ents m s (x :: xs), p⟩ s = ⟨behind m s x xs, p⟩ := by
  have hr := (ents_rises (m := m) (low := 0) (x :: xs) h (by omega)).1
  unfold pop
  show (⟨(msg s x.1 :: behind m s x xs).filter _, p⟩ : Ln) = _
  have e : (msg s x.1 :: behind m s x xs).filter (fun e => decide (e.q ≠ s)) = behind m s x xs := pop_head (e := msg s x.1) hr
  rw [e]
theorem stream_control {m : Nat} {s : Int} (l : List UInt8) (xs : List (List UInt8 × Bool)) (p : Pt) : control ⟨behind m s (l, true) xs, p⟩ = some (tok (s + manyN l.length m)) := rfl
theorem stream_behind {m : Nat} {s : Int} (l : List UInt8) (xs : List (List UInt8 × Bool)) (p : Pt) (h : 1 ≤ s) : pop ⟨behind m s (l, true) xs, p⟩ (s + manyN l.length m) = ⟨ents m (s + sz m (l, true)) xs, p⟩ := by
  have hr := (ents_rises (m := m) (low := 0) ((l, true) :: xs) h (by omega)).1
  have hr2 := (rises_cons.1 hr).2.2
  unfold pop
  show (⟨(tok (s + manyN l.length m) :: ents m (s + sz m (l, true)) xs).filter _, p⟩ : Ln) = _
  have e : (tok (s + manyN l.length m) :: ents m (s + sz m (l, true)) xs).filter (fun e => decide (e.q ≠ s + manyN l.length m)) = ents m (s + sz m (l, true)) xs := pop_head (e := tok (s + manyN l.length m)) hr2
  rw [e]
theorem stream_none {m : Nat} {s : Int} (l : List UInt8) (xs : List (List UInt8 × Bool)) : behind m s (l, false) xs = ents m (s + sz m (l, false)) xs := rfl
end Go.Proofs.Ytdchgnmkeefffaa.Lane
