/- Whole numbers and halves as floats of 64 bits: sums, differences, a half, what is cut off, and how they stand to each other, exact. No program is named here. -/
import Derived.Laws.FloatArith
set_option maxRecDepth 100000
namespace Go.Proofs.Ytahcofejjfdbbaa.FloatInt
open Ieee
set_option linter.unusedVariables false

theorem pow_add' (a b : Nat) : 2 ^ (a + b) = 2 ^ a * 2 ^ b := Nat.pow_add 2 a b
theorem log2_mul {m : Nat} (hm : m ≠ 0) (k : Nat) : (m * 2 ^ k).log2 = m.log2 + k := by
  have h1 := Nat.log2_self_le hm
  have h2 := @Nat.lt_log2_self m
  have hp : 0 < 2 ^ k := Nat.two_pow_pos k
  rw [Nat.log2_eq_iff (by have := Nat.mul_pos (Nat.pos_of_ne_zero hm) hp; omega)]
  constructor
  · rw [Nat.pow_add]
    exact Nat.mul_le_mul_right _ h1
  · rw [show m.log2 + k + 1 = (m.log2 + 1) + k by omega, Nat.pow_add]
    exact (Nat.mul_lt_mul_right hp).2 h2
/-- A number whose digits are few is written just as it is: its rung. -/
def rung (m : Nat) (p : Int) : Nat := (p + m.log2 - 52 + 1074).toNat * 2 ^ 52 + m * 2 ^ (52 - m.log2)
theorem digits {m : Nat} (hm : m ≠ 0) (h : m < 2 ^ 53) : m.log2 ≤ 52 ∧ 2 ^ 52 ≤ m * 2 ^ (52 - m.log2) ∧ m * 2 ^ (52 - m.log2) < 2 ^ 53 := by
  have h1 := Nat.log2_self_le hm
  have h2 := @Nat.lt_log2_self m
  have hl : m.log2 ≤ 52 := by
    rcases Nat.lt_or_ge 52 m.log2 with k | k
    · have := Nat.pow_le_pow_right (show 0 < 2 by omega) k
      exact absurd h (by omega)
    · exact k
  have hp : 0 < 2 ^ (52 - m.log2) := Nat.two_pow_pos _
  refine ⟨hl, ?_, ?_⟩
  · have := Nat.mul_le_mul_right (2 ^ (52 - m.log2)) h1
    rwa [← Nat.pow_add, show m.log2 + (52 - m.log2) = 52 by omega] at this
  · have := (Nat.mul_lt_mul_right hp).2 h2
    rwa [← Nat.pow_add, show m.log2 + 1 + (52 - m.log2) = 53 by omega] at this
theorem cut_zero (s : Bool) (n : Nat) : Toward.even.cut s n 0 = n := by
  unfold Toward.cut
  simp [Nat.mod_one]
theorem cut_even (s : Bool) (q d : Nat) (hq : 2 ^ 52 ≤ q) : Toward.even.cut s (q * 2 ^ d) d = q := by
  have hp : 0 < 2 ^ d := Nat.two_pow_pos d
  have hq0 : q ≠ 0 := by intro e; subst e; simp at hq
  have hd : min d ((q * 2 ^ d).log2 + 2) = d := by rw [log2_mul hq0]; omega
  unfold Toward.cut
  simp only [hd, Nat.shiftLeft_eq, Nat.one_mul, Nat.mul_mod_left, Nat.mul_div_cancel _ hp]
  have e1 : decide (2 ^ d < 2 * 0) = false := by simp
  have e2 : (2 ^ d == 2 * 0) = false := by simp
  simp [e2]
theorem nearest_is (s : Bool) {m : Nat} (hm : m ≠ 0) (h : m < 2 ^ 53) (k : Nat) (p : Int) (h1 : -900 ≤ p) (h2 : p ≤ 900) :
    double.nearest s (m * 2 ^ k) (p - k) = double.word s (rung m p) := by
  obtain ⟨hl, hlo, hhi⟩ := digits hm h
  have hp : 0 < 2 ^ k := Nat.two_pow_pos k
  have hne : m * 2 ^ k ≠ 0 := by have := Nat.mul_pos (Nat.pos_of_ne_zero hm) hp; omega
  have hlp : double.leastPlace = -1074 := by rfl
  have hfb : double.fractionBits = 52 := rfl
  unfold Format.nearest
  rw [if_neg hne]
  simp only [log2_mul hm, hlp, hfb]
  have hlast : max (p - (k : Int) + ((m.log2 + k : Nat) : Int) - ((52 : Nat) : Int)) (-1074) = p + (m.log2 : Int) - 52 := by omega
  rw [hlast]
  have hkept : Toward.even.cut s ((m * 2 ^ k) <<< (p - (k : Int) - (p + (m.log2 : Int) - 52)).toNat) ((p + (m.log2 : Int) - 52 - (p - (k : Int))).toNat) = m * 2 ^ (52 - m.log2) := by
    rcases Nat.lt_or_ge (52 - m.log2) k with hk | hk
    · rw [show (p - (k : Int) - (p + (m.log2 : Int) - 52)).toNat = 0 by omega, show (p + (m.log2 : Int) - 52 - (p - (k : Int))).toNat = k - (52 - m.log2) by omega, Nat.shiftLeft_zero]
      have e : m * 2 ^ k = m * 2 ^ (52 - m.log2) * 2 ^ (k - (52 - m.log2)) := by rw [Nat.mul_assoc, ← Nat.pow_add]; congr 2; omega
      rw [e]
      exact cut_even s _ _ hlo
    · rw [show (p + (m.log2 : Int) - 52 - (p - (k : Int))).toNat = 0 by omega, show (p - (k : Int) - (p + (m.log2 : Int) - 52)).toNat = 52 - m.log2 - k by omega, cut_zero, Nat.shiftLeft_eq, Nat.mul_assoc, ← Nat.pow_add]
      congr 2
      omega
  rw [hkept]
  have hb : double.binade = 2 ^ 52 := rfl
  have hi : double.infRung = 2047 * 2 ^ 52 := rfl
  rw [hb, hi]
  congr 1
  rw [show (p + (m.log2 : Int) - 52 - -1074) = p + (m.log2 : Int) - 52 + 1074 by omega]
  unfold rung
  apply Nat.min_eq_left
  obtain ⟨t, ht⟩ : ∃ t, (p + (m.log2 : Int) - 52 + 1074).toNat = t := ⟨_, rfl⟩
  obtain ⟨q, hq⟩ : ∃ q, m * 2 ^ (52 - m.log2) = q := ⟨_, rfl⟩
  have ht1 : t ≤ 1974 := by omega
  rw [ht, hq]
  rw [hq] at hhi
  clear ht hq hkept hlast hlo
  omega
theorem read_is (s : Bool) {m : Nat} (hm : m ≠ 0) (h : m < 2 ^ 53) (p : Int) (h1 : -900 ≤ p) (h2 : p ≤ 900) :
    double.read (double.word s (rung m p)) = .number s (m * 2 ^ (52 - m.log2)) (p + m.log2 - 52) := by
  obtain ⟨hl, hlo, hhi⟩ := digits hm h
  obtain ⟨t, ht⟩ : ∃ t, (p + (m.log2 : Int) - 52 + 1074).toNat = t := ⟨_, rfl⟩
  have ht1 : t ≤ 1974 := by omega
  have ht2 : p + (m.log2 : Int) - 52 = (t : Int) - 1074 := by omega
  have hr : rung m p = t * 2 ^ 52 + m * 2 ^ (52 - m.log2) := by unfold rung; rw [ht]
  obtain ⟨q, hq⟩ : ∃ q, m * 2 ^ (52 - m.log2) = q := ⟨_, rfl⟩
  rw [hq] at hlo hhi hr ⊢
  have hw : double.signWeight = 2 ^ 63 := rfl
  have hb : double.binade = 2 ^ 52 := rfl
  have hi : double.infRung = 2047 * 2 ^ 52 := rfl
  have hlp : double.leastPlace = -1074 := rfl
  have hlt : rung m p < 2 ^ 63 := by rw [hr]; omega
  have hmod : double.word s (rung m p) % 2 ^ 63 = rung m p := by
    unfold Format.word
    rw [hw]
    cases s
    · simp only [Bool.false_eq_true, if_false]; exact Nat.mod_eq_of_lt hlt
    · simp only [if_true]; rw [Nat.add_mod_left]; exact Nat.mod_eq_of_lt hlt
  have hdiv : (double.word s (rung m p) / 2 ^ 63 % 2 == 1) = s := by
    unfold Format.word
    rw [hw]
    cases s
    · simp only [Bool.false_eq_true, if_false]; rw [Nat.div_eq_of_lt hlt]; rfl
    · simp only [if_true]; rw [Nat.add_div_left _ (Nat.two_pow_pos 63), Nat.div_eq_of_lt hlt]; rfl
  unfold Format.read
  simp only [hw, hb, hi, hlp, hmod, hdiv]
  rw [if_neg (by rw [hr]; omega), if_pos (by rw [hr]; omega)]
  have e1 : rung m p % 2 ^ 52 = q - 2 ^ 52 := by rw [hr]; omega
  have e2 : rung m p / 2 ^ 52 = t + 1 := by rw [hr]; omega
  rw [e1, e2, ht2, show 2 ^ 52 + (q - 2 ^ 52) = q by omega, show (-1074 : Int) + ((t + 1 - 1 : Nat) : Int) = (t : Int) - 1074 by omega]

/-- The float that is 'a * 2 ^ p'. -/
def fl (a p : Int) : Nat := double.nearest (decide (a < 0)) a.natAbs p
theorem fl_int (a : Int) : floatOfInt .f64 a = fl a 0 := rfl
/-- What a float's bits stand for: 'a * 2 ^ p'. -/
def Reads (b : Nat) (a p : Int) : Prop := ∃ k : Nat, double.read b = .number (decide (a < 0)) (a.natAbs * 2 ^ k) (p - k) ∧ (a ≠ 0 → a.natAbs.log2 + k = 52)
theorem few {a : Int} (h : -4503599627370496 < a ∧ a < 4503599627370496) : a.natAbs < 2 ^ 53 := by omega
theorem reads_fl {a p : Int} (h : -4503599627370496 < a ∧ a < 4503599627370496) (h1 : -900 ≤ p) (h2 : p ≤ 900) : Reads (fl a p) a p := by
  by_cases ha : a = 0
  · subst ha
    refine ⟨(p + 1074).toNat, ?_, fun h => absurd rfl h⟩
    have e : fl 0 p = 0 := rfl
    rw [e]
    have e2 : double.read 0 = .number false 0 (-1074) := by rfl
    rw [e2, show p - ((p + 1074).toNat : Int) = -1074 by omega]
    simp
  · have hn : a.natAbs ≠ 0 := by omega
    have hf := few h
    have e : fl a p = double.word (decide (a < 0)) (rung a.natAbs p) := by
      have := nearest_is (decide (a < 0)) hn hf 0 p h1 h2
      unfold fl
      simpa using this
    rw [e]
    have hl := (digits hn hf).1
    refine ⟨52 - a.natAbs.log2, ?_, fun _ => by omega⟩
    rw [read_is _ hn hf p h1 h2]
    congr 1
    omega
theorem write_is (n : Int) (k : Nat) (p : Int) (h : -4503599627370496 < n ∧ n < 4503599627370496) (h1 : -900 ≤ p) (h2 : p ≤ 900) :
    double.write (.number (decide (n < 0)) (n.natAbs * 2 ^ k) (p - k)) = fl n p := by
  show double.nearest _ _ _ = _
  by_cases hn : n = 0
  · subst hn
    unfold fl Format.nearest
    simp
  · have ha : n.natAbs ≠ 0 := by omega
    rw [nearest_is _ ha (few h) k p h1 h2]
    have := nearest_is (decide (n < 0)) ha (few h) 0 p h1 h2
    unfold fl
    simp only [Nat.pow_zero, Nat.mul_one, Int.natCast_zero, Int.sub_zero] at this
    rw [this]
theorem fl_half (a : Int) (h : -4503599627370496 < a ∧ a < 4503599627370496) (p : Int) (h1 : -800 ≤ p) (h2 : p ≤ 800) : fl (2 * a) (p - 1) = fl a p := by
  have e := write_is a 1 p h (by omega) (by omega)
  rw [← e]
  show fl (2 * a) (p - 1) = double.nearest _ _ _
  unfold fl
  rw [show decide (2 * a < 0) = decide (a < 0) by congr 1; simp only [eq_iff_iff]; omega, show (2 * a).natAbs = a.natAbs * 2 ^ 1 by omega]
  rfl
theorem signed_is (a : Int) (k u : Nat) : signed (decide (a < 0)) (a.natAbs * 2 ^ k) u = a * 2 ^ (k + u) := by
  unfold signed
  rw [Nat.shiftLeft_eq, Nat.mul_assoc, ← Nat.pow_add]
  by_cases h : a < 0
  · rw [if_pos (by simpa using h)]
    have e : a = -(a.natAbs : Int) := by omega
    generalize a.natAbs = m at *
    subst e
    rw [Int.natCast_mul, Int.natCast_pow, Int.neg_mul]
    rfl
  · rw [if_neg (by simpa using h)]
    have e : a = (a.natAbs : Int) := by omega
    generalize a.natAbs = m at *
    subst e
    rw [Int.natCast_mul, Int.natCast_pow]
    rfl
theorem two_pow_pos' (k : Nat) : (0 : Int) < 2 ^ k := Int.pow_pos (by omega)
theorem sum_is (a c p : Int) (k l : Nat) (s t : Bool) (hs : signed s (a.natAbs * 2 ^ k) ((p - k) - min (p - k) (p - l)).toNat = a * 2 ^ max k l) (ht : signed t (c.natAbs * 2 ^ l) ((p - l) - min (p - k) (p - l)).toNat = c * 2 ^ max k l) (hz : a + c = 0 → (s && t) = false) (h : -4503599627370496 < a + c ∧ a + c < 4503599627370496) (h1 : -900 ≤ p) (h2 : p ≤ 900) :
    (Datum.sum (.number s (a.natAbs * 2 ^ k) (p - k)) (.number t (c.natAbs * 2 ^ l) (p - l))).map double.write = some (fl (a + c) p) := by
  unfold Datum.sum
  simp only [Option.map_some, hs, ht]
  congr 1
  rw [show a * 2 ^ max k l + c * 2 ^ max k l = (a + c) * 2 ^ max k l by rw [Int.add_mul]]
  have hp := two_pow_pos' (max k l)
  have hb : min (p - (k : Int)) (p - (l : Int)) = p - ((max k l : Nat) : Int) := by omega
  rw [hb]
  have hn : ((a + c) * 2 ^ max k l).natAbs = (a + c).natAbs * 2 ^ max k l := by
    rw [Int.natAbs_mul, Int.natAbs_pow]; rfl
  rw [hn]
  obtain ⟨n, hnn⟩ : ∃ n, a + c = n := ⟨_, rfl⟩
  rw [hnn] at h hz ⊢
  have hneg : (if n * 2 ^ max k l = 0 then s && t else decide (n * 2 ^ max k l < 0)) = decide (n < 0) := by
    by_cases h0 : n = 0
    · subst h0
      rw [Int.zero_mul, if_pos rfl, hz rfl]
      rfl
    · rw [if_neg (fun e => by rcases Int.mul_eq_zero.1 e with e | e <;> omega)]
      congr 1
      simp only [eq_iff_iff]
      constructor
      · intro hh
        rcases Int.lt_or_le n 0 with g | g
        · exact g
        · have := Int.mul_nonneg g (by omega : (0 : Int) ≤ 2 ^ max k l); omega
      · intro hh; exact Int.mul_neg_of_neg_of_pos hh hp
  have := write_is n (max k l) p h h1 h2
  rw [← this]
  congr 2
theorem add_is {x y : Nat} {a c p : Int} (hx : Reads x a p) (hy : Reads y c p) (h : -4503599627370496 < a + c ∧ a + c < 4503599627370496) (h1 : -900 ≤ p) (h2 : p ≤ 900) : double.add x y = some (fl (a + c) p) := by
  obtain ⟨k, hk, _⟩ := hx
  obtain ⟨l, hl, _⟩ := hy
  unfold Format.add
  rw [hk, hl]
  refine sum_is a c p k l _ _ ?_ ?_ (fun e => ?_) h h1 h2
  · rw [signed_is]; congr 2; omega
  · rw [signed_is]; congr 2; omega
  · rw [Bool.and_eq_false_iff, decide_eq_false_iff_not, decide_eq_false_iff_not]; omega
theorem signed_neg (s : Bool) (m u : Nat) : signed (!s) m u = -signed s m u := by
  cases s <;> simp [signed]
theorem sub_is {x y : Nat} {a c p : Int} (hx : Reads x a p) (hy : Reads y c p) (h : -4503599627370496 < a - c ∧ a - c < 4503599627370496) (h1 : -900 ≤ p) (h2 : p ≤ 900) : double.sub x y = some (fl (a - c) p) := by
  obtain ⟨k, hk, _⟩ := hx
  obtain ⟨l, hl, _⟩ := hy
  unfold Format.sub
  rw [hk, hl]
  have e : c.natAbs = (-c).natAbs := by omega
  show (Datum.sum _ (.number (!decide (c < 0)) (c.natAbs * 2 ^ l) (p - l))).map double.write = _
  rw [e, show a - c = a + -c by omega]
  refine sum_is a (-c) p k l _ _ ?_ ?_ (fun e => ?_) (by omega) h1 h2
  · rw [signed_is]; congr 2; omega
  · rw [← e, signed_neg, signed_is, Int.neg_mul]; congr 3; omega
  · rw [Bool.and_eq_false_iff, decide_eq_false_iff_not, Bool.not_eq_false', decide_eq_true_eq]; omega
theorem order_is {x y : Nat} {a c p : Int} (hx : Reads x a p) (hy : Reads y c p) : double.order x y = some (compare a c) := by
  obtain ⟨k, hk, _⟩ := hx
  obtain ⟨l, hl, _⟩ := hy
  unfold Format.order
  rw [hk, hl]
  unfold Datum.order
  simp only
  rw [signed_is, signed_is]
  have e1 : k + ((p - (k : Int)) - min (p - (k : Int)) (p - (l : Int))).toNat = max k l := by omega
  have e2 : l + ((p - (l : Int)) - min (p - (k : Int)) (p - (l : Int))).toNat = max k l := by omega
  rw [e1, e2]
  have hp := two_pow_pos' (max k l)
  congr 1
  rcases Int.lt_trichotomy a c with h | h | h
  · have h3 := Int.mul_lt_mul_of_pos_right h hp
    simp only [compare, compareOfLessAndEq]
    rw [if_pos h3, if_pos h]
  · subst h
    simp [compare, compareOfLessAndEq]
  · have h3 := Int.mul_lt_mul_of_pos_right h hp
    simp only [compare, compareOfLessAndEq]
    rw [if_neg (by omega), if_neg (by omega), if_neg (by omega), if_neg (by omega)]
theorem mul_is {x y : Nat} {a c p r : Int} (hx : Reads x a p) (hy : Reads y c r) (hc : 0 < c) (h : -4503599627370496 < a * c ∧ a * c < 4503599627370496) (h1 : -900 ≤ p + r) (h2 : p + r ≤ 900) : double.mul x y = some (fl (a * c) (p + r)) := by
  obtain ⟨k, hk, _⟩ := hx
  obtain ⟨l, hl, _⟩ := hy
  unfold Format.mul
  rw [hk, hl]
  unfold Datum.product
  simp only [Option.map_some]
  congr 1
  have hw := write_is (a * c) (k + l) (p + r) h h1 h2
  rw [← hw]
  congr 1
  have e0 : decide (c < 0) = false := by simp; omega
  have e1 : decide (a * c < 0) = decide (a < 0) := by
    congr 1
    simp only [eq_iff_iff]
    constructor
    · intro hh
      rcases Int.lt_or_le a 0 with g | g
      · exact g
      · have := Int.mul_nonneg g (Int.le_of_lt hc); omega
    · intro hh; exact Int.mul_neg_of_neg_of_pos hh hc
  rw [e0, e1, Int.natAbs_mul, Nat.pow_add]
  congr 1
  · simp
  · rw [Nat.mul_mul_mul_comm]
  · omega
theorem log2_zero' : (0 : Nat).log2 = 0 := by decide
theorem div_is {x y : Nat} {a p r : Int} (hx : Reads x a p) (hy : Reads y 1 r) (h : -4503599627370496 < a ∧ a < 4503599627370496) (h1 : -900 ≤ p - r) (h2 : p - r ≤ 900) : double.div x y = some (fl a (p - r)) := by
  obtain ⟨k, hk, hkk⟩ := hx
  obtain ⟨l, hl, hll⟩ := hy
  have l52 : l = 52 := by
    have := hll (by omega)
    rw [show (1 : Int).natAbs.log2 = 0 by decide] at this
    omega
  subst l52
  unfold Format.div
  rw [hk, hl]
  unfold Datum.quotient
  have hfb : double.fractionBits = 52 := rfl
  have e0 : (1 : Int).natAbs * 2 ^ 52 = 2 ^ 52 := by decide
  have e1 : decide ((1 : Int) < 0) = false := by decide
  have e2 : (2 ^ 52 : Nat).log2 = 52 := Nat.log2_two_pow
  simp only [hfb, e0, e1, e2]
  rw [if_neg (by decide)]
  simp only [Option.map_some]
  congr 1
  by_cases ha : a = 0
  · subst ha
    have e3 : ((0 : Int).natAbs * 2 ^ k).log2 = 0 := by rw [show (0 : Int).natAbs = 0 from rfl, Nat.zero_mul]; exact log2_zero'
    rw [e3, show (0 : Int).natAbs = 0 from rfl, Nat.zero_mul, Nat.zero_shiftLeft, Nat.zero_div, Nat.zero_mod]
    show double.nearest _ 0 _ = _
    unfold fl Format.nearest
    simp
  · have hn : a.natAbs ≠ 0 := by omega
    have hl2 : (a.natAbs * 2 ^ k).log2 = 52 := by rw [log2_mul hn]; exact hkk ha
    obtain ⟨m, hm0⟩ : ∃ m, a.natAbs * 2 ^ k = m := ⟨_, rfl⟩
    have hm : m <<< 54 = m * 4 * 2 ^ 52 := by rw [Nat.shiftLeft_eq, Nat.mul_assoc m 4 (2 ^ 52), show 4 * 2 ^ 52 = 2 ^ 54 from rfl]
    have hm2 : 2 * (m * 4) + (0 != 0).toNat = a.natAbs * 2 ^ (k + 3) := by
      rw [Nat.pow_add, ← Nat.mul_assoc a.natAbs, hm0]
      show 2 * (m * 4) + 0 = m * 8
      omega
    have hp2 : p - (k : Int) - (r - ((52 : Nat) : Int)) - ((54 : Nat) : Int) - 1 = p - r - ((k + 3 : Nat) : Int) := by omega
    have hw := write_is a (k + 3) (p - r) h h1 h2
    rw [hm0] at hl2 ⊢
    rw [hl2, show 52 + 2 + 52 - 52 = 54 from rfl, hm, Nat.mul_div_cancel _ (Nat.two_pow_pos 52), Nat.mul_mod_left, hm2, hp2, Bool.xor_false]
    exact hw
theorem cut_off (n d e : Nat) (s : Bool) (hn : n ≠ 0) (he : d ≤ n.log2 + 2) : Toward.zero.cut s n d = n / 2 ^ d := by
  unfold Toward.cut
  rw [Nat.min_eq_left he, Nat.shiftLeft_eq, Nat.one_mul]
  simp
theorem cut_none (d : Nat) (s : Bool) : Toward.zero.cut s 0 d = 0 := by
  unfold Toward.cut
  simp
/-- A whole number, cut off, is itself. -/
theorem toInt_is {x : Nat} {a : Int} (hx : Reads x a 0) : (double.read x).toInt .zero = some a := by
  obtain ⟨k, hk, hkk⟩ := hx
  rw [hk]
  unfold Datum.toInt Datum.integral
  simp only
  rw [show ((0 : Int) - k).toNat = 0 by omega, show (-((0 : Int) - k)).toNat = k by omega, Nat.shiftLeft_zero]
  have e : Toward.zero.cut (decide (a < 0)) (a.natAbs * 2 ^ k) k = a.natAbs := by
    by_cases ha : a = 0
    · subst ha
      rw [show (0 : Int).natAbs = 0 from rfl, Nat.zero_mul]
      exact cut_none _ _
    · have hn : a.natAbs ≠ 0 := by omega
      have hp : 0 < 2 ^ k := Nat.two_pow_pos k
      rw [cut_off _ _ 0 _ (by have := Nat.mul_pos (Nat.pos_of_ne_zero hn) hp; omega) (by rw [log2_mul hn]; omega), Nat.mul_div_cancel _ hp]
  rw [e]
  have := signed_is a 0 0
  simp only [Nat.pow_zero, Nat.mul_one, Nat.add_zero, Int.pow_zero, Int.mul_one] at this
  rw [this]
/-- A half, cut off. -/
theorem toInt_half {x : Nat} {a : Int} (hx : Reads x a (-1)) (h0 : 0 ≤ a) : (double.read x).toInt .zero = some (a / 2) := by
  obtain ⟨k, hk, hkk⟩ := hx
  rw [hk]
  unfold Datum.toInt Datum.integral
  simp only
  rw [show ((-1 : Int) - k).toNat = 0 by omega, show (-((-1 : Int) - k)).toNat = k + 1 by omega, Nat.shiftLeft_zero]
  have e : Toward.zero.cut (decide (a < 0)) (a.natAbs * 2 ^ k) (k + 1) = a.natAbs / 2 := by
    by_cases ha : a = 0
    · subst ha
      rw [show (0 : Int).natAbs = 0 from rfl, Nat.zero_mul]
      exact cut_none _ _
    · have hn : a.natAbs ≠ 0 := by omega
      have hp : 0 < 2 ^ k := Nat.two_pow_pos k
      rw [cut_off _ _ 0 _ (by have := Nat.mul_pos (Nat.pos_of_ne_zero hn) hp; omega) (by rw [log2_mul hn]; omega), Nat.pow_succ, Nat.mul_comm (2 ^ k) 2, Nat.mul_div_mul_right _ _ hp]
  rw [e]
  have := signed_is a 0 0
  unfold signed
  rw [show decide (a < 0) = false by simp; omega, if_neg (by simp), Nat.shiftLeft_zero]
  congr 1
  omega
theorem toVal {x : Nat} {n : Int} (h : (double.read x).toInt .zero = some n) (h1 : -9223372036854775808 ≤ n) (h2 : n ≤ 9223372036854775807) : floatToIntVal .f64 x .i64 = some n := by
  unfold floatToIntVal
  rw [show (FloatKind.f64.decode x).toInt .zero = some n from h]
  have e1 : IntKind.i64.min ≤ n := by show (-9223372036854775808 : Int) ≤ n; exact h1
  have e2 : n ≤ IntKind.i64.max := by show n ≤ (9223372036854775807 : Int); exact h2
  simp only
  rw [if_pos ⟨e1, e2⟩]
theorem back {a : Int} (h : -4503599627370496 < a ∧ a < 4503599627370496) : floatToIntVal .f64 (fl a 0) .i64 = some a :=
  toVal (toInt_is (reads_fl h (by omega) (by omega))) (by omega) (by omega)
theorem back_half {a : Int} (h : 0 ≤ a ∧ a < 4503599627370496) : floatToIntVal .f64 (fl a (-1)) .i64 = some (a / 2) :=
  toVal (toInt_half (reads_fl ⟨by omega, h.2⟩ (by omega) (by omega)) h.1) (by omega) (by omega)
end Go.Proofs.Ytahcofejjfdbbaa.FloatInt
