/- Plain facts on sums of 32 bits (numbers below 2^32, exclusive-or, shifts): no program is named here. -/
set_option maxRecDepth 100000
namespace Go.Proofs.YtahkhideepncfaaDoor.Crc

/-- One bit goes out at the low end. -/
def stp (s : Nat) : Nat := if s % 2 = 1 then (s / 2) ^^^ 3988292384 else s / 2
def stpN : Nat → Nat → Nat
  | 0, s => s
  | n + 1, s => stpN n (stp s)
def upd (s : Nat) (x : UInt8) : Nat := stpN 8 (s ^^^ x.toNat)
def run (s : Nat) (l : List UInt8) : Nat := l.foldl upd s
def sum (l : List UInt8) : Nat := 4294967295 ^^^ run 4294967295 l
/-- A number's four low bytes, the lowest first. -/
def le4 (s : Nat) : List UInt8 := [UInt8.ofNat (s % 256), UInt8.ofNat (s / 256 % 256), UInt8.ofNat (s / 65536 % 256), UInt8.ofNat (s / 16777216 % 256)]
def sealB (l : List UInt8) : List UInt8 := l ++ le4 (sum l)

theorem stpN_succ' (n s : Nat) : stpN (n + 1) s = stp (stpN n s) := by
  induction n generalizing s with
  | zero => rfl
  | succ n ih => rw [stpN, ih, stpN]

theorem stpN_add (m n s : Nat) : stpN (m + n) s = stpN n (stpN m s) := by
  induction m generalizing s with
  | zero => simp [stpN]
  | succ m ih => rw [Nat.succ_add, stpN, ih, stpN]

theorem xor_lt {a b : Nat} (ha : a < 4294967296) (hb : b < 4294967296) : a ^^^ b < 4294967296 := Nat.xor_lt_two_pow (n := 32) ha hb

theorem stp_lt {s : Nat} (h : s < 4294967296) : stp s < 4294967296 := by
  unfold stp
  split
  · exact xor_lt (by omega) (by omega)
  · omega

theorem stpN_lt (n : Nat) {s : Nat} (h : s < 4294967296) : stpN n s < 4294967296 := by
  induction n generalizing s with
  | zero => exact h
  | succ n ih => exact ih (stp_lt h)

theorem byte_lt (x : UInt8) : x.toNat < 256 := x.toNat_lt

theorem upd_lt {s : Nat} (x : UInt8) (h : s < 4294967296) : upd s x < 4294967296 :=
  stpN_lt 8 (xor_lt h (by have := byte_lt x; omega))

theorem run_lt (l : List UInt8) {s : Nat} (h : s < 4294967296) : run s l < 4294967296 := by
  induction l generalizing s with
  | nil => exact h
  | cons x l ih => exact ih (upd_lt x h)

theorem sum_lt (l : List UInt8) : sum l < 4294967296 := xor_lt (by omega) (run_lt l (by omega))

theorem run_nil (s : Nat) : run s [] = s := rfl
theorem run_cons (s : Nat) (x : UInt8) (l : List UInt8) : run s (x :: l) = run (upd s x) l := rfl
theorem run_append (s : Nat) (l m : List UInt8) : run s (l ++ m) = run (run s l) m := by simp [run, List.foldl_append]
theorem run_snoc (s : Nat) (l : List UInt8) (x : UInt8) : run s (l ++ [x]) = upd (run s l) x := by simp [run, List.foldl_append]

theorem xor4 (a b p q : Nat) : (a ^^^ b) ^^^ (p ^^^ q) = (a ^^^ p) ^^^ (b ^^^ q) := by
  rw [Nat.xor_assoc, Nat.xor_assoc, ← Nat.xor_assoc b p q, Nat.xor_comm b p, Nat.xor_assoc p b q]

theorem stp_xor (a b : Nat) : stp (a ^^^ b) = stp a ^^^ stp b := by
  have h1 : (a ^^^ b) % 2 = 1 ↔ ¬ (a % 2 = 1 ↔ b % 2 = 1) := Nat.xor_mod_two_eq_one
  have h2 : (a ^^^ b) / 2 = a / 2 ^^^ b / 2 := Nat.xor_div_two
  unfold stp
  rw [h2]
  by_cases ha : a % 2 = 1 <;> by_cases hb : b % 2 = 1
  · have : ¬ (a ^^^ b) % 2 = 1 := by rw [h1]; simp [ha, hb]
    rw [if_neg this, if_pos ha, if_pos hb, xor4, Nat.xor_self, Nat.xor_zero]
  · have : (a ^^^ b) % 2 = 1 := by rw [h1]; simp [ha, hb]
    rw [if_pos this, if_pos ha, if_neg hb, Nat.xor_assoc, Nat.xor_assoc, Nat.xor_comm (b / 2)]
  · have : (a ^^^ b) % 2 = 1 := by rw [h1]; simp [ha, hb]
    rw [if_pos this, if_neg ha, if_pos hb, Nat.xor_assoc]
  · have : ¬ (a ^^^ b) % 2 = 1 := by rw [h1]; simp [ha, hb]
    rw [if_neg this, if_neg ha, if_neg hb]

theorem stpN_xor (n a b : Nat) : stpN n (a ^^^ b) = stpN n a ^^^ stpN n b := by
  induction n generalizing a b with
  | zero => rfl
  | succ n ih => rw [stpN, stp_xor, ih]; rfl

theorem xor_eq_zero {a b : Nat} (h : a ^^^ b = 0) : a = b := by
  have h1 : a ^^^ b ^^^ b = a := by rw [Nat.xor_assoc, Nat.xor_self, Nat.xor_zero]
  rw [h, Nat.zero_xor] at h1
  exact h1.symm

theorem stp_zero {a : Nat} (h : a < 4294967296) (h0 : stp a = 0) : a = 0 := by
  unfold stp at h0
  split at h0
  · have := xor_eq_zero h0
    omega
  · omega

theorem stpN_zero (n : Nat) {a : Nat} (h : a < 4294967296) (h0 : stpN n a = 0) : a = 0 := by
  induction n generalizing a with
  | zero => exact h0
  | succ n ih => exact stp_zero h (ih (stp_lt h) h0)

theorem stpN_inj (n : Nat) {a b : Nat} (ha : a < 4294967296) (hb : b < 4294967296) (h : stpN n a = stpN n b) : a = b := by
  apply xor_eq_zero
  apply stpN_zero n (xor_lt ha hb)
  rw [stpN_xor, h, Nat.xor_self]

theorem stpN_of_zero (n : Nat) : stpN n 0 = 0 := by
  have := stpN_xor n 0 0
  rw [Nat.xor_self, Nat.xor_self] at this
  exact this

theorem upd_inj {a b : Nat} (x : UInt8) (ha : a < 4294967296) (hb : b < 4294967296) (h : upd a x = upd b x) : a = b := by
  have hx : x.toNat < 4294967296 := by have := byte_lt x; omega
  have h1 := stpN_inj 8 (xor_lt ha hx) (xor_lt hb hx) h
  have h2 : a ^^^ x.toNat ^^^ x.toNat = b ^^^ x.toNat ^^^ x.toNat := by rw [h1]
  rwa [Nat.xor_assoc, Nat.xor_assoc, Nat.xor_self, Nat.xor_zero, Nat.xor_zero] at h2

theorem run_inj (l : List UInt8) {a b : Nat} (ha : a < 4294967296) (hb : b < 4294967296) (h : run a l = run b l) : a = b := by
  induction l generalizing a b with
  | nil => exact h
  | cons x l ih => exact upd_inj x ha hb (ih (upd_lt x ha) (upd_lt x hb) h)

theorem xor_cancel {c a b : Nat} (h : c ^^^ a = c ^^^ b) : a = b := by
  have : c ^^^ (c ^^^ a) = c ^^^ (c ^^^ b) := by rw [h]
  rwa [← Nat.xor_assoc, ← Nat.xor_assoc, Nat.xor_self, Nat.zero_xor, Nat.zero_xor] at this

/-- What is behind two texts of one sum leaves their sums the same, and the other way round. -/
theorem goes (a b c : List UInt8) : (sum a = sum b) ↔ (sum (a ++ c) = sum (b ++ c)) := by
  unfold sum
  rw [run_append, run_append]
  constructor
  · intro h; rw [xor_cancel h]
  · intro h; rw [run_inj c (run_lt a (by omega)) (run_lt b (by omega)) (xor_cancel h)]

/-- Exclusive-or of two texts, byte by byte. -/
def xorB : List UInt8 → List UInt8 → List UInt8
  | x :: l, y :: m => (x ^^^ y) :: xorB l m
  | _, _ => []

theorem xorB_length (l m : List UInt8) (h : l.length = m.length) : (xorB l m).length = l.length := by
  induction l generalizing m with
  | nil => simp [xorB]
  | cons x l ih =>
    cases m with
    | nil => simp at h
    | cons y m => simp only [List.length_cons, Nat.add_right_cancel_iff] at h; simp [xorB, ih m h]

theorem upd_xor (a b : Nat) (x y : UInt8) : upd (a ^^^ b) (x ^^^ y) = upd a x ^^^ upd b y := by
  unfold upd
  rw [← stpN_xor, UInt8.toNat_xor, xor4]

theorem run_xor (l m : List UInt8) (h : l.length = m.length) (a b : Nat) : run (a ^^^ b) (xorB l m) = run a l ^^^ run b m := by
  induction l generalizing m a b with
  | nil =>
    cases m with
    | nil => rfl
    | cons y m => simp at h
  | cons x l ih =>
    cases m with
    | nil => simp at h
    | cons y m =>
      simp only [List.length_cons, Nat.add_right_cancel_iff] at h
      rw [xorB, run_cons, run_cons, run_cons, upd_xor, ih m h]

theorem sums3 (a b c : List UInt8) (h1 : b.length = a.length) (h2 : c.length = a.length) : sum (xorB (xorB a b) c) = sum a ^^^ sum b ^^^ sum c := by
  have e : run (4294967295 ^^^ 4294967295 ^^^ 4294967295) (xorB (xorB a b) c) = run 4294967295 a ^^^ run 4294967295 b ^^^ run 4294967295 c := by
    rw [run_xor _ _ (by rw [xorB_length _ _ h1.symm, h2]), run_xor _ _ h1.symm]
  rw [Nat.xor_self, Nat.zero_xor] at e
  unfold sum
  rw [e]
  generalize run 4294967295 a = p
  generalize run 4294967295 b = q
  generalize run 4294967295 c = r
  generalize (4294967295 : Nat) = n
  apply Nat.eq_of_testBit_eq
  intro i
  simp only [Nat.testBit_xor]
  cases n.testBit i <;> cases p.testBit i <;> cases q.testBit i <;> cases r.testBit i <;> rfl

/-! ### Four bytes at once -/
theorem stp_double {a : Nat} : stp (2 * a) = a := by
  unfold stp
  rw [if_neg (by omega)]
  omega
theorem stpN_shift (n a : Nat) : stpN n (2 ^ n * a) = a := by
  induction n generalizing a with
  | zero => simp [stpN]
  | succ n ih => rw [stpN, Nat.pow_succ, Nat.mul_comm (2 ^ n) 2, Nat.mul_assoc, stp_double, ih]

theorem low_high (m x : Nat) : x = (x % 2 ^ m) ^^^ (2 ^ m * (x / 2 ^ m)) := by
  apply Nat.eq_of_testBit_eq
  intro i
  rw [Nat.testBit_xor, Nat.testBit_mod_two_pow, Nat.testBit_two_pow_mul, Nat.testBit_div_two_pow]
  by_cases h : i < m
  · simp [h, Nat.not_le.2 h]
  · simp [h, Nat.not_lt.1 h]

theorem u8_toNat (n : Nat) : (UInt8.ofNat (n % 256)).toNat = n % 256 := by
  rw [UInt8.toNat_ofNat']; omega

theorem four_step (s y : Nat) : stpN 8 (s ^^^ y) = stpN 8 (s ^^^ y % 256) ^^^ y / 256 := by
  have e := low_high 8 y
  have e2 : s ^^^ y = (s ^^^ y % 256) ^^^ (2 ^ 8 * (y / 2 ^ 8)) := by rw [Nat.xor_assoc]; exact congrArg (s ^^^ ·) e
  rw [e2, stpN_xor, stpN_shift]

/-- Four bytes, the lowest first, move the sum as their number does at once. -/
theorem run_le4 (s v : Nat) (hv : v < 4294967296) : run s (le4 v) = stpN 32 (s ^^^ v) := by
  have h1 := four_step s v
  have h2 := four_step (stpN 8 (s ^^^ v % 256)) (v / 256)
  have h3 := four_step (stpN 8 (stpN 8 (s ^^^ v % 256) ^^^ v / 256 % 256)) (v / 256 / 256)
  have h4 : v / 256 / 256 / 256 % 256 = v / 256 / 256 / 256 := Nat.mod_eq_of_lt (by omega)
  unfold le4
  rw [run_cons, run_cons, run_cons, run_cons, run_nil]
  unfold upd
  rw [u8_toNat, u8_toNat, u8_toNat, u8_toNat]
  rw [show (32 : Nat) = 8 + (8 + (8 + 8)) from rfl, stpN_add, stpN_add, stpN_add, h1, h2, h3]
  rw [show v / 65536 = v / 256 / 256 from by omega, show v / 16777216 = v / 256 / 256 / 256 from by omega, h4]

def K : Nat := stpN 32 4294967295
theorem K_eq : K = 4294967295 ^^^ 558161692 := by decide +kernel

theorem run_seal (l : List UInt8) : run 4294967295 (sealB l) = K := by
  unfold sealB
  rw [run_append, run_le4 _ _ (sum_lt l)]
  unfold sum K
  rw [← Nat.xor_assoc, Nat.xor_comm (run 4294967295 l), Nat.xor_assoc, Nat.xor_self, Nat.xor_zero]

theorem sum_seal (l : List UInt8) : sum (sealB l) = 558161692 := by
  unfold sum
  rw [run_seal, K_eq, ← Nat.xor_assoc, Nat.xor_self, Nat.zero_xor]

/-- The number of four bytes, the lowest first. -/
def num4 (a b c d : UInt8) : Nat := a.toNat + 256 * b.toNat + 65536 * c.toNat + 16777216 * d.toNat
theorem num4_lt (a b c d : UInt8) : num4 a b c d < 4294967296 := by
  have := byte_lt a; have := byte_lt b; have := byte_lt c; have := byte_lt d
  unfold num4; omega
theorem le4_num4 (a b c d : UInt8) : le4 (num4 a b c d) = [a, b, c, d] := by
  have ha := byte_lt a; have hb := byte_lt b; have hc := byte_lt c; have hd := byte_lt d
  have h1 : num4 a b c d % 256 = a.toNat := by unfold num4; omega
  have h2 : num4 a b c d / 256 % 256 = b.toNat := by unfold num4; omega
  have h3 : num4 a b c d / 65536 % 256 = c.toNat := by unfold num4; omega
  have h4 : num4 a b c d / 16777216 % 256 = d.toNat := by unfold num4; omega
  unfold le4
  rw [h1, h2, h3, h4, UInt8.ofNat_toNat, UInt8.ofNat_toNat, UInt8.ofNat_toNat, UInt8.ofNat_toNat]

/-- Four bytes behind a text are its sum's just if all of it comes to one and the same number. -/
theorem fits (l : List UInt8) (a b c d : UInt8) : le4 (sum l) = [a, b, c, d] ↔ run 4294967295 (l ++ [a, b, c, d]) = K := by
  constructor
  · intro h; rw [← h]; exact run_seal l
  · intro h
    rw [← le4_num4, run_append, run_le4 _ _ (num4_lt a b c d)] at h
    have h1 := stpN_inj 32 (xor_lt (run_lt l (by omega)) (num4_lt a b c d)) (by omega) h
    have h2 : sum l = num4 a b c d := by
      unfold sum
      generalize run 4294967295 l = r at h1
      rw [← h1, Nat.xor_comm r, Nat.xor_assoc, Nat.xor_self, Nat.xor_zero]
    rw [h2, le4_num4]

/-! ### Bursts -/
theorem run_zeros (n : Nat) (s : Nat) : run s (List.replicate n 0) = stpN (8 * n) s := by
  induction n generalizing s with
  | zero => rfl
  | succ n ih =>
    rw [List.replicate_succ, run_cons, ih, Nat.mul_succ, Nat.add_comm, stpN_add]
    unfold upd
    simp

/-- Up to four bytes between noughts, not all of them nought, move the sum. -/
theorem burst (p q : Nat) (e : List UInt8) (he : e.length ≤ 4) (h : run 0 (List.replicate p 0 ++ e ++ List.replicate q 0) = 0) : ∀ x ∈ e, x = 0 := by
  rw [run_append, run_append, run_zeros q, run_zeros p, stpN_of_zero] at h
  have h1 := stpN_zero _ (run_lt e (by omega)) h
  have h2 : run 0 (e ++ List.replicate (4 - e.length) 0) = 0 := by rw [run_append, h1, run_zeros, stpN_of_zero]
  have h3 : ∀ l : List UInt8, l.length = 4 → run 0 l = 0 → ∀ x ∈ l, x = 0 := by
    intro l hl h0
    match l, hl with
    | [a, b, c, d], _ =>
      rw [← le4_num4, run_le4 _ _ (num4_lt a b c d), Nat.zero_xor] at h0
      have h5 := stpN_zero 32 (num4_lt a b c d) h0
      have ha : a.toNat = 0 := by unfold num4 at h5; omega
      have hb : b.toNat = 0 := by unfold num4 at h5; omega
      have hc : c.toNat = 0 := by unfold num4 at h5; omega
      have hd : d.toNat = 0 := by unfold num4 at h5; omega
      intro x hx
      simp only [List.mem_cons, List.not_mem_nil, or_false] at hx
      rcases hx with rfl | rfl | rfl | rfl <;> exact UInt8.toNat_inj.1 (by assumption)
  intro x hx
  exact h3 _ (by rw [List.length_append, List.length_replicate]; omega) h2 x (List.mem_append_left _ hx)

/-! ### Bytes that are turned -/
/-- The first k of them, from place p on. -/
def spk (l : List UInt8) (p : Nat) (b : List UInt8) : Nat → List UInt8
  | 0 => l
  | k + 1 => (spk l p b k).set (p + k) ((spk l p b k).getD (p + k) 0 ^^^ b.getD k 0)
def spoil (l : List UInt8) (at_ : Int) (b : List UInt8) : List UInt8 :=
  if 0 ≤ at_ ∧ at_ < l.length then spk l at_.toNat b (min 4 (min b.length (l.length - at_.toNat))) else l
theorem spk_length (l : List UInt8) (p : Nat) (b : List UInt8) (k : Nat) : (spk l p b k).length = l.length := by
  induction k with
  | zero => rfl
  | succ k ih => rw [spk, List.length_set, ih]
theorem spoil_length (l : List UInt8) (a : Int) (b : List UInt8) : (spoil l a b).length = l.length := by
  unfold spoil; split
  · exact spk_length _ _ _ _
  · rfl
/-- What stands at a place behind k of them. -/
theorem spk_get (l : List UInt8) (p : Nat) (b : List UInt8) (k i : Nat) (hk : p + k ≤ l.length) :
    (spk l p b k)[i]? = if p ≤ i ∧ i < p + k then (l[i]?).map (· ^^^ b.getD (i - p) 0) else l[i]? := by
  induction k with
  | zero => rw [if_neg (by omega)]; rfl
  | succ k ih =>
    have ih' := ih (by omega)
    rw [spk, List.getElem?_set, spk_length]
    by_cases h : p + k = i
    · subst h
      have hlt : p + k < l.length := by omega
      have e : (spk l p b k).getD (p + k) 0 = l[p + k] := by
        rw [List.getD_eq_getElem?_getD, ih', if_neg (by omega), List.getElem?_eq_getElem hlt]; rfl
      rw [if_pos rfl, if_pos hlt, if_pos (by omega), e, List.getElem?_eq_getElem hlt, show p + k - p = k from by omega]
      rfl
    · rw [if_neg h, ih']
      by_cases h2 : p ≤ i ∧ i < p + k
      · rw [if_pos h2, if_pos (by omega)]
      · rw [if_neg h2, if_neg (by omega)]
theorem xorB_snoc (l m : List UInt8) (k : Nat) (x y : UInt8) (hx : l[k]? = some x) (hy : m[k]? = some y) : xorB (l.take (k + 1)) (m.take (k + 1)) = xorB (l.take k) (m.take k) ++ [x ^^^ y] := by
  induction k generalizing l m with
  | zero =>
    cases l with
    | nil => simp at hx
    | cons a l =>
      cases m with
      | nil => simp at hy
      | cons b m =>
        simp only [List.getElem?_cons_zero, Option.some.injEq] at hx hy
        subst hx; subst hy
        simp [xorB]
  | succ k ih =>
    cases l with
    | nil => simp at hx
    | cons a l =>
      cases m with
      | nil => simp at hy
      | cons b m =>
        simp only [List.getElem?_cons_succ] at hx hy
        simp only [List.take_succ_cons, xorB, List.cons_append]
        rw [ih l m hx hy]
theorem xorB_take (l m : List UInt8) (k : Nat) : xorB (l.take k) (m.take k) = (xorB l m).take k := by
  induction k generalizing l m with
  | zero => simp [xorB]
  | succ k ih =>
    cases l with
    | nil => simp [xorB]
    | cons a l =>
      cases m with
      | nil => simp [xorB]
      | cons b m => simp only [List.take_succ_cons, xorB]; rw [ih]
theorem xorB_get (l m : List UInt8) (k : Nat) : (xorB l m)[k]? = match l[k]?, m[k]? with | some x, some y => some (x ^^^ y) | _, _ => none := by
  induction k generalizing l m with
  | zero =>
    cases l with
    | nil => simp [xorB]
    | cons a l =>
      cases m with
      | nil => simp [xorB]
      | cons b m => simp [xorB]
  | succ k ih =>
    cases l with
    | nil => simp [xorB]
    | cons a l =>
      cases m with
      | nil => simp [xorB]
      | cons b m => simp only [xorB, List.getElem?_cons_succ]; exact ih l m
theorem xor_twice (x y : UInt8) : x ^^^ y ^^^ y = x := by
  apply UInt8.toNat_inj.1
  rw [UInt8.toNat_xor, UInt8.toNat_xor, Nat.xor_assoc, Nat.xor_self, Nat.xor_zero]
/-- What is spoilt twice, the same way, is as it was. -/
theorem spoil_twice (l : List UInt8) (a : Int) (b : List UInt8) : spoil (spoil l a b) a b = l := by
  have hl := spoil_length l a b
  by_cases h : 0 ≤ a ∧ a < l.length
  · have e1 : spoil l a b = spk l a.toNat b (min 4 (min b.length (l.length - a.toNat))) := by unfold spoil; rw [if_pos h]
    have e2 : spoil (spoil l a b) a b = spk (spoil l a b) a.toNat b (min 4 (min b.length (l.length - a.toNat))) := by
      rw [← hl]; unfold spoil; rw [if_pos]
      · rw [show (if 0 ≤ a ∧ a < (l.length : Int) then spk l a.toNat b (min 4 (min b.length (l.length - a.toNat))) else l).length = l.length from hl]; exact h
    apply List.ext_getElem?
    intro i
    rw [e2, spk_get _ _ _ _ _ (by rw [hl]; omega), e1, spk_get _ _ _ _ _ (by omega)]
    by_cases hi : a.toNat ≤ i ∧ i < a.toNat + min 4 (min b.length (l.length - a.toNat))
    · rw [if_pos hi, if_pos hi]
      cases l[i]? with
      | none => rfl
      | some x => simp [xor_twice]
    · rw [if_neg hi, if_neg hi]
  · have e : ∀ m : List UInt8, m.length = l.length → spoil m a b = m := fun m hm => by unfold spoil; rw [if_neg (by rw [hm]; exact h)]
    rw [e l rfl, e l rfl]
/-- Of other places nothing is turned. -/
theorem spoil_far (l : List UInt8) (a : Int) (b : List UInt8) (i : Nat) (h : a < 0 ∨ (i : Int) < a ∨ 3 < (i : Int) - a) : (spoil l a b)[i]? = l[i]? := by
  unfold spoil
  split
  · rw [spk_get _ _ _ _ _ (by omega), if_neg (by omega)]
  · rfl
/-! ### What is spoilt at one place isn't opened -/
def noise (n p r : Nat) (b : List UInt8) : List UInt8 := List.replicate p 0 ++ b.take r ++ List.replicate (n - p - r) 0
theorem noise_length (n p r : Nat) (b : List UInt8) (hr : r ≤ b.length) (h : p + r ≤ n) : (noise n p r b).length = n := by
  unfold noise
  simp only [List.length_append, List.length_replicate, List.length_take]
  omega
theorem noise_get (n p r : Nat) (b : List UInt8) (hr : r ≤ b.length) (h : p + r ≤ n) (i : Nat) (hi : i < n) :
    (noise n p r b)[i]? = some (if p ≤ i ∧ i < p + r then b.getD (i - p) 0 else 0) := by
  unfold noise
  have hl : (b.take r).length = r := by rw [List.length_take]; omega
  by_cases h1 : i < p
  · rw [if_neg (by omega), List.append_assoc, List.getElem?_append_left (by rw [List.length_replicate]; exact h1), List.getElem?_replicate, if_pos h1]
  · by_cases h2 : i < p + r
    · rw [if_pos (by omega), List.getElem?_append_left (by rw [List.length_append, List.length_replicate, hl]; exact h2),
        List.getElem?_append_right (by rw [List.length_replicate]; omega), List.length_replicate, List.getElem?_take, if_pos (by omega), List.getD_eq_getElem?_getD,
        List.getElem?_eq_getElem (by omega)]
      rfl
    · rw [if_neg (by omega), List.getElem?_append_right (by rw [List.length_append, List.length_replicate, hl]; omega), List.getElem?_replicate, if_pos]
      rw [List.length_append, List.length_replicate, hl]
      omega
theorem spk_noise (l : List UInt8) (p r : Nat) (b : List UInt8) (hr : r ≤ b.length) (h : p + r ≤ l.length) : spk l p b r = xorB l (noise l.length p r b) := by
  apply List.ext_getElem?
  intro i
  rw [spk_get l p b r i h, xorB_get]
  by_cases hi : i < l.length
  · rw [noise_get _ _ _ _ hr h i hi, List.getElem?_eq_getElem hi]
    split
    · rfl
    · simp
  · rw [List.getElem?_eq_none (by omega : l.length ≤ i)]
    split <;> rfl
theorem spk_zero (l : List UInt8) (p r : Nat) (b : List UInt8) (hr : r ≤ b.length) (h : p + r ≤ l.length) (hz : ∀ x ∈ b.take r, x = 0) : spk l p b r = l := by
  apply List.ext_getElem?
  intro i
  rw [spk_get l p b r i h]
  split
  · rename_i hi
    have e : b.getD (i - p) 0 = 0 := by
      have hlt : i - p < (b.take r).length := by rw [List.length_take]; omega
      have := hz _ (List.getElem_mem hlt)
      rw [List.getElem_take] at this
      rw [List.getD_eq_getElem?_getD, List.getElem?_eq_getElem (by omega)]
      exact this
    rw [e]
    cases l[i]? with
    | none => rfl
    | some x => simp
  · rfl
/-- Sealed bytes that are spoilt at one place, and turned by that, are no sealed bytes. -/
theorem spoilt_no_seal (x : List UInt8) (a : Int) (b : List UInt8) (m : List UInt8) (h : spoil (sealB x) a b = sealB m) : spoil (sealB x) a b = sealB x := by
  have h0 := h
  unfold spoil at h ⊢
  by_cases ha : 0 ≤ a ∧ a < (sealB x).length
  · rw [if_pos ha] at h ⊢
    have hr1 : min 4 (min b.length ((sealB x).length - a.toNat)) ≤ b.length := by omega
    have hr2 : a.toNat + min 4 (min b.length ((sealB x).length - a.toNat)) ≤ (sealB x).length := by omega
    have hr3 : min 4 (min b.length ((sealB x).length - a.toNat)) ≤ 4 := by omega
    generalize min 4 (min b.length ((sealB x).length - a.toNat)) = r at h hr1 hr2 hr3 ⊢
    generalize a.toNat = p at h hr2 ⊢
    apply spk_zero _ _ _ _ hr1 hr2
    rw [spk_noise _ _ _ _ hr1 hr2] at h
    have e := run_xor (sealB x) (noise (sealB x).length p r b) (noise_length _ _ _ _ hr1 hr2).symm 4294967295 0
    rw [Nat.xor_zero, h, run_seal, run_seal] at e
    have e0 : run 0 (noise (sealB x).length p r b) = 0 := by
      have : K ^^^ K = K ^^^ (K ^^^ run 0 (noise (sealB x).length p r b)) := by rw [← e]
      rw [← Nat.xor_assoc, Nat.xor_self, Nat.zero_xor] at this
      exact this.symm
    exact burst p _ (b.take r) (by rw [List.length_take]; omega) e0
  · rw [if_neg ha]
/-- Where nothing is turned, the place is none, or the first byte is nought. -/
theorem spoil_still (l : List UInt8) (a : Int) (y : UInt8) (b : List UInt8) (h : l = spoil l a (y :: b)) (h0 : 0 ≤ a) (h1 : a < l.length) : y = 0 := by
  have e : (spoil l a (y :: b))[a.toNat]? = (l[a.toNat]?).map (· ^^^ y) := by
    unfold spoil
    rw [if_pos ⟨h0, h1⟩, spk_get _ _ _ _ _ (by omega), if_pos (by simp only [List.length_cons]; omega), Nat.sub_self]
    rfl
  rw [← h, List.getElem?_eq_getElem (by omega : a.toNat < l.length)] at e
  simp only [Option.map_some, Option.some.injEq] at e
  have e2 := congrArg UInt8.toNat e
  rw [UInt8.toNat_xor] at e2
  generalize (l[a.toNat]'(by omega)).toNat = v at e2
  apply UInt8.toNat_inj.1
  have : v ^^^ v = v ^^^ (v ^^^ y.toNat) := by rw [← e2]
  rw [← Nat.xor_assoc, Nat.xor_self, Nat.zero_xor] at this
  exact this.symm
end Go.Proofs.YtahkhideepncfaaDoor.Crc
