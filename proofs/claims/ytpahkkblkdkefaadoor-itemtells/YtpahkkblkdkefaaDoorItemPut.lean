/- An item that may be is taken as it was written; how long its bytes are, by its kind. No program is named here. -/
import Derived.Test.YtpahkkblkdkefaaDoorItemBack
namespace Go.Proofs.YtpahkkblkdkefaaDoor.Item
set_option linter.unusedVariables false

theorem may_parts {x : It} (h : may x = true) : (1 ≤ x.q ∧ x.q ≤ 4611686018427387904) ∧ (0 ≤ x.e ∧ x.e ≤ 4611686018427387904) ∧ ask x = true := by
  simp only [may, Bool.and_eq_true, win_iff] at h
  exact h
theorem list0 {l : List Int} {top : Int} (h : list l 0 0 top = true) : l = [] := by
  simp only [list, Bool.and_eq_true, win_iff] at h
  exact List.eq_nil_of_length_eq_zero (by omega)
theorem body0 {b : List UInt8} (h : body b 0 = true) : b = [] := by
  simp only [body, decide_eq_true_eq] at h
  exact List.eq_nil_of_length_eq_zero (by omega)
theorem listN {l : List Int} {lo hi top : Int} (h : list l lo hi top = true) : (lo ≤ l.length ∧ (l.length : Int) ≤ hi) ∧ allIn l top = true := by
  simp only [list, Bool.and_eq_true, win_iff] at h
  exact h
theorem all_fits {l : List Int} {top : Int} {k : Nat} (h : allIn l top = true) (ht : top ≤ Num.most k) : (l.all fun n => Num.fits n k) = true := by
  rw [List.all_eq_true]
  intro n hn
  unfold allIn at h
  rw [List.all_eq_true] at h
  have := win_iff.1 (h n hn)
  exact fits_in this.1 (by omega)

/-- What an item that may be is, by its kind. -/
inductive Kinds : It → Prop
  | data (q e i t : Int) (b : List UInt8) : 1 ≤ t → t ≤ 32 → 0 ≤ i → i < t → b.length ≤ 1024 → Kinds ⟨1, q, e, i, t, 0, [], b⟩
  | order (q e i : Int) (l : List Int) : 0 ≤ i → i ≤ 1 → 1 ≤ l.length → l.length ≤ 64 → allIn l 63 = true → Kinds ⟨2, q, e, i, 0, 0, l, []⟩
  | token (q e : Int) : Kinds ⟨3, q, e, 0, 0, 0, [], []⟩
  | flush (q e i : Int) : 0 ≤ i → i ≤ 1 → Kinds ⟨4, q, e, i, 0, 0, [], []⟩
  | ack (q e c : Int) : 0 ≤ c → c ≤ 4611686018427387904 → Kinds ⟨5, q, e, 0, 0, c, [], []⟩
  | install (q e : Int) (l : List Int) : 2 ≤ l.length → l.length ≤ 64 → allIn l 4611686018427387904 = true → Kinds ⟨6, q, e, 0, 0, 0, l, []⟩
theorem may_kinds {x : It} (h : may x = true) : Kinds x := by
  obtain ⟨_, _, ha⟩ := may_parts h
  obtain ⟨k, q, e, i, t, c, l, b⟩ := x
  unfold ask at ha
  dsimp only at ha
  split at ha
  · rename_i hk
    subst hk
    simp only [ask1, Bool.and_eq_true, win_iff] at ha
    obtain ⟨h1, h2, h3, h4, h5⟩ := ha
    obtain rfl := list0 h4
    obtain rfl : c = 0 := by omega
    simp only [body, decide_eq_true_eq] at h5
    exact .data q e i t b (by omega) (by omega) (by omega) (by omega) (by omega)
  split at ha
  · rename_i hk
    subst hk
    simp only [askN, Bool.and_eq_true, win_iff] at ha
    obtain ⟨h1, h2, h3, h4, h5⟩ := ha
    obtain rfl := body0 h5
    obtain ⟨h6, h7⟩ := listN h4
    obtain rfl : c = 0 := by omega
    obtain rfl : t = 0 := by omega
    exact .order q e i l (by omega) (by omega) (by omega) (by omega) h7
  split at ha
  · rename_i hk
    subst hk
    simp only [askN, Bool.and_eq_true, win_iff] at ha
    obtain ⟨h1, h2, h3, h4, h5⟩ := ha
    obtain rfl := body0 h5
    obtain rfl := list0 h4
    obtain rfl : c = 0 := by omega
    obtain rfl : t = 0 := by omega
    obtain rfl : i = 0 := by omega
    exact .token q e
  split at ha
  · rename_i hk
    subst hk
    simp only [askN, Bool.and_eq_true, win_iff] at ha
    obtain ⟨h1, h2, h3, h4, h5⟩ := ha
    obtain rfl := body0 h5
    obtain rfl := list0 h4
    obtain rfl : c = 0 := by omega
    obtain rfl : t = 0 := by omega
    exact .flush q e i (by omega) (by omega)
  split at ha
  · rename_i hk
    subst hk
    simp only [askN, Bool.and_eq_true, win_iff] at ha
    obtain ⟨h1, h2, h3, h4, h5⟩ := ha
    obtain rfl := body0 h5
    obtain rfl := list0 h4
    obtain rfl : t = 0 := by omega
    obtain rfl : i = 0 := by omega
    exact .ack q e c (by omega) (by omega)
  split at ha
  · rename_i hk
    subst hk
    simp only [askN, Bool.and_eq_true, win_iff] at ha
    obtain ⟨h1, h2, h3, h4, h5⟩ := ha
    obtain rfl := body0 h5
    obtain ⟨h6, h7⟩ := listN h4
    obtain rfl : c = 0 := by omega
    obtain rfl : t = 0 := by omega
    obtain rfl : i = 0 := by omega
    exact .install q e l (by omega) (by omega) h7
  · cases ha

theorem most1 : Num.most (1 : Nat) = 255 := rfl
theorem most8 : Num.most (8 : Nat) = 4611686018427387904 := rfl
theorem tail_put {x : It} (h : Kinds x) : tailC x.k x.q x.e (tail x) = some (x, []) := by
  cases h with
  | data q e i t b h1 h2 h3 h4 h5 =>
    have fi : Num.fits i 1 = true := fits_in (k := 1) h3 (by rw [most1]; omega)
    have ft : Num.fits t 1 = true := fits_in (k := 1) (by omega) (by rw [most1]; omega)
    have hall : ([i, t].all fun n => Num.fits n 1) = true := by simp [fi, ft]
    have ht : Num.takes 1 2 (([i, t].map fun n => Num.put n 1).flatten ++ b) = some ([i, t], b) := Num.takes_put b [i, t] hall
    show tailC 1 q e (Num.putRow [i, t] 1 ++ b) = _
    rw [Num.putRow, if_pos hall, tailC, if_pos rfl, ht]
  | order q e i l h1 h2 h3 h4 h5 =>
    have fi : Num.fits i 1 = true := fits_in (k := 1) h1 (by rw [most1]; omega)
    have hall : (l.all fun n => Num.fits n 1) = true := all_fits (k := 1) h5 (by rw [most1]; omega)
    have ht := Num.takes_put [] l hall
    have hlen := Num.flat_length l hall
    rw [List.append_nil] at ht
    obtain ⟨p1, p2, p3⟩ := Num.put_back fi (Num.putRow l 1)
    show tailC 2 q e (Num.put i 1 ++ Num.putRow l 1) = _
    rw [tailC, if_neg (by omega), if_pos rfl, if_pos p1, p3, Num.putRow, if_pos hall, hlen]
    rw [Num.putRow, if_pos hall] at p2
    rw [show (1 : Int).toNat * l.length = l.length from by simp, ht, p2]
  | token q e => rfl
  | flush q e i h1 h2 =>
    have fi : Num.fits i 1 = true := fits_in (k := 1) h1 (by rw [most1]; omega)
    obtain ⟨p1, p2, p3⟩ := Num.put_back fi []
    rw [List.append_nil] at p1 p2 p3
    show tailC 4 q e (Num.put i 1) = _
    rw [tailC, if_neg (by omega), if_neg (by omega), if_pos rfl, if_pos p1, p2, p3]
  | ack q e c h1 h2 =>
    have fi : Num.fits c 8 = true := fits_in (k := 8) h1 (by rw [most8]; omega)
    obtain ⟨p1, p2, p3⟩ := Num.put_back fi []
    rw [List.append_nil] at p1 p2 p3
    show tailC 5 q e (Num.put c 8) = _
    rw [tailC, if_neg (by omega), if_neg (by omega), if_neg (by omega), if_pos rfl, if_pos p1, p2, p3]
  | install q e l h1 h2 h3 =>
    have hall : (l.all fun n => Num.fits n 8) = true := all_fits (k := 8) h3 (by rw [most8]; omega)
    have ht := Num.takes_put [] l hall
    have hlen := Num.flat_length l hall
    rw [List.append_nil] at ht
    show tailC 6 q e (Num.putRow l 8) = _
    rw [tailC, if_neg (by omega), if_neg (by omega), if_neg (by omega), if_neg (by omega), if_pos rfl, Num.putRow, if_pos hall, hlen]
    rw [show (8 : Int).toNat * l.length / 8 = l.length from by simp, ht]
theorem kinds_k {x : It} (h : Kinds x) : 1 ≤ x.k ∧ x.k ≤ 6 := by cases h <;> (dsimp only; omega)
/-- An item that may be is taken as it was written. -/
theorem take_put {x : It} (h : may x = true) : takeOf (bytes x) = some x := by
  obtain ⟨⟨q1, q2⟩, ⟨e1, e2⟩, _⟩ := may_parts h
  have hk := may_kinds h
  have hkk := kinds_k hk
  rw [bytes, if_pos h, takeOf, head_put (tail x) (by omega) (by omega) (by omega) q2 e1 e2]
  dsimp only
  rw [tail_put hk]
  dsimp only
  rw [lastC, if_pos ⟨rfl, h⟩]
theorem bytes_inj {x y : It} (hx : may x = true) (hy : may y = true) (h : bytes x = bytes y) : x = y := by
  have h1 := take_put hx
  rw [h, take_put hy] at h1
  injection h1 with h1
  exact h1.symm

theorem put_one {n : Int} (h : Num.fits n 1 = true) : (Num.put n 1).length = 1 := by rw [Num.put_length h]; rfl
theorem put_eight {n : Int} (h : Num.fits n 8 = true) : (Num.put n 8).length = 8 := by rw [Num.put_length h]; rfl
theorem head_len {x : It} (h : may x = true) : (Num.put x.k 1 ++ Num.putRow [x.q, x.e] 8).length = 17 := by
  obtain ⟨⟨q1, q2⟩, ⟨e1, e2⟩, _⟩ := may_parts h
  have hkk := kinds_k (may_kinds h)
  have fk : Num.fits x.k 1 = true := fits_in (k := 1) (by omega) (by rw [most1]; omega)
  have fq : Num.fits x.q 8 = true := fits_in (k := 8) (by omega) (by rw [most8]; omega)
  have fe : Num.fits x.e 8 = true := fits_in (k := 8) e1 (by rw [most8]; omega)
  have hall : ([x.q, x.e].all fun n => Num.fits n 8) = true := by simp [fq, fe]
  rw [List.length_append, put_one fk, Num.putRow, if_pos hall, Num.flat_length _ hall]
  rfl
theorem bytes_len {x : It} (h : may x = true) : (bytes x).length = 17 + (tail x).length := by
  rw [bytes, if_pos h, List.length_append, head_len h]
/-- How many bytes a kind has behind its head. -/
theorem tail_len {x : It} (h : Kinds x) : (x.k = 3 → (tail x).length = 0) ∧ (x.k = 4 → (tail x).length = 1) ∧ (x.k = 5 → (tail x).length = 8) ∧ (x.k = 6 → (tail x).length % 8 = 0) ∧ (tail x).length ≤ 1026 := by
  cases h with
  | data q e i t b h1 h2 h3 h4 h5 =>
    have fi : Num.fits i 1 = true := fits_in (k := 1) h3 (by rw [most1]; omega)
    have ft : Num.fits t 1 = true := fits_in (k := 1) (by omega) (by rw [most1]; omega)
    have hall : ([i, t].all fun n => Num.fits n 1) = true := by simp [fi, ft]
    have e1 : tail ⟨1, q, e, i, t, 0, [], b⟩ = Num.putRow [i, t] 1 ++ b := rfl
    rw [e1, List.length_append, Num.putRow, if_pos hall, Num.flat_length _ hall]
    simp
    omega
  | order q e i l h1 h2 h3 h4 h5 =>
    have fi : Num.fits i 1 = true := fits_in (k := 1) h1 (by rw [most1]; omega)
    have hall : (l.all fun n => Num.fits n 1) = true := all_fits (k := 1) h5 (by rw [most1]; omega)
    have e1 : tail ⟨2, q, e, i, 0, 0, l, []⟩ = Num.put i 1 ++ Num.putRow l 1 := rfl
    rw [e1, List.length_append, Num.putRow, if_pos hall, Num.flat_length _ hall, put_one fi]
    simp
    omega
  | token q e =>
    have e1 : tail ⟨3, q, e, 0, 0, 0, [], []⟩ = [] := rfl
    rw [e1]
    simp
  | flush q e i h1 h2 =>
    have fi : Num.fits i 1 = true := fits_in (k := 1) h1 (by rw [most1]; omega)
    have e1 : tail ⟨4, q, e, i, 0, 0, [], []⟩ = Num.put i 1 := rfl
    rw [e1, put_one fi]
    simp
  | ack q e c h1 h2 =>
    have fi : Num.fits c 8 = true := fits_in (k := 8) h1 (by rw [most8]; omega)
    have e1 : tail ⟨5, q, e, 0, 0, c, [], []⟩ = Num.put c 8 := rfl
    rw [e1, put_eight fi]
    simp
  | install q e l h1 h2 h3 =>
    have hall : (l.all fun n => Num.fits n 8) = true := all_fits (k := 8) h3 (by rw [most8]; omega)
    have e1 : tail ⟨6, q, e, 0, 0, 0, l, []⟩ = Num.putRow l 8 := rfl
    rw [e1, Num.putRow, if_pos hall, Num.flat_length _ hall]
    simp
    omega
end Go.Proofs.YtpahkkblkdkefaaDoor.Item
