/- What chapter 4 says of packets, in numbers and lists alone: which may be, their bytes ahead of the sum, and packets of these. No program is named here. -/
import Derived.Test.YtcppbfjdilpjgaaDoorMA
import Derived.Test.YtcppbfjdilpjgaaDoorCrcMath
set_option maxRecDepth 100000
namespace Go.Proofs.YtcppbfjdilpjgaaDoor.Pkt
set_option linter.unusedVariables false

structure Pk where
  (k f : Int)
  (it : Item.It)
  (to lo many top : Int)
  (l : List Int)
  deriving DecidableEq
def Pk.zero : Pk := ⟨0, 0, Item.It.zero, 0, 0, 0, 0, []⟩

/-- What a packet's kind names of it, and nothing else. -/
def bare (p : Pk) : Pk :=
  if p.k = 1 then ⟨p.k, p.f, p.it, 0, 0, 0, 0, []⟩ else if p.k = 2 then ⟨p.k, p.f, p.it, 0, 0, 0, 0, []⟩
  else if p.k = 3 then ⟨p.k, p.f, Item.It.zero, p.to, p.lo, p.many, 0, []⟩
  else if p.k = 4 then ⟨p.k, p.f, Item.It.zero, 0, 0, 0, p.top, p.l⟩ else ⟨p.k, p.f, Item.It.zero, 0, 0, 0, 0, []⟩
def fit (p : Pk) : Bool :=
  if p.k = 1 then Item.may p.it else if p.k = 2 then Item.may p.it
  else if p.k = 3 then Item.win p.to 0 63 && (Item.win p.lo 1 4611686018427387904 && Item.win p.many 1 64)
  else if p.k = 4 then Item.win p.top 0 4611686018427387904 && Item.list p.l 2 64 4611686018427387904 else false
def may (p : Pk) : Bool := fit p && (Item.win p.f 0 63 && decide (p = bare p))
/-- A packet's bytes behind mark, kind and From. -/
def tail (p : Pk) : List UInt8 :=
  if p.k = 1 then Item.bytes p.it else if p.k = 2 then Item.bytes p.it
  else if p.k = 3 then (Num.put p.to 1 ++ Num.put p.lo 8) ++ Num.put p.many 1
  else if p.k = 4 then Num.put p.top 8 ++ Num.putRow p.l 8 else []
def raw (p : Pk) : List UInt8 := Num.putRow [165, p.k, p.f] 1 ++ tail p
def bytes (p : Pk) : List UInt8 := if may p = true then Crc.sealB (raw p) else []

inductive Kinds : Pk → Prop
  | item (k f : Int) (it : Item.It) : k = 1 ∨ k = 2 → 0 ≤ f → f ≤ 63 → Item.may it = true → Kinds ⟨k, f, it, 0, 0, 0, 0, []⟩
  | nak (f to lo many : Int) : 0 ≤ f → f ≤ 63 → 0 ≤ to → to ≤ 63 → 1 ≤ lo → lo ≤ 4611686018427387904 → 1 ≤ many → many ≤ 64 → Kinds ⟨3, f, Item.It.zero, to, lo, many, 0, []⟩
  | stable (f top : Int) (l : List Int) : 0 ≤ f → f ≤ 63 → 0 ≤ top → top ≤ 4611686018427387904 → Item.list l 2 64 4611686018427387904 = true → Kinds ⟨4, f, Item.It.zero, 0, 0, 0, top, l⟩

theorem may_kinds {p : Pk} (h : may p = true) : Kinds p := by
  obtain ⟨k, f, it, to, lo, many, top, l⟩ := p
  simp only [may, Bool.and_eq_true, decide_eq_true_eq, Item.win_iff] at h
  obtain ⟨h1, ⟨h2, h3⟩, h4⟩ := h
  by_cases k1 : k = 1
  · subst k1
    simp only [fit, if_pos] at h1
    simp only [bare, if_pos, Pk.mk.injEq, true_and] at h4
    obtain ⟨rfl, rfl, rfl, rfl, rfl⟩ := h4
    exact .item 1 f it (.inl rfl) h2 h3 h1
  by_cases k2 : k = 2
  · subst k2
    simp [fit] at h1
    simp [bare] at h4
    obtain ⟨rfl, rfl, rfl, rfl, rfl⟩ := h4
    exact .item 2 f it (.inr rfl) h2 h3 h1
  by_cases k3 : k = 3
  · subst k3
    simp [fit, Item.win_iff] at h1
    simp [bare] at h4
    obtain ⟨rfl, rfl, rfl⟩ := h4
    obtain ⟨⟨a, b⟩, ⟨c, d⟩, e, g⟩ := h1
    exact .nak f to lo many h2 h3 a b c d e g
  by_cases k4 : k = 4
  · subst k4
    simp [fit, Item.win_iff] at h1
    simp [bare] at h4
    obtain ⟨rfl, rfl, rfl, rfl⟩ := h4
    obtain ⟨⟨a, b⟩, c⟩ := h1
    exact .stable f top l h2 h3 a b c
  · simp [fit, k1, k2, k3, k4] at h1
theorem kinds_may {p : Pk} (h : Kinds p) : may p = true := by
  cases h with
  | item k f it hk h1 h2 h3 =>
    rcases hk with rfl | rfl <;> simp [may, fit, bare, Item.win, h1, h2, h3]
  | nak f to lo many h1 h2 h3 h4 h5 h6 h7 h8 => simp [may, fit, bare, Item.win, h1, h2, h3, h4, h5, h6, h7, h8]
  | stable f top l h1 h2 h3 h4 h5 => simp [may, fit, bare, Item.win, h1, h2, h3, h4, h5]
theorem kinds_k {p : Pk} (h : Kinds p) : (1 ≤ p.k ∧ p.k ≤ 4) ∧ 0 ≤ p.f ∧ p.f ≤ 63 := by
  cases h with
  | item k f it hk h1 h2 h3 => dsimp only; omega
  | nak => dsimp only; omega
  | stable => dsimp only; omega

def tailC (k f : Int) (r : List UInt8) : Option (Pk × List UInt8) :=
  if k = 1 ∨ k = 2 then
    match Item.takeOf r with
    | some x => some (⟨k, f, x, 0, 0, 0, 0, []⟩, [])
    | none => none
  else if k = 3 then
    if Num.code (Num.rest (Num.rest r 1) 8) 1 = 0 then
      some (⟨3, f, Item.It.zero, Num.num r 1, Num.num (Num.rest r 1) 8, Num.num (Num.rest (Num.rest r 1) 8) 1, 0, []⟩, Num.rest (Num.rest (Num.rest r 1) 8) 1)
    else none
  else if k = 4 then
    if Num.code r 8 = 0 then
      match Num.takes 8 ((Num.rest r 8).length / 8) (Num.rest r 8) with
      | some (a, b) => some (⟨4, f, Item.It.zero, 0, 0, 0, Num.num r 8, a⟩, b)
      | none => none
    else none
  else some (⟨k, f, Item.It.zero, 0, 0, 0, 0, []⟩, r)
def lastC (m : Int) (p : Pk × List UInt8) : Option Pk := if m = 165 ∧ p.2 = [] ∧ may p.1 = true then some p.1 else none
def readC (c : List UInt8) : Option Pk :=
  match Num.takes 1 3 c with
  | some ([m, k, f], r) => match tailC k f r with
    | some p => lastC m p
    | none => none
  | _ => none

theorem takes_three {k : Int} {l : List UInt8} {p : List Int × List UInt8} (h : Num.takes k 3 l = some p) : ∃ a b c r, p = ([a, b, c], r) := by
  obtain ⟨l2, r⟩ := p
  have := Num.takes_length h
  match l2, this with
  | [a, b, c], _ => exact ⟨a, b, c, r, rfl⟩
theorem code_nil {k : Nat} (hk : Num.IsW k) : Num.code [] (k : Int) ≠ 0 := by
  rcases hk with rfl | rfl | rfl <;> decide
theorem code_of_rest {r : List UInt8} {k j : Nat} (hj : Num.IsW j) (h : Num.code (Num.rest r k) (j : Int) = 0) : Num.code r k = 0 := by
  by_cases hc : Num.code r k = 0
  · exact hc
  · rw [(Num.code_bad hc).2] at h
    exact absurd h (code_nil hj)
theorem tail_inv {k f : Int} {r : List UInt8} {p : Pk} (h : tailC k f r = some (p, [])) (hm : may p = true) : p.k = k ∧ p.f = f ∧ tail p = r := by
  unfold tailC at h
  split at h
  · rename_i hk
    split at h
    · rename_i x hx
      simp only [Option.some.injEq, Prod.mk.injEq, and_true] at h
      subst h
      refine ⟨rfl, rfl, ?_⟩
      have := (Item.take_inv hx).2
      rcases hk with rfl | rfl <;> simp [tail, this]
    · cases h
  · rename_i hk
    split at h
    · rename_i k3
      split at h
      · rename_i hc
        simp only [Option.some.injEq, Prod.mk.injEq] at h
        obtain ⟨rfl, hr⟩ := h
        have c8 : Num.code (Num.rest r 1) 8 = 0 := code_of_rest (k := 8) (j := 1) (.inl rfl) hc
        have c1 : Num.code r 1 = 0 := code_of_rest (k := 1) (j := 8) (.inr (.inr rfl)) c8
        have e1 := Num.put_num c1
        have e2 := Num.put_num c8
        have e3 := Num.put_num hc
        rw [hr, List.append_nil] at e3
        refine ⟨k3.symm, rfl, ?_⟩
        simp only [tail]
        rw [if_neg (by decide), if_neg (by decide), if_pos trivial, e3, List.append_assoc, e2, e1]
      · cases h
    · rename_i k3
      split at h
      · rename_i k4
        split at h
        · rename_i hc
          split at h
          · rename_i a b ht
            simp only [Option.some.injEq, Prod.mk.injEq] at h
            obtain ⟨rfl, hr⟩ := h
            have e1 := Num.put_num hc
            have e2 := Item.row_inv ht
            rw [hr, List.append_nil] at e2
            refine ⟨k4.symm, rfl, ?_⟩
            simp only [tail]
            rw [if_neg (by decide), if_neg (by decide), if_neg (by decide), if_pos trivial, e2, e1]
          · cases h
        · cases h
      · rename_i k4
        simp only [Option.some.injEq, Prod.mk.injEq] at h
        obtain ⟨rfl, _⟩ := h
        have := (kinds_k (may_kinds hm)).1
        dsimp only at this
        omega
theorem read_inv {c : List UInt8} {p : Pk} (h : readC c = some p) : may p = true ∧ raw p = c := by
  unfold readC at h
  split at h
  · rename_i m k f r ht
    split at h
    · rename_i q hq
      obtain ⟨q, r'⟩ := q
      unfold lastC at h
      split at h
      · rename_i hc
        obtain ⟨rfl, hr, hm⟩ := hc
        simp only [Option.some.injEq] at h
        dsimp only at hr hm h
        subst h
        subst hr
        obtain ⟨hk, hf, htl⟩ := tail_inv hq hm
        refine ⟨hm, ?_⟩
        unfold raw
        rw [htl, hk, hf]
        exact Item.row_inv ht
      · cases h
    · cases h
  · cases h

theorem head_all {k f : Int} (hk : 0 ≤ k) (hk2 : k ≤ 255) (hf : 0 ≤ f) (hf2 : f ≤ 255) : (([165, k, f] : List Int).all fun n => Num.fits n 1) = true := by
  have f0 : Num.fits 165 1 = true := by decide
  have f1 : Num.fits k 1 = true := Item.fits_in (k := 1) hk (by rw [Item.most1]; omega)
  have f2 : Num.fits f 1 = true := Item.fits_in (k := 1) hf (by rw [Item.most1]; omega)
  simp [f0, f1, f2]
theorem head_takes {k f : Int} (r : List UInt8) (hk : 0 ≤ k) (hk2 : k ≤ 255) (hf : 0 ≤ f) (hf2 : f ≤ 255) : Num.takes 1 3 (Num.putRow [165, k, f] 1 ++ r) = some ([165, k, f], r) := by
  have ha := head_all hk hk2 hf hf2
  have := Num.takes_put (k := 1) r [165, k, f] ha
  rw [Num.putRow, if_pos ha]
  exact this
theorem row_fits {l : List Int} (h : Item.list l 2 64 4611686018427387904 = true) : (l.all fun n => Num.fits n 8) = true :=
  Item.all_fits (k := 8) (Item.listN h).2 (by rw [Item.most8]; omega)
theorem row_takes {l : List Int} (h : (l.all fun n => Num.fits n 8) = true) : (Num.putRow l 8).length = 8 * l.length ∧ Num.takes 8 l.length (Num.putRow l 8) = some (l, []) := by
  have h1 := Num.flat_length (k := 8) l h
  have h2 := Num.takes_put (k := 8) [] l h
  rw [List.append_nil] at h2
  rw [Num.putRow, if_pos h]
  exact ⟨h1, h2⟩
theorem tail_put {p : Pk} (h : Kinds p) : tailC p.k p.f (tail p) = some (p, []) := by
  cases h with
  | item k f it hk h1 h2 h3 =>
    have e : tail ⟨k, f, it, 0, 0, 0, 0, []⟩ = Item.bytes it := by rcases hk with rfl | rfl <;> rfl
    rw [e]
    simp only [tailC]
    rw [if_pos hk, Item.take_put h3]
  | nak f to lo many h1 h2 h3 h4 h5 h6 h7 h8 =>
    have f1 : Num.fits to 1 = true := Item.fits_in (k := 1) h3 (by rw [Item.most1]; omega)
    have f2 : Num.fits lo 8 = true := Item.fits_in (k := 8) (by omega) (by rw [Item.most8]; omega)
    have f3 : Num.fits many 1 = true := Item.fits_in (k := 1) (by omega) (by rw [Item.most1]; omega)
    have e : tail ⟨3, f, Item.It.zero, to, lo, many, 0, []⟩ = Num.put to 1 ++ (Num.put lo 8 ++ (Num.put many 1 ++ [])) := by
      rw [List.append_nil, ← List.append_assoc]; rfl
    rw [e]
    obtain ⟨a1, a2, a3⟩ := Num.put_back f1 (Num.put lo 8 ++ (Num.put many 1 ++ []))
    obtain ⟨b1, b2, b3⟩ := Num.put_back f2 (Num.put many 1 ++ [])
    obtain ⟨c1, c2, c3⟩ := Num.put_back f3 []
    simp only [tailC]
    rw [if_neg (by decide), if_pos trivial, a3, b3, if_pos c1, a2, b2, c2, c3]
  | stable f top l h1 h2 h3 h4 h5 =>
    have f1 : Num.fits top 8 = true := Item.fits_in (k := 8) h3 (by rw [Item.most8]; omega)
    obtain ⟨r1, r2⟩ := row_takes (row_fits h5)
    have e : tail ⟨4, f, Item.It.zero, 0, 0, 0, top, l⟩ = Num.put top 8 ++ Num.putRow l 8 := rfl
    rw [e]
    obtain ⟨a1, a2, a3⟩ := Num.put_back f1 (Num.putRow l 8)
    simp only [tailC]
    rw [if_neg (by decide), if_neg (by decide), if_pos trivial, if_pos a1, a3, r1, Nat.mul_div_cancel_left _ (by omega), r2, a2]
theorem read_put {p : Pk} (h : may p = true) : readC (raw p) = some p := by
  have hk := may_kinds h
  obtain ⟨⟨a, b⟩, c, d⟩ := kinds_k hk
  unfold readC raw
  rw [head_takes _ (by omega) (by omega) c (by omega)]
  dsimp only
  rw [tail_put hk]
  dsimp only
  rw [lastC, if_pos ⟨rfl, rfl, h⟩]
theorem raw_inj {p q : Pk} (hp : may p = true) (hq : may q = true) (h : raw p = raw q) : p = q := by
  have h1 := read_put hp
  rw [h, read_put hq] at h1
  injection h1 with h1
  exact h1.symm
theorem head_three {k f : Int} (hk : 0 ≤ k) (hk2 : k ≤ 255) (hf : 0 ≤ f) (hf2 : f ≤ 255) : Num.putRow [165, k, f] 1 = [165, UInt8.ofNat k.toNat, UInt8.ofNat f.toNat] := by
  rw [Num.putRow, if_pos (head_all hk hk2 hf hf2)]
  simp only [List.map_cons, List.map_nil, List.flatten_cons, List.flatten_nil, Item.put1 hk hk2, Item.put1 hf hf2, List.append_nil]
  rfl
/-- How long they are. -/
theorem raw_len {p : Pk} (h : may p = true) : (p.k = 3 → (raw p).length = 13) ∧ (p.k = 4 → (raw p).length = 11 + 8 * p.l.length) ∧ (p.k ≠ 3 → p.k ≠ 4 → (raw p).length = 3 + (Item.bytes p.it).length) ∧ (raw p).length ≤ 1100 ∧ 3 ≤ (raw p).length := by
  have hk := may_kinds h
  have hkk := kinds_k hk
  have hh : (raw p).length = 3 + (tail p).length := by
    unfold raw
    rw [head_three (by omega) (by omega) hkk.2.1 (by omega), List.length_append]
    rfl
  rw [hh]
  cases hk with
  | item k f it hk h1 h2 h3 =>
    have e : tail ⟨k, f, it, 0, 0, 0, 0, []⟩ = Item.bytes it := by rcases hk with rfl | rfl <;> rfl
    rw [e]
    have hl := Item.bytes_len h3
    have ht := (Item.tail_len (Item.may_kinds h3)).2.2.2.2
    dsimp only
    refine ⟨by omega, by omega, fun _ _ => rfl, by omega, by omega⟩
  | nak f to lo many h1 h2 h3 h4 h5 h6 h7 h8 =>
    have f1 : Num.fits to 1 = true := Item.fits_in (k := 1) h3 (by rw [Item.most1]; omega)
    have f2 : Num.fits lo 8 = true := Item.fits_in (k := 8) (by omega) (by rw [Item.most8]; omega)
    have f3 : Num.fits many 1 = true := Item.fits_in (k := 1) (by omega) (by rw [Item.most1]; omega)
    have e : (tail ⟨3, f, Item.It.zero, to, lo, many, 0, []⟩).length = 10 := by
      show ((Num.put to 1 ++ Num.put lo 8) ++ Num.put many 1).length = 10
      rw [List.length_append, List.length_append, Item.put_one f1, Item.put_eight f2, Item.put_one f3]
    rw [e]
    dsimp only
    refine ⟨fun _ => rfl, by omega, by omega, by omega, by omega⟩
  | stable f top l h1 h2 h3 h4 h5 =>
    have f1 : Num.fits top 8 = true := Item.fits_in (k := 8) h3 (by rw [Item.most8]; omega)
    obtain ⟨r1, r2⟩ := row_takes (row_fits h5)
    have hn := (Item.listN h5).1
    have e : (tail ⟨4, f, Item.It.zero, 0, 0, 0, top, l⟩).length = 8 + 8 * l.length := by
      show (Num.put top 8 ++ Num.putRow l 8).length = _
      rw [List.length_append, Item.put_eight f1, r1]
    rw [e]
    dsimp only
    refine ⟨by omega, fun _ => by omega, by omega, by omega, by omega⟩

/-- The only packet that bytes may be, as the document's own answer finds it. -/
def refC (k f : Int) (d : List UInt8) : Pk :=
  if k = 1 ∨ k = 2 then ⟨k, f, (Item.takeOf d).getD Item.It.zero, 0, 0, 0, 0, []⟩
  else if k = 3 then (if d.length = 10 then ⟨3, f, Item.It.zero, Item.at_ d 0, Num.num (d.drop 1) 8, Item.at_ d 9, 0, []⟩ else ⟨3, f, Item.It.zero, 0, 0, 0, 0, []⟩)
  else if k = 4 then (if 8 ≤ d.length then ⟨4, f, Item.It.zero, 0, 0, 0, Num.num d 8, (Num.rowOf (d.drop 8) ((d.length : Int) / 8 - 1) 8).1⟩ else ⟨4, f, Item.It.zero, 0, 0, 0, 0, []⟩)
  else ⟨k, f, Item.It.zero, 0, 0, 0, 0, []⟩
def tried (p : Pk) (b : List UInt8) : Option Pk := if may p = true ∧ bytes p = b then some p else none
def refOf (b c : List UInt8) : Option Pk := if c.length < 3 then none else tried (refC (Item.at_ c 1) (Item.at_ c 2) (c.drop 3)) b

theorem refC_put {p : Pk} (h : Kinds p) : refC p.k p.f (tail p) = p := by
  cases h with
  | item k f it hk h1 h2 h3 =>
    have e : tail ⟨k, f, it, 0, 0, 0, 0, []⟩ = Item.bytes it := by rcases hk with rfl | rfl <;> rfl
    rw [e]
    simp only [refC]
    rw [if_pos hk, Item.take_put h3]
    rfl
  | nak f to lo many h1 h2 h3 h4 h5 h6 h7 h8 =>
    have f2 : Num.fits lo 8 = true := Item.fits_in (k := 8) (by omega) (by rw [Item.most8]; omega)
    have e : tail ⟨3, f, Item.It.zero, to, lo, many, 0, []⟩ = UInt8.ofNat to.toNat :: (Num.put lo 8 ++ [UInt8.ofNat many.toNat]) := by
      show (Num.put to 1 ++ Num.put lo 8) ++ Num.put many 1 = _
      rw [Item.put1 h3 (by omega), Item.put1 (i := many) (by omega) (by omega)]
      rfl
    have hl := Item.put_eight f2
    rw [e]
    have e10 : (UInt8.ofNat to.toNat :: (Num.put lo 8 ++ [UInt8.ofNat many.toNat])).length = 10 := by simp [hl]
    have e0 : Item.at_ (UInt8.ofNat to.toNat :: (Num.put lo 8 ++ [UInt8.ofNat many.toNat])) 0 = to := Item.byte_at h3 (by omega)
    have e9 : Item.at_ (UInt8.ofNat to.toNat :: (Num.put lo 8 ++ [UInt8.ofNat many.toNat])) 9 = many := by
      have : (UInt8.ofNat to.toNat :: (Num.put lo 8 ++ [UInt8.ofNat many.toNat])).getD 9 0 = UInt8.ofNat many.toNat := by
        rw [List.getD_eq_getElem?_getD, List.getElem?_cons_succ, List.getElem?_append_right (by omega), hl]
        rfl
      unfold Item.at_
      rw [this]
      exact Item.byte_at (by omega) (by omega)
    have en : (Num.num ((UInt8.ofNat to.toNat :: (Num.put lo 8 ++ [UInt8.ofNat many.toNat])).drop 1) 8 : Int) = lo := (Num.put_back f2 [UInt8.ofNat many.toNat]).2.1
    simp only [refC]
    rw [if_neg (by decide), if_pos trivial, if_pos e10, e0, e9, en]
  | stable f top l h1 h2 h3 h4 h5 =>
    have f1 : Num.fits top 8 = true := Item.fits_in (k := 8) h3 (by rw [Item.most8]; omega)
    obtain ⟨r1, r2⟩ := row_takes (row_fits h5)
    have e : tail ⟨4, f, Item.It.zero, 0, 0, 0, top, l⟩ = Num.put top 8 ++ Num.putRow l 8 := rfl
    have h8 := Item.put_eight f1
    rw [e]
    obtain ⟨a1, a2, a3⟩ := Num.put_back f1 (Num.putRow l 8)
    have hl : (Num.put top 8 ++ Num.putRow l 8).length = 8 + 8 * l.length := by rw [List.length_append, h8, r1]
    have hd : (Num.put top 8 ++ Num.putRow l 8).drop 8 = Num.putRow l 8 := List.drop_left' h8
    have hi : ((Num.put top 8 ++ Num.putRow l 8).length : Int) / 8 - 1 = (l.length : Int) := by rw [hl]; omega
    simp only [refC]
    rw [if_neg (by decide), if_neg (by decide), if_pos trivial, if_pos (by omega), a2, hi, hd, Num.rowOf_some (by decide) r2]
theorem refOf_put {p : Pk} (h : may p = true) : refOf (bytes p) (raw p) = some p := by
  have hk := may_kinds h
  obtain ⟨⟨a, b⟩, c, d⟩ := kinds_k hk
  have hl := (raw_len h).2.2.2.2
  have e : raw p = 165 :: UInt8.ofNat p.k.toNat :: UInt8.ofNat p.f.toNat :: tail p := by
    unfold raw
    rw [head_three (by omega) (by omega) c (by omega)]
    rfl
  have e1 : Item.at_ (raw p) 1 = p.k := by rw [e]; exact Item.byte_at (by omega) (by omega)
  have e2 : Item.at_ (raw p) 2 = p.f := by rw [e]; exact Item.byte_at c (by omega)
  have e3 : (raw p).drop 3 = tail p := by rw [e]; rfl
  unfold refOf
  rw [if_neg (by omega), e1, e2, e3, refC_put hk, tried, if_pos ⟨h, rfl⟩]
end Go.Proofs.YtcppbfjdilpjgaaDoor.Pkt
