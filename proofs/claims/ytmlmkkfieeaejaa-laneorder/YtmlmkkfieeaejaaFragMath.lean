/- Messages in pieces, in numbers and lists. No program is named here. -/
import Derived.WalkKit
set_option maxRecDepth 100000
namespace Go.Proofs.Ytmlmkkfieeaejaa
set_option linter.unusedVariables false

/-- A message under way. -/
structure Pt where
  seq : Int
  total : Int
  got : Int
  b : List UInt8
  deriving DecidableEq

/-- Numbers that an int holds. -/
def I64 (x : Int) : Prop := -9223372036854775808 ≤ x ∧ x ≤ 9223372036854775807
def Pt.Ok (p : Pt) : Prop := I64 p.seq ∧ I64 p.total ∧ I64 p.got
def none_ : Pt := ⟨0, 0, 0, []⟩

/-- How many pieces. -/
def manyI (n m : Int) : Int := if n < 0 ∨ m < 1 then 0 else if n = 0 then 1 else (n - 1) / m + 1
def manyN (n m : Nat) : Nat := if n = 0 then 1 else (n - 1) / m + 1
theorem manyI_nat (n m : Nat) (hm : 1 ≤ m) : manyI (n : Int) (m : Int) = (manyN n m : Int) := by
  unfold manyI manyN
  rw [if_neg (by omega)]
  by_cases h0 : n = 0
  · rw [if_pos (by omega), if_pos h0]; rfl
  · rw [if_neg (by omega), if_neg h0]
    have e : ((n : Int) - 1) = ((n - 1 : Nat) : Int) := by omega
    rw [e]
    simp
theorem manyN_pos (n m : Nat) : 1 ≤ manyN n m := by
  unfold manyN
  split
  · exact Nat.le_refl _
  · exact Nat.le_add_left _ _
theorem manyN_le (n m : Nat) (hm : 1 ≤ m) : manyN n m ≤ n + 1 := by
  unfold manyN
  split
  · omega
  · have := Nat.div_le_self (n - 1) m
    omega
/-- Under way: k pieces are off, and the next one is one. -/
def Mid (n m k : Nat) : Prop := k = 0 ∨ k * m < n
theorem Mid.last {n m k : Nat} (h : Mid n m k) (hm : 1 ≤ m) (hl : n - k * m ≤ m) : manyN n m = k + 1 := by
  unfold manyN
  split
  · rename_i h0
    rcases h with rfl | h
    · rfl
    · omega
  · rename_i h0
    have hk : k * m ≤ n - 1 := by
      rcases h with rfl | h
      · simp
      · omega
    have e : (n - 1) / m = k := by
      apply Nat.div_eq_of_lt_le
      · exact hk
      · rw [Nat.succ_mul]; omega
    rw [e]
theorem Mid.next {n m k : Nat} (h : Mid n m k) (hl : m < n - k * m) : Mid n m (k + 1) := .inr (by rw [Nat.succ_mul]; omega)
theorem Mid.lt {n m k : Nat} (h : Mid n m k) (hm : 1 ≤ m) : k < manyN n m := by
  unfold manyN
  rcases h with rfl | h
  · split
    · exact Nat.one_pos
    · exact Nat.succ_pos _
  · have hn : n ≠ 0 := by omega
    rw [if_neg hn]
    have : k ≤ (n - 1) / m := (Nat.le_div_iff_mul_le (by omega)).2 (by omega)
    omega
theorem Mid.of {n m k : Nat} (hm : 1 ≤ m) (h : k < manyN n m) : Mid n m k := by
  unfold manyN at h
  split at h
  · exact .inl (by omega)
  · have : k ≤ (n - 1) / m := by omega
    have := (Nat.le_div_iff_mul_le (by omega)).1 this
    exact .inr (by omega)
theorem Mid.le {n m k : Nat} (h : Mid n m k) : k * m ≤ n := by
  rcases h with rfl | h
  · simp
  · omega

/-- The pieces. -/
def piece (l : List UInt8) (m k : Nat) : List UInt8 := (l.drop (k * m)).take m
def cutOf (l : List UInt8) (m : Nat) : List (List UInt8) := (List.range (manyN l.length m)).map (piece l m)
theorem cutOf_length (l : List UInt8) (m : Nat) : (cutOf l m).length = manyN l.length m := by simp [cutOf]
theorem cutOf_at (l : List UInt8) (m k : Nat) (h : k < manyN l.length m) : (cutOf l m)[k]? = some (piece l m k) := by
  unfold cutOf
  rw [List.getElem?_map, List.getElem?_range h]
  rfl
/-- The first k of them. -/
def uptoP (l : List UInt8) (m k : Nat) : List (List UInt8) := (List.range k).map (piece l m)
theorem uptoP_succ (l : List UInt8) (m k : Nat) : uptoP l m (k + 1) = uptoP l m k ++ [piece l m k] := by simp [uptoP, List.range_succ]
theorem piece_behind (l : List UInt8) (m k : Nat) : l.take (k * m) ++ piece l m k = l.take ((k + 1) * m) := by
  unfold piece
  rw [Nat.succ_mul, List.take_add]
theorem all_taken {l : List UInt8} {m k : Nat} (hm : 1 ≤ m) (h : manyN l.length m = k) : l.take (k * m) = l := by
  apply List.take_of_length_le
  subst h
  have hp := manyN_pos l.length m
  have hmid := Mid.of (n := l.length) (m := m) (k := manyN l.length m - 1) hm (by omega)
  rcases Nat.lt_or_ge m (l.length - (manyN l.length m - 1) * m) with h | h
  · have := (hmid.next h).lt hm
    omega
  · have e : manyN l.length m = (manyN l.length m - 1) + 1 := by omega
    rw [e, Nat.succ_mul]
    omega
theorem piece_length (l : List UInt8) (m k : Nat) : (piece l m k).length = min m (l.length - k * m) := by simp [piece]
theorem piece_full {l : List UInt8} {m k : Nat} (hm : 1 ≤ m) (h : k + 1 < manyN l.length m) : (piece l m k).length = m := by
  have := Mid.of hm h
  rw [piece_length]
  rcases this with h | h
  · omega
  · rw [Nat.succ_mul] at h; omega
theorem piece_some {l : List UInt8} {m k : Nat} (hm : 1 ≤ m) (h : k < manyN l.length m) (hl : 0 < l.length) : 0 < (piece l m k).length := by
  have := Mid.of hm h
  rw [piece_length]
  rcases this with rfl | h
  · simp; omega
  · omega

/-- What Add tells. -/
def fits (p : Pt) (index total : Int) : Bool := decide (1 ≤ total) && decide (total ≤ 32) && decide (index = p.got) && (decide (p.got = 0) || decide (total = p.total))
def nextP (p : Pt) (seq total : Int) (piece : List UInt8) : Pt := if p.got = 0 then ⟨seq, total, 1, piece⟩ else ⟨p.seq, p.total, IntKind.i64.wrap (p.got + 1), p.b ++ piece⟩
structure AddR where
  p : Pt
  s : List UInt8
  whole : Bool
  err : Int
  deriving DecidableEq
def addOf (p : Pt) (seq index total : Int) (piece : List UInt8) : AddR :=
  if fits p index total = true then
    if (nextP p seq total piece).got = total then ⟨none_, (nextP p seq total piece).b, true, 0⟩ else ⟨nextP p seq total piece, [], false, 0⟩
  else ⟨p, [], false, 2⟩
end Go.Proofs.Ytmlmkkfieeaejaa
