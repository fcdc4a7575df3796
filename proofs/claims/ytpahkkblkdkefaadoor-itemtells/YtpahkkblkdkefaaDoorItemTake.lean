/- Items of bytes, as chapter 3 says it: the head, what a kind has behind it, and the item. No program is named here. -/
import Derived.Test.YtpahkkblkdkefaaDoorItemMath
namespace Go.Proofs.YtpahkkblkdkefaaDoor.Item
set_option linter.unusedVariables false

def headC (l : List UInt8) : Option (Int × Int × Int × List UInt8) :=
  if Num.code l 1 = 0 then
    match Num.takes 8 2 (Num.rest l 1) with
    | some ([q, e], r) => some (Num.num l 1, q, e, r)
    | _ => none
  else none
def tailC (k q e : Int) (r : List UInt8) : Option (It × List UInt8) :=
  if k = 1 then
    match Num.takes 1 2 r with
    | some ([i, t], b) => some (⟨1, q, e, i, t, 0, [], b⟩, [])
    | _ => none
  else if k = 2 then
    if Num.code r 1 = 0 then
      match Num.takes 1 (Num.rest r 1).length (Num.rest r 1) with
      | some (a, b) => some (⟨2, q, e, Num.num r 1, 0, 0, a, []⟩, b)
      | none => none
    else none
  else if k = 4 then
    if Num.code r 1 = 0 then some (⟨4, q, e, Num.num r 1, 0, 0, [], []⟩, Num.rest r 1) else none
  else if k = 5 then
    if Num.code r 8 = 0 then some (⟨5, q, e, 0, 0, Num.num r 8, [], []⟩, Num.rest r 8) else none
  else if k = 6 then
    match Num.takes 8 (r.length / 8) r with
    | some (a, b) => some (⟨6, q, e, 0, 0, 0, a, []⟩, b)
    | none => none
  else some (⟨k, q, e, 0, 0, 0, [], []⟩, r)
def lastC (p : It × List UInt8) : Option It := if p.2 = [] ∧ may p.1 = true then some p.1 else none
def takeOf (l : List UInt8) : Option It :=
  match headC l with
  | some (k, q, e, r) => match tailC k q e r with
    | some p => lastC p
    | none => none
  | none => none

theorem takes_two {k : Int} {l : List UInt8} {p : List Int × List UInt8} (h : Num.takes k 2 l = some p) : ∃ a b r, p = ([a, b], r) := by
  obtain ⟨l2, r⟩ := p
  have := Num.takes_length h
  match l2, this with
  | [a, b], _ => exact ⟨a, b, r, rfl⟩
theorem headC_len {l : List UInt8} {k q e : Int} {r : List UInt8} (h : headC l = some (k, q, e, r)) : r.length + 17 = l.length := by
  unfold headC at h
  split at h
  · rename_i hc
    split at h
    · rename_i q' e' r' ht
      simp only [Option.some.injEq, Prod.mk.injEq] at h
      obtain ⟨_, _, _, rfl⟩ := h
      have h1 := Num.takes_rest ht
      have h2 := Num.rest_length hc
      rcases Num.code_cases l 1 with ⟨hx, _⟩ | ⟨hx, _⟩ | ⟨_, _, h3, _⟩
      · omega
      · omega
      · rw [h2] at h1
        simp only [show (8 : Int).toNat = 8 from rfl, show (1 : Int).toNat = 1 from rfl] at h1 h3
        omega
    · cases h
  · cases h
end Go.Proofs.YtpahkkblkdkefaaDoor.Item
