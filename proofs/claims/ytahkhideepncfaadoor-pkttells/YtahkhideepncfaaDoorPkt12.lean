/- What pkt.Read comes to. (Written by wip/gen/pkt10.py.) -/
import Derived.Test.YtahkhideepncfaaDoorPkt11
import Derived.Test.YtahkhideepncfaaDoorCA
set_option maxRecDepth 100000
namespace Go.Proofs.YtahkhideepncfaaDoor
open Go.RowKit
set_option linter.unusedVariables false

/-- The packet of bytes, and the code. -/
def readOf (l : List UInt8) : Option Pkt.Pk := if openCode l = 0 then Pkt.readC (opened l) else none
def readCode (l : List UInt8) : Int := if openCode l = 0 then (if (Pkt.readC (opened l)).isSome = true then 0 else 2) else openCode l
theorem read_some {l : List UInt8} {p : Pkt.Pk} (hc : openCode l = 0) (h : Pkt.readC (opened l) = some p) : (readOf l).getD Pkt.Pk.zero = p ∧ readCode l = 0 := by
  unfold readOf readCode
  rw [if_pos hc, if_pos hc, h]
  exact ⟨rfl, rfl⟩
theorem read_none {l : List UInt8} (hc : openCode l = 0) (h : Pkt.readC (opened l) = none) : (readOf l).getD Pkt.Pk.zero = Pkt.Pk.zero ∧ readCode l = 2 := by
  unfold readOf readCode
  rw [if_pos hc, if_pos hc, h]
  exact ⟨rfl, rfl⟩
theorem read_shut {l : List UInt8} (hc : openCode l ≠ 0) : (readOf l).getD Pkt.Pk.zero = Pkt.Pk.zero ∧ readCode l = openCode l := by
  unfold readOf readCode
  rw [if_neg hc, if_neg hc]
  exact ⟨rfl, rfl⟩

theorem pread_any (A : Option Addr) (n c : Nat) (l : List UInt8) (w : World) (hw : Wd w) (h : Rd w A n c l) (hn : n ≤ 65536) :
    Calls Tryd.prog 9 #[.slice A n c] w (PRead w ((readOf l).getD Pkt.Pk.zero) (readCode l)) := by
  by_cases hc : openCode l = 0
  case neg =>
    obtain ⟨e1, e2⟩ := read_shut hc
    rw [e1, e2]
    exact pread_a A n c l w hw h hn hc
  cases ht : Num.takes 1 3 (opened l) with
  | none =>
    obtain ⟨e1, e2⟩ := read_none hc (by unfold Pkt.readC; rw [ht])
    rw [e1, e2]
    exact pread_b A n c l w hw h hn hc ht
  | some q =>
    obtain ⟨m, k, f, r, rfl⟩ := Pkt.takes_three ht
    have hh := pread_r A n c l w hw h hn hc m k f r ht _ _ (hidT rfl) (hidT rfl)
    have e : Pkt.readC (opened l) = (match Pkt.tailC k f r with | some q => Pkt.lastC m q | none => none) := by unfold Pkt.readC; rw [ht]; dsimp only; cases Pkt.tailC k f r <;> rfl
    unfold readOf readCode
    rw [if_pos hc, if_pos hc, e]
    exact hh
theorem readCode_cases (l : List UInt8) : readCode l = 0 ∨ readCode l = 2 ∨ readCode l = 3 := by
  unfold readCode openCode
  repeat' split
  all_goals omega
theorem read_ok {l : List UInt8} (h : readCode l = 0) : ∃ p, readOf l = some p ∧ Pkt.may p = true ∧ Pkt.bytes p = l := by
  by_cases hc : openCode l = 0
  · cases hp : Pkt.readC (opened l) with
    | none => rw [(read_none hc hp).2] at h; cases h
    | some p =>
      obtain ⟨hm, hr⟩ := Pkt.read_inv hp
      refine ⟨p, by unfold readOf; rw [if_pos hc, hp], hm, ?_⟩
      unfold Pkt.bytes
      rw [if_pos hm, hr]
      unfold openCode at hc
      unfold opened
      split at hc
      · cases hc
      · rename_i h4
        split at hc
        · rename_i hs
          rw [if_neg h4, if_pos hs]
          exact hs.symm
        · cases hc
  · rw [(read_shut hc).2] at h
    exact absurd h hc
theorem read_bad {l : List UInt8} (h : readCode l ≠ 0) : readOf l = none := by
  by_cases hc : openCode l = 0
  · cases hp : Pkt.readC (opened l) with
    | none => unfold readOf; rw [if_pos hc, hp]
    | some p => exact absurd (read_some hc hp).2 h
  · unfold readOf; rw [if_neg hc]
theorem read_bytes {p : Pkt.Pk} (h : Pkt.may p = true) : readOf (Pkt.bytes p) = some p ∧ readCode (Pkt.bytes p) = 0 := by
  have e : Pkt.bytes p = Crc.sealB (Pkt.raw p) := by unfold Pkt.bytes; rw [if_pos h]
  unfold readOf readCode
  rw [e, code_seal, opened_seal, Pkt.read_put h]
  exact ⟨rfl, rfl⟩
theorem bytes_len_le (p : Pkt.Pk) : (Pkt.bytes p).length ≤ 1104 := by
  unfold Pkt.bytes
  split
  · rename_i h
    have := (Pkt.raw_len h).2.2.2.1
    rw [seal_length]
    omega
  · simp
theorem pbytes_inj {p q : Pkt.Pk} (hp : Pkt.may p = true) (hq : Pkt.may q = true) (h : Pkt.bytes p = Pkt.bytes q) : p = q := by
  have h1 := (read_bytes hp).1
  rw [h, (read_bytes hq).1] at h1
  injection h1 with h1
  exact h1.symm
end Go.Proofs.YtahkhideepncfaaDoor
