/- What is said of the lanes that wait, in lists. No program is named here. -/
import Derived.Test.YtdchgnmkeefffaaSqMath
set_option maxRecDepth 100000
namespace Go.Proofs.Ytdchgnmkeefffaa.Seqr
open Go.Proofs.Ytdchgnmkeefffaa.Item (It)
open Go.Proofs.Ytdchgnmkeefffaa.Lane
set_option linter.unusedVariables false

/-- Of so many lanes, from one on and round, its member as often as messages wait. -/
def saysOf (ls : List Ln) (n me k : Nat) : List Int := ((List.range k).map fun j => (me + j) % n).flatMap fun i => List.replicate (many (laneAt ls i)) (i : Int)
def saidL (ls : List Ln) (me : Nat) (most : Int) : List Int := (saysOf ls ls.length me ls.length).take most.toNat
def orderOf (L : List Int) (i : Int) : It := ⟨2, 0, 0, i, 0, 0, L, []⟩
/-- What is said, if anything. -/
def say (t : Tn) (ls : List Ln) (me : Nat) (quota : Int) : Option It :=
  if t.who ≠ me then none else if (control (laneAt ls me)).isSome = true then none else if saidL ls me (quota - t.used) = [] then none
  else some (orderOf (saidL ls me (quota - t.used)) (if quota ≤ t.used + (saidL ls me (quota - t.used)).length then 1 else 0))
theorem saysOf_succ (ls : List Ln) (n me k : Nat) : saysOf ls n me (k + 1) = saysOf ls n me k ++ List.replicate (many (laneAt ls ((me + k) % n))) (((me + k) % n : Nat) : Int) := by
  unfold saysOf
  rw [List.range_succ, List.map_append, List.flatMap_append]
  simp
theorem saysOf_zero (ls : List Ln) (n me : Nat) : saysOf ls n me 0 = [] := rfl
theorem take_more {X Y : List Int} {K : Nat} (h : K ≤ (X.take K).length) : (X ++ Y).take K = X.take K := by
  rw [List.length_take] at h
  rw [List.take_append_of_le_length (by omega)]
theorem take_snocK {X : List Int} {K : Nat} {x : Int} (h : (X.take K).length < K) : (X ++ [x]).take K = X.take K ++ [x] := by
  rw [List.length_take] at h
  rw [List.take_of_length_le (by simp; omega), List.take_of_length_le (by omega)]
theorem rep_snoc (X : List Int) (j : Nat) (x : Int) : X ++ List.replicate (j + 1) x = (X ++ List.replicate j x) ++ [x] := by
  rw [List.replicate_succ', List.append_assoc]
theorem say_no {t : Tn} {ls : List Ln} {me : Nat} {quota : Int} (h : t.who ≠ me) : say t ls me quota = none := by unfold say; rw [if_pos h]
theorem say_waits {t : Tn} {ls : List Ln} {me : Nat} {quota : Int} (h : (control (laneAt ls me)).isSome = true) : say t ls me quota = none := by
  unfold say
  split
  · rfl
  · simp
theorem say_none {t : Tn} {ls : List Ln} {me : Nat} {quota : Int} (h : saidL ls me (quota - t.used) = []) : say t ls me quota = none := by
  unfold say
  split
  · rfl
  · split
    · rfl
    · simp
theorem say_some {t : Tn} {ls : List Ln} {me : Nat} {quota : Int} (h : t.who = me) (h2 : (control (laneAt ls me)).isSome = false) (h3 : saidL ls me (quota - t.used) ≠ []) :
    say t ls me quota = some (orderOf (saidL ls me (quota - t.used)) (if quota ≤ t.used + (saidL ls me (quota - t.used)).length then 1 else 0)) := by
  unfold say
  rw [if_neg (by simpa using h), if_neg (by simp [h2]), if_neg h3]
theorem saidL_len (ls : List Ln) (me : Nat) (most : Int) : (saidL ls me most).length ≤ most.toNat := by
  unfold saidL; rw [List.length_take]; omega
end Go.Proofs.Ytdchgnmkeefffaa.Seqr
