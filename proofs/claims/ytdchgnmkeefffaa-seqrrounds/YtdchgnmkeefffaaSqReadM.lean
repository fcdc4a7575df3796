/- Items that are read, member by member. No program is named here. -/
import Derived.Test.YtdchgnmkeefffaaSqMath
set_option maxRecDepth 100000
namespace Go.Proofs.Ytdchgnmkeefffaa.Seqr
open Go.Proofs.Ytdchgnmkeefffaa.Item (It)
open Go.Proofs.Ytdchgnmkeefffaa.Lane
set_option linter.unusedVariables false

/-- A member's item is read. -/
def readOne (ls : List Ln) (p : Int × It) : List Ln := ls.set p.1.toNat (Lane.read (laneAt ls p.1.toNat) p.2).1
def readAll (ls : List Ln) (ps : List (Int × It)) : List Ln := ps.foldl readOne ls
theorem readAll_length (ls : List Ln) (ps : List (Int × It)) : (readAll ls ps).length = ls.length := by
  induction ps generalizing ls with
  | nil => rfl
  | cons p ps ih => show (readAll (readOne ls p) ps).length = _; rw [ih]; unfold readOne; rw [List.length_set]
theorem readAll_append (ls : List Ln) (ps qs : List (Int × It)) : readAll ls (ps ++ qs) = readAll (readAll ls ps) qs := List.foldl_append ..
theorem readAll_succ (ls : List Ln) {ps : List (Int × It)} {k : Nat} {p : Int × It} (h : ps[k]? = some p) : readAll ls (ps.take (k + 1)) = readOne (readAll ls (ps.take k)) p := by
  rw [List.take_add_one, h, readAll_append]; rfl
theorem zip_some {α β : Type} {a : List α} {b : List β} {k : Nat} {x : α} {y : β} (h1 : a[k]? = some x) (h2 : b[k]? = some y) : (a.zip b)[k]? = some (x, y) := by rw [List.getElem?_zip_eq_some]; exact ⟨h1, h2⟩
end Go.Proofs.Ytdchgnmkeefffaa.Seqr
