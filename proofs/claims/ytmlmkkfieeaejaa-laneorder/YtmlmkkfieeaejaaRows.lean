/-
  No cell of these rows narrows 'for every input' (looked for: loops, veiled, ifaces, maps, wideKeys, modest, calm, conditions, laid).
  DERIVED. THE GIVEN ROWS OF THIS SEAT. 6 by the template 'for every input the law returns true; each argument reads behind the call as it read before'; 0 by the template 'total and deterministic' (their statements: YtmlmkkfieeaejaaTotals.lean).
  GIVEN WITH THE SEED: the statements are not yours to turn. If you find one false, say at which input.
  Laid BY PROGRAM, IN A SANDBOX (cutbox-rows.mjs): the forced cells as the released guide's own fill.sh prints them over the translation 27e10d31384bc5df… (all of the seat's roots in one cut). By AI agents, Wed Nov 11 2026. No macro, syntax, notation, axiom, sorry.
-/
import Derived.Test.YtmlmkkfieeaejaaChecked
import GoSem.Claim
import GoSem.ClaimJoined
import GoSem.ClaimMapViews
import Derived.JoinedTies
import Derived.KernelRfl
namespace Go.Proofs.Ytmlmkkfieeaejaa
/- THE CELL 'sum', in the pinned program and in every row, IS THE sha256 OF THE DUMP (.gsa) THAT YtmlmkkfieeaejaaProg.lean LOADS. Nothing in Lean hashes anything: it is a label: what it is worth is what the hold of that sum in a sandbox is worth. -/
noncomputable def Try.pinned : Pinned := { name := "ytmlmkkfieeaejaa", sum := "27e10d31384bc5df8d54e8a7cbd2d72ff9f00908b5c03310c4f71ca620d58ab3", checked := Try.checked }
namespace Rows
def none {H : Type} : Left H := { results := [], args := [] }

/-- 'precentorlaw15.LaneTells': WHATEVER THE INPUT: true; the input reads as it did. -/
def laneTellsSpec : ChangeSpec := { name := "laneTells", fn := fun _ => fun
  | [d1, d2, d3] => { results := [.lit (.bool true)], args := [d1, d2, d3] }
  | _ => none }
def laneTellsRow : OpenClaim := { program := "ytmlmkkfieeaejaa", sum := "27e10d31384bc5df8d54e8a7cbd2d72ff9f00908b5c03310c4f71ca620d58ab3", func := "precentor/precentorlaw15.LaneTells", spec := "laneTells", unfollowed := true, recurses := true, apart := false }
def LaneTellsSaid : Prop := laneTellsRow.holds Try.pinned (OpenSpec.ofChange laneTellsSpec)

/-- ITS FALSE NEIGHBOUR: 'it returns false'. Refute it at one input. -/
def laneTellsWrong : ChangeSpec := { name := "laneTells", fn := fun _ => fun
  | [d1, d2, d3] => { results := [.lit (.bool false)], args := [d1, d2, d3] }
  | _ => none }
def LaneTellsWrongFalsely : Prop := laneTellsRow.holds Try.pinned (OpenSpec.ofChange laneTellsWrong)

/-- 'precentorlaw15.LaneDoes': WHATEVER THE INPUT: true; the input reads as it did. -/
def laneDoesSpec : ChangeSpec := { name := "laneDoes", fn := fun _ => fun
  | [d] => { results := [.lit (.bool true)], args := [d] }
  | _ => none }
def laneDoesRow : OpenClaim := { program := "ytmlmkkfieeaejaa", sum := "27e10d31384bc5df8d54e8a7cbd2d72ff9f00908b5c03310c4f71ca620d58ab3", func := "precentor/precentorlaw15.LaneDoes", spec := "laneDoes", unfollowed := true, recurses := true, apart := false }
def LaneDoesSaid : Prop := laneDoesRow.holds Try.pinned (OpenSpec.ofChange laneDoesSpec)

/-- ITS FALSE NEIGHBOUR: 'it returns false'. Refute it at one input. -/
def laneDoesWrong : ChangeSpec := { name := "laneDoes", fn := fun _ => fun
  | [d] => { results := [.lit (.bool false)], args := [d] }
  | _ => none }
def LaneDoesWrongFalsely : Prop := laneDoesRow.holds Try.pinned (OpenSpec.ofChange laneDoesWrong)

/-- 'precentorlaw15.LaneStays': WHATEVER THE INPUT: true; the input reads as it did. -/
def laneStaysSpec : ChangeSpec := { name := "laneStays", fn := fun _ => fun
  | [d] => { results := [.lit (.bool true)], args := [d] }
  | _ => none }
def laneStaysRow : OpenClaim := { program := "ytmlmkkfieeaejaa", sum := "27e10d31384bc5df8d54e8a7cbd2d72ff9f00908b5c03310c4f71ca620d58ab3", func := "precentor/precentorlaw15.LaneStays", spec := "laneStays", unfollowed := true, recurses := true, apart := false }
def LaneStaysSaid : Prop := laneStaysRow.holds Try.pinned (OpenSpec.ofChange laneStaysSpec)

/-- ITS FALSE NEIGHBOUR: 'it returns false'. Refute it at one input. -/
def laneStaysWrong : ChangeSpec := { name := "laneStays", fn := fun _ => fun
  | [d] => { results := [.lit (.bool false)], args := [d] }
  | _ => none }
def LaneStaysWrongFalsely : Prop := laneStaysRow.holds Try.pinned (OpenSpec.ofChange laneStaysWrong)

/-- 'precentorlaw15.LaneOrder': WHATEVER THE INPUT: true; the input reads as it did. -/
def laneOrderSpec : ChangeSpec := { name := "laneOrder", fn := fun _ => fun
  | [d1, d2, d3] => { results := [.lit (.bool true)], args := [d1, d2, d3] }
  | _ => none }
def laneOrderRow : OpenClaim := { program := "ytmlmkkfieeaejaa", sum := "27e10d31384bc5df8d54e8a7cbd2d72ff9f00908b5c03310c4f71ca620d58ab3", func := "precentor/precentorlaw15.LaneOrder", spec := "laneOrder", unfollowed := true, recurses := true, apart := false }
def LaneOrderSaid : Prop := laneOrderRow.holds Try.pinned (OpenSpec.ofChange laneOrderSpec)

/-- ITS FALSE NEIGHBOUR: 'it returns false'. Refute it at one input. -/
def laneOrderWrong : ChangeSpec := { name := "laneOrder", fn := fun _ => fun
  | [d1, d2, d3] => { results := [.lit (.bool false)], args := [d1, d2, d3] }
  | _ => none }
def LaneOrderWrongFalsely : Prop := laneOrderRow.holds Try.pinned (OpenSpec.ofChange laneOrderWrong)

/-- 'precentorlaw15.LaneSets': WHATEVER THE INPUT: true; the input reads as it did. -/
def laneSetsSpec : ChangeSpec := { name := "laneSets", fn := fun _ => fun
  | [d1, d2] => { results := [.lit (.bool true)], args := [d1, d2] }
  | _ => none }
def laneSetsRow : OpenClaim := { program := "ytmlmkkfieeaejaa", sum := "27e10d31384bc5df8d54e8a7cbd2d72ff9f00908b5c03310c4f71ca620d58ab3", func := "precentor/precentorlaw15.LaneSets", spec := "laneSets", unfollowed := true, recurses := true, apart := false }
def LaneSetsSaid : Prop := laneSetsRow.holds Try.pinned (OpenSpec.ofChange laneSetsSpec)

/-- ITS FALSE NEIGHBOUR: 'it returns false'. Refute it at one input. -/
def laneSetsWrong : ChangeSpec := { name := "laneSets", fn := fun _ => fun
  | [d1, d2] => { results := [.lit (.bool false)], args := [d1, d2] }
  | _ => none }
def LaneSetsWrongFalsely : Prop := laneSetsRow.holds Try.pinned (OpenSpec.ofChange laneSetsWrong)

/-- 'precentorlaw15.LaneCounts': WHATEVER THE INPUT: true; the input reads as it did. -/
def laneCountsSpec : ChangeSpec := { name := "laneCounts", fn := fun _ => fun
  | [d] => { results := [.lit (.bool true)], args := [d] }
  | _ => none }
def laneCountsRow : OpenClaim := { program := "ytmlmkkfieeaejaa", sum := "27e10d31384bc5df8d54e8a7cbd2d72ff9f00908b5c03310c4f71ca620d58ab3", func := "precentor/precentorlaw15.LaneCounts", spec := "laneCounts", unfollowed := true, recurses := true, apart := false }
def LaneCountsSaid : Prop := laneCountsRow.holds Try.pinned (OpenSpec.ofChange laneCountsSpec)

/-- ITS FALSE NEIGHBOUR: 'it returns false'. Refute it at one input. -/
def laneCountsWrong : ChangeSpec := { name := "laneCounts", fn := fun _ => fun
  | [d] => { results := [.lit (.bool false)], args := [d] }
  | _ => none }
def LaneCountsWrongFalsely : Prop := laneCountsRow.holds Try.pinned (OpenSpec.ofChange laneCountsWrong)

/- THE SECOND FORM. 'bulk': how many values and letters a reading holds, each counted each time it is reached (what is shared counts as often as it is met; a slice's spare places count too). A statement '..UptoSaid' is the law's where the arguments, and the package variables that the reading takes, are together of bulk at most 1048576: NARROWER than '..Said'. Prove '..Said' where nothing that the law and all that it calls make is longer than what came in: it says more and counts as full. Else prove '..UptoSaid'. A law counts once. -/
mutual
def uptoBulk {H : Type} : DataW H → Nat
  | .lit (.string bytes) => bytes.length + 1
  | .lit _ => 1
  | .nil => 1
  | .ptr d => uptoBulk d + 1
  | .slice elems spare => uptoBulkAll elems + uptoBulkAll spare + 1
  | .agg parts => uptoBulkAll parts + 1
  | .iface _ d => uptoBulk d + 1
  | .map entries => uptoBulkEntries entries + 1
  | .held _ => 1
def uptoBulkAll {H : Type} : List (DataW H) → Nat
  | [] => 0
  | d :: r => uptoBulk d + uptoBulkAll r
def uptoBulkEntries {H : Type} : List (Lit × DataW H) → Nat
  | [] => 0
  | x :: r => uptoBulkEntry x + uptoBulkEntries r
def uptoBulkEntry {H : Type} : Lit × DataW H → Nat
  | (.string bytes, d) => bytes.length + uptoBulk d + 1
  | (_, d) => uptoBulk d + 1
 end
def uptoSmall : (H : Type) → List (DataW H) → Bool := fun _ ds => decide (uptoBulkAll ds ≤ 1048576)
def OpenSpec.upto (s : _root_.Go.ChangeSpec) : _root_.Go.OpenSpec := { _root_.Go.OpenSpec.ofChange s with cond := some uptoSmall }

/-- 'precentorlaw15.LaneTells', WHERE WHAT IT READS IS OF BULK AT MOST 1048576: true; the input reads as it did. -/
def laneTellsUptoRow : OpenClaim := { program := "ytmlmkkfieeaejaa", sum := "27e10d31384bc5df8d54e8a7cbd2d72ff9f00908b5c03310c4f71ca620d58ab3", func := "precentor/precentorlaw15.LaneTells", spec := "laneTells", unfollowed := true, recurses := true, apart := false, narrowed := true }
def LaneTellsUptoSaid : Prop := laneTellsUptoRow.holds Try.pinned (OpenSpec.upto laneTellsSpec)

/-- 'precentorlaw15.LaneDoes', WHERE WHAT IT READS IS OF BULK AT MOST 1048576: true; the input reads as it did. -/
def laneDoesUptoRow : OpenClaim := { program := "ytmlmkkfieeaejaa", sum := "27e10d31384bc5df8d54e8a7cbd2d72ff9f00908b5c03310c4f71ca620d58ab3", func := "precentor/precentorlaw15.LaneDoes", spec := "laneDoes", unfollowed := true, recurses := true, apart := false, narrowed := true }
def LaneDoesUptoSaid : Prop := laneDoesUptoRow.holds Try.pinned (OpenSpec.upto laneDoesSpec)

/-- 'precentorlaw15.LaneStays', WHERE WHAT IT READS IS OF BULK AT MOST 1048576: true; the input reads as it did. -/
def laneStaysUptoRow : OpenClaim := { program := "ytmlmkkfieeaejaa", sum := "27e10d31384bc5df8d54e8a7cbd2d72ff9f00908b5c03310c4f71ca620d58ab3", func := "precentor/precentorlaw15.LaneStays", spec := "laneStays", unfollowed := true, recurses := true, apart := false, narrowed := true }
def LaneStaysUptoSaid : Prop := laneStaysUptoRow.holds Try.pinned (OpenSpec.upto laneStaysSpec)

/-- 'precentorlaw15.LaneOrder', WHERE WHAT IT READS IS OF BULK AT MOST 1048576: true; the input reads as it did. -/
def laneOrderUptoRow : OpenClaim := { program := "ytmlmkkfieeaejaa", sum := "27e10d31384bc5df8d54e8a7cbd2d72ff9f00908b5c03310c4f71ca620d58ab3", func := "precentor/precentorlaw15.LaneOrder", spec := "laneOrder", unfollowed := true, recurses := true, apart := false, narrowed := true }
def LaneOrderUptoSaid : Prop := laneOrderUptoRow.holds Try.pinned (OpenSpec.upto laneOrderSpec)

/-- 'precentorlaw15.LaneSets', WHERE WHAT IT READS IS OF BULK AT MOST 1048576: true; the input reads as it did. -/
def laneSetsUptoRow : OpenClaim := { program := "ytmlmkkfieeaejaa", sum := "27e10d31384bc5df8d54e8a7cbd2d72ff9f00908b5c03310c4f71ca620d58ab3", func := "precentor/precentorlaw15.LaneSets", spec := "laneSets", unfollowed := true, recurses := true, apart := false, narrowed := true }
def LaneSetsUptoSaid : Prop := laneSetsUptoRow.holds Try.pinned (OpenSpec.upto laneSetsSpec)

/-- 'precentorlaw15.LaneCounts', WHERE WHAT IT READS IS OF BULK AT MOST 1048576: true; the input reads as it did. -/
def laneCountsUptoRow : OpenClaim := { program := "ytmlmkkfieeaejaa", sum := "27e10d31384bc5df8d54e8a7cbd2d72ff9f00908b5c03310c4f71ca620d58ab3", func := "precentor/precentorlaw15.LaneCounts", spec := "laneCounts", unfollowed := true, recurses := true, apart := false, narrowed := true }
def LaneCountsUptoSaid : Prop := laneCountsUptoRow.holds Try.pinned (OpenSpec.upto laneCountsSpec)

end Rows
end Go.Proofs.Ytmlmkkfieeaejaa
