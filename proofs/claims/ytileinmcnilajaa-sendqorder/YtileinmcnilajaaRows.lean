/-
  No cell of these rows narrows 'for every input' (looked for: loops, veiled, ifaces, maps, wideKeys, modest, calm, conditions, laid).
  DERIVED. THE GIVEN ROWS OF THIS SEAT. 4 by the template 'for every input the law returns true; each argument reads behind the call as it read before'; 0 by the template 'total and deterministic' (their statements: YtileinmcnilajaaTotals.lean).
  GIVEN WITH THE SEED: the statements are not yours to turn. If you find one false, say at which input.
  Laid BY PROGRAM, IN A SANDBOX (cutbox-rows.mjs): the forced cells as the released guide's own fill.sh prints them over the translation 49ab1aa6f290a1af… (all of the seat's roots in one cut). By AI agents, Wed Nov 11 2026. No macro, syntax, notation, axiom, sorry.
-/
import Derived.Test.YtileinmcnilajaaChecked
import GoSem.Claim
import GoSem.ClaimJoined
import GoSem.ClaimMapViews
import Derived.JoinedTies
import Derived.KernelRfl
namespace Go.Proofs.Ytileinmcnilajaa
/- THE CELL 'sum', in the pinned program and in every row, IS THE sha256 OF THE DUMP (.gsa) THAT YtileinmcnilajaaProg.lean LOADS. Nothing in Lean hashes anything: it is a label: what it is worth is what the hold of that sum in a sandbox is worth. -/
noncomputable def Try.pinned : Pinned := { name := "ytileinmcnilajaa", sum := "49ab1aa6f290a1afd8023d336f58d7dbcfffa4805da7e6fc992c256bc10884d6", checked := Try.checked }
namespace Rows
def none {H : Type} : Left H := { results := [], args := [] }

/-- 'precentorlaw12.SendqTells': WHATEVER THE INPUT: true; the input reads as it did. -/
def sendqTellsSpec : ChangeSpec := { name := "sendqTells", fn := fun _ => fun
  | [d] => { results := [.lit (.bool true)], args := [d] }
  | _ => none }
def sendqTellsRow : OpenClaim := { program := "ytileinmcnilajaa", sum := "49ab1aa6f290a1afd8023d336f58d7dbcfffa4805da7e6fc992c256bc10884d6", func := "precentor/precentorlaw12.SendqTells", spec := "sendqTells", unfollowed := true, recurses := true, apart := false }
def SendqTellsSaid : Prop := sendqTellsRow.holds Try.pinned (OpenSpec.ofChange sendqTellsSpec)

/-- ITS FALSE NEIGHBOUR: 'it returns false'. Refute it at one input. -/
def sendqTellsWrong : ChangeSpec := { name := "sendqTells", fn := fun _ => fun
  | [d] => { results := [.lit (.bool false)], args := [d] }
  | _ => none }
def SendqTellsWrongFalsely : Prop := sendqTellsRow.holds Try.pinned (OpenSpec.ofChange sendqTellsWrong)

/-- 'precentorlaw12.SendqOrder': WHATEVER THE INPUT: true; the input reads as it did. -/
def sendqOrderSpec : ChangeSpec := { name := "sendqOrder", fn := fun _ => fun
  | [d] => { results := [.lit (.bool true)], args := [d] }
  | _ => none }
def sendqOrderRow : OpenClaim := { program := "ytileinmcnilajaa", sum := "49ab1aa6f290a1afd8023d336f58d7dbcfffa4805da7e6fc992c256bc10884d6", func := "precentor/precentorlaw12.SendqOrder", spec := "sendqOrder", unfollowed := true, recurses := true, apart := false }
def SendqOrderSaid : Prop := sendqOrderRow.holds Try.pinned (OpenSpec.ofChange sendqOrderSpec)

/-- ITS FALSE NEIGHBOUR: 'it returns false'. Refute it at one input. -/
def sendqOrderWrong : ChangeSpec := { name := "sendqOrder", fn := fun _ => fun
  | [d] => { results := [.lit (.bool false)], args := [d] }
  | _ => none }
def SendqOrderWrongFalsely : Prop := sendqOrderRow.holds Try.pinned (OpenSpec.ofChange sendqOrderWrong)

/-- 'precentorlaw12.SendqKeeps': WHATEVER THE INPUT: true; the input reads as it did. -/
def sendqKeepsSpec : ChangeSpec := { name := "sendqKeeps", fn := fun _ => fun
  | [d] => { results := [.lit (.bool true)], args := [d] }
  | _ => none }
def sendqKeepsRow : OpenClaim := { program := "ytileinmcnilajaa", sum := "49ab1aa6f290a1afd8023d336f58d7dbcfffa4805da7e6fc992c256bc10884d6", func := "precentor/precentorlaw12.SendqKeeps", spec := "sendqKeeps", unfollowed := true, recurses := true, apart := false }
def SendqKeepsSaid : Prop := sendqKeepsRow.holds Try.pinned (OpenSpec.ofChange sendqKeepsSpec)

/-- ITS FALSE NEIGHBOUR: 'it returns false'. Refute it at one input. -/
def sendqKeepsWrong : ChangeSpec := { name := "sendqKeeps", fn := fun _ => fun
  | [d] => { results := [.lit (.bool false)], args := [d] }
  | _ => none }
def SendqKeepsWrongFalsely : Prop := sendqKeepsRow.holds Try.pinned (OpenSpec.ofChange sendqKeepsWrong)

/-- 'precentorlaw12.SendqFills': WHATEVER THE INPUT: true; the input reads as it did. -/
def sendqFillsSpec : ChangeSpec := { name := "sendqFills", fn := fun _ => fun
  | [d1, d2] => { results := [.lit (.bool true)], args := [d1, d2] }
  | _ => none }
def sendqFillsRow : OpenClaim := { program := "ytileinmcnilajaa", sum := "49ab1aa6f290a1afd8023d336f58d7dbcfffa4805da7e6fc992c256bc10884d6", func := "precentor/precentorlaw12.SendqFills", spec := "sendqFills", unfollowed := true, recurses := true, apart := false }
def SendqFillsSaid : Prop := sendqFillsRow.holds Try.pinned (OpenSpec.ofChange sendqFillsSpec)

/-- ITS FALSE NEIGHBOUR: 'it returns false'. Refute it at one input. -/
def sendqFillsWrong : ChangeSpec := { name := "sendqFills", fn := fun _ => fun
  | [d1, d2] => { results := [.lit (.bool false)], args := [d1, d2] }
  | _ => none }
def SendqFillsWrongFalsely : Prop := sendqFillsRow.holds Try.pinned (OpenSpec.ofChange sendqFillsWrong)

/- THE SECOND FORM. 'bulk': how many values and letters a reading holds, each counted each time it is reached (what is shared counts as often as it is met; a slice's spare places count too). A statement '..UptoSaid' is the law's where the arguments, and the package variables that the reading takes, are together of bulk at most 1048576: NARROWER than '..Said'. Prove '..Said' where nothing that the law and all that it calls make is longer than what came in: it says more and counts as full. Else prove '..UptoSaid'. A law counts once. -/
mutual
def uptoBulk {H : Type} : DataW H → Nat
  | .lit (.string bytes) => bytes.length + 1
  | .lit _ => 1
  | .nil => 1
  | .ptr d => uptoBulk d + 1
  | .slice elems spare => uptoBulkAll elems + uptoBulkAll spare + 1
  | .agg parts => uptoBulkAll parts + 1
  | .iface _ d => uptoBulk d + 1
  | .map entries => uptoBulkEntries entries + 1
  | .held _ => 1
def uptoBulkAll {H : Type} : List (DataW H) → Nat
  | [] => 0
  | d :: r => uptoBulk d + uptoBulkAll r
def uptoBulkEntries {H : Type} : List (Lit × DataW H) → Nat
  | [] => 0
  | x :: r => uptoBulkEntry x + uptoBulkEntries r
def uptoBulkEntry {H : Type} : Lit × DataW H → Nat
  | (.string bytes, d) => bytes.length + uptoBulk d + 1
  | (_, d) => uptoBulk d + 1
 end
def uptoSmall : (H : Type) → List (DataW H) → Bool := fun _ ds => decide (uptoBulkAll ds ≤ 1048576)
def OpenSpec.upto (s : _root_.Go.ChangeSpec) : _root_.Go.OpenSpec := { _root_.Go.OpenSpec.ofChange s with cond := some uptoSmall }

/-- 'precentorlaw12.SendqTells', WHERE WHAT IT READS IS OF BULK AT MOST 1048576: true; the input reads as it did. -/
def sendqTellsUptoRow : OpenClaim := { program := "ytileinmcnilajaa", sum := "49ab1aa6f290a1afd8023d336f58d7dbcfffa4805da7e6fc992c256bc10884d6", func := "precentor/precentorlaw12.SendqTells", spec := "sendqTells", unfollowed := true, recurses := true, apart := false, narrowed := true }
def SendqTellsUptoSaid : Prop := sendqTellsUptoRow.holds Try.pinned (OpenSpec.upto sendqTellsSpec)

/-- 'precentorlaw12.SendqOrder', WHERE WHAT IT READS IS OF BULK AT MOST 1048576: true; the input reads as it did. -/
def sendqOrderUptoRow : OpenClaim := { program := "ytileinmcnilajaa", sum := "49ab1aa6f290a1afd8023d336f58d7dbcfffa4805da7e6fc992c256bc10884d6", func := "precentor/precentorlaw12.SendqOrder", spec := "sendqOrder", unfollowed := true, recurses := true, apart := false, narrowed := true }
def SendqOrderUptoSaid : Prop := sendqOrderUptoRow.holds Try.pinned (OpenSpec.upto sendqOrderSpec)

/-- 'precentorlaw12.SendqKeeps', WHERE WHAT IT READS IS OF BULK AT MOST 1048576: true; the input reads as it did. -/
def sendqKeepsUptoRow : OpenClaim := { program := "ytileinmcnilajaa", sum := "49ab1aa6f290a1afd8023d336f58d7dbcfffa4805da7e6fc992c256bc10884d6", func := "precentor/precentorlaw12.SendqKeeps", spec := "sendqKeeps", unfollowed := true, recurses := true, apart := false, narrowed := true }
def SendqKeepsUptoSaid : Prop := sendqKeepsUptoRow.holds Try.pinned (OpenSpec.upto sendqKeepsSpec)

/-- 'precentorlaw12.SendqFills', WHERE WHAT IT READS IS OF BULK AT MOST 1048576: true; the input reads as it did. -/
def sendqFillsUptoRow : OpenClaim := { program := "ytileinmcnilajaa", sum := "49ab1aa6f290a1afd8023d336f58d7dbcfffa4805da7e6fc992c256bc10884d6", func := "precentor/precentorlaw12.SendqFills", spec := "sendqFills", unfollowed := true, recurses := true, apart := false, narrowed := true }
def SendqFillsUptoSaid : Prop := sendqFillsUptoRow.holds Try.pinned (OpenSpec.upto sendqFillsSpec)

end Rows
end Go.Proofs.Ytileinmcnilajaa
