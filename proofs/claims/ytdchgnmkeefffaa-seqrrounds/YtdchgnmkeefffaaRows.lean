/-
  No cell of these rows narrows 'for every input' (looked for: loops, veiled, ifaces, maps, wideKeys, modest, calm, conditions, laid).
  DERIVED. THE GIVEN ROWS OF THIS SEAT. 6 by the template 'for every input the law returns true; each argument reads behind the call as it read before'; 0 by the template 'total and deterministic' (their statements: YtdchgnmkeefffaaTotals.lean).
  GIVEN WITH THE SEED: the statements are not yours to turn. If you find one false, say at which input.
  Laid BY PROGRAM, IN A SANDBOX (cutbox-rows.mjs): the forced cells as the released guide's own fill.sh prints them over the translation 6a3f7978e51f12f9… (all of the seat's roots in one cut). By AI agents, Wed Nov 11 2026. No macro, syntax, notation, axiom, sorry.
-/
import Derived.Test.YtdchgnmkeefffaaChecked
import GoSem.Claim
import GoSem.ClaimJoined
import GoSem.ClaimMapViews
import Derived.JoinedTies
import Derived.KernelRfl
namespace Go.Proofs.Ytdchgnmkeefffaa
/- THE CELL 'sum', in the pinned program and in every row, IS THE sha256 OF THE DUMP (.gsa) THAT YtdchgnmkeefffaaProg.lean LOADS. Nothing in Lean hashes anything: it is a label: what it is worth is what the hold of that sum in a sandbox is worth. -/
noncomputable def Try.pinned : Pinned := { name := "ytdchgnmkeefffaa", sum := "6a3f7978e51f12f993a70f269bba0ebdb96bf7725bf037db2315a0eb54c5f54c", checked := Try.checked }
namespace Rows
def none {H : Type} : Left H := { results := [], args := [] }

/-- 'precentorlaw16.SeqrTells': WHATEVER THE INPUT: true; the input reads as it did. -/
def seqrTellsSpec : ChangeSpec := { name := "seqrTells", fn := fun _ => fun
  | [d] => { results := [.lit (.bool true)], args := [d] }
  | _ => none }
def seqrTellsRow : OpenClaim := { program := "ytdchgnmkeefffaa", sum := "6a3f7978e51f12f993a70f269bba0ebdb96bf7725bf037db2315a0eb54c5f54c", func := "precentor/precentorlaw16.SeqrTells", spec := "seqrTells", unfollowed := true, recurses := true, apart := false }
def SeqrTellsSaid : Prop := seqrTellsRow.holds Try.pinned (OpenSpec.ofChange seqrTellsSpec)

/-- ITS FALSE NEIGHBOUR: 'it returns false'. Refute it at one input. -/
def seqrTellsWrong : ChangeSpec := { name := "seqrTells", fn := fun _ => fun
  | [d] => { results := [.lit (.bool false)], args := [d] }
  | _ => none }
def SeqrTellsWrongFalsely : Prop := seqrTellsRow.holds Try.pinned (OpenSpec.ofChange seqrTellsWrong)

/-- 'precentorlaw16.SeqrParts': WHATEVER THE INPUT: true; the input reads as it did. -/
def seqrPartsSpec : ChangeSpec := { name := "seqrParts", fn := fun _ => fun
  | [d] => { results := [.lit (.bool true)], args := [d] }
  | _ => none }
def seqrPartsRow : OpenClaim := { program := "ytdchgnmkeefffaa", sum := "6a3f7978e51f12f993a70f269bba0ebdb96bf7725bf037db2315a0eb54c5f54c", func := "precentor/precentorlaw16.SeqrParts", spec := "seqrParts", unfollowed := true, recurses := true, apart := false }
def SeqrPartsSaid : Prop := seqrPartsRow.holds Try.pinned (OpenSpec.ofChange seqrPartsSpec)

/-- ITS FALSE NEIGHBOUR: 'it returns false'. Refute it at one input. -/
def seqrPartsWrong : ChangeSpec := { name := "seqrParts", fn := fun _ => fun
  | [d] => { results := [.lit (.bool false)], args := [d] }
  | _ => none }
def SeqrPartsWrongFalsely : Prop := seqrPartsRow.holds Try.pinned (OpenSpec.ofChange seqrPartsWrong)

/-- 'precentorlaw16.SeqrSaid': WHATEVER THE INPUT: true; the input reads as it did. -/
def seqrSaidSpec : ChangeSpec := { name := "seqrSaid", fn := fun _ => fun
  | [d1, d2, d3] => { results := [.lit (.bool true)], args := [d1, d2, d3] }
  | _ => none }
def seqrSaidRow : OpenClaim := { program := "ytdchgnmkeefffaa", sum := "6a3f7978e51f12f993a70f269bba0ebdb96bf7725bf037db2315a0eb54c5f54c", func := "precentor/precentorlaw16.SeqrSaid", spec := "seqrSaid", unfollowed := true, recurses := true, apart := false }
def SeqrSaidSaid : Prop := seqrSaidRow.holds Try.pinned (OpenSpec.ofChange seqrSaidSpec)

/-- ITS FALSE NEIGHBOUR: 'it returns false'. Refute it at one input. -/
def seqrSaidWrong : ChangeSpec := { name := "seqrSaid", fn := fun _ => fun
  | [d1, d2, d3] => { results := [.lit (.bool false)], args := [d1, d2, d3] }
  | _ => none }
def SeqrSaidWrongFalsely : Prop := seqrSaidRow.holds Try.pinned (OpenSpec.ofChange seqrSaidWrong)

/-- 'precentorlaw16.SeqrStays': WHATEVER THE INPUT: true; the input reads as it did. -/
def seqrStaysSpec : ChangeSpec := { name := "seqrStays", fn := fun _ => fun
  | [d1, d2] => { results := [.lit (.bool true)], args := [d1, d2] }
  | _ => none }
def seqrStaysRow : OpenClaim := { program := "ytdchgnmkeefffaa", sum := "6a3f7978e51f12f993a70f269bba0ebdb96bf7725bf037db2315a0eb54c5f54c", func := "precentor/precentorlaw16.SeqrStays", spec := "seqrStays", unfollowed := true, recurses := true, apart := false }
def SeqrStaysSaid : Prop := seqrStaysRow.holds Try.pinned (OpenSpec.ofChange seqrStaysSpec)

/-- ITS FALSE NEIGHBOUR: 'it returns false'. Refute it at one input. -/
def seqrStaysWrong : ChangeSpec := { name := "seqrStays", fn := fun _ => fun
  | [d1, d2] => { results := [.lit (.bool false)], args := [d1, d2] }
  | _ => none }
def SeqrStaysWrongFalsely : Prop := seqrStaysRow.holds Try.pinned (OpenSpec.ofChange seqrStaysWrong)

/-- 'precentorlaw16.SeqrRounds': WHATEVER THE INPUT: true; the input reads as it did. -/
def seqrRoundsSpec : ChangeSpec := { name := "seqrRounds", fn := fun _ => fun
  | [d1, d2] => { results := [.lit (.bool true)], args := [d1, d2] }
  | _ => none }
def seqrRoundsRow : OpenClaim := { program := "ytdchgnmkeefffaa", sum := "6a3f7978e51f12f993a70f269bba0ebdb96bf7725bf037db2315a0eb54c5f54c", func := "precentor/precentorlaw16.SeqrRounds", spec := "seqrRounds", unfollowed := true, recurses := true, apart := false }
def SeqrRoundsSaid : Prop := seqrRoundsRow.holds Try.pinned (OpenSpec.ofChange seqrRoundsSpec)

/-- ITS FALSE NEIGHBOUR: 'it returns false'. Refute it at one input. -/
def seqrRoundsWrong : ChangeSpec := { name := "seqrRounds", fn := fun _ => fun
  | [d1, d2] => { results := [.lit (.bool false)], args := [d1, d2] }
  | _ => none }
def SeqrRoundsWrongFalsely : Prop := seqrRoundsRow.holds Try.pinned (OpenSpec.ofChange seqrRoundsWrong)

/-- 'precentorlaw16.SeqrSilent': WHATEVER THE INPUT: true; the input reads as it did. -/
def seqrSilentSpec : ChangeSpec := { name := "seqrSilent", fn := fun _ => fun
  | [d1, d2, d3] => { results := [.lit (.bool true)], args := [d1, d2, d3] }
  | _ => none }
def seqrSilentRow : OpenClaim := { program := "ytdchgnmkeefffaa", sum := "6a3f7978e51f12f993a70f269bba0ebdb96bf7725bf037db2315a0eb54c5f54c", func := "precentor/precentorlaw16.SeqrSilent", spec := "seqrSilent", unfollowed := true, recurses := true, apart := false }
def SeqrSilentSaid : Prop := seqrSilentRow.holds Try.pinned (OpenSpec.ofChange seqrSilentSpec)

/-- ITS FALSE NEIGHBOUR: 'it returns false'. Refute it at one input. -/
def seqrSilentWrong : ChangeSpec := { name := "seqrSilent", fn := fun _ => fun
  | [d1, d2, d3] => { results := [.lit (.bool false)], args := [d1, d2, d3] }
  | _ => none }
def SeqrSilentWrongFalsely : Prop := seqrSilentRow.holds Try.pinned (OpenSpec.ofChange seqrSilentWrong)

/- THE SECOND FORM. 'bulk': how many values and letters a reading holds, each counted each time it is reached (what is shared counts as often as it is met; a slice's spare places count too). A statement '..UptoSaid' is the law's where the arguments, and the package variables that the reading takes, are together of bulk at most 1048576: NARROWER than '..Said'. Prove '..Said' where nothing that the law and all that it calls make is longer than what came in: it says more and counts as full. Else prove '..UptoSaid'. A law counts once. -/
mutual
def uptoBulk {H : Type} : DataW H → Nat
  | .lit (.string bytes) => bytes.length + 1
  | .lit _ => 1
  | .nil => 1
  | .ptr d => uptoBulk d + 1
  | .slice elems spare => uptoBulkAll elems + uptoBulkAll spare + 1
  | .agg parts => uptoBulkAll parts + 1
  | .iface _ d => uptoBulk d + 1
  | .map entries => uptoBulkEntries entries + 1
  | .held _ => 1
def uptoBulkAll {H : Type} : List (DataW H) → Nat
  | [] => 0
  | d :: r => uptoBulk d + uptoBulkAll r
def uptoBulkEntries {H : Type} : List (Lit × DataW H) → Nat
  | [] => 0
  | x :: r => uptoBulkEntry x + uptoBulkEntries r
def uptoBulkEntry {H : Type} : Lit × DataW H → Nat
  | (.string bytes, d) => bytes.length + uptoBulk d + 1
  | (_, d) => uptoBulk d + 1
 end
def uptoSmall : (H : Type) → List (DataW H) → Bool := fun _ ds => decide (uptoBulkAll ds ≤ 1048576)
def OpenSpec.upto (s : _root_.Go.ChangeSpec) : _root_.Go.OpenSpec := { _root_.Go.OpenSpec.ofChange s with cond := some uptoSmall }

/-- 'precentorlaw16.SeqrTells', WHERE WHAT IT READS IS OF BULK AT MOST 1048576: true; the input reads as it did. -/
def seqrTellsUptoRow : OpenClaim := { program := "ytdchgnmkeefffaa", sum := "6a3f7978e51f12f993a70f269bba0ebdb96bf7725bf037db2315a0eb54c5f54c", func := "precentor/precentorlaw16.SeqrTells", spec := "seqrTells", unfollowed := true, recurses := true, apart := false, narrowed := true }
def SeqrTellsUptoSaid : Prop := seqrTellsUptoRow.holds Try.pinned (OpenSpec.upto seqrTellsSpec)

/-- 'precentorlaw16.SeqrParts', WHERE WHAT IT READS IS OF BULK AT MOST 1048576: true; the input reads as it did. -/
def seqrPartsUptoRow : OpenClaim := { program := "ytdchgnmkeefffaa", sum := "6a3f7978e51f12f993a70f269bba0ebdb96bf7725bf037db2315a0eb54c5f54c", func := "precentor/precentorlaw16.SeqrParts", spec := "seqrParts", unfollowed := true, recurses := true, apart := false, narrowed := true }
def SeqrPartsUptoSaid : Prop := seqrPartsUptoRow.holds Try.pinned (OpenSpec.upto seqrPartsSpec)

/-- 'precentorlaw16.SeqrSaid', WHERE WHAT IT READS IS OF BULK AT MOST 1048576: true; the input reads as it did. -/
def seqrSaidUptoRow : OpenClaim := { program := "ytdchgnmkeefffaa", sum := "6a3f7978e51f12f993a70f269bba0ebdb96bf7725bf037db2315a0eb54c5f54c", func := "precentor/precentorlaw16.SeqrSaid", spec := "seqrSaid", unfollowed := true, recurses := true, apart := false, narrowed := true }
def SeqrSaidUptoSaid : Prop := seqrSaidUptoRow.holds Try.pinned (OpenSpec.upto seqrSaidSpec)

/-- 'precentorlaw16.SeqrStays', WHERE WHAT IT READS IS OF BULK AT MOST 1048576: true; the input reads as it did. -/
def seqrStaysUptoRow : OpenClaim := { program := "ytdchgnmkeefffaa", sum := "6a3f7978e51f12f993a70f269bba0ebdb96bf7725bf037db2315a0eb54c5f54c", func := "precentor/precentorlaw16.SeqrStays", spec := "seqrStays", unfollowed := true, recurses := true, apart := false, narrowed := true }
def SeqrStaysUptoSaid : Prop := seqrStaysUptoRow.holds Try.pinned (OpenSpec.upto seqrStaysSpec)

/-- 'precentorlaw16.SeqrRounds', WHERE WHAT IT READS IS OF BULK AT MOST 1048576: true; the input reads as it did. -/
def seqrRoundsUptoRow : OpenClaim := { program := "ytdchgnmkeefffaa", sum := "6a3f7978e51f12f993a70f269bba0ebdb96bf7725bf037db2315a0eb54c5f54c", func := "precentor/precentorlaw16.SeqrRounds", spec := "seqrRounds", unfollowed := true, recurses := true, apart := false, narrowed := true }
def SeqrRoundsUptoSaid : Prop := seqrRoundsUptoRow.holds Try.pinned (OpenSpec.upto seqrRoundsSpec)

/-- 'precentorlaw16.SeqrSilent', WHERE WHAT IT READS IS OF BULK AT MOST 1048576: true; the input reads as it did. -/
def seqrSilentUptoRow : OpenClaim := { program := "ytdchgnmkeefffaa", sum := "6a3f7978e51f12f993a70f269bba0ebdb96bf7725bf037db2315a0eb54c5f54c", func := "precentor/precentorlaw16.SeqrSilent", spec := "seqrSilent", unfollowed := true, recurses := true, apart := false, narrowed := true }
def SeqrSilentUptoSaid : Prop := seqrSilentUptoRow.holds Try.pinned (OpenSpec.upto seqrSilentSpec)

end Rows
end Go.Proofs.Ytdchgnmkeefffaa
