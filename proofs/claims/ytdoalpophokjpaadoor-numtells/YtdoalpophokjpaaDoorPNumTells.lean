/- The law NumTells: for every input the call returns true, and each argument reads behind it as it did. No condition is laid on the input. The package variables that the card lists start as the program's text lays them (tied). -/
import Derived.Test.YtdoalpophokjpaaDoorRows
import Derived.Test.YtdoalpophokjpaaDoorOpen
import Derived.Test.YtdoalpophokjpaaDoorNumL1
import Derived.Test.YtdoalpophokjpaaDoorNumDoor
import Derived.Test.YtdoalpophokjpaaDoorTie
import Derived.Test.YtdoalpophokjpaaDoorCards
import Derived.WalkKit
import Derived.ProofKit
import Derived.OpenShut
import Derived.ShutString
import Derived.ChangeOld
import Derived.Below
import Derived.LaidMore
import Derived.Stop.Joined
import Derived.SevenTiedAt
namespace Go.Proofs.YtdoalpophokjpaaDoor.numTells
open Go.ChangeShapes Go.WideShapes Go.ChangeAt Go.RowKit
set_option linter.unusedVariables false

theorem own : ownKnob Tryd.prog.godebug = none := by kernel_rfl
theorem laidOut : laidOutB Tryd.prog = true := by kernel_rfl
/-- What the row lists. -/
abbrev listed : List (String × DataW Unit) := [("precentor/num.widths", Rows.laid_precentor_num_widths)]
theorem door_met (os : Os) (args : Array Value) : laidMetH Tryd.prog listed ((World.doorLaid Tryd.prog 17 os).forCall (fun _ _ => 0) ⟨#[], args, []⟩).memory :=
  laidMetH_of_parts3 (fuel := 8) (laidMet_of_run' 8 (by kernel_rfl) (by kernel_rfl)) (by kernel_rfl) (by kernel_rfl)

theorem walk (W : World) (base : Nat) (v0 : Value) (o0 : Value.okWide Tryd.prog W .any base 25 v0) (h0 : Tr Tryd.prog W 25 v0.cells.toList) (hL : laidMetH Tryd.prog listed W) :
    Calls Tryd.prog 3 #[v0] W fun e w' => e = .returned (.bool true) ∧ Below W.heap.size W w' := by
  obtain ⟨cs, rfl, hsz⟩ := okWide_struct Tryd.underlying25 o0
  rw [show Tryd.prog.cellsOf 25 = 4 from by kernel_rfl] at hsz
  obtain ⟨l⟩ := cs
  obtain ⟨c0, c1, c2, c3, rfl⟩ := list4 l hsz
  obtain ⟨_, hall⟩ := h0.struct Tryd.underlying25
  have f0 : Tr Tryd.prog W 3 (([c0, c1, c2, c3].drop 0).take (Tryd.prog.cellsOf 3)) := hall 0 _ rfl
  have f1 : Tr Tryd.prog W 3 (([c0, c1, c2, c3].drop 1).take (Tryd.prog.cellsOf 3)) := hall 1 _ rfl
  have f2 : Tr Tryd.prog W 22 (([c0, c1, c2, c3].drop 2).take (Tryd.prog.cellsOf 22)) := hall 2 _ rfl
  have f3 : Tr Tryd.prog W 23 (([c0, c1, c2, c3].drop 3).take (Tryd.prog.cellsOf 23)) := hall 3 _ rfl
  rw [show Tryd.prog.cellsOf 3 = 1 from by kernel_rfl] at f0 f1
  rw [show Tryd.prog.cellsOf 22 = 1 from by kernel_rfl] at f2
  rw [show Tryd.prog.cellsOf 23 = 1 from by kernel_rfl] at f3
  obtain ⟨k0, e0, _⟩ := f0.int Tryd.underlying3
  obtain ⟨k1, e1, _⟩ := f1.int Tryd.underlying3
  obtain ⟨A, n, c, b, e2, hr⟩ := f2.bytes Tryd.underlying22 Tryd.underlying5 (by kernel_rfl)
  obtain ⟨B, m, d, ns, e3, hi⟩ := f3.ints Tryd.underlying23 Tryd.underlying3 (by kernel_rfl)
  simp at e0 e1 e2 e3
  subst e0; subst e1; subst e2; subst e3
  exact tells_any k0 k1 A n c B m d b ns W (wd_of_laid hL) hr hi

set_option maxRecDepth 100000 in
theorem lifted (os : Os) (started : os.Started) (H : Type) (enc : TypeId × Value → H) :
    ReturnsInHanded {} Tryd.checked os 3 .any (fun w args => (Rows.numTellsSpec.pre enc Tryd.prog Tryd.f3 [] false w args ∧ laidMetH Tryd.prog listed w) ∧ sizedMet enc Tryd.prog Tryd.f3 (OpenSpec.ofChange Rows.numTellsSpec) false w args)
      (Rows.numTellsSpec.post enc Tryd.prog Tryd.f3 false true false false) := by
  refine returnsInHanded_of_change_and (C := Tryd.checked) (X := fun w _ => laidMetH Tryd.prog listed w) (fun _ _ _ hh h => h.of_heap hh) own started (by kernel_rfl) Tryd.func3
    (ChangeSpec.witness_shaped (enc := enc) (C := Tryd.checked) (os := os) (X := fun w _ => laidMetH Tryd.prog listed w) false (World.doorLaid Tryd.prog 17 os) #[.agg #[.int .i64 0, .int .i64 0, .slice none 0 0, .slice none 0 0]] 8 rfl (World.shaped_of_RefB (by kernel_rfl) (by kernel_rfl)) (by kernel_rfl) (by kernel_rfl) (by kernel_rfl) (door_met os _)) ?_
  intro W base args ds gs before hval0 hW _ _ hL _
  have hval : ∀ (j : Nat) t v, Tryd.f3.params[j]? = some t → args[j]? = some v → Value.okWide Tryd.prog W .any base t v := hval0
  have hW' := hW
  obtain ⟨p, q, hA0, hV, rfl, hfz, hnd⟩ := hW
  have hA : DataW.TrodAll enc Tryd.prog W 0 (fun _ => true) true Tryd.f3.params.toList args.toList ds p := hA0
  rw [Tryd.params3] at hA hval
  obtain ⟨v0, vs0, d0, ds0, p0, q0, hargs, rfl, rfl, h0, r0⟩ := trodAll_cons hA
  obtain ⟨rfl, rfl, rfl⟩ := trodAll_nil r0
  obtain rfl : args = #[v0] := by cases args; simp_all
  obtain ⟨rfl, rfl⟩ := trodVars_none hV
  have lt0 : ∀ x ∈ p0, x.block < W.heap.size := by obtain ⟨m, hm⟩ := h0; exact DataW.trod_lt m _ _ _ hm
  clear hA0
  refine (walk W base v0 (hval 0 25 v0 rfl rfl) (Tr.of h0) hL).mono fun e W' ⟨he, bel⟩ => ?_
  subst he
  exact ⟨_, rfl, _, _, _, [], _, [], hW', trodAll_mk1 (shut_bool Tryd.underlying4 _), (trodAll_cons_mk (Below.trod laidOut (by kernel_rfl) (of_decide_eq_true (by kernel_rfl)) h0 bel lt0) trodAll_mk0), rfl, bel.frame _, fun h => by cases h⟩

theorem over : Rows.numTellsRow.holds Tryd.pinned (OpenSpec.ofChange Rows.numTellsSpec) :=
  OpenClaim.holds_of_wide 3 Tryd.f3 rfl rfl rfl rfl rfl rfl rfl ⟨rfl, rfl, rfl, rfl, rfl⟩ rfl rfl rfl rfl rfl (by kernel_rfl) Tryd.func3 (by kernel_rfl)
    (of_decide_eq_true (by kernel_rfl)) (by unfold Func.isWrapper; first | (rw [if_pos (by decide +kernel)]; kernel_rfl) | (rw [if_neg (by decide +kernel)]; exact ⟨rfl, rfl⟩))
    (fun os started H enc _ => lifted os started H enc)
theorem proved : Rows.NumTellsSaid := over
theorem card : Rows.NumTellsCardSaid :=
  Claim7.holds_tied_plain_at .later [] [.data] true (true, "ef4731e8758b72c95a1009ab6e197010340e39f0db6c2a8f4ddd2abf37603893") false
    proved (fun _ h => by cases h) (by kernel_rfl) (fun _ h => by cases h) numTells_row_tie rfl ⟨rfl, rfl⟩ (by kernel_rfl) rfl
    (fun f fn hf hfn => by
      obtain rfl : f = 3 := Option.some.inj ((show Tryd.prog.funcNamed "precentor/precentorlaw02.NumTells" = some 3 by kernel_rfl).symm.trans hf) |>.symm
      obtain rfl : fn = Tryd.f3 := (Option.some.inj (Tryd.func3.symm.trans hfn)).symm
      exact ⟨by kernel_rfl, fun j t ht => by
        rw [Tryd.params3] at ht
        have hm : t ∈ [25] := by simpa using Array.mem_of_getElem? ht
        have hall : ([25].all fun u => !Tryd.prog.wantsStandIn u) = true := by kernel_rfl
        exact (show Tryd.prog.wantsStandIn t = false by simpa using List.all_eq_true.1 hall t hm)⟩)
    (by kernel_rfl)
end Go.Proofs.YtdoalpophokjpaaDoor.numTells
namespace Go.Proofs.YtdoalpophokjpaaDoor
theorem numTells_holds : Rows.NumTellsCardSaid := numTells.card
#print axioms numTells_holds
end Go.Proofs.YtdoalpophokjpaaDoor
