/- The law NumSplit: for every input the call returns true, and each argument reads behind it as it did. No condition is laid on the input. The package variables that the card lists start as the program's text lays them (tied). -/
import Derived.Test.YtdoalpophokjpaaDoorRows
import Derived.Test.YtdoalpophokjpaaDoorOpen
import Derived.Test.YtdoalpophokjpaaDoorNumL5
import Derived.Test.YtdoalpophokjpaaDoorNumDoor
import Derived.Test.YtdoalpophokjpaaDoorTie
import Derived.Test.YtdoalpophokjpaaDoorCards
import Derived.WalkKit
import Derived.ProofKit
import Derived.OpenShut
import Derived.ShutString
import Derived.ChangeOld
import Derived.Below
import Derived.LaidMore
import Derived.Stop.Joined
import Derived.SevenTiedAt
namespace Go.Proofs.YtdoalpophokjpaaDoor.numSplit
open Go.ChangeShapes Go.WideShapes Go.ChangeAt Go.RowKit
set_option linter.unusedVariables false

theorem own : ownKnob Tryd.prog.godebug = none := by kernel_rfl
theorem laidOut : laidOutB Tryd.prog = true := by kernel_rfl
/-- What the row lists. -/
abbrev listed : List (String × DataW Unit) := [("precentor/num.widths", Rows.laid_precentor_num_widths)]
theorem door_met (os : Os) (args : Array Value) : laidMetH Tryd.prog listed ((World.doorLaid Tryd.prog 17 os).forCall (fun _ _ => 0) ⟨#[], args, []⟩).memory :=
  laidMetH_of_parts3 (fuel := 8) (laidMet_of_run' 8 (by kernel_rfl) (by kernel_rfl)) (by kernel_rfl) (by kernel_rfl)

theorem walk (W : World) (base : Nat) (v0 : Value) (o0 : Value.okWide Tryd.prog W .any base 47 v0) (h0 : Tr Tryd.prog W 47 v0.cells.toList) (hL : laidMetH Tryd.prog listed W) :
    Calls Tryd.prog 7 #[v0] W fun e w' => e = .returned (.bool true) ∧ Below W.heap.size W w' := by
  obtain ⟨cs, rfl, hsz⟩ := okWide_struct Tryd.underlying47 o0
  rw [show Tryd.prog.cellsOf 47 = 4 from by kernel_rfl] at hsz
  obtain ⟨l⟩ := cs
  obtain ⟨c0, c1, c2, c3, rfl⟩ := list4 l hsz
  obtain ⟨_, hall⟩ := h0.struct Tryd.underlying47
  have f0 : Tr Tryd.prog W 22 (([c0, c1, c2, c3].drop 0).take (Tryd.prog.cellsOf 22)) := hall 0 _ rfl
  have f1 : Tr Tryd.prog W 5 (([c0, c1, c2, c3].drop 1).take (Tryd.prog.cellsOf 5)) := hall 1 _ rfl
  have f2 : Tr Tryd.prog W 5 (([c0, c1, c2, c3].drop 2).take (Tryd.prog.cellsOf 5)) := hall 2 _ rfl
  have f3 : Tr Tryd.prog W 5 (([c0, c1, c2, c3].drop 3).take (Tryd.prog.cellsOf 5)) := hall 3 _ rfl
  rw [show Tryd.prog.cellsOf 22 = 1 from by kernel_rfl] at f0
  rw [show Tryd.prog.cellsOf 5 = 1 from by kernel_rfl] at f1 f2 f3
  obtain ⟨A, n, c, b, e0, hr⟩ := f0.bytes Tryd.underlying22 Tryd.underlying5 (by kernel_rfl)
  obtain ⟨k1, e1, w1⟩ := f1.int Tryd.underlying5
  obtain ⟨k2, e2, w2⟩ := f2.int Tryd.underlying5
  obtain ⟨k3, e3, w3⟩ := f3.int Tryd.underlying5
  simp at e0 e1 e2 e3
  subst e0; subst e1; subst e2; subst e3
  have b1 := wf_u8 w1
  have b2 := wf_u8 w2
  have b3 := wf_u8 w3
  exact split_any A n c k1 k2 k3 b W (wd_of_laid hL) hr b1.1 b1.2 b2.1 b2.2 b3.1 b3.2

set_option maxRecDepth 100000 in
theorem lifted (os : Os) (started : os.Started) (H : Type) (enc : TypeId × Value → H) :
    ReturnsInHanded {} Tryd.checked os 7 .any (fun w args => (Rows.numSplitSpec.pre enc Tryd.prog Tryd.f7 [] false w args ∧ laidMetH Tryd.prog listed w) ∧ sizedMet enc Tryd.prog Tryd.f7 (OpenSpec.ofChange Rows.numSplitSpec) false w args)
      (Rows.numSplitSpec.post enc Tryd.prog Tryd.f7 false true false false) := by
  refine returnsInHanded_of_change_and (C := Tryd.checked) (X := fun w _ => laidMetH Tryd.prog listed w) (fun _ _ _ hh h => h.of_heap hh) own started (by kernel_rfl) Tryd.func7
    (ChangeSpec.witness_shaped (enc := enc) (C := Tryd.checked) (os := os) (X := fun w _ => laidMetH Tryd.prog listed w) false (World.doorLaid Tryd.prog 17 os) #[.agg #[.slice none 0 0, .int .u8 0, .int .u8 0, .int .u8 0]] 8 rfl (World.shaped_of_RefB (by kernel_rfl) (by kernel_rfl)) (by kernel_rfl) (by kernel_rfl) (by kernel_rfl) (door_met os _)) ?_
  intro W base args ds gs before hval0 hW _ _ hL _
  have hval : ∀ (j : Nat) t v, Tryd.f7.params[j]? = some t → args[j]? = some v → Value.okWide Tryd.prog W .any base t v := hval0
  have hW' := hW
  obtain ⟨p, q, hA0, hV, rfl, hfz, hnd⟩ := hW
  have hA : DataW.TrodAll enc Tryd.prog W 0 (fun _ => true) true Tryd.f7.params.toList args.toList ds p := hA0
  rw [Tryd.params7] at hA hval
  obtain ⟨v0, vs0, d0, ds0, p0, q0, hargs, rfl, rfl, h0, r0⟩ := trodAll_cons hA
  obtain ⟨rfl, rfl, rfl⟩ := trodAll_nil r0
  obtain rfl : args = #[v0] := by cases args; simp_all
  obtain ⟨rfl, rfl⟩ := trodVars_none hV
  have lt0 : ∀ x ∈ p0, x.block < W.heap.size := by obtain ⟨m, hm⟩ := h0; exact DataW.trod_lt m _ _ _ hm
  clear hA0
  refine (walk W base v0 (hval 0 47 v0 rfl rfl) (Tr.of h0) hL).mono fun e W' ⟨he, bel⟩ => ?_
  subst he
  exact ⟨_, rfl, _, _, _, [], _, [], hW', trodAll_mk1 (shut_bool Tryd.underlying4 _), (trodAll_cons_mk (Below.trod laidOut (by kernel_rfl) (of_decide_eq_true (by kernel_rfl)) h0 bel lt0) trodAll_mk0), rfl, bel.frame _, fun h => by cases h⟩

theorem over : Rows.numSplitRow.holds Tryd.pinned (OpenSpec.ofChange Rows.numSplitSpec) :=
  OpenClaim.holds_of_wide 7 Tryd.f7 rfl rfl rfl rfl rfl rfl rfl ⟨rfl, rfl, rfl, rfl, rfl⟩ rfl rfl rfl rfl rfl (by kernel_rfl) Tryd.func7 (by kernel_rfl)
    (of_decide_eq_true (by kernel_rfl)) (by unfold Func.isWrapper; first | (rw [if_pos (by decide +kernel)]; kernel_rfl) | (rw [if_neg (by decide +kernel)]; exact ⟨rfl, rfl⟩))
    (fun os started H enc _ => lifted os started H enc)
theorem proved : Rows.NumSplitSaid := over
theorem card : Rows.NumSplitCardSaid :=
  Claim7.holds_tied_plain_at .later [] [.data] true (true, "ef4731e8758b72c95a1009ab6e197010340e39f0db6c2a8f4ddd2abf37603893") false
    proved (fun _ h => by cases h) (by kernel_rfl) (fun _ h => by cases h) numSplit_row_tie rfl ⟨rfl, rfl⟩ (by kernel_rfl) rfl
    (fun f fn hf hfn => by
      obtain rfl : f = 7 := Option.some.inj ((show Tryd.prog.funcNamed "precentor/precentorlaw02.NumSplit" = some 7 by kernel_rfl).symm.trans hf) |>.symm
      obtain rfl : fn = Tryd.f7 := (Option.some.inj (Tryd.func7.symm.trans hfn)).symm
      exact ⟨by kernel_rfl, fun j t ht => by
        rw [Tryd.params7] at ht
        have hm : t ∈ [47] := by simpa using Array.mem_of_getElem? ht
        have hall : ([47].all fun u => !Tryd.prog.wantsStandIn u) = true := by kernel_rfl
        exact (show Tryd.prog.wantsStandIn t = false by simpa using List.all_eq_true.1 hall t hm)⟩)
    (by kernel_rfl)
end Go.Proofs.YtdoalpophokjpaaDoor.numSplit
namespace Go.Proofs.YtdoalpophokjpaaDoor
theorem numSplit_holds : Rows.NumSplitCardSaid := numSplit.card
#print axioms numSplit_holds
end Go.Proofs.YtdoalpophokjpaaDoor
