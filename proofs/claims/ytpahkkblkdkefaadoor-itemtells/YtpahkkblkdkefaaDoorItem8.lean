/- What slices.Grow comes to of nothing, and slices.Concat of three slices of bytes. -/
import Derived.Test.YtpahkkblkdkefaaDoorNum3
import Derived.Lib.AppendZeros
import Derived.Lib.SliceRun
import Derived.WalkMore
import Derived.LoopN
namespace Go.Proofs.YtpahkkblkdkefaaDoor
open Go.RowKit
set_option linter.unusedVariables false

/-- A row of the call's own with room, of no element yet. -/
def Room (w : World) (e : Ending) (w' : World) : Prop := ∃ A c, e = .returned (.slice A 0 c) ∧ Own w' w.heap.size 5 (.slice A 0 c) 0 [] ∧ Below w.heap.size w w'

theorem keepC' {w w' : World} {p : Addr} {u : Value} (hb : Below w.heap.size w w') (h : w.cell? p = some u) : w'.cell? p = some u := (hb.cell (World.block_lt_of_cell? _ _ h)).trans h

theorem grow_nil (n : Nat) (w : World) (hn : n ≤ 1048576) :
    Calls Tryd.prog 51 #[.slice none 0 0, .int .i64 (n : Int)] w (Room w) := by
  by_cases h0 : n = 0
  · subst h0
    go_enter Tryd.func51, Tryd.ntmps51
    go_wp2
    go_ret
    exact ⟨none, 0, rfl, World.ownsRow_nil _ _ _ _, Below.refl _ _⟩
  · obtain ⟨i0, hi0, hz0, hz1, hz2⟩ := info_parts info5
    have hrun := Lib.run_append_nil_zeros (P := Tryd.prog) w 23 3 0 5 i0 (.int .u8 0) .i64 .i64 Tryd.underlying23 Tryd.underlying3 hi0 hz0 n (by omega) (by omega) (by omega) (by rw [hz2]; omega)
    have hge := grownCap_ge w n 0 5
    have hle := grownCap_le_maxLen w n 0 5 (by simp only [maxLen]; omega)
    generalize grownCap w n 0 5 = cap at hrun hge hle
    have hown : Own (w.drew.alloc (.cells (Builtin.zeroCells (Value.int .u8 0).cells n ++ Builtin.zeroCells (Value.int .u8 0).cells (cap - n)) 5)) w.heap.size 5 (.slice (some ⟨w.heap.size, 0, none⟩) 0 cap) 0 [] := by
      refine ⟨rfl, .inr ⟨w.heap.size, cap, _, rfl, Nat.le_refl _, heap_alloc_new w.drew _, Nat.zero_le _, hle, ?_, by simp [bs]⟩⟩
      rw [Array.size_append, size_zeroCells, size_zeroCells]
      show n * 1 + (cap - n) * 1 = cap * 1
      omega
    have hb : Below w.heap.size w (w.drew.alloc (.cells (Builtin.zeroCells (Value.int .u8 0).cells n ++ Builtin.zeroCells (Value.int .u8 0).cells (cap - n)) 5)) := (Below.refl _ _).drew.alloc (Nat.le_refl _) _
    generalize w.drew.alloc (.cells (Builtin.zeroCells (Value.int .u8 0).cells n ++ Builtin.zeroCells (Value.int .u8 0).cells (cap - n)) 5) = w1 at hrun hown hb
    go_enter Tryd.func51, Tryd.ntmps51
    go_wp2_with (
      at_builtin
      refine Lib.wpList_append_run _ rfl (.tmp 20) (.tmp 21) 23 3 rfl _ _ rfl rfl _ _ hrun ?_)
    go_ret
    exact ⟨_, _, rfl, hown, hb⟩

set_option maxHeartbeats 2000000 in
theorem concat3 (g : Nat) (A : Option Addr) (n c : Nat) (l : List UInt8) (A' : Option Addr) (n' c' : Nat) (l' : List UInt8) (B : Option Addr) (m d : Nat) (b : List UInt8) (w : World)
    (h0 : w.cell? ⟨g, 0, none⟩ = some (.slice A n c)) (h1 : w.cell? ⟨g, 1, none⟩ = some (.slice A' n' c')) (h2 : w.cell? ⟨g, 2, none⟩ = some (.slice B m d))
    (hr : Rd w A n c l) (hr' : Rd w A' n' c' l') (hb : Rd w B m d b) (hn : n ≤ 65536) (hn' : n' ≤ 65536) (hm : m ≤ 65536) :
    Calls Tryd.prog 29 #[.slice (some ⟨g, 0, none⟩) 3 3] w (Gives w 5 ((l ++ l') ++ b)) := by
  have e1 := hr.1
  have e2 := hr'.1
  have e3 := hb.1
  have hg := grow_nil (n + n' + m) w (by omega)
  have ez : ((n + n' + m : Nat) : Int) = (n : Int) + (n' : Int) + (m : Int) := by omega
  rw [ez] at hg
  have HL : Hid (((l ++ l') ++ b).length = n + n' + m) := by rw [List.length_append, List.length_append, e1, e2, e3]; exact hidT rfl
  clear e1 e2 e3 ez
  go_enter Tryd.func29, Tryd.ntmps29
  go_wp2
  refine wp_loop_rounds 4 ?_
  rw [rounds_succ]
  go_wp2
  rw [rounds_succ]
  go_wp2
  rw [rounds_succ]
  go_wp2
  rw [rounds_succ]
  go_wp2_with fail
  with_reducible refine hg.mono ?_
  rintro e w1 ⟨R, rc, rfl, ho, hb1⟩
  have k0 := keepC' hb1 h0
  have k1 := keepC' hb1 h1
  have k2 := keepC' hb1 h2
  go_wp2
  refine wp_loop_rounds 4 ?_
  rw [rounds_succ]
  go_wp2_with (
    at_builtin
    refine wpList_app rfl (.tmp 31) (.tmp 32) 23 rfl w.heap.size 5 info5 Tryd.underlying23 _ 0 [] rfl ho _ n c l rfl (hr.below hb1) (by omega) hb1.size ?_
    intro v2 w2 ho2 hb2)
  have hbw2 := hb1.trans hb2
  rw [Nat.zero_add, List.nil_append] at ho2
  have k0' := keepC' hbw2 h0
  have k1' := keepC' hbw2 h1
  have k2' := keepC' hbw2 h2
  rw [rounds_succ]
  go_wp2_with (
    at_builtin
    refine wpList_app rfl (.tmp 31) (.tmp 32) 23 rfl w.heap.size 5 info5 Tryd.underlying23 _ n l rfl ho2 _ n' c' l' rfl (hr'.below hbw2) (by omega) hbw2.size ?_
    intro v3 w3 ho3 hb3)
  have hbw3 := hbw2.trans hb3
  have m0 := keepC' hbw3 h0
  have m1 := keepC' hbw3 h1
  have m2 := keepC' hbw3 h2
  rw [rounds_succ]
  go_wp2_with (
    at_builtin
    refine wpList_app rfl (.tmp 31) (.tmp 32) 23 rfl w.heap.size 5 info5 Tryd.underlying23 _ (n + n') (l ++ l') rfl ho3 _ m d b rfl (hb.below hbw3) (by omega) hbw3.size ?_
    intro v4 w4 ho4 hb4)
  have hbw4 := hbw3.trans hb4
  rw [rounds_succ]
  go_wp2
  go_ret
  exact Own.gives ho4 hbw4
end Go.Proofs.YtpahkkblkdkefaaDoor
