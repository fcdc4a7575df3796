/- What bytes.Clone comes to, for every slice of at most 65536 bytes. -/
import Derived.Test.YtmlmkkfieeaejaaMem
import Derived.Test.YtmlmkkfieeaejaaCom
import Derived.WalkKit
import Derived.WalkLawsBesides
import Derived.Lib.SliceRun
import Derived.WalkMore
set_option maxRecDepth 100000
namespace Go.Proofs.Ytmlmkkfieeaejaa
open Go.RowKit

theorem clone_any (A : Option Addr) (n c : Nat) (l : List UInt8) (w : World) (h : Rd w A n c l) (hn : n ≤ 65536) :
    Calls Try.prog 62 #[.slice A n c] w (Gives w 5 l) := by
  have hq := fun w => Lib.run_eql_slice_nil (P := Try.prog) w 23 5 A n c 0 0 Try.underlying23
  cases A with
  | none =>
    obtain ⟨rfl, rfl, rfl⟩ := h.nilA
    go_enter Try.func62, Try.ntmps62
    go_wp2
    go_ret
    exact ⟨none, 0, rfl, World.ownsRow_nil _ _ _ _, Below.refl _ _⟩
  | some ad =>
    go_enter Try.func62, Try.ntmps62
    go_wp2_with (
      at_builtin
      refine wpList_app rfl (.tmp 5) (.tmp 6) 23 rfl w.heap.size 5 info5 Try.underlying23 (.slice (some ⟨w.heap.size, 0, none⟩) 0 0) 0 [] rfl ?own (some ad) n c l rfl ?rd ?h63 ?hb ?_
      case own => exact World.ownsRow_made (base := w.heap.size) (e := 5) (size := 1) w #[] 0 (Nat.le_refl _) (Nat.zero_le _) rfl
      case rd => exact h.alloc _
      case h63 => omega
      case hb => simp
      intro v1 w1 hown hb)
    go_ret
    exact Own.gives hown (((Below.refl _ _).alloc (Nat.le_refl _) _).trans hb)

end Go.Proofs.Ytmlmkkfieeaejaa
