/- What slices.Clone of numbers and of items, and keep's within, come to; an item with lists of its own. -/
import Derived.Test.YtgnaecifinlnmaaKeepMem
import Derived.Test.YtgnaecifinlnmaaStruct
import Derived.Deep.RegionHeldLaw
set_option maxRecDepth 100000
namespace Go.Proofs.Ytgnaecifinlnmaa
open Go.RowKit
set_option linter.unusedVariables false

theorem info3 : (Try.prog.info? 3).map (fun i => (i.zero, i.size, i.bytes)) = some (some (.int .i64 0), 1, 8) := by kernel_rfl

theorem cloneI_any (A : Option Addr) (n c : Nat) (l : List Int) (w : World) (h : RdI w A n c l) (hn : n ≤ 65536) :
    Calls Try.prog 45 #[.slice A n c] w (fun e w' => ∃ B d, e = .returned (.slice B n d) ∧ OwnV w' w.heap.size 3 (.slice B n d) n (is l) ∧ Below w.heap.size w w') := by
  have hq := fun w => Lib.run_eql_slice_nil (P := Try.prog) w 25 3 A n c 0 0 Try.underlying25
  cases A with
  | none =>
    obtain ⟨rfl, rfl, hl⟩ := h.nilA
    go_enter Try.func45, Try.ntmps45
    go_wp2
    go_ret
    rw [hl]
    exact ⟨none, 0, rfl, World.ownsRow_nil _ _ _ _, Below.refl _ _⟩
  | some ad =>
    go_enter Try.func45, Try.ntmps45
    go_wp2_with (
      at_builtin
      refine wpList_appV rfl (.tmp 5) (.tmp 6) 25 rfl w.heap.size 3 (.int .i64 0) 8 info3 rfl (by omega) Try.underlying25 (.slice (some ⟨w.heap.size, 0, none⟩) 0 0) 0 [] rfl ?own (some ad) n c (is l) rfl ?rd (is_one _) ?h63 ?hb ?_
      case own => exact World.ownsRow_made (base := w.heap.size) (e := 3) (size := 1) w #[] 0 (Nat.le_refl _) (Nat.zero_le _) rfl
      case rd => exact h.alloc _
      case h63 => omega
      case hb => simp
      intro v1 w1 hown hb hg)
    go_ret
    rw [Nat.zero_add, List.nil_append] at hown
    obtain ⟨B, d, rfl, _⟩ := OwnV.rd hown
    exact ⟨B, d, rfl, hown, ((Below.refl _ _).alloc (Nat.le_refl _) _).trans hb⟩

theorem cloneX_any (A : Option Addr) (n c : Nat) (rs : List (Array Value)) (w : World) (h : RdK 8 w A n c rs) (hn : n ≤ 65536) :
    Calls Try.prog 44 #[.slice A n c] w (fun e w' => ∃ B d, e = .returned (.slice B n d) ∧ OwnK 8 w' w.heap.size 28 (.slice B n d) n rs ∧ Below w.heap.size w w') := by
  have hq := fun w => Lib.run_eql_slice_nil (P := Try.prog) w 22 28 A n c 0 0 Try.underlying22
  cases A with
  | none =>
    obtain ⟨rfl, rfl, rfl⟩ := h.nilA
    go_enter Try.func44, Try.ntmps44
    go_wp2
    go_ret
    exact ⟨none, 0, rfl, OwnK.nil_ _ _ _ _, Below.refl _ _⟩
  | some ad =>
    go_enter Try.func44, Try.ntmps44
    go_wp2_with (
      at_builtin
      refine wpList_appK 8 (by omega) rfl (.tmp 5) (.tmp 6) 22 rfl w.heap.size 28 _ 96 info8 rfl (by omega) Try.underlying22 (.slice (some ⟨w.heap.size, 0, none⟩) 0 0) 0 [] rfl ?own (some ad) n c rs rfl ?rd ?h63 ?hb ?_
      case own => exact OwnK.made 8 w w.heap.size (Nat.le_refl _) 28 w.heap.size rfl
      case rd => exact h.alloc _
      case h63 => omega
      case hb => simp
      intro v1 w1 hown hb hg)
    go_ret
    rw [Nat.zero_add, List.nil_append] at hown
    obtain ⟨B, d, rfl, _⟩ := OwnK.rd hown
    exact ⟨B, d, rfl, hown, ((Below.refl _ _).alloc (Nat.le_refl _) _).trans hb⟩

theorem kwithin_any (n a b : Int) (w : World) : Calls Try.prog 28 #[.int .i64 n, .int .i64 a, .int .i64 b] w (fun e w' => e = .returned (.bool (decide (a ≤ n) && decide (n ≤ b))) ∧ w' = w) := by
  by_cases h1 : a ≤ n
  · by_cases h2 : n ≤ b
    · have q1 : decide (a ≤ n) = true := by simpa using h1
      have q2 : decide (n ≤ b) = true := by simpa using h2
      go_enter Try.func28, Try.ntmps28
      go_wp2
      go_ret
      first | exact ⟨rfl, rfl⟩ | exact ⟨by rw [q1, q2]; rfl, rfl⟩
    · have q1 : decide (a ≤ n) = true := by simpa using h1
      have q2 : decide (n ≤ b) = false := by simpa using h2
      go_enter Try.func28, Try.ntmps28
      go_wp2
      go_ret
      first | exact ⟨rfl, rfl⟩ | exact ⟨by rw [q1, q2]; rfl, rfl⟩
  · have q1 : decide (a ≤ n) = false := by simpa using h1
    go_enter Try.func28, Try.ntmps28
    go_wp2
    go_ret
    first | exact ⟨rfl, rfl⟩ | exact ⟨by rw [q1]; rfl, rfl⟩
end Go.Proofs.Ytgnaecifinlnmaa
