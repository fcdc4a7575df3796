/- What keep's Push comes to, in one; of tokens. -/
import Derived.Test.YtgnaecifinlnmaaKeep7b
import Derived.Test.YtgnaecifinlnmaaKeepToks
set_option maxRecDepth 100000
namespace Go.Proofs.Ytgnaecifinlnmaa
open Go.RowKit
set_option linter.unusedVariables false

theorem push_any (v u : Value) (k : Keep.Kp) (x : Item.It) (buf spare : Int) (w : World) (h : IsKeep w v k) (hx : IsItem w u x) (hS : SmallL k.l) (hL : x.l.length ≤ 65536) (hB : x.b.length ≤ 65536) (h1 : 1 ≤ k.next) :
    Calls Try.prog 18 #[v, u, .int .i64 buf, .int .i64 spare] w (PushIs w (Keep.push k x buf spare)) := by
  cases hm : Item.may (Keep.wq x (Keep.qOf k)) with
  | false =>
    have e : Keep.push k x buf spare = ⟨k, Item.It.zero, 1⟩ := by unfold Keep.push; rw [if_pos hm]
    rw [e]
    by_cases hf : 4611686018427387904 < k.next
    · have q : Keep.qOf k = 1 := by unfold Keep.qOf; rw [if_pos hf]
      rw [q] at hm
      exact push_arg_far v u k x buf spare w h hx hS hL hB hf hm
    · have q : Keep.qOf k = k.next := by unfold Keep.qOf; rw [if_neg hf]
      rw [q] at hm
      exact push_arg_near v u k x buf spare w h hx hS hL hB hf hm
  | true =>
    have hrr := Keep.room_range k buf spare
    by_cases hr : Keep.room k buf spare < 1
    · have e : Keep.push k x buf spare = ⟨k, Item.It.zero, 4⟩ := by unfold Keep.push; rw [if_neg (by simp [hm]), if_pos hr]
      rw [e]
      by_cases hf : 4611686018427387904 < k.next
      · have q : Keep.qOf k = 1 := by unfold Keep.qOf; rw [if_pos hf]
        rw [q] at hm
        exact push_full_far v u k x buf spare w h hx hS hL hB hf hm (by omega)
      · have q : Keep.qOf k = k.next := by unfold Keep.qOf; rw [if_neg hf]
        rw [q] at hm
        exact push_full_near v u k x buf spare w h hx hS hL hB hf hm (by omega)
    · have hr' : 1 ≤ Keep.room k buf spare := by omega
      rw [Keep.push_ok hm hr']
      rw [Keep.qOf_room hr'] at hm
      have := (Keep.room_some hr').1
      exact push_done v u k x buf spare w h hx hS hL hB (by omega) hm hr' h1
theorem IsItem.tok (w : World) : IsItem w (.agg #[.int .i64 3, .int .i64 0, .int .i64 0, .int .i64 0, .int .i64 0, .int .i64 0, .slice none 0 0, .slice none 0 0]) (Keep.tok 0) := ⟨none, 0, 0, none, 0, 0, rfl, RdV.nil_ w, Rd.nil_ w⟩
theorem IsKeep.new (w : World) : IsKeep w (.agg #[.int .i64 1, .slice none 0 0]) Keep.new := ⟨none, 0, 0, rfl, RdX.nil_ w⟩
theorem small_toks {l n : Int} (h : n - l ≤ 64) : SmallL (Keep.toks l n) := by
  refine ⟨by rw [Keep.toks_length]; omega, fun x hx => ?_⟩
  simp only [Keep.toks, List.mem_map] at hx
  obtain ⟨i, _, rfl⟩ := hx
  exact ⟨by simp [Keep.tok], by simp [Keep.tok]⟩
theorem nkeep_alloc {w w' : World} (h : Below w.heap.size w w') (o : Obj) : Below w.heap.size w (w'.alloc o) := h.alloc h.size o
end Go.Proofs.Ytgnaecifinlnmaa
