/- Tokens and acknowledgements as items; what may be is small. -/
import Derived.Test.YtkkkfaelpmmffaaWin8
import Derived.Test.YtkkkfaelpmmffaaKeepToks
set_option maxRecDepth 100000
namespace Go.Proofs.Ytkkkfaelpmmffaa
open Go.RowKit
set_option linter.unusedVariables false

theorem may_small {x : Item.It} (h : Item.may x = true) : x.l.length ≤ 64 ∧ x.b.length ≤ 1024 := by
  unfold Item.may at h
  rw [Bool.and_eq_true, Bool.and_eq_true] at h
  obtain ⟨_, _, h⟩ := h
  unfold Item.ask at h
  split at h
  · unfold Item.ask1 Item.list Item.body at h
    simp only [Bool.and_eq_true, Item.win_iff, decide_eq_true_eq] at h
    omega
  split at h
  · unfold Item.askN Item.list Item.body at h
    simp only [Bool.and_eq_true, Item.win_iff, decide_eq_true_eq] at h
    omega
  split at h
  · unfold Item.askN Item.list Item.body at h
    simp only [Bool.and_eq_true, Item.win_iff, decide_eq_true_eq] at h
    omega
  split at h
  · unfold Item.askN Item.list Item.body at h
    simp only [Bool.and_eq_true, Item.win_iff, decide_eq_true_eq] at h
    omega
  split at h
  · unfold Item.askN Item.list Item.body at h
    simp only [Bool.and_eq_true, Item.win_iff, decide_eq_true_eq] at h
    omega
  split at h
  · unfold Item.askN Item.list Item.body at h
    simp only [Bool.and_eq_true, Item.win_iff, decide_eq_true_eq] at h
    omega
  · cases h
theorem right_small {k : Keep.Kp} (h : Win.right k = true) : SmallL k.l := by
  obtain ⟨⟨h1, _, _⟩, hm, _⟩ := Win.right_iff.1 h
  exact ⟨by omega, fun x hx => by have := may_small (hm x hx); omega⟩
/-- An acknowledgement. -/
def ack (q c : Int) : Item.It := ⟨5, q, 0, 0, 0, c, [], []⟩
theorem may_ack {q c : Int} (h1 : 1 ≤ q) (h2 : q ≤ 4611686018427387904) (h3 : 0 ≤ c) (h4 : c ≤ 4611686018427387904) : Item.may (ack q c) = true := by
  unfold Item.may ack Item.ask Item.askN Item.win Item.list Item.body Item.allIn
  simp [Item.win]; omega
theorem IsItem.tokq (w : World) (q : Int) : IsItem w (.agg #[.int .i64 3, .int .i64 q, .int .i64 0, .int .i64 0, .int .i64 0, .int .i64 0, .slice none 0 0, .slice none 0 0]) (Keep.tok q) := ⟨none, 0, 0, none, 0, 0, rfl, RdV.nil_ w, Rd.nil_ w⟩
theorem IsItem.ackq (w : World) (q c : Int) : IsItem w (.agg #[.int .i64 5, .int .i64 q, .int .i64 0, .int .i64 0, .int .i64 0, .int .i64 c, .slice none 0 0, .slice none 0 0]) (ack q c) := ⟨none, 0, 0, none, 0, 0, rfl, RdV.nil_ w, Rd.nil_ w⟩
theorem IsKeep.empty (w : World) (n : Int) : IsKeep w (.agg #[.int .i64 n, .slice none 0 0]) ⟨n, []⟩ := ⟨none, 0, 0, rfl, RdX.nil_ w⟩
theorem FrK.empty (w : World) (lo : Nat) (n : Int) : FrK w lo (.agg #[.int .i64 n, .slice none 0 0]) ⟨n, []⟩ := ⟨none, 0, 0, [], rfl, RdK.nil_ 8 w, (fun _ _ h => by cases h), rfl, fun i r x h => by simp at h⟩
/-- Put of what is right: small all of it. -/
theorem wput_right (v u : Value) (k : Keep.Kp) (x : Item.It) (last : Int) (w : World) (h : IsKeep w v k) (hx : IsItem w u x) (hr : Win.right k = true) (hxs : x.l.length ≤ 65536 ∧ x.b.length ≤ 65536) :
    Calls Try.prog 17 #[v, u, .int .i64 last] w (PutIs w (Win.takes k x last) (Win.put k x last)) := wput_any v u k x last w h hx hr (right_small hr) hxs
theorem bstart {W wc w2 : World} (hb : Below wc.heap.size wc w2) (h : Below W.heap.size W wc) : Below W.heap.size W wc ∧ Below W.heap.size W w2 := ⟨h, bthen h hb⟩
end Go.Proofs.Ytkkkfaelpmmffaa
