/- Streams of tokens, from one number to another. No program is named here. -/
import Derived.Test.YtkkkfaelpmmffaaKeepMath
set_option maxRecDepth 100000
namespace Go.Proofs.Ytkkkfaelpmmffaa.Keep
open Go.Proofs.Ytkkkfaelpmmffaa.Item (It may far)
set_option linter.unusedVariables false

def tok (q : Int) : It := ⟨3, q, 0, 0, 0, 0, [], []⟩
def toks (low next : Int) : List It := (List.range (next - low).toNat).map fun i : Nat => tok (low + (i : Int))
theorem toks_length (low next : Int) : (toks low next).length = (next - low).toNat := by simp [toks]
theorem toks_none (low : Int) : toks low low = [] := by simp [toks]
theorem toks_get {low next : Int} {i : Nat} (h : i < (next - low).toNat) : (toks low next)[i]? = some (tok (low + i)) := by
  simp only [toks, List.getElem?_map, List.getElem?_range h, Option.map_some]
theorem toks_snoc {low next : Int} (h : low ≤ next) : toks low next ++ [tok next] = toks low (next + 1) := by
  unfold toks
  rw [show (next + 1 - low).toNat = (next - low).toNat + 1 from by omega, List.range_succ, List.map_append]
  congr 1
  simp only [List.map_cons, List.map_nil]
  rw [show low + ((next - low).toNat : Int) = next from by omega]
theorem toks_numb (low next : Int) : numb low (toks low next) = true := by
  refine numb_of fun i x hx => ?_
  have hi : i < (next - low).toNat := by
    rcases Nat.lt_or_ge i (next - low).toNat with h | h
    · exact h
    · rw [List.getElem?_eq_none (by rw [toks_length]; exact h)] at hx; cases hx
  rw [toks_get hi] at hx
  injection hx with hx
  rw [← hx]
  rfl
theorem may_tok {q : Int} (h1 : 1 ≤ q) (h2 : q ≤ 4611686018427387904) : may (tok q) = true := by
  unfold may tok Item.ask Item.askN Item.win Item.list Item.body Item.allIn
  simp [Item.win, h1, h2]
theorem wq_tok (x q : Int) : wq (tok x) q = tok q := rfl
theorem toks_right {low next : Int} (h1 : 1 ≤ low) (h2 : low ≤ next) (h3 : next - low ≤ 64) (h4 : next ≤ 4611686018427387905) : right ⟨next, toks low next⟩ = true := by
  have hl := toks_length low next
  refine right_iff.2 ⟨⟨by show (toks low next).length ≤ 64; omega, by show 1 ≤ next; omega, h4⟩, fun x hx => ?_, ?_⟩
  · obtain ⟨i, hi⟩ := List.getElem?_of_mem hx
    have hlt : i < (next - low).toNat := by
      rcases Nat.lt_or_ge i (next - low).toNat with h | h
      · exact h
      · rw [List.getElem?_eq_none (by rw [toks_length]; exact h)] at hi; cases hi
    rw [toks_get hlt] at hi
    injection hi with hi
    rw [← hi]
    exact may_tok (by omega) (by omega)
  · show numb (next - ((toks low next).length : Int)) (toks low next) = true
    rw [show next - ((toks low next).length : Int) = low from by omega]
    exact toks_numb low next
theorem toks_drop {low next : Int} (h : low ≤ next) (m : Nat) : (toks low next).drop m = toks (if low + m ≤ next then low + m else next) next := by
  split
  · rename_i hm
    apply List.ext_getElem
    · rw [List.length_drop, toks_length, toks_length]; omega
    · intro i h1 h2
      rw [toks_length] at h2
      have e1 := toks_get (low := low) (next := next) (i := m + i) (by omega)
      have e2 := toks_get (low := low + m) (next := next) (i := i) h2
      have g1 : ((toks low next).drop m)[i]? = some (tok (low + ((m + i : Nat) : Int))) := by rw [List.getElem?_drop]; exact e1
      rw [List.getElem?_eq_getElem h1] at g1
      rw [List.getElem?_eq_getElem (by rw [toks_length]; exact h2)] at e2
      injection g1 with g1
      injection e2 with e2
      rw [g1, e2]
      congr 1
      push_cast
      omega
  · rw [List.drop_of_length_le (by rw [toks_length]; omega), toks_none]
/-- Freed: the first one that is left. -/
def lowOf (low next u : Int) : Int := if u < low then low else if u + 1 > next then next else u + 1
theorem toks_freed {low next : Int} (h : low ≤ next) (u : Int) : freed (toks low next) u = toks (lowOf low next u) next := by
  rw [freed_drop (toks_numb low next), toks_drop h]
  congr 1
  unfold lowOf
  split <;> split <;> (try split) <;> omega
theorem room_toks {low next n s : Int} (h1 : low ≤ next) (hn : 0 ≤ n ∧ n ≤ 64) (hs : 0 ≤ s ∧ s ≤ 64) (hf : next ≤ 4611686018427387904) :
    room ⟨next, toks low next⟩ n s = if n - s - (next - low) < 0 then 0 else n - s - (next - low) := by
  have hl : ((toks low next).length : Int) = next - low := by rw [toks_length]; omega
  unfold room
  simp only [hl]
  split <;> split <;> omega
theorem push_toks {low next n s : Int} (h0 : 1 ≤ low) (h1 : low ≤ next) (hf : next ≤ 4611686018427387904) (x : Int) :
    push ⟨next, toks low next⟩ (tok x) n s = if room ⟨next, toks low next⟩ n s < 1 then ⟨⟨next, toks low next⟩, Item.It.zero, 4⟩ else ⟨⟨next + 1, toks low (next + 1)⟩, tok next, 0⟩ := by
  have hq : qOf ⟨next, toks low next⟩ = next := by
    show (if next > 4611686018427387904 then 1 else next) = next
    rw [if_neg (by omega)]
  unfold push
  rw [hq, wq_tok, if_neg (by rw [may_tok (by omega) hf]; simp)]
  split
  · rfl
  · show (⟨⟨next + 1, toks low next ++ [wq (tok x) next]⟩, wq (tok x) next, 0⟩ : Pushed) = _
    rw [wq_tok, toks_snoc h1]
end Go.Proofs.Ytkkkfaelpmmffaa.Keep
