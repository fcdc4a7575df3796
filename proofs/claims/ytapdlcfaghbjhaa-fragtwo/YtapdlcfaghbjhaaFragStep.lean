/- Pieces that are added one by one. -/
import Derived.Test.YtapdlcfaghbjhaaFragShown
import Derived.Deep.RegionHeldLaw
set_option maxRecDepth 100000
namespace Go.Proofs.Ytapdlcfaghbjhaa
open Go.RowKit
set_option linter.unusedVariables false

/-- The bytes of the first j rows. -/
def catB (rs : List Bw) (j : Nat) : List UInt8 := ((rs.take j).map Bw.b).flatten
theorem catB_zero (rs : List Bw) : catB rs 0 = [] := rfl
theorem catB_succ {rs : List Bw} {j : Nat} {r : Bw} (h : rs[j]? = some r) : catB rs (j + 1) = catB rs j ++ r.b := by
  unfold catB
  rw [List.take_add_one, h]
  simp
/-- What is under way behind j pieces of K. -/
def partAt (seq : Int) (K : Nat) (rs : List Bw) (j : Nat) : Pt := if j = 0 then none_ else ⟨seq, K, j, catB rs j⟩
theorem partAt_b (seq : Int) (K : Nat) (rs : List Bw) (j : Nat) : (partAt seq K rs j).b = catB rs j := by
  unfold partAt
  split
  · rename_i h; subst h; rfl
  · rfl
theorem partAt_got (seq : Int) (K : Nat) (rs : List Bw) (j : Nat) : (partAt seq K rs j).got = j := by
  unfold partAt
  split
  · rename_i h; subst h; rfl
  · rfl
theorem partAt_next (seq : Int) (K : Nat) (rs : List Bw) (j : Nat) : partAt seq K rs (j + 1) = ⟨seq, K, ((j + 1 : Nat) : Int), catB rs (j + 1)⟩ := by
  unfold partAt
  rw [if_neg (by omega)]
theorem add_step {seq : Int} {K j : Nat} {rs : List Bw} {r : Bw} (hs : I64 seq) (hK : K ≤ 32) (hj : j < K) (hr : rs[j]? = some r) :
    addOf (partAt seq K rs j) (IntKind.i64.wrap (seq + (j : Int))) (j : Int) (K : Int) r.b = if j + 1 = K then ⟨none_, catB rs (j + 1), true, 0⟩ else ⟨partAt seq K rs (j + 1), [], false, 0⟩ := by
  have hf : fits (partAt seq K rs j) (j : Int) (K : Int) = true := by
    simp only [fits, Bool.and_eq_true, decide_eq_true_eq, Bool.or_eq_true]
    refine ⟨⟨⟨by omega, by omega⟩, by rw [partAt_got]⟩, ?_⟩
    unfold partAt
    split
    · exact .inl rfl
    · exact .inr rfl
  have hn : nextP (partAt seq K rs j) (IntKind.i64.wrap (seq + (j : Int))) (K : Int) r.b = ⟨seq, K, ((j + 1 : Nat) : Int), catB rs (j + 1)⟩ := by
    unfold nextP
    rw [partAt_got, partAt_b, catB_succ hr]
    by_cases h0 : j = 0
    · subst h0
      rw [if_pos (by omega), catB_zero, List.nil_append]
      have e : IntKind.i64.wrap (seq + ((0 : Nat) : Int)) = seq := by
        have := hs.1
        have := hs.2
        rw [show seq + ((0 : Nat) : Int) = seq from by omega]
        exact IntWalk.i64_in _ ⟨hs.1, hs.2⟩
      rw [e]
      rfl
    · rw [if_neg (by omega)]
      have e : partAt seq K rs j = ⟨seq, K, j, catB rs j⟩ := by unfold partAt; rw [if_neg h0]
      have e2 : IntKind.i64.wrap ((j : Int) + 1) = ((j + 1 : Nat) : Int) := by
        rw [show ((j + 1 : Nat) : Int) = (j : Int) + 1 from by omega]
        exact IntWalk.i64_in _ (by omega)
      rw [e, e2]
  unfold addOf
  rw [if_pos hf, hn]
  dsimp only
  by_cases h1 : j + 1 = K
  · rw [if_pos h1, if_pos (by omega)]
  · rw [if_neg h1, if_neg (by omega), partAt_next]
theorem Own.appV {w : World} {base n : Nat} {e : TypeId} {v : Value} {xs l : List UInt8} (h : OwnV w base e v n (bs xs ++ bs l)) : Own w base e v n (xs ++ l) := by
  unfold Own
  rw [bs_append]
  exact h
/-- Bytes in new memory are not those of an elder row of the call's own. -/
theorem Rd.apart {w0 w w' : World} {A : Option Addr} {n c base k : Nat} {e : TypeId} {v : Value} {l xs : List UInt8} (h : Rd w A n c l) (hA : ∀ b o, A = some ⟨b, o, none⟩ → w0.heap.size ≤ b) (ho : Own w0 base e v k xs) (hg : w.grownBy w' v.ownBlock) : Rd w' A n c l := by
  obtain ⟨h1, h2, h3, h4, h5⟩ := h
  refine ⟨h1, h2, h3, h4, fun h0 => ?_⟩
  obtain ⟨b, o, hAe, hc⟩ := h5 h0
  refine ⟨b, o, hAe, fun i x hx => ?_⟩
  have hne : some b ≠ v.ownBlock := by
    intro hb
    have h6 := (World.ownsRow.lt ho b hb.symm).2
    have h7 := hA b o hAe
    omega
  have hcell := hc i x hx
  have hlt : b < w.heap.size := World.block_lt_of_cell? w ⟨b, o + i, none⟩ hcell
  exact (cell_congr (p := ⟨b, o + i, none⟩) (hg.block b hlt hne)).trans hcell
theorem block_apart {w0 w w' : World} {g base k : Nat} {e : TypeId} {v : Value} {xs : List UInt8} {ob : Obj} (h : w.heap[g]? = some ob) (hg0 : w0.heap.size ≤ g ∨ g < base) (ho : Own w0 base e v k xs) (hg : w.grownBy w' v.ownBlock) : w'.heap[g]? = some ob := by
  refine (hg.block g (blk_lt h) ?_).trans h
  intro hb
  have h6 := World.ownsRow.lt ho g hb.symm
  omega
end Go.Proofs.Ytapdlcfaghbjhaa
