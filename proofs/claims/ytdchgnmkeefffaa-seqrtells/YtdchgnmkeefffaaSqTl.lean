/- The pieces of SeqrTells. -/
import Derived.Test.YtdchgnmkeefffaaSqW
import Derived.Test.YtdchgnmkeefffaaRSay
import Derived.Test.YtdchgnmkeefffaaRw
import Derived.Test.YtdchgnmkeefffaaRSameI
set_option maxRecDepth 100000
namespace Go.Proofs.Ytdchgnmkeefffaa
open Go.RowKit
set_option linter.unusedVariables false

theorem say_b (t : Seqr.Tn) (ls : List Lane.Ln) (me : Nat) (quota : Int) : ((Seqr.say t ls me quota).getD Item.It.zero).b = [] := by
  unfold Seqr.say
  split
  · rfl
  · split
    · rfl
    · split
      · rfl
      · rfl
/-- What is said, in slots. -/
def ItemIs (X : World) (o : Option Item.It) (x y : Value) (wc : World) : Prop :=
  ∃ p r, x = .pointer (some ⟨p, 0, none⟩) ∧ y = .bool o.isSome ∧ wc.heap[p]? = some (.cells r 35 (0, 0)) ∧ IsItem wc (.agg r) (o.getD Item.It.zero) ∧ Below X.heap.size X wc
section
variable {X w5 : World} {v : Value} {x : Item.It} {base g : Nat}
theorem IsItemH.kept {w' : World} (h : IsItemH base w5 v x) (hx : x.b = []) (hk : KeptS (Hi base) w5 w') : IsItem w' v x := by
  obtain ⟨LA, ln, lc, BA, bn, bc, e, h1, h2, h3⟩ := h
  have hn : bn = 0 := by rw [← h2.1, hx]; rfl
  subst hn
  exact ⟨LA, ln, lc, BA, 0, bc, e, RdV.keptS h1 h3 hk, h2.keptS (S := Hi base) (Within.zero _ _) hk⟩
theorem IsItemH.arr (h : IsItemH base w5 v x) : ∃ r : Array Value, v = .agg r ∧ r.size = 8 ∧ r.all (·.oneCell') = true := by
  obtain ⟨LA, ln, lc, BA, bn, bc, e, _⟩ := h
  exact ⟨_, e, rfl, by simp [Value.oneCell']⟩
theorem finI_a (hx : x.b = []) (hb : Below X.heap.size X w5) (hi : IsItemH base w5 v x) :
    ∃ r wx, v = .agg r ∧ r.size = 8 ∧ r.all (·.oneCell') = true ∧ (storeCells ⟨w5.heap.size, 0, none⟩ r.toList).run Try.prog (w5.alloc (.cells #[.int .i64 0, .int .i64 0, .int .i64 0, .int .i64 0, .int .i64 0, .int .i64 0, .slice none 0 0, .slice none 0 0] 35)) = .ok () wx ∧ Hid (wx.heap[w5.heap.size]? = some (.cells r 35 (0, 0))) ∧ Hid (IsItem wx (.agg r) x) ∧ Below X.heap.size X wx := by
  obtain ⟨r, rfl, hs, ha⟩ := hi.arr
  obtain ⟨wx, h1, h2, h3, h4⟩ := st8 (alloc_at w5 (.cells #[.int .i64 0, .int .i64 0, .int .i64 0, .int .i64 0, .int .i64 0, .int .i64 0, .slice none 0 0, .slice none 0 0] 35) _ rfl) r (by rw [hs]; rfl) ha
  have hbx : Below w5.heap.size w5 wx := h4.out _ _ (nkeep _ _) (Nat.le_refl _)
  exact ⟨r, wx, rfl, hs, ha, h1, h2, hidT (hi.kept hx (KeptS.below _ hbx)), bthen hb hbx⟩
theorem finI_b (hx : x.b = []) (hb : Below X.heap.size X w5) (hg : w5.heap[g]? = some (.cells #[.int .i64 0, .int .i64 0, .int .i64 0, .int .i64 0, .int .i64 0, .int .i64 0, .slice none 0 0, .slice none 0 0] 35 (0, 0))) (hXg : X.heap.size ≤ g) (hgb : g < base) (hi : IsItemH base w5 v x) :
    ∃ r wx, v = .agg r ∧ r.size = 8 ∧ r.all (·.oneCell') = true ∧ (storeCells ⟨g, 0, none⟩ r.toList).run Try.prog w5 = .ok () wx ∧ Hid (wx.heap[g]? = some (.cells r 35 (0, 0))) ∧ Hid (IsItem wx (.agg r) x) ∧ Below X.heap.size X wx := by
  obtain ⟨r, rfl, hs, ha⟩ := hi.arr
  obtain ⟨wx, h1, h2, h3, h4⟩ := st8 hg r (by rw [hs]; rfl) ha
  exact ⟨r, wx, rfl, hs, ha, h1, h2, hidT (hi.kept hx (KeptS.hi h3.out hgb)), h4.out _ _ hb hXg⟩
end
end Go.Proofs.Ytdchgnmkeefffaa
