/- What lane.Read comes to. -/
import Derived.Test.YtmlmkkfieeaejaaLn11b
import Derived.Test.YtmlmkkfieeaejaaLn11c
import Derived.Test.YtmlmkkfieeaejaaLn11d
set_option maxRecDepth 100000
namespace Go.Proofs.Ytmlmkkfieeaejaa
open Go.RowKit
set_option linter.unusedVariables false

theorem read_any {S : Nat → Prop} (v u : Value) (l : Lane.Ln) (it : Item.It) (w : World) (h : IsLane S w v l) (hi : IsItem w u it) (hS : SmallL l) (hg0 : 0 ≤ l.p.got) (hl65 : it.l.length ≤ 65536) (hb65 : it.b.length ≤ 65536) :
    Calls Try.prog 27 #[v, u] w (ReadIs w (Lane.read l it)) := by
  by_cases hk0 : it.k < 1 ∨ 3 < it.k
  · rw [Lane.read_kind hk0]; exact read_k0 v u l it w h hi hS hg0 hl65 hb65 hk0
  by_cases h1 : it.k = 1
  · by_cases hlt : it.q ≤ Lane.last l
    · rw [Lane.read_low hk0 hlt]; exact read_late1 v u l it w h hi hS hg0 hl65 hb65 h1 hlt
    · exact read_piece v u l it w h hi hS hg0 hl65 hb65 h1 hlt
  by_cases h2 : it.k = 2
  · by_cases hlt : it.q ≤ Lane.last l
    · rw [Lane.read_low hk0 hlt]; exact read_late2 v u l it w h hi hS hg0 hl65 hb65 h2 hlt
    · by_cases hu : l.p.got = 0
      · rw [Lane.read_order (.inl h2) hlt (by omega)]
        have e : (⟨it.k, it.q, [], if it.k = 2 then it.l else [], decide (it.k = 2) && decide (it.i = 1)⟩ : Lane.En) = ⟨it.k, it.q, [], it.l, it.i == 1⟩ := by
          rw [if_pos h2, show decide (it.k = 2) = true by simpa using h2, Bool.true_and]
          rfl
        rw [e]
        exact read_order v u l it w h hi hS hg0 hl65 hb65 h2 hu hlt
      · rw [Lane.read_under (.inl h2) hlt (by omega)]; exact read_under2 v u l it w h hi hS hg0 hl65 hb65 h2 hu hlt
  have h3 : it.k = 3 := by omega
  by_cases hlt : it.q ≤ Lane.last l
  · rw [Lane.read_low hk0 hlt]; exact read_late3 v u l it w h hi hS hg0 hl65 hb65 h3 hlt
  · by_cases hu : l.p.got = 0
    · rw [Lane.read_order (.inr h3) hlt (by omega)]
      have e : (⟨it.k, it.q, [], if it.k = 2 then it.l else [], decide (it.k = 2) && decide (it.i = 1)⟩ : Lane.En) = ⟨it.k, it.q, [], [], false⟩ := by
        rw [if_neg h2, show decide (it.k = 2) = false by simpa using h2, Bool.false_and]
      rw [e]
      exact read_token v u l it w h hi hS hg0 hl65 hb65 h3 hu hlt
    · rw [Lane.read_under (.inr h3) hlt (by omega)]; exact read_under3 v u l it w h hi hS hg0 hl65 hb65 h3 hu hlt
end Go.Proofs.Ytmlmkkfieeaejaa
