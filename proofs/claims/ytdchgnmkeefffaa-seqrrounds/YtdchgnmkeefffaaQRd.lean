/- What the document's Read comes to. -/
import Derived.Test.YtdchgnmkeefffaaQRdb
import Derived.Test.YtdchgnmkeefffaaQRdc
import Derived.Test.YtdchgnmkeefffaaQRdd
set_option maxRecDepth 100000
namespace Go.Proofs.Ytdchgnmkeefffaa
open Go.RowKit
set_option linter.unusedVariables false

theorem qread_any {S : Nat → Prop} (v u : Value) (l : Lane.Ln) (it : Item.It) (w : World) (h : IsLane S w v l) (hi : IsItem w u it) (hS : SmallL l) (hb65 : it.b.length ≤ 65536) (hl65 : it.l.length ≤ 65536) :
    Calls Try.prog 39 #[v, u] w (QReadIs S w (Lane.read l it)) := by
  by_cases hk0 : it.k < 1 ∨ 3 < it.k
  · rw [Lane.read_kind hk0]; exact qread_k0 v u l it w h hi hS hb65 hl65 hk0
  by_cases hlt : it.q ≤ Lane.last l
  · rw [Lane.read_low hk0 hlt]; exact qread_late v u l it w h hi hS hb65 hl65 (by omega) hlt
  by_cases h1 : it.k = 1
  · rcases Lane.add_cases l.p it.q it.i it.t it.b with ⟨_, ha⟩ | ⟨_, _, ha⟩ | ⟨_, _, ha⟩
    · rw [Lane.read_bad h1 hlt (by rw [ha]; exact (by decide : (2 : Int) ≠ 0))]
      exact qread_bad v u l it w h hi hS hb65 hl65 h1 hlt ha
    · rw [Lane.read_whole h1 hlt ha]
      by_cases hu : 0 < l.p.got
      · rw [if_pos hu]; exact qread_whole_u v u l it w h hi hS hb65 hl65 h1 hu hlt _ _ ha
      · rw [if_neg hu]; exact qread_whole_n v u l it w h hi hS hb65 hl65 h1 hu hlt _ _ ha
    · rw [Lane.read_part h1 hlt ha]
      exact qread_on v u l it w h hi hS hb65 hl65 h1 hlt _ ha
  by_cases h2 : it.k = 2
  · by_cases hu : 0 < l.p.got
    · rw [Lane.read_under (.inl h2) hlt hu]; exact qread_under2 v u l it w h hi hS hb65 hl65 h2 hu hlt
    · rw [Lane.read_order (.inl h2) hlt hu]
      have e : (⟨it.k, it.q, [], if it.k = 2 then it.l else [], decide (it.k = 2) && decide (it.i = 1)⟩ : Lane.En) = ⟨it.k, it.q, [], it.l, it.i == 1⟩ := by
        rw [if_pos h2, show decide (it.k = 2) = true by simpa using h2, Bool.true_and]
        rfl
      rw [e]
      exact qread_order v u l it w h hi hS hb65 hl65 h2 hu hlt
  have h3 : it.k = 3 := by omega
  by_cases hu : 0 < l.p.got
  · rw [Lane.read_under (.inr h3) hlt hu]; exact qread_under3 v u l it w h hi hS hb65 hl65 h3 hu hlt
  · rw [Lane.read_order (.inr h3) hlt hu]
    have e : (⟨it.k, it.q, [], if it.k = 2 then it.l else [], decide (it.k = 2) && decide (it.i = 1)⟩ : Lane.En) = ⟨it.k, it.q, [], [], false⟩ := by
      rw [if_neg h2, show decide (it.k = 2) = false by simpa using h2, Bool.false_and]
    rw [e]
    exact qread_token v u l it w h hi hS hb65 hl65 h3 hu hlt
end Go.Proofs.Ytdchgnmkeefffaa
