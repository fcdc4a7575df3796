/- What LaneDoes and LaneStays share. -/
import Derived.Test.YtmlmkkfieeaejaaLnW
import Derived.Test.YtmlmkkfieeaejaaLnMayAll
set_option maxRecDepth 100000
namespace Go.Proofs.Ytmlmkkfieeaejaa
open Go.RowKit
set_option linter.unusedVariables false

theorem may_small {x : Item.It} (h : Item.may x = true) : x.l.length ≤ 64 ∧ x.b.length ≤ 1024 := by
  unfold Item.may at h
  rw [Bool.and_eq_true, Bool.and_eq_true] at h
  obtain ⟨_, _, h⟩ := h
  unfold Item.ask at h
  split at h
  · unfold Item.ask1 Item.list Item.body at h
    simp only [Bool.and_eq_true, Item.win_iff, decide_eq_true_eq] at h
    omega
  split at h
  · unfold Item.askN Item.list Item.body at h
    simp only [Bool.and_eq_true, Item.win_iff, decide_eq_true_eq] at h
    omega
  split at h
  · unfold Item.askN Item.list Item.body at h
    simp only [Bool.and_eq_true, Item.win_iff, decide_eq_true_eq] at h
    omega
  split at h
  · unfold Item.askN Item.list Item.body at h
    simp only [Bool.and_eq_true, Item.win_iff, decide_eq_true_eq] at h
    omega
  split at h
  · unfold Item.askN Item.list Item.body at h
    simp only [Bool.and_eq_true, Item.win_iff, decide_eq_true_eq] at h
    omega
  split at h
  · unfold Item.askN Item.list Item.body at h
    simp only [Bool.and_eq_true, Item.win_iff, decide_eq_true_eq] at h
    omega
  · cases h
theorem IsEn.parts {S : Nat → Prop} {w : World} {x : Lane.En} {BA : Option Addr} {bn bc : Nat} {LA : Option Addr} {ln lc : Nat} {k q : Int} {hh : Bool} (h : IsEn S w (.agg #[.int .i64 k, .int .i64 q, .slice BA bn bc, .slice LA ln lc, .bool hh]) x) : Rd w BA bn bc x.b ∧ RdI w LA ln lc x.l := by
  obtain ⟨_, _, _, _, _, _, ev, h1, h2, _, _⟩ := h
  injection ev with ev
  simp only [Array.mk.injEq, List.cons.injEq, Value.slice.injEq, and_true] at ev
  obtain ⟨_, _, ⟨rfl, rfl, rfl⟩, ⟨rfl, rfl, rfl⟩, _⟩ := ev
  exact ⟨h1, h2⟩
theorem IsLane.parts {S : Nat → Prop} {w : World} {l : Lane.Ln} {A : Option Addr} {n c : Nat} {B : Option Addr} {m d : Nat} {s t g : Int} (h : IsLane S w (.agg #[.slice A n c, .int .i64 s, .int .i64 t, .int .i64 g, .slice B m d]) l) : RdE S w A n c l.es := by
  obtain ⟨_, _, _, _, _, _, ev, h1, _, _⟩ := h
  injection ev with ev
  simp only [Array.mk.injEq, List.cons.injEq, Value.slice.injEq, and_true] at ev
  obtain ⟨⟨rfl, rfl, rfl⟩, _⟩ := ev
  exact h1
end Go.Proofs.Ytmlmkkfieeaejaa
