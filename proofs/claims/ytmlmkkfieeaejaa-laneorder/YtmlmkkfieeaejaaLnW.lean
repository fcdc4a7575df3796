/- What the laws on lanes share. -/
import Derived.Test.YtmlmkkfieeaejaaLnShown
import Derived.Test.YtmlmkkfieeaejaaLaneRun
import Derived.Test.YtmlmkkfieeaejaaRLn1
import Derived.Test.YtmlmkkfieeaejaaRLn2
import Derived.Test.YtmlmkkfieeaejaaLn10
set_option maxRecDepth 100000
namespace Go.Proofs.Ytmlmkkfieeaejaa
open Go.RowKit
set_option linter.unusedVariables false

theorem RdE.lt {S : Nat → Prop} {w : World} {A : Option Addr} {n c : Nat} {xs : List Lane.En} (h : RdE S w A n c xs) : RdE (fun b => b < w.heap.size) w A n c xs := by
  obtain ⟨rs, h1, h2, h3⟩ := h
  refine ⟨rs, h1, h2.lt.mono fun b hb => hb.2, fun h0 b o e => ?_⟩
  obtain ⟨b', o', r, hA, _, hsz, hc⟩ := h1.at_ h0
  rw [e] at hA
  injection hA with hA
  injection hA with e1 e2
  subst e1
  exact World.block_lt_of_cell? w _ (hc 0 _ (Array.getElem?_eq_getElem (show 0 < r.size by omega)))
/-- What a lane reads was made before. -/
theorem IsLane.lt {S : Nat → Prop} {w : World} {v : Value} {l : Lane.Ln} (h : IsLane S w v l) : IsLane (fun b => b < w.heap.size) w v l := by
  obtain ⟨A, n, c, B, m, d, rfl, h1, h2, h3⟩ := h
  exact ⟨A, n, c, B, m, d, rfl, h1.lt, h2, h2.lt⟩
/-- Lists that lie beside a block. -/
abbrev Off (g : Nat) : Nat → Prop := fun b => b ≠ g
theorem IsLane.off {S : Nat → Prop} {w : World} {v : Value} {l : Lane.Ln} {g : Nat} (h : IsLane S w v l) (hg : w.heap.size ≤ g) : IsLane (Off g) w v l := h.lt.mono fun b hb e => by subst e; omega
theorem IsLane.offHi {lo g : Nat} {w : World} {v : Value} {l : Lane.Ln} (h : IsLane (Hi lo) w v l) (hg : g < lo) : IsLane (Off g) w v l := h.mono fun b hb e => by subst e; exact absurd hb (Nat.not_le.2 hg)
theorem IsLane.butOff {g : Nat} {w w' : World} {v : Value} {l : Lane.Ln} (h : IsLane (Off g) w v l) (hb : But g w w') : IsLane (Off g) w' v l := h.keptS (KeptS.but hb fun b h => h)
theorem drp_sub (i : Nat) (es : List Lane.En) : (Lane.drp i es).Sublist es := by
  induction es generalizing i with
  | nil => rw [Lane.drp_nil]; exact List.Sublist.refl _
  | cons e es ih =>
    cases i with
    | zero => rw [Lane.drp_zero]; exact List.Sublist.refl _
    | succ i =>
      cases h : Lane.isMsg e with
      | true => rw [Lane.drp_msg i es h]; exact (ih i).cons e
      | false => rw [Lane.drp_not (i + 1) es h]; exact (ih (i + 1)).cons_cons e
theorem SmallL.sub {l : Lane.Ln} (h : SmallL l) {es : List Lane.En} (hs : es.Sublist l.es) : SmallL ⟨es, l.p⟩ :=
  ⟨Nat.le_trans hs.length_le h.1, fun x hx => h.2.1 x (hs.subset hx), h.2.2⟩
theorem filt_snoc {es : List Lane.En} {j : Nat} (f : Lane.En → Bool) {x y : Lane.En} (hr : Lane.rises 0 es = true) (hx : (es.filter f)[j]? = some x) (hy : (es.filter f)[j + 1]? = some y) : x.q < y.q :=
  Lane.rises_at (Lane.rises_filter hr f) hx hy (by omega)
theorem filt_pos {es : List Lane.En} {j : Nat} (f : Lane.En → Bool) {x : Lane.En} (hr : Lane.rises 0 es = true) (hx : (es.filter f)[j]? = some x) : 0 < x.q ∧ f x = true ∧ Lane.may x = true := by
  have hm := List.mem_filter.1 (List.mem_of_getElem? hx)
  have := Lane.rises_mem hr hm.1
  exact ⟨this.2.1, hm.2, this.1⟩
theorem msg_k {x : Lane.En} (h : Lane.isMsg x = true) : x.k = 1 := by simpa [Lane.isMsg] using h
theorem not_msg_k {x : Lane.En} (h : Lane.isMsg x = false) : x.k ≠ 1 := by simpa [Lane.isMsg] using h
theorem SmallL.set {l : Lane.Ln} (h : SmallL l) {e : Lane.En} (he : SmallE e) : SmallL (Lane.set l e) := by
  unfold Lane.set
  split
  · refine ⟨by simpa using h.1, fun x hx => ?_, h.2.2⟩
    obtain ⟨y, hy, rfl⟩ := List.mem_map.1 hx
    unfold Lane.put
    split
    · exact he
    · exact h.2.1 y hy
  · exact h
/-- Who follows may be set. -/
theorem may_set {q : Int} {ls : List Int} {b : Bool} (hq : 1 ≤ q) (hs : ∀ y ∈ ls, 0 ≤ y ∧ y ≤ 63) : Lane.may ⟨2, q, [], ls, b⟩ = true := by
  refine Lane.may_iff.2 ⟨hq, ?_, ?_⟩
  · show Lane.senders ls = true
    unfold Lane.senders
    rw [List.all_eq_true]
    intro y hy
    have := hs y hy
    simp [this]
  · rfl
end Go.Proofs.Ytmlmkkfieeaejaa
