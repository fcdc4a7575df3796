/- Entries and lanes: blocks from a place on, places sought. -/
import Derived.Test.YtmlmkkfieeaejaaLB0
set_option maxRecDepth 100000
namespace Go.Proofs.Ytmlmkkfieeaejaa
open Go.RowKit
set_option linter.unusedVariables false

abbrev ez : Array Value := #[.int .i64 0, .int .i64 0, .slice none 0 0, .slice none 0 0, .bool false]
abbrev lz : Array Value := #[.slice none 0 0, .int .i64 0, .int .i64 0, .int .i64 0, .slice none 0 0]
abbrev pz : Array Value := #[.int .i64 0, .int .i64 0, .int .i64 0, .slice none 0 0]
theorem cells5 {w : World} {g : Nat} {a0 a1 a2 a3 a4 : Value} {t : TypeId} (h : w.heap[g]? = some (.cells #[a0, a1, a2, a3, a4] t (0, 0))) : w.cell? ⟨g, 0, none⟩ = some a0 ∧ w.cell? ⟨g, 1, none⟩ = some a1 ∧ w.cell? ⟨g, 2, none⟩ = some a2 ∧ w.cell? ⟨g, 3, none⟩ = some a3 ∧ w.cell? ⟨g, 4, none⟩ = some a4 :=
  ⟨cell_at h 0 rfl, cell_at h 1 rfl, cell_at h 2 rfl, cell_at h 3 rfl, cell_at h 4 rfl⟩
theorem cells8 {w : World} {g : Nat} {a0 a1 a2 a3 a4 a5 a6 a7 : Value} {t : TypeId} (h : w.heap[g]? = some (.cells #[a0, a1, a2, a3, a4, a5, a6, a7] t (0, 0))) :
    w.cell? ⟨g, 0, none⟩ = some a0 ∧ w.cell? ⟨g, 1, none⟩ = some a1 ∧ w.cell? ⟨g, 2, none⟩ = some a2 ∧ w.cell? ⟨g, 3, none⟩ = some a3 ∧ w.cell? ⟨g, 4, none⟩ = some a4 ∧ w.cell? ⟨g, 5, none⟩ = some a5 ∧ w.cell? ⟨g, 6, none⟩ = some a6 ∧ w.cell? ⟨g, 7, none⟩ = some a7 :=
  ⟨cell_at h 0 rfl, cell_at h 1 rfl, cell_at h 2 rfl, cell_at h 3 rfl, cell_at h 4 rfl, cell_at h 5 rfl, cell_at h 6 rfl, cell_at h 7 rfl⟩
theorem infoE : (Try.prog.info? 33).map (fun i => (i.zero, i.size, i.bytes)) = some (some (.agg ez), 5, 72) := by kernel_rfl
theorem sizeE : (Try.prog.info? 33).map (·.size) = some 5 := by kernel_rfl
theorem sizeL : (Try.prog.info? 27).map (·.size) = some 5 := by kernel_rfl
/-- Blocks from a place on. -/
abbrev Hi (lo : Nat) : Nat → Prop := fun b => lo ≤ b
theorem KeptS.but {S : Nat → Prop} {w w' : World} {g : Nat} (hb : But g w w') (hs : ∀ b, S b → b ≠ g) : KeptS S w w' := fun b o u hS hu => hb.cell (hs b hS) hu
theorem KeptS.hi {lo g : Nat} {w w' : World} (hb : But g w w') (hg : g < lo) : KeptS (Hi lo) w w' := KeptS.but hb (fun b h e => by subst e; exact absurd hg (Nat.not_lt.2 h))
theorem KeptS.hig {lo : Nat} {w w' : World} {row : Option Nat} (hb : w.grownBy w' row) (hg : ∀ b, row = some b → b < lo) : KeptS (Hi lo) w w' := KeptS.grown hb (fun b h e => absurd (hg b e) (Nat.not_lt.2 h))
theorem Within.of {lo : Nat} {A : Option Addr} {n : Nat} (h : ∀ b o, A = some ⟨b, o, none⟩ → lo ≤ b) : Within (Hi lo) A n := fun _ b o e => h b o e
theorem IsEn.hi {lo lo' : Nat} {w : World} {v : Value} {x : Lane.En} (h : IsEn (Hi lo) w v x) (hl : lo' ≤ lo) : IsEn (Hi lo') w v x := h.mono fun b hb => Nat.le_trans hl hb
theorem AreE.hi {lo lo' : Nat} {w : World} {rs : List (Array Value)} {xs : List Lane.En} (h : AreE (Hi lo) w rs xs) (hl : lo' ≤ lo) : AreE (Hi lo') w rs xs := h.mono fun b hb => Nat.le_trans hl hb
theorem IsLane.hi {lo lo' : Nat} {w : World} {v : Value} {l : Lane.Ln} (h : IsLane (Hi lo) w v l) (hl : lo' ≤ lo) : IsLane (Hi lo') w v l := h.mono fun b hb => Nat.le_trans hl hb
def IntIs (w : World) (k : Int) (e : Ending) (w' : World) : Prop := e = .returned (.int .i64 k) ∧ Below w.heap.size w w'
theorem idx_at {xs : List Lane.En} {p : Lane.En → Bool} {j : Nat} {x : Lane.En} (h : ∀ i y, i < j → xs[i]? = some y → p y = false) (hx : xs[j]? = some x) (hp : p x = true) : xs.findIdx p = j := by
  obtain ⟨hj, e⟩ := List.getElem?_eq_some_iff.1 hx
  rw [List.findIdx_eq hj]
  refine ⟨by rw [e]; exact hp, fun i hi => h i _ hi (List.getElem?_eq_getElem (by omega))⟩
theorem idx_none {xs : List Lane.En} {p : Lane.En → Bool} (h : ∀ i y, i < xs.length → xs[i]? = some y → p y = false) : xs.findIdx p = xs.length := by
  rw [List.findIdx_eq_length]
  intro x hx
  obtain ⟨i, hi⟩ := List.getElem?_of_mem hx
  exact h i x (List.getElem?_eq_some_iff.1 hi).1 hi
theorem idx_le (xs : List Lane.En) (p : Lane.En → Bool) : xs.findIdx p ≤ xs.length := List.findIdx_le_length
theorem find_idx (xs : List Lane.En) (p : Lane.En → Bool) : xs.find? p = xs[xs.findIdx p]? := by
  induction xs with
  | nil => rfl
  | cons x xs ih =>
    rw [List.find?_cons, List.findIdx_cons]
    cases p x with
    | true => rfl
    | false => simpa using ih
/-- Lists that are not too long to be copied. -/
def SmallE (x : Lane.En) : Prop := x.l.length ≤ 65536 ∧ x.b.length ≤ 65536
def SmallL (l : Lane.Ln) : Prop := l.es.length ≤ 65536 ∧ (∀ x ∈ l.es, SmallE x) ∧ l.p.b.length ≤ 65536
end Go.Proofs.Ytmlmkkfieeaejaa
