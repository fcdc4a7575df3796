/- Regions that only read, while their callees may make memory. -/
import Derived.Test.YtmlmkkfieeaejaaLnD
import Derived.BigQuiet
import Derived.Deep.QuietTactic
set_option maxRecDepth 100000
namespace Go.Proofs.Ytmlmkkfieeaejaa
open Go.RowKit
set_option linter.unusedVariables false

/-- A later world. -/
structure Later (W : World) where
  w : World
  h : Below W.heap.size W w
theorem Later.ne (W : World) : Nonempty (Later W) := ⟨⟨W, Below.refl _ _⟩⟩
theorem Later.cell {W : World} {p : Addr} {v : Value} (h : W.cell? p = some v) : ∀ n : Later W, n.w.cell? p = some v := fun n => (n.h.cell (World.block_lt_of_cell? W p h)).trans h
theorem Later.bool {W : World} {n : Later W} {f : FuncId} {args : Array Value} {t : Bool} (h : Calls Try.prog f args n.w (BoolIs n.w t)) : Calls Try.prog f args n.w fun e w2 => e = .returned (.bool t) ∧ ∃ m : Later W, w2 = m.w :=
  h.mono fun e w2 ⟨he, hb⟩ => ⟨he, ⟨w2, bthen n.h hb⟩, rfl⟩
theorem Later.int {W : World} {n : Later W} {f : FuncId} {args : Array Value} {k : Int} (h : Calls Try.prog f args n.w (IntIs n.w k)) : Calls Try.prog f args n.w fun e w2 => e = .returned (.int .i64 k) ∧ ∃ m : Later W, w2 = m.w :=
  h.mono fun e w2 ⟨he, hb⟩ => ⟨he, ⟨w2, bthen n.h hb⟩, rfl⟩
theorem wp_later {P : Program} {id : Nat} {Q : Exit → Act → World → Prop} {a : Act} {w : World} {l : List Oper} (hm : P.follows .mixedOrders = true) (hB : Region.lexB .any l.toArray = true)
    (h : wpQuiet P l.toArray (fun w' => ∃ n : Later w, w' = n.w) (fun a' => ∀ w', (∃ n : Later w, w' = n.w) → Q .normal a' w') l a) : (Code.region id l.toArray true).wp P Q a w :=
  wp_region_quiet (C := fun w' => ∃ n : Later w, w' = n.w) hm hB ⟨⟨_, (Below.refl _ _).drew⟩, rfl⟩ (by simpa using h)
end Go.Proofs.Ytmlmkkfieeaejaa
