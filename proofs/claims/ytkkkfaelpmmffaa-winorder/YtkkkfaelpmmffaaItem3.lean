/- What the six closures that item.asks keeps in its map come to. (Written by wip/gen/item3.py.) -/
import Derived.Test.YtkkkfaelpmmffaaItem2
set_option maxRecDepth 100000
namespace Go.Proofs.Ytkkkfaelpmmffaa
open Go.RowKit
set_option linter.unusedVariables false

/-- The blocks that the closures reach: an item's, and five function values' over it. -/
structure Asks (w : World) (s pi pt pc pb pl : Nat) (x : Item.It) (LA : Option Addr) (ln lc : Nat) (BA : Option Addr) (bn bc : Nat) : Prop where
  ci : w.cell? ⟨s, 3, none⟩ = some (.int .i64 x.i)
  ct : w.cell? ⟨s, 4, none⟩ = some (.int .i64 x.t)
  cc : w.cell? ⟨s, 5, none⟩ = some (.int .i64 x.c)
  cl : w.cell? ⟨s, 6, none⟩ = some (.slice LA ln lc)
  cb : w.cell? ⟨s, 7, none⟩ = some (.slice BA bn bc)
  rl : RdI w LA ln lc x.l
  rb : Rd w BA bn bc x.b
  fi : w.cell? ⟨pi, 0, none⟩ = some (.func (.func 45) #[] #[.pointer (some ⟨s, 0, none⟩)])
  ft : w.cell? ⟨pt, 0, none⟩ = some (.func (.func 46) #[] #[.pointer (some ⟨s, 0, none⟩)])
  fc : w.cell? ⟨pc, 0, none⟩ = some (.func (.func 47) #[] #[.pointer (some ⟨s, 0, none⟩)])
  fb : w.cell? ⟨pb, 0, none⟩ = some (.func (.func 48) #[] #[.pointer (some ⟨s, 0, none⟩)])
  fl : w.cell? ⟨pl, 0, none⟩ = some (.func (.func 49) #[] #[.pointer (some ⟨s, 0, none⟩)])
theorem keepC {w w' : World} {p : Addr} {u : Value} (hb : Below w.heap.size w w') (h : w.cell? p = some u) : w'.cell? p = some u := (hb.cell (World.block_lt_of_cell? _ _ h)).trans h
theorem Asks.below {w w' : World} {s pi pt pc pb pl : Nat} {x : Item.It} {LA : Option Addr} {ln lc : Nat} {BA : Option Addr} {bn bc : Nat} (h : Asks w s pi pt pc pb pl x LA ln lc BA bn bc) (hb : Below w.heap.size w w') :
    Asks w' s pi pt pc pb pl x LA ln lc BA bn bc :=
  ⟨keepC hb h.ci, keepC hb h.ct, keepC hb h.cc, keepC hb h.cl, keepC hb h.cb, RdV.below h.rl hb, h.rb.below hb, keepC hb h.fi, keepC hb h.ft, keepC hb h.fc, keepC hb h.fb, keepC hb h.fl⟩

end Go.Proofs.Ytkkkfaelpmmffaa
