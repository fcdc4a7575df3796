/- What item.asks comes to: a map of six closures, each at its kind. -/
import Derived.Test.YtkkkfaelpmmffaaItem3
import Derived.Maps.Own
import Derived.Maps.OwnOps
import Derived.Laws.EntriesVeiled
set_option maxRecDepth 100000
namespace Go.Proofs.Ytkkkfaelpmmffaa
open Go.RowKit
set_option linter.unusedVariables false

/-- A new key into a map that was laid last. -/
theorem ins_new {P : Program} {t k e : TypeId} (ht : P.underlying t = some (.map k e)) (hk : P.underlying k = some (.int .i64)) (w0 : World) (n : Nat) (x : Int) (v : Value) (es : Array MapEntry) (clock : Nat) (hn : n = w0.heap.size)
    (hf : Instr.findNow (.int .i64) (.int .i64 x) es.toList 0 = some none) :
    Sem.run P (Instr.mapUpdate t (.map (some n)) (.int .i64 x) v) (w0.alloc (.map es clock)) = .ok () (w0.alloc (.map (es.push ⟨.int .i64 x, v, clock⟩) (clock + 1))) := by
  subst hn
  have hb : (w0.alloc (.map es clock)).heap[w0.heap.size]? = some (.map es clock) := heap_alloc_new w0 _
  have hs : ∀ o, ({ (w0.alloc (.map es clock)) with heap := (w0.alloc (.map es clock)).heap.setIfInBounds w0.heap.size o } : World) = w0.alloc o := by
    intro o
    show ({ w0 with heap := (w0.heap.push (.map es clock)).setIfInBounds w0.heap.size o } : World) = { w0 with heap := w0.heap.push o }
    congr 1
    apply Array.ext_getElem?
    intro i
    simp only [Array.getElem?_setIfInBounds, Array.getElem?_push, Array.size_push]
    by_cases h : w0.heap.size = i
    · subst h; simp
    · by_cases h2 : i = w0.heap.size
      · exact absurd h2.symm h
      · simp [h, h2]
  unfold Instr.mapUpdate Instr.findKey
  simp only [Sem.run_bind, run_underlying ht, run_underlying hk, Result.andThen, MapKept.run_getObj_map hb, MapKept.run_checkKey (k := .int .i64 x) hk (by simp [MapKept.IsKey]) false 9999, hf, Sem.run_pure, MapKept.run_setObj_map _ hb, hs]
/-! Behind here: written by wip/gen/item4.py. -/
theorem heap7 (w : World) (o0 o1 o2 o3 o4 o5 o6 : Obj) :
    (((((((w.alloc o0).alloc o1).alloc o2).alloc o3).alloc o4).alloc o5).alloc o6).heap[w.heap.size]? = some o0 ∧
    (((((((w.alloc o0).alloc o1).alloc o2).alloc o3).alloc o4).alloc o5).alloc o6).heap[w.heap.size + 1]? = some o1 ∧
    (((((((w.alloc o0).alloc o1).alloc o2).alloc o3).alloc o4).alloc o5).alloc o6).heap[w.heap.size + 1 + 1]? = some o2 ∧
    (((((((w.alloc o0).alloc o1).alloc o2).alloc o3).alloc o4).alloc o5).alloc o6).heap[w.heap.size + 1 + 1 + 1]? = some o3 ∧
    (((((((w.alloc o0).alloc o1).alloc o2).alloc o3).alloc o4).alloc o5).alloc o6).heap[w.heap.size + 1 + 1 + 1 + 1]? = some o4 ∧
    (((((((w.alloc o0).alloc o1).alloc o2).alloc o3).alloc o4).alloc o5).alloc o6).heap[w.heap.size + 1 + 1 + 1 + 1 + 1]? = some o5 ∧
    (((((((w.alloc o0).alloc o1).alloc o2).alloc o3).alloc o4).alloc o5).alloc o6).heap[w.heap.size + 1 + 1 + 1 + 1 + 1 + 1]? = some o6 ∧
    Below w.heap.size w (((((((w.alloc o0).alloc o1).alloc o2).alloc o3).alloc o4).alloc o5).alloc o6) := by
  refine ⟨?_, ?_, ?_, ?_, ?_, ?_, ?_, (((((((((Below.refl _ _).alloc (Nat.le_refl _) _).alloc ?_ _).alloc ?_ _).alloc ?_ _).alloc ?_ _).alloc ?_ _).alloc ?_ _))⟩
  all_goals first
    | (simp only [size_alloc]; omega)
    | exact alloc_at _ _ _ (by simp only [size_alloc])
    | (rw [alloc_old _ _ _ (by simp only [size_alloc]; omega)]; exact alloc_at _ _ _ (by simp only [size_alloc]))
    | (rw [alloc_old _ _ _ (by simp only [size_alloc]; omega), alloc_old _ _ _ (by simp only [size_alloc]; omega)]; exact alloc_at _ _ _ (by simp only [size_alloc]))
    | (rw [alloc_old _ _ _ (by simp only [size_alloc]; omega), alloc_old _ _ _ (by simp only [size_alloc]; omega), alloc_old _ _ _ (by simp only [size_alloc]; omega)]; exact alloc_at _ _ _ (by simp only [size_alloc]))
    | (rw [alloc_old _ _ _ (by simp only [size_alloc]; omega), alloc_old _ _ _ (by simp only [size_alloc]; omega), alloc_old _ _ _ (by simp only [size_alloc]; omega), alloc_old _ _ _ (by simp only [size_alloc]; omega)]; exact alloc_at _ _ _ (by simp only [size_alloc]))
    | (rw [alloc_old _ _ _ (by simp only [size_alloc]; omega), alloc_old _ _ _ (by simp only [size_alloc]; omega), alloc_old _ _ _ (by simp only [size_alloc]; omega), alloc_old _ _ _ (by simp only [size_alloc]; omega), alloc_old _ _ _ (by simp only [size_alloc]; omega)]; exact alloc_at _ _ _ (by simp only [size_alloc]))
    | (rw [alloc_old _ _ _ (by simp only [size_alloc]; omega), alloc_old _ _ _ (by simp only [size_alloc]; omega), alloc_old _ _ _ (by simp only [size_alloc]; omega), alloc_old _ _ _ (by simp only [size_alloc]; omega), alloc_old _ _ _ (by simp only [size_alloc]; omega), alloc_old _ _ _ (by simp only [size_alloc]; omega)]; exact alloc_at _ _ _ rfl)

/-- The map that item.asks makes. -/
def kinds (s pi pt pc pb pl : Nat) : Array MapEntry := #[
  ⟨.int .i64 1, .func (.func 52) #[] #[.pointer (some ⟨pt, 0, none⟩), .pointer (some ⟨pi, 0, none⟩), .pointer (some ⟨s, 0, none⟩), .pointer (some ⟨pc, 0, none⟩), .pointer (some ⟨pl, 0, none⟩), .pointer (some ⟨pb, 0, none⟩)], 0⟩,
  ⟨.int .i64 2, .func (.func 53) #[] #[.pointer (some ⟨pt, 0, none⟩), .pointer (some ⟨pi, 0, none⟩), .pointer (some ⟨pc, 0, none⟩), .pointer (some ⟨pl, 0, none⟩), .pointer (some ⟨pb, 0, none⟩)], 1⟩,
  ⟨.int .i64 3, .func (.func 54) #[] #[.pointer (some ⟨pt, 0, none⟩), .pointer (some ⟨pi, 0, none⟩), .pointer (some ⟨pc, 0, none⟩), .pointer (some ⟨pl, 0, none⟩), .pointer (some ⟨pb, 0, none⟩)], 2⟩,
  ⟨.int .i64 4, .func (.func 55) #[] #[.pointer (some ⟨pt, 0, none⟩), .pointer (some ⟨pi, 0, none⟩), .pointer (some ⟨pc, 0, none⟩), .pointer (some ⟨pl, 0, none⟩), .pointer (some ⟨pb, 0, none⟩)], 3⟩,
  ⟨.int .i64 5, .func (.func 56) #[] #[.pointer (some ⟨pt, 0, none⟩), .pointer (some ⟨pi, 0, none⟩), .pointer (some ⟨pc, 0, none⟩), .pointer (some ⟨pl, 0, none⟩), .pointer (some ⟨pb, 0, none⟩)], 4⟩,
  ⟨.int .i64 6, .func (.func 57) #[] #[.pointer (some ⟨pt, 0, none⟩), .pointer (some ⟨pi, 0, none⟩), .pointer (some ⟨pc, 0, none⟩), .pointer (some ⟨pl, 0, none⟩), .pointer (some ⟨pb, 0, none⟩)], 5⟩]
def AsksIs (w : World) (x : Item.It) (LA : Option Addr) (ln lc : Nat) (BA : Option Addr) (bn bc : Nat) (e : Ending) (w' : World) : Prop :=
  ∃ m s pi pt pc pb pl, e = .returned (.map (some m)) ∧ w'.heap[m]? = some (.map (kinds s pi pt pc pb pl) 6) ∧ Asks w' s pi pt pc pb pl x LA ln lc BA bn bc ∧ Below w.heap.size w w'

set_option maxHeartbeats 1000000 in
theorem asks_any (k q e i t c : Int) (l : List Int) (b : List UInt8) (LA : Option Addr) (ln lc : Nat) (BA : Option Addr) (bn bc : Nat) (w : World) (hl : RdI w LA ln lc l) (hb : Rd w BA bn bc b) :
    Calls Try.prog 38 #[.agg #[.int .i64 k, .int .i64 q, .int .i64 e, .int .i64 i, .int .i64 t, .int .i64 c, .slice LA ln lc, .slice BA bn bc]] w (AsksIs w ⟨k, q, e, i, t, c, l, b⟩ LA ln lc BA bn bc) := by
  have hmm := @run_makeMap Try.prog
  have hi1 : ∀ (w0 : World) (n : Nat) (v1 : Value), n = w0.heap.size → Sem.run Try.prog (Instr.mapUpdate 62 (.map (some n)) (.int .i64 1) v1) (w0.alloc (.map #[] 0)) = .ok () (w0.alloc (.map #[⟨.int .i64 1, v1, 0⟩] 1)) :=
    fun w0 n v1 hn => ins_new Try.underlying62 Try.underlying3 w0 n 1 v1 _ 0 hn rfl
  have hi2 : ∀ (w0 : World) (n : Nat) (v1 v2 : Value), n = w0.heap.size → Sem.run Try.prog (Instr.mapUpdate 62 (.map (some n)) (.int .i64 2) v2) (w0.alloc (.map #[⟨.int .i64 1, v1, 0⟩] 1)) = .ok () (w0.alloc (.map #[⟨.int .i64 1, v1, 0⟩, ⟨.int .i64 2, v2, 1⟩] 2)) :=
    fun w0 n v1 v2 hn => ins_new Try.underlying62 Try.underlying3 w0 n 2 v2 _ 1 hn rfl
  have hi3 : ∀ (w0 : World) (n : Nat) (v1 v2 v3 : Value), n = w0.heap.size → Sem.run Try.prog (Instr.mapUpdate 62 (.map (some n)) (.int .i64 3) v3) (w0.alloc (.map #[⟨.int .i64 1, v1, 0⟩, ⟨.int .i64 2, v2, 1⟩] 2)) = .ok () (w0.alloc (.map #[⟨.int .i64 1, v1, 0⟩, ⟨.int .i64 2, v2, 1⟩, ⟨.int .i64 3, v3, 2⟩] 3)) :=
    fun w0 n v1 v2 v3 hn => ins_new Try.underlying62 Try.underlying3 w0 n 3 v3 _ 2 hn rfl
  have hi4 : ∀ (w0 : World) (n : Nat) (v1 v2 v3 v4 : Value), n = w0.heap.size → Sem.run Try.prog (Instr.mapUpdate 62 (.map (some n)) (.int .i64 4) v4) (w0.alloc (.map #[⟨.int .i64 1, v1, 0⟩, ⟨.int .i64 2, v2, 1⟩, ⟨.int .i64 3, v3, 2⟩] 3)) = .ok () (w0.alloc (.map #[⟨.int .i64 1, v1, 0⟩, ⟨.int .i64 2, v2, 1⟩, ⟨.int .i64 3, v3, 2⟩, ⟨.int .i64 4, v4, 3⟩] 4)) :=
    fun w0 n v1 v2 v3 v4 hn => ins_new Try.underlying62 Try.underlying3 w0 n 4 v4 _ 3 hn rfl
  have hi5 : ∀ (w0 : World) (n : Nat) (v1 v2 v3 v4 v5 : Value), n = w0.heap.size → Sem.run Try.prog (Instr.mapUpdate 62 (.map (some n)) (.int .i64 5) v5) (w0.alloc (.map #[⟨.int .i64 1, v1, 0⟩, ⟨.int .i64 2, v2, 1⟩, ⟨.int .i64 3, v3, 2⟩, ⟨.int .i64 4, v4, 3⟩] 4)) = .ok () (w0.alloc (.map #[⟨.int .i64 1, v1, 0⟩, ⟨.int .i64 2, v2, 1⟩, ⟨.int .i64 3, v3, 2⟩, ⟨.int .i64 4, v4, 3⟩, ⟨.int .i64 5, v5, 4⟩] 5)) :=
    fun w0 n v1 v2 v3 v4 v5 hn => ins_new Try.underlying62 Try.underlying3 w0 n 5 v5 _ 4 hn rfl
  have hi6 : ∀ (w0 : World) (n : Nat) (v1 v2 v3 v4 v5 v6 : Value), n = w0.heap.size → Sem.run Try.prog (Instr.mapUpdate 62 (.map (some n)) (.int .i64 6) v6) (w0.alloc (.map #[⟨.int .i64 1, v1, 0⟩, ⟨.int .i64 2, v2, 1⟩, ⟨.int .i64 3, v3, 2⟩, ⟨.int .i64 4, v4, 3⟩, ⟨.int .i64 5, v5, 4⟩] 5)) = .ok () (w0.alloc (.map #[⟨.int .i64 1, v1, 0⟩, ⟨.int .i64 2, v2, 1⟩, ⟨.int .i64 3, v3, 2⟩, ⟨.int .i64 4, v4, 3⟩, ⟨.int .i64 5, v5, 4⟩, ⟨.int .i64 6, v6, 5⟩] 6)) :=
    fun w0 n v1 v2 v3 v4 v5 v6 hn => ins_new Try.underlying62 Try.underlying3 w0 n 6 v6 _ 5 hn rfl
  go_enter Try.func38, Try.ntmps38
  go_wp2
  go_ret
  obtain ⟨g0, g1, g2, g3, g4, g5, g6, gb⟩ := heap7 w _ _ _ _ _ _ _
  refine ⟨_, w.heap.size, w.heap.size + 1, w.heap.size + 1 + 1, w.heap.size + 1 + 1 + 1, w.heap.size + 1 + 1 + 1 + 1, w.heap.size + 1 + 1 + 1 + 1 + 1, rfl, g6, ⟨cell_at g0 3 rfl, cell_at g0 4 rfl, cell_at g0 5 rfl, cell_at g0 6 rfl, cell_at g0 7 rfl, RdV.below hl gb, hb.below gb, cell_at g1 0 rfl, cell_at g2 0 rfl, cell_at g3 0 rfl, cell_at g4 0 rfl, cell_at g5 0 rfl⟩, gb⟩
end Go.Proofs.Ytkkkfaelpmmffaa
