/- What the document's with comes to. -/
import Derived.Test.YtmlmkkfieeaejaaLnD
import Derived.Deep.RegionHeldLaw
set_option maxRecDepth 100000
namespace Go.Proofs.Ytmlmkkfieeaejaa
open Go.RowKit
set_option linter.unusedVariables false

abbrev Any : Nat → Prop := fun _ => True
def RLaneIs (w : World) (l : Lane.Ln) (e : Ending) (w' : World) : Prop := ∃ v, e = .returned v ∧ IsLane Any w' v l ∧ Below w.heap.size w w'
/-- The same, its lists in such blocks. -/
def RLaneT (w : World) (T : Nat → Prop) (l : Lane.Ln) (e : Ending) (w' : World) : Prop := ∃ v, e = .returned v ∧ IsLane T w' v l ∧ Below w.heap.size w w'
theorem row_ne {p q n c : Nat} (h : p ≠ q) : ∀ b o, (some ⟨q, 0, none⟩ : Option Addr) = some ⟨b, o, none⟩ → (Value.slice (some ⟨p, 0, none⟩) n c).ownBlock ≠ some b := by
  intro b o e e2
  injection e with e
  injection e with e
  have e3 : some p = some b := e2
  injection e3 with e3
  omega
theorem RdK.grown {k : Nat} {w w' : World} {A : Option Addr} {n c : Nat} {rs : List (Array Value)} {row : Option Nat} (h : RdK k w A n c rs) (hg : w.grownBy w' row) (hr : ∀ b o, A = some ⟨b, o, none⟩ → row ≠ some b) : RdK k w' A n c rs := by
  obtain ⟨h0, h1, h2, h3, h4, h5⟩ := h
  refine ⟨h0, h1, h2, h3, h4, fun h6 => ?_⟩
  obtain ⟨b, o, hA, hc⟩ := h5 h6
  exact ⟨b, o, hA, fun i x hx => hg.cell (hc i x hx) (fun e => hr b o hA e.symm)⟩
theorem RdK.but {k : Nat} {w w' : World} {A : Option Addr} {n c g : Nat} {rs : List (Array Value)} (h : RdK k w A n c rs) (hg : ∀ b o, A = some ⟨b, o, none⟩ → b ≠ g) (hb : But g w w') : RdK k w' A n c rs := by
  obtain ⟨h0, h1, h2, h3, h4, h5⟩ := h
  refine ⟨h0, h1, h2, h3, h4, fun h6 => ?_⟩
  obtain ⟨b, o, hA, hc⟩ := h5 h6
  exact ⟨b, o, hA, fun i x hx => hb.cell (hg b o hA) (hc i x hx)⟩
theorem nkeep_alloc {w w' : World} (hb : Below w.heap.size w w') (o : Obj) : Below w.heap.size w (w'.alloc o) := bthen hb (nkeep w' o)
theorem set5 {w : World} {g : Nat} {b0 b1 b2 b3 b4 : Value} {t : TypeId} (h : w.heap[g]? = some (.cells #[b0, b1, b2, b3, b4] t (0, 0))) (a0 a1 a2 a3 a4 : Value) :
    (((((w.setCell ⟨g, 0, none⟩ a0).setCell ⟨g, 1, none⟩ a1).setCell ⟨g, 2, none⟩ a2).setCell ⟨g, 3, none⟩ a3).setCell ⟨g, 4, none⟩ a4).heap[g]? = some (.cells #[a0, a1, a2, a3, a4] t (0, 0)) ∧ But g w (((((w.setCell ⟨g, 0, none⟩ a0).setCell ⟨g, 1, none⟩ a1).setCell ⟨g, 2, none⟩ a2).setCell ⟨g, 3, none⟩ a3).setCell ⟨g, 4, none⟩ a4) ∧
    (∀ base w0, Below base w0 w → base ≤ g → Below base w0 (((((w.setCell ⟨g, 0, none⟩ a0).setCell ⟨g, 1, none⟩ a1).setCell ⟨g, 2, none⟩ a2).setCell ⟨g, 3, none⟩ a3).setCell ⟨g, 4, none⟩ a4)) := by
  have s0 : (w.setCell ⟨g, 0, none⟩ a0).heap[g]? = some (.cells #[a0, b1, b2, b3, b4] t (0, 0)) := heap_setCell_same w g 0 _ t a0 h
  have s1 : ((w.setCell ⟨g, 0, none⟩ a0).setCell ⟨g, 1, none⟩ a1).heap[g]? = some (.cells #[a0, a1, b2, b3, b4] t (0, 0)) := heap_setCell_same _ g 1 _ t a1 s0
  have s2 : (((w.setCell ⟨g, 0, none⟩ a0).setCell ⟨g, 1, none⟩ a1).setCell ⟨g, 2, none⟩ a2).heap[g]? = some (.cells #[a0, a1, a2, b3, b4] t (0, 0)) := heap_setCell_same _ g 2 _ t a2 s1
  have s3 : ((((w.setCell ⟨g, 0, none⟩ a0).setCell ⟨g, 1, none⟩ a1).setCell ⟨g, 2, none⟩ a2).setCell ⟨g, 3, none⟩ a3).heap[g]? = some (.cells #[a0, a1, a2, a3, b4] t (0, 0)) := heap_setCell_same _ g 3 _ t a3 s2
  exact ⟨heap_setCell_same _ g 4 _ t a4 s3, ((((But.setCell w g 0 a0).trans (But.setCell _ g 1 a1)).trans (But.setCell _ g 2 a2)).trans (But.setCell _ g 3 a3)).trans (But.setCell _ g 4 a4),
    fun base w0 hb hg => ((((hb.setCell (p := ⟨g, 0, none⟩) hg a0).setCell (p := ⟨g, 1, none⟩) hg a1).setCell (p := ⟨g, 2, none⟩) hg a2).setCell (p := ⟨g, 3, none⟩) hg a3).setCell (p := ⟨g, 4, none⟩) hg a4⟩

set_option maxHeartbeats 8000000 in
theorem with_any {S S' T : Nat → Prop} (v u : Value) (l : Lane.Ln) (x : Lane.En) (w : World) (h : IsLane S w v l) (hx : IsEn S' w u x) (hn6 : l.es.length ≤ 65536) (hT1 : ∀ b, S b → T b) (hT2 : ∀ b, S' b → T b) (hT3 : ∀ b, w.heap.size ≤ b → T b) :
    Calls Try.prog 54 #[v, u] w (RLaneT w T ⟨l.es ++ [x], l.p⟩) := by
  obtain ⟨A, n, c, B, m, d, rfl, hE, hB, hWB⟩ := h
  obtain ⟨BA, bn, bc, LA, ln, lc, rfl, hb, hl, hwb, hwl⟩ := hx
  have HWB := hidT (hWB.mono hT1)
  have HT1 := hidT hT1
  have HT2 := hidT hT2
  have HT3 := hidT hT3
  clear hWB hT1 hT2 hT3
  have hen : IsEn S' w (.agg #[.int .i64 x.k, .int .i64 x.q, .slice BA bn bc, .slice LA ln lc, .bool x.h]) x := ⟨BA, bn, bc, LA, ln, lc, rfl, hb, hl, hwb, hwl⟩
  have hn65 : n ≤ 65536 := by rw [← hE.size]; exact hn6
  obtain ⟨rs, hK, hA, _⟩ := hE
  obtain ⟨t0, t1, t2, t4⟩ := three_alloc w (.cells #[.slice A n c, .int .i64 l.p.seq, .int .i64 l.p.total, .int .i64 l.p.got, .slice B m d] 27) (.cells #[.int .i64 x.k, .int .i64 x.q, .slice BA bn bc, .slice LA ln lc, .bool x.h] 33) (.cells lz 27)
  obtain ⟨W, hW⟩ : ∃ W, ((w.alloc (.cells #[.slice A n c, .int .i64 l.p.seq, .int .i64 l.p.total, .int .i64 l.p.got, .slice B m d] 27)).alloc (.cells #[.int .i64 x.k, .int .i64 x.q, .slice BA bn bc, .slice LA ln lc, .bool x.h] 33)).alloc (.cells lz 27) = W := ⟨_, rfl⟩
  have HSZ : Hid (W.heap.size = w.heap.size + 3) := by rw [← hW, size_alloc, size_alloc, size_alloc]; exact hidT rfl
  rw [hW] at t0 t1 t2 t4
  obtain ⟨g, hg⟩ : ∃ g, w.heap.size = g := ⟨_, rfl⟩
  have HG := hidT hg
  rw [hg] at t0 t1 t2
  have HW := hidT hW
  have T0 := hidT t0
  have T1 := hidT t1
  have T2 := hidT t2
  have T4 := hidT t4
  have HK := hidT hK
  have HA := hidT hA
  have HEN := hidT hen
  have HBB := hidT hB
  clear t0 t1 t2 t4 hW hK hA hen hB hb hl hwb hwl hn6
  go_enter Try.func54, Try.ntmps54
  go_wp2_with fail
  rw [HW.out]
  clear hg
  have D0 : Below W.heap.size W W.drew := (Below.refl _ _).drew
  have hg3 : g + 1 + 1 < W.heap.size := blk_lt T2.out
  have hg2 : g + 1 + 1 ≤ W.heap.size := by omega
  have cT00 : ∀ w', Below (g + 1 + 1) W w' → w'.cell? ⟨g, 0, none⟩ = some (.slice A n c) := fun w' hb => cell_at ((hb.block g (by omega)).trans T0.out) 0 rfl
  have cT01 : ∀ w', Below (g + 1 + 1) W w' → w'.cell? ⟨g, 1, none⟩ = some (.int .i64 l.p.seq) := fun w' hb => cell_at ((hb.block g (by omega)).trans T0.out) 1 rfl
  have cT02 : ∀ w', Below (g + 1 + 1) W w' → w'.cell? ⟨g, 2, none⟩ = some (.int .i64 l.p.total) := fun w' hb => cell_at ((hb.block g (by omega)).trans T0.out) 2 rfl
  have cT03 : ∀ w', Below (g + 1 + 1) W w' → w'.cell? ⟨g, 3, none⟩ = some (.int .i64 l.p.got) := fun w' hb => cell_at ((hb.block g (by omega)).trans T0.out) 3 rfl
  have cT04 : ∀ w', Below (g + 1 + 1) W w' → w'.cell? ⟨g, 4, none⟩ = some (.slice B m d) := fun w' hb => cell_at ((hb.block g (by omega)).trans T0.out) 4 rfl
  have cT10 : ∀ w', Below (g + 1 + 1) W w' → w'.cell? ⟨g + 1, 0, none⟩ = some (.int .i64 x.k) := fun w' hb => cell_at ((hb.block (g + 1) (by omega)).trans T1.out) 0 rfl
  have cT11 : ∀ w', Below (g + 1 + 1) W w' → w'.cell? ⟨g + 1, 1, none⟩ = some (.int .i64 x.q) := fun w' hb => cell_at ((hb.block (g + 1) (by omega)).trans T1.out) 1 rfl
  have cT12 : ∀ w', Below (g + 1 + 1) W w' → w'.cell? ⟨g + 1, 2, none⟩ = some (.slice BA bn bc) := fun w' hb => cell_at ((hb.block (g + 1) (by omega)).trans T1.out) 2 rfl
  have cT13 : ∀ w', Below (g + 1 + 1) W w' → w'.cell? ⟨g + 1, 3, none⟩ = some (.slice LA ln lc) := fun w' hb => cell_at ((hb.block (g + 1) (by omega)).trans T1.out) 3 rfl
  have cT14 : ∀ w', Below (g + 1 + 1) W w' → w'.cell? ⟨g + 1, 4, none⟩ = some (.bool x.h) := fun w' hb => cell_at ((hb.block (g + 1) (by omega)).trans T1.out) 4 rfl
  go_region_held_law (fun w' => Below (g + 1 + 1) W w')
    (first | exact D0.mono hg2 | exact hS1 | exact hb4.mono hg2 | exact hb3.mono hg2 | exact (nkeep_alloc hb3 _).mono hg2 | exact (nkeep_alloc D0 _).mono hg2 | exact (nkeep_alloc (nkeep_alloc D0 _) _).mono hg2)
    (first
      | (refine step_appK 5 (by omega) 11 rfl rfl (.tmp 8) (.tmp 10) 22 rfl W.heap.size 33 _ 72 infoE rfl (by omega) Try.underlying22 v3 (0 + n) ([] ++ rs) rfl (ho3.later (nkeep w3 (.cells #[.int .i64 x.k, .int .i64 x.q, .slice BA bn bc, .slice LA ln lc, .bool x.h] 33))) (some ⟨w3.heap.size, 0, none⟩) 1 1 [#[.int .i64 x.k, .int .i64 x.q, .slice BA bn bc, .slice LA ln lc, .bool x.h]] rfl (RdK.lit (k := 5) w3 33 (0, 0) #[.int .i64 x.k, .int .i64 x.q, .slice BA bn bc, .slice LA ln lc, .bool x.h] [#[.int .i64 x.k, .int .i64 x.q, .slice BA bn bc, .slice LA ln lc, .bool x.h]] (AllK.one rfl (by simp [Value.oneCell'])) (by simp [flat]) 1 rfl (by simp only [maxLen]; omega) w3.heap.size rfl) (by omega) (nkeep_alloc hb3 (.cells #[.int .i64 x.k, .int .i64 x.q, .slice BA bn bc, .slice LA ln lc, .bool x.h] 33)).size ?_
         intro v4 w4 ho4 hb4' hg4
         have hb4 : Below W.heap.size W w4 := (nkeep_alloc hb3 (.cells #[.int .i64 x.k, .int .i64 x.q, .slice BA bn bc, .slice LA ln lc, .bool x.h] 33)).trans hb4'
         rw [Nat.zero_add, List.nil_append] at ho4
         obtain ⟨A4, c4, rfl, hrd4⟩ := OwnK.rd ho4
         have y2 : w4.heap[g + 1 + 1]? = some (.cells lz 27 (0, 0)) := keepH T2.out hb4
         have fa0 := no_frozen y2 0
         have fa1 := no_frozen y2 1
         have fa2 := no_frozen y2 2
         have fa3 := no_frozen y2 3
         have fa4 := no_frozen y2 4
         obtain ⟨v0, v1, v2, v3', v4'⟩ := cells5 y2
         have hset := set5 y2 (.slice A4 (n + 1) c4) (.int .i64 l.p.seq) (.int .i64 l.p.total) (.int .i64 l.p.got) (.slice B m d)
         have hS1 : Below (g + 1 + 1) W (((((w4.setCell ⟨g + 1 + 1, 0, none⟩ (.slice A4 (n + 1) c4)).setCell ⟨g + 1 + 1, 1, none⟩ (.int .i64 l.p.seq)).setCell ⟨g + 1 + 1, 2, none⟩ (.int .i64 l.p.total)).setCell ⟨g + 1 + 1, 3, none⟩ (.int .i64 l.p.got)).setCell ⟨g + 1 + 1, 4, none⟩ (.slice B m d)) := hset.2.2 _ _ (hb4.mono hg2) (Nat.le_refl _))
      | (refine step_appK 5 (by omega) 11 rfl rfl (.tmp 8) (.tmp 10) 22 rfl W.heap.size 33 _ 72 infoE rfl (by omega) Try.underlying22 v3 (0 + n) ([] ++ rs) rfl ho3 (some ⟨W.heap.size + 1, 0, none⟩) 1 1 [#[.int .i64 x.k, .int .i64 x.q, .slice BA bn bc, .slice LA ln lc, .bool x.h]] rfl ((RdK.lit (k := 5) (W.drew.alloc (.cells #[] 33)) 33 (0, 0) #[.int .i64 x.k, .int .i64 x.q, .slice BA bn bc, .slice LA ln lc, .bool x.h] [#[.int .i64 x.k, .int .i64 x.q, .slice BA bn bc, .slice LA ln lc, .bool x.h]] (AllK.one rfl (by simp [Value.oneCell'])) (by simp [flat]) 1 rfl (by simp only [maxLen]; omega) (W.heap.size + 1) (size_alloc _ _)).grown hg3 (row_ne (by omega))) (by omega) (hb3).size ?_
         intro v4 w4 ho4 hb4' hg4
         have hb4 : Below W.heap.size W w4 := (hb3).trans hb4'
         rw [Nat.zero_add, List.nil_append] at ho4
         obtain ⟨A4, c4, rfl, hrd4⟩ := OwnK.rd ho4
         have y2 : w4.heap[g + 1 + 1]? = some (.cells lz 27 (0, 0)) := keepH T2.out hb4
         have fa0 := no_frozen y2 0
         have fa1 := no_frozen y2 1
         have fa2 := no_frozen y2 2
         have fa3 := no_frozen y2 3
         have fa4 := no_frozen y2 4
         obtain ⟨v0, v1, v2, v3', v4'⟩ := cells5 y2
         have hset := set5 y2 (.slice A4 (n + 1) c4) (.int .i64 l.p.seq) (.int .i64 l.p.total) (.int .i64 l.p.got) (.slice B m d)
         have hS1 : Below (g + 1 + 1) W (((((w4.setCell ⟨g + 1 + 1, 0, none⟩ (.slice A4 (n + 1) c4)).setCell ⟨g + 1 + 1, 1, none⟩ (.int .i64 l.p.seq)).setCell ⟨g + 1 + 1, 2, none⟩ (.int .i64 l.p.total)).setCell ⟨g + 1 + 1, 3, none⟩ (.int .i64 l.p.got)).setCell ⟨g + 1 + 1, 4, none⟩ (.slice B m d)) := hset.2.2 _ _ (hb4.mono hg2) (Nat.le_refl _))
      | (refine step_appK 5 (by omega) 11 rfl rfl (.tmp 8) (.tmp 10) 22 rfl W.heap.size 33 _ 72 infoE rfl (by omega) Try.underlying22 v3 (0 + n) ([] ++ rs) rfl ho3 (some ⟨W.heap.size, 0, none⟩) 1 1 [#[.int .i64 x.k, .int .i64 x.q, .slice BA bn bc, .slice LA ln lc, .bool x.h]] rfl (((RdK.lit (k := 5) W.drew 33 (0, 0) #[.int .i64 x.k, .int .i64 x.q, .slice BA bn bc, .slice LA ln lc, .bool x.h] [#[.int .i64 x.k, .int .i64 x.q, .slice BA bn bc, .slice LA ln lc, .bool x.h]] (AllK.one rfl (by simp [Value.oneCell'])) (by simp [flat]) 1 rfl (by simp only [maxLen]; omega) W.heap.size rfl).alloc (.cells #[] 33)).grown hg3 (row_ne (by omega))) (by omega) (hb3).size ?_
         intro v4 w4 ho4 hb4' hg4
         have hb4 : Below W.heap.size W w4 := (hb3).trans hb4'
         rw [Nat.zero_add, List.nil_append] at ho4
         obtain ⟨A4, c4, rfl, hrd4⟩ := OwnK.rd ho4
         have y2 : w4.heap[g + 1 + 1]? = some (.cells lz 27 (0, 0)) := keepH T2.out hb4
         have fa0 := no_frozen y2 0
         have fa1 := no_frozen y2 1
         have fa2 := no_frozen y2 2
         have fa3 := no_frozen y2 3
         have fa4 := no_frozen y2 4
         obtain ⟨v0, v1, v2, v3', v4'⟩ := cells5 y2
         have hset := set5 y2 (.slice A4 (n + 1) c4) (.int .i64 l.p.seq) (.int .i64 l.p.total) (.int .i64 l.p.got) (.slice B m d)
         have hS1 : Below (g + 1 + 1) W (((((w4.setCell ⟨g + 1 + 1, 0, none⟩ (.slice A4 (n + 1) c4)).setCell ⟨g + 1 + 1, 1, none⟩ (.int .i64 l.p.seq)).setCell ⟨g + 1 + 1, 2, none⟩ (.int .i64 l.p.total)).setCell ⟨g + 1 + 1, 3, none⟩ (.int .i64 l.p.got)).setCell ⟨g + 1 + 1, 4, none⟩ (.slice B m d)) := hset.2.2 _ _ (hb4.mono hg2) (Nat.le_refl _))
      | (refine step_appK 5 (by omega) 8 rfl rfl (.tmp 5) (.tmp 7) 22 rfl W.heap.size 33 _ 72 infoE rfl (by omega) Try.underlying22 (.slice (some ⟨W.heap.size, 0, none⟩) 0 0) 0 [] rfl (OwnK.made 5 W.drew W.heap.size (Nat.le_refl _) 33 W.heap.size rfl) A n c rs rfl (HK.out.below (bthen T4.out (nkeep_alloc D0 (.cells #[] 33)))) (by omega) ((nkeep_alloc D0 (.cells #[] 33))).size ?_
         intro v3 w3 ho3 hb3' hg3
         have hb3 : Below W.heap.size W w3 := (nkeep_alloc D0 (.cells #[] 33)).trans hb3')
      | (refine step_appK 5 (by omega) 8 rfl rfl (.tmp 5) (.tmp 7) 22 rfl W.heap.size 33 _ 72 infoE rfl (by omega) Try.underlying22 (.slice (some ⟨W.heap.size, 0, none⟩) 0 0) 0 [] rfl ((OwnK.made 5 W.drew W.heap.size (Nat.le_refl _) 33 W.heap.size rfl).later (nkeep _ (.cells #[.int .i64 x.k, .int .i64 x.q, .slice BA bn bc, .slice LA ln lc, .bool x.h] 33))) A n c rs rfl (HK.out.below (bthen T4.out (nkeep_alloc (nkeep_alloc D0 (.cells #[] 33)) (.cells #[.int .i64 x.k, .int .i64 x.q, .slice BA bn bc, .slice LA ln lc, .bool x.h] 33)))) (by omega) ((nkeep_alloc (nkeep_alloc D0 (.cells #[] 33)) (.cells #[.int .i64 x.k, .int .i64 x.q, .slice BA bn bc, .slice LA ln lc, .bool x.h] 33))).size ?_
         intro v3 w3 ho3 hb3' hg3
         have hb3 : Below W.heap.size W w3 := (nkeep_alloc (nkeep_alloc D0 (.cells #[] 33)) (.cells #[.int .i64 x.k, .int .i64 x.q, .slice BA bn bc, .slice LA ln lc, .bool x.h] 33)).trans hb3')
      | (refine step_appK 5 (by omega) 8 rfl rfl (.tmp 5) (.tmp 7) 22 rfl W.heap.size 33 _ 72 infoE rfl (by omega) Try.underlying22 (.slice (some ⟨W.heap.size + 1, 0, none⟩) 0 0) 0 [] rfl (OwnK.made 5 (W.drew.alloc (.cells #[.int .i64 x.k, .int .i64 x.q, .slice BA bn bc, .slice LA ln lc, .bool x.h] 33)) W.heap.size (by rw [size_alloc]; exact Nat.le_succ _) 33 (W.heap.size + 1) (size_alloc _ _)) A n c rs rfl (HK.out.below (bthen T4.out (nkeep_alloc (nkeep_alloc D0 (.cells #[.int .i64 x.k, .int .i64 x.q, .slice BA bn bc, .slice LA ln lc, .bool x.h] 33)) (.cells #[] 33)))) (by omega) ((nkeep_alloc (nkeep_alloc D0 (.cells #[.int .i64 x.k, .int .i64 x.q, .slice BA bn bc, .slice LA ln lc, .bool x.h] 33)) (.cells #[] 33))).size ?_
         intro v3 w3 ho3 hb3' hg3
         have hb3 : Below W.heap.size W w3 := (nkeep_alloc (nkeep_alloc D0 (.cells #[.int .i64 x.k, .int .i64 x.q, .slice BA bn bc, .slice LA ln lc, .bool x.h] 33)) (.cells #[] 33)).trans hb3')
      | fail)
  all_goals
    obtain ⟨hg7, hbx, hbel⟩ := hset
    have s0 := HG.out
    have bW : Below w.heap.size w (((((w4.setCell ⟨g + 1 + 1, 0, none⟩ (.slice A4 (n + 1) c4)).setCell ⟨g + 1 + 1, 1, none⟩ (.int .i64 l.p.seq)).setCell ⟨g + 1 + 1, 2, none⟩ (.int .i64 l.p.total)).setCell ⟨g + 1 + 1, 3, none⟩ (.int .i64 l.p.got)).setCell ⟨g + 1 + 1, 4, none⟩ (.slice B m d)) := T4.out.trans (hS1.mono (by omega))
    have rd13 := hrd4.but (fun b o e => by have := (ho4.addr b o e).1; omega) hbx
    have are13 := ((HA.out.mono HT1.out).below bW).app (AreE.one ((HEN.out.mono HT2.out).below bW))
    have hBB := HBB.out.below bW
    have hwA : Within T A4 (n + 1) := fun _ b o e => HT3.out b (by have := (ho4.addr b o e).1; have := HSZ.out; omega)
    clear hb3 hb3' hb4 hb4' hg3 hg4 ho3 ho4 hrd4 y2 fa0 fa1 fa2 fa3 fa4 v0 v1 v2 v3' v4' hS1
    obtain ⟨r0, r1, r2, r3, r4⟩ := cells5 hg7
    try go_wp2_with fail
    exact bodyPost_ret (v := .agg #[.slice A4 (n + 1) c4, .int .i64 l.p.seq, .int .i64 l.p.total, .int .i64 l.p.got, .slice B m d]) (by simp [results, Try.results54, go_sem, r0, r1, r2, r3, r4]) rfl
      ⟨_, rfl, ⟨A4, n + 1, c4, B, m, d, rfl, ⟨_, rd13, are13, hwA⟩, hBB, HWB.out⟩, bW⟩
end Go.Proofs.Ytmlmkkfieeaejaa
