/- What the document's own Give and Drop come to. -/
import Derived.Test.YtenefjkgnkelgaaNet10
import Derived.Test.YtenefjkgnkelgaaNetL3
set_option maxRecDepth 100000
namespace Go.Proofs.Ytenefjkgnkelgaa
open Go.RowKit
set_option linter.unusedVariables false

theorem OwnT.but {w w' : World} {base n r : Nat} {e : TypeId} {v : Value} {ts : List Tri} (h : OwnT w base e v n ts) (hr : r < base) (hb : But r w w') : OwnT w' base e v n ts := by
  refine ⟨h.1, ?_⟩
  rcases h.2 with h2 | ⟨k, cap, cur, hv, hk, hh, q⟩
  · exact .inl h2
  · exact .inr ⟨k, cap, cur, hv, hk, (hb.2 k (by omega)).trans hh, q⟩
theorem set3 {w : World} {g : Nat} {b0 b1 b2 : Value} {t : TypeId} (h : w.heap[g]? = some (.cells #[b0, b1, b2] t (0, 0))) (a0 a1 a2 : Value) :
    (((w.setCell ⟨g, 0, none⟩ a0).setCell ⟨g, 1, none⟩ a1).setCell ⟨g, 2, none⟩ a2).heap[g]? = some (.cells #[a0, a1, a2] t (0, 0)) ∧ But g w (((w.setCell ⟨g, 0, none⟩ a0).setCell ⟨g, 1, none⟩ a1).setCell ⟨g, 2, none⟩ a2) := by
  have s0 : (w.setCell ⟨g, 0, none⟩ a0).heap[g]? = some (.cells #[a0, b1, b2] t (0, 0)) := heap_setCell_same w g 0 _ t a0 h
  have s1 : ((w.setCell ⟨g, 0, none⟩ a0).setCell ⟨g, 1, none⟩ a1).heap[g]? = some (.cells #[a0, a1, b2] t (0, 0)) := heap_setCell_same _ g 1 _ t a1 s0
  exact ⟨heap_setCell_same _ g 2 _ t a2 s1, ((But.setCell w g 0 a0).trans (But.setCell _ g 1 a1)).trans (But.setCell _ g 2 a2)⟩
/-- The zero letter's cells. -/
abbrev zL : Obj := .cells #[.int .i64 0, .slice none 0 0, .bool false] 29

theorem rgive_out (A : Option Addr) (n c : Nat) (ls : List Lt) (i : Int) (w : World) (h : RdL w A n c ls) (hi : ¬ (0 ≤ i ∧ i < n)) :
    Calls Try.prog 12 #[.slice A n c, .int .i64 i] w (RowG w ⟨0, [], false⟩ ls 7) := by
  have hle := h.le
  have hb1 : Below w.heap.size w (w.alloc zL) := nkeep_alloc (Below.refl _ _) _
  have hg1 : (w.alloc zL).heap[w.heap.size]? = some (.cells #[.int .i64 0, .slice none 0 0, .bool false] 29 (0, 0)) := alloc_at _ _ _ rfl
  by_cases h0 : 0 ≤ i
  · have q1 : decide (i < 0) = false := by simpa using h0
    have q2 : decide ((n : Int) ≤ i) = true := by simp; omega
    go_enter Try.func12, Try.ntmps12
    go_wp2_with (first
      | (refine wpList_stI rfl 29 (.tmp 4) (.tmp 15) rfl w.heap.size #[.int .i64 0, .slice none 0 0, .bool false] rfl rfl _ _ hg1 infoL3 rfl (all3 rfl rfl rfl) ?_
         intro w2 hh2 hbut hbel))
    obtain ⟨c0, c1, c2⟩ := cells3g hh2
    refine bodyPost_ret (v := .tuple #[.agg #[.int .i64 0, .slice none 0 0, .bool false], .slice A n c, .int .i64 7]) (by simp [results, Try.results12, go_sem, c0, c1, c2]) rfl ?_
    exact ⟨none, 0, 0, A, n, c, rfl, Rd.nil_ _, h.below (hbel _ _ hb1 (Nat.le_refl _)), hbel _ _ hb1 (Nat.le_refl _)⟩
  · have q1 : decide (i < 0) = true := by simp; omega
    go_enter Try.func12, Try.ntmps12
    go_wp2_with (first
      | (refine wpList_stI rfl 29 (.tmp 4) (.tmp 15) rfl w.heap.size #[.int .i64 0, .slice none 0 0, .bool false] rfl rfl _ _ hg1 infoL3 rfl (all3 rfl rfl rfl) ?_
         intro w2 hh2 hbut hbel))
    obtain ⟨c0, c1, c2⟩ := cells3g hh2
    refine bodyPost_ret (v := .tuple #[.agg #[.int .i64 0, .slice none 0 0, .bool false], .slice A n c, .int .i64 7]) (by simp [results, Try.results12, go_sem, c0, c1, c2]) rfl ?_
    exact ⟨none, 0, 0, A, n, c, rfl, Rd.nil_ _, h.below (hbel _ _ hb1 (Nat.le_refl _)), hbel _ _ hb1 (Nat.le_refl _)⟩

set_option maxHeartbeats 1000000 in
theorem rgive_in (b o n c : Nat) (ls : List Lt) (k : Nat) (x : Lt) (w : World) (h : RdL w (some ⟨b, o, none⟩) n c ls) (hn : n ≤ 65536) (hk : k < n) (hx : ls[k]? = some x) :
    Calls Try.prog 12 #[.slice (some ⟨b, o, none⟩) n c, .int .i64 (k : Int)] w (RowG w x (ls.take k ++ ls.drop (k + 1)) 0) := by
  obtain ⟨ts, h1, h2⟩ := h.tri
  have hs := h.size
  have hcap := h.cap
  have hcle := h.cle
  have hkt : k < ts.length := by rw [h2.1]; omega
  obtain ⟨t, ht⟩ : ∃ t, ts[k]? = some t := ⟨_, List.getElem?_eq_getElem hkt⟩
  have hi := h2.2 k t x ht hx
  obtain ⟨c1, c2, c3⟩ := h1.at_ ht
  rw [hi.1] at c1
  rw [hi.2.1] at c3
  have q1 : decide ((k : Int) < 0) = false := by simp
  have q2 : decide ((n : Int) ≤ (k : Int)) = false := by simp; omega
  have q3 : (0 : Int) ≤ (k : Int) := by omega
  have q4 : (k : Int) < (n : Int) := by omega
  have q5 : (k : Int) ≤ (c : Int) := by omega
  have q6 : (0 : Int) ≤ (k : Int) + 1 := by omega
  have q7 : (k : Int) + 1 ≤ (n : Int) := by omega
  have q8 : IntKind.i64.wrap ((k : Int) + 1) = (k : Int) + 1 := IntWalk.i64_in _ (by omega)
  have q9 : ((k : Int) + 1).toNat = k + 1 := by omega
  have hT1 := h1.take (k := k) (by omega)
  obtain ⟨X, hX⟩ : ∃ X, (if c = k + 1 then some (⟨b, o, none⟩ : Addr) else some ⟨b, o + (k + 1) * 3, none⟩) = X := ⟨_, rfl⟩
  have hT2 : RdT w X (n - (k + 1)) (c - (k + 1)) (ts.drop (k + 1)) := by
    rw [← hX]
    split
    · rename_i hc
      rw [List.drop_of_length_le (by rw [h2.1]; omega), show n - (k + 1) = 0 from by omega, show c - (k + 1) = 0 from by omega]
      exact ⟨rfl, Nat.le_refl _, Nat.zero_le _, fun _ => rfl, fun h => absurd h (by omega)⟩
    · exact h1.drop (by omega)
  have hAL := (h2.take k).app (h2.drop (k + 1))
  obtain ⟨w1, hw1⟩ : ∃ w1, w.alloc zL = w1 := ⟨_, rfl⟩
  have hb1 : Below w.heap.size w w1 := by rw [← hw1]; exact nkeep_alloc (Below.refl _ _) _
  have hg1 : w1.heap[w.heap.size]? = some (.cells #[.int .i64 0, .slice none 0 0, .bool false] 29 (0, 0)) := by rw [← hw1]; exact alloc_at _ _ _ rfl
  have hl1 : w.heap.size < w1.heap.size := blk_lt hg1
  have k1 := fun w' (hb : Below w.heap.size w w') => (hb.cell (World.block_lt_of_cell? _ _ c1)).trans c1
  have k2 := fun w' (hb : Below w.heap.size w w') => (hb.cell (World.block_lt_of_cell? _ _ c2)).trans c2
  have k3 := fun w' (hb : Below w.heap.size w w') => (hb.cell (World.block_lt_of_cell? _ _ c3)).trans c3
  have HI := hidT hi
  have HT1 := hidT hT1
  have HT2 := hidT hT2
  have HAL := hidT hAL
  have HG1 := hidT hg1
  have HW1 := hidT hw1
  clear hi ht h hx hkt hs h1 h2 c1 c2 c3 hT1 hT2 hAL hw1 hg1
  obtain ⟨r, hr⟩ : ∃ r, r = w.heap.size := ⟨_, rfl⟩
  have HR := hidT hr
  clear hr
  have D0 : Below w1.heap.size w1 w1.drew := (Below.refl _ _).drew
  go_enter Try.func12, Try.ntmps12
  go_wp2_with fail
  rw [HW1.out, ← HR.out]
  rw [← HR.out] at hl1 HG1
  have hr0 : w.heap.size ≤ r := by rw [HR.out]; exact Nat.le_refl _
  go_region_held_law (fun w' => Below w.heap.size w w')
    (first | exact hb1.drew | exact hbE | exact bthen hb1 hb4 | exact bthen hb1 hb3 | exact nkeep_alloc hb1.drew _)
    (first
      | (refine step_appT 25 rfl rfl (.tmp 21) (.tmp 24) 22 rfl w1.heap.size 29 (.agg #[.int .i64 0, .slice none 0 0, .bool false]) 40 infoL rfl (by omega) Try.underlying22 (.slice (some ⟨w1.heap.size, 0, none⟩) 0 0) 0 [] rfl (made0 w1.drew w1.heap.size (Nat.le_refl _) _) (some ⟨b, o, none⟩) k c (ts.take k) rfl (HT1.out.below (bthen hb1 (nkeep_alloc D0 _))) (by omega) (nkeep_alloc D0 _).size ?_
         intro v3 w3 ho3 hb3' hg3
         have hb3 : Below w1.heap.size w1 w3 := (nkeep_alloc D0 _).trans hb3')
      | (refine step_appT 30 rfl rfl (.tmp 25) (.tmp 29) 22 rfl w1.heap.size 29 (.agg #[.int .i64 0, .slice none 0 0, .bool false]) 40 infoL rfl (by omega) Try.underlying22 v3 (0 + k) ([] ++ ts.take k) rfl ho3 X (n - (k + 1)) (c - (k + 1)) (ts.drop (k + 1)) rfl (HT2.out.below (bthen hb1 hb3)) (by omega) hb3.size ?_
         intro v4 w4 ho4 hb4' hg4
         have hb4 : Below w1.heap.size w1 w4 := hb3.trans hb4'
         have g4 : w4.heap[r]? = some (.cells #[.int .i64 0, .slice none 0 0, .bool false] 29 (0, 0)) := (hb4.block _ hl1).trans HG1.out
         obtain ⟨y0, y1, y2⟩ := cells3g g4
         have f0 := frozen_of_row w4 r 0 _ _ g4
         have f1 := frozen_of_row w4 r 1 _ _ g4
         have f2 := frozen_of_row w4 r 2 _ _ g4
         have hbE : Below w.heap.size w (((w4.setCell ⟨r, 0, none⟩ (.int .i64 x.to)).setCell ⟨r, 1, none⟩ (.slice t.A t.n t.c)).setCell ⟨r, 2, none⟩ (.bool x.sp)) := (((bthen hb1 hb4).setCell (p := ⟨r, 0, none⟩) hr0 _).setCell (p := ⟨r, 1, none⟩) hr0 _).setCell (p := ⟨r, 2, none⟩) hr0 _))
  obtain ⟨s3, but3⟩ := set3 g4 (.int .i64 x.to) (.slice t.A t.n t.c) (.bool x.sp)
  have ho5 := ho4.but hl1 but3
  rw [List.nil_append] at ho5
  generalize (((w4.setCell ⟨r, 0, none⟩ (.int .i64 x.to)).setCell ⟨r, 1, none⟩ (.slice t.A t.n t.c)).setCell ⟨r, 2, none⟩ (.bool x.sp)) = W5 at hbE s3 but3 ho5 ⊢
  obtain ⟨A5, c5, rfl, hr5⟩ := OwnT.rdl ho5 (HAL.out.below hbE)
  obtain ⟨d0, d1, d2⟩ := cells3g s3
  have HO := hidT hr5
  have hrx : Rd W5 t.A t.n t.c x.b := HI.out.2.2.below hbE
  have HRX := hidT hrx
  clear ho5 ho4 ho3 hr5 s3 but3 hrx y0 y1 y2 f0 f1 f2 g4 hg4 hg3
  go_wp2
  refine bodyPost_ret (v := .tuple #[.agg #[.int .i64 x.to, .slice t.A t.n t.c, .bool x.sp], .slice A5 (0 + k + (n - (k + 1))) c5, .int .i64 0]) (by simp [results, Try.results12, go_sem, d0, d1, d2]) rfl ?_
  exact ⟨_, _, _, _, _, _, rfl, HRX.out, HO.out, hbE⟩

set_option maxHeartbeats 1000000 in
theorem rdrop_in (b o n c : Nat) (ls : List Lt) (k : Nat) (w : World) (h : RdL w (some ⟨b, o, none⟩) n c ls) (hn : n ≤ 65536) (hk : k < n) :
    Calls Try.prog 14 #[.slice (some ⟨b, o, none⟩) n c, .int .i64 (k : Int)] w (RowC w (ls.take k ++ ls.drop (k + 1)) 0) := by
  have hs := h.size
  have hg := rgive_in b o n c ls k _ w h hn hk (List.getElem?_eq_getElem (by omega))
  go_enter Try.func14, Try.ntmps14
  go_wp2_with fail
  with_reducible refine hg.mono ?_
  rintro e w1 ⟨B, m, d, A1, n1, c1, rfl, hr1, hr, hb1⟩
  clear hg
  go_wp2
  go_ret2
  exact ⟨A1, n1, c1, rfl, hr.alloc _, nkeep_alloc hb1 _⟩
theorem rdrop_out (A : Option Addr) (n c : Nat) (ls : List Lt) (i : Int) (w : World) (h : RdL w A n c ls) (hi : ¬ (0 ≤ i ∧ i < n)) :
    Calls Try.prog 14 #[.slice A n c, .int .i64 i] w (RowC w ls 7) := by
  have hg := rgive_out A n c ls i w h hi
  clear hi
  go_enter Try.func14, Try.ntmps14
  go_wp2_with fail
  with_reducible refine hg.mono ?_
  rintro e w1 ⟨B, m, d, A1, n1, c1, rfl, hr1, hr, hb1⟩
  clear hg
  go_wp2
  go_ret2
  exact ⟨A1, n1, c1, rfl, hr.alloc _, nkeep_alloc hb1 _⟩
end Go.Proofs.Ytenefjkgnkelgaa
