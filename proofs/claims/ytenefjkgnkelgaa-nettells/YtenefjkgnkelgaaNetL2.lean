/- The law NetBack, walked. -/
import Derived.Test.YtenefjkgnkelgaaNetLaw
set_option maxRecDepth 100000
namespace Go.Proofs.Ytenefjkgnkelgaa
open Go.RowKit
set_option linter.unusedVariables false

theorem one_lit' (w : World) (q : Int) (B : Option Addr) (m d : Nat) (b : List UInt8) (s : Bool) (hB : Rd w B m d b) (t : TypeId) (g : Nat) (hg : w.heap.size = g) : RdL (w.alloc (.cells #[.int .i64 q, .slice B m d, .bool s] t)) (some ⟨g, 0, none⟩) 1 1 [⟨q, b, s⟩] := by
  subst hg
  exact one_lit w q B m d b s hB t
/-- Two rows of one letter, just laid, are the same. -/
theorem two_lit (w0 w : World) (hb : Below w0.heap.size w0 w) (q : Int) (s : Bool) (A : Option Addr) (n c : Nat) (B : Option Addr) (m d : Nat) (l : List UInt8) (hA : Rd w0 A n c l) (hB : Rd w0 B m d l) (t : TypeId) :
    Calls Try.prog 19 #[.slice (some ⟨w.heap.size, 0, none⟩) 1 1, .slice (some ⟨w.heap.size + 1, 0, none⟩) 1 1] ((w.alloc (.cells #[.int .i64 q, .slice A n c, .bool s] t)).alloc (.cells #[.int .i64 q, .slice B m d, .bool s] t)) (Says ((w.alloc (.cells #[.int .i64 q, .slice A n c, .bool s] t)).alloc (.cells #[.int .i64 q, .slice B m d, .bool s] t)) true) :=
  rsame_yes _ _ _ [⟨q, l, s⟩] _ _ _ _ ((one_lit' w q A n c l s (hA.below hb) t _ rfl).alloc _) (one_lit' _ q B m d l s ((hB.below hb).alloc _) t _ (size_alloc _ _))
theorem two_lit' (w0 w : World) (hb : Below w0.heap.size w0 w) (q : Int) (s : Bool) (A : Option Addr) (n c : Nat) (B : Option Addr) (m d : Nat) (l : List UInt8) (hA : Rd w0 A n c l) (hB : Rd w0 B m d l) (t : TypeId) :
    Calls Try.prog 19 #[.slice (some ⟨w.heap.size + 1, 0, none⟩) 1 1, .slice (some ⟨w.heap.size, 0, none⟩) 1 1] ((w.alloc (.cells #[.int .i64 q, .slice B m d, .bool s] t)).alloc (.cells #[.int .i64 q, .slice A n c, .bool s] t)) (Says ((w.alloc (.cells #[.int .i64 q, .slice B m d, .bool s] t)).alloc (.cells #[.int .i64 q, .slice A n c, .bool s] t)) true) :=
  rsame_yes _ _ _ [⟨q, l, s⟩] _ _ _ _ (one_lit' _ q A n c l s ((hA.below hb).alloc _) t _ (size_alloc _ _)) ((one_lit' w q B m d l s (hB.below hb) t _ rfl).alloc _)
theorem cut_rd' {w : World} {g n c k : Nat} {ls : List Lt} (h : RdL w (some ⟨g, 0, none⟩) n c ls) (hk : k ≤ n) : RdL w (if c = k then some ⟨g, 0, none⟩ else some ⟨g, k * 3, none⟩) (n - k) (c - k) (ls.drop k) := by
  have := cut_rd h hk
  rw [Nat.zero_add] at this
  split
  · rename_i hc; rw [if_pos hc] at this; exact this
  · rename_i hc; rw [if_neg hc] at this; exact this

set_option maxRecDepth 100000 in
set_option maxHeartbeats 4000000 in
theorem back_in (A : Option Addr) (n c : Nat) (ls : List Lt) (q : Int) (B : Option Addr) (m d : Nat) (b : List UInt8) (kk : Int) (w : World) (h : RdL w A n c ls) (hB : Rd w B m d b) (hf : few ls 60 = true) (hm : m ≤ 1000) (hk0 : 0 ≤ kk) (hk1 : kk < 256) :
    Calls Try.prog 4 #[.agg #[.slice A n c, .int .i64 q, .slice B m d, .int .u8 kk]] w (Yes w) := by
  have hs := small_of_few hf (by omega)
  have hn := h.size
  have hn60 : ls.length ≤ 60 := ((few_iff _ _).1 hf).1
  have hn6 : n ≤ 60 := by omega
  have hbl := hB.1
  have hq1 : decide ((1000 : Int) < (m : Int)) = false := by simp; omega
  have HN := hidT hn
  have HS := hidT hs
  obtain ⟨w0, hw0⟩ : ∃ w0, w.alloc (.cells #[.slice A n c, .int .i64 q, .slice B m d, .int .u8 kk] 46) = w0 := ⟨_, rfl⟩
  have hb0 : Below w.heap.size w w0 := by rw [← hw0]; exact nkeep_alloc (Below.refl _ _) _
  have HW0 := hidT hw0
  clear hn hn60 hw0
  go_enter Try.func4, Try.ntmps4
  go_wp2_with fail
  rw [HW0.out]
  clear HW0
  with_reducible refine (nshown_any _).mono ?_
  rintro e w1 ⟨rfl, hb1'⟩
  have hb1 := bthen hb0 hb1'
  have h1 := h.below hb1
  go_wp2_with fail
  with_reducible refine (few60 _ _ _ ls _ h1 true hf).mono ?_
  rintro e w2 ⟨rfl, rfl⟩
  have hp := put_any A n c ls q B m d b w1 h1 (hB.below hb1) hs (by have := HN.out; omega) (by omega)
  clear h1 hb1'
  go_wp2_with fail
  with_reducible refine hp.mono ?_
  rintro e w2 ⟨g1, N1, hN1, rfl, hf1, hb2⟩
  have hN1' : N1 = n + 1 := by rw [List.length_append] at hN1; have := HN.out; simp at hN1; omega
  have hr1 := hf1.rd hN1 (by omega)
  have hsm : Small (ls ++ [⟨q, b, false⟩]) := hs.snoc (by have := HN.out; omega) (show b.length ≤ 65536 by omega)
  have hg := give_in g1 0 N1 N1 _ n ⟨q, b, false⟩ w2 hr1 hsm (by omega) (by rw [List.getElem?_append_right (by have := HN.out; omega), HN.out, Nat.sub_self]; rfl)
  rw [List.take_left' HN.out, List.drop_of_length_le (by rw [List.length_append, HN.out]; simp), List.append_nil] at hg
  have hb02 := bthen hb1 hb2
  obtain ⟨M, hM⟩ : ∃ M, ls ++ [(⟨q, b, false⟩ : Lt)] = M := ⟨_, rfl⟩
  rw [hM] at hr1 hsm hN1
  have HM := hidT hM
  have HN1 := hidT hN1'
  have HNM := hidT hN1
  clear hp hf1 hN1' hM hN1
  go_wp2_with fail
  with_reducible refine hg.mono ?_
  rintro e w3 ⟨A3, n3, c3, g3, N3, hN3, rfl, hr3, hf3, hb3⟩
  obtain rfl : n = N3 := by have := HN.out; omega
  have hr3' := hf3.rd hN3 (by omega)
  have hb03 := bthen hb02 hb3
  dsimp only at hr3 ⊢
  obtain ⟨w4, hw4⟩ : ∃ w4, w3.alloc (.cells #[.int .i64 q, .slice A3 n3 c3, .bool false] 29) = w4 := ⟨_, rfl⟩
  have hb4 : Below w3.heap.size w3 w4 := by rw [← hw4]; exact nkeep_alloc (Below.refl _ _) _
  have gw4 : w4.heap[w3.heap.size]? = some (.cells #[.int .i64 q, .slice A3 n3 c3, .bool false] 29 (0, 0)) := by rw [← hw4]; exact alloc_at _ _ _ rfl
  obtain ⟨y0, y1, y2⟩ := cells3g gw4
  have hb04 := bthen hb03 hb4
  have s1 := strs hr3 w4 hb4
  have s2 := strs hB w4 hb04
  rw [← hw4] at s1 s2 y0 y1 y2
  have hS1 := rsame_yes _ _ _ ls _ _ _ w4 (hr3'.below hb4) (h.below hb04)
  have a1 : ((N1 : Int) == (n : Int) + 1) = true := by simp; have := HN1.out; omega
  have a2 : ((N1 : Int) != (n : Int) + 1) = false := by simp; have := HN1.out; omega
  have HW4 := hidT hw4
  clear hg hN3 hf3 hr3 hr3' hw4 gw4
  go_wp2_with fail
  rw [HW4.out]
  with_reducible refine hS1.mono ?_
  rintro e w5 ⟨rfl, hb5⟩
  have hb05 := bthen hb04 hb5
  obtain ⟨i, hi⟩ : ∃ i : Nat, kk % (N1 : Int) = (i : Int) := ⟨(kk % (N1 : Int)).toNat, by have := HN1.out; have := Int.emod_nonneg kk (b := N1) (by omega); omega⟩
  have hin : i < N1 := by have := HN1.out; have := Int.emod_lt_of_pos kk (b := N1) (by omega); omega
  have hn0 : ¬ (N1 : Int) = 0 := by have := HN1.out; omega
  have HI := hidT hi
  have hrM := hr1.below (bthen hb3 (bthen hb4 hb5))
  have hMl := HNM.out
  obtain ⟨v, hv⟩ : ∃ v, M[i]? = some v := ⟨_, List.getElem?_eq_getElem (by omega)⟩
  have hN62 : N1 ≤ 61 := by have := HN1.out; omega
  have hdp := dup_in g1 0 N1 N1 M i v w5 hrM hsm (by omega) hin hv
  clear hS1 s1 s2 y0 y1 y2 HW4 hi hr1
  go_wp2_with fail
  rw [HI.out]
  with_reducible refine hdp.mono ?_
  rintro e w6 ⟨g6, N6, hN6, rfl, hf6, hb6⟩
  have hN6' : N6 = N1 + 1 := by rw [List.length_append] at hN6; simp at hN6; omega
  have hr6 := hf6.rd hN6 (by omega)
  have hvb := hsm.2 v (List.mem_of_getElem? hv)
  have hsm6 : Small (M ++ [v]) := hsm.snoc (by omega) hvb
  have hb06 := bthen hb05 hb6
  have hd := drop_in g6 0 N6 N6 _ N1 w6 hr6 hsm6 (by omega)
  rw [List.take_left' hMl, List.drop_of_length_le (by rw [List.length_append, hMl]; simp), List.append_nil] at hd
  have HN6 := hidT hN6'
  clear hdp hf6 hN6 hN6'
  go_wp2_with fail
  with_reducible refine hd.mono ?_
  rintro e w7 ⟨g7, N7, hN7, rfl, hf7, hb7⟩
  obtain rfl : N1 = N7 := by omega
  have hr7 := hf7.rd hMl (by omega)
  have hb07 := bthen hb06 hb7
  have hgd := give_in g6 0 N6 N6 _ N1 v w7 (hr6.below hb7) hsm6 (by have := HN6.out; omega) (by rw [List.getElem?_append_right (by omega), hMl, Nat.sub_self]; rfl)
  rw [List.take_left' hMl, List.drop_of_length_le (by rw [List.length_append, hMl]; simp), List.append_nil] at hgd
  clear hd hf7 hN7
  go_wp2_with fail
  with_reducible refine hgd.mono ?_
  rintro e w8 ⟨A8, n8, c8, g8, N8, hN8, rfl, hr8, hf8, hb8⟩
  obtain ⟨w9, hw9⟩ : ∃ w9, w8.alloc (.cells #[.int .i64 v.to, .slice A8 n8 c8, .bool v.sp] 29) = w9 := ⟨_, rfl⟩
  have hb9 : Below w8.heap.size w8 w9 := by rw [← hw9]; exact nkeep_alloc (Below.refl _ _) _
  have gw9 : w9.heap[w8.heap.size]? = some (.cells #[.int .i64 v.to, .slice A8 n8 c8, .bool v.sp] 29 (0, 0)) := by rw [← hw9]; exact alloc_at _ _ _ rfl
  have hb79 := bthen hb8 hb9
  have hb09 := bthen hb07 hb79
  have hgi := give_in g1 0 N1 N1 M i v w9 (hrM.below (bthen hb6 (bthen hb7 hb79))) hsm hin hv
  have HW9 := hidT hw9
  clear hgd hf8 hN8 hw9
  go_wp2_with fail
  rw [HW9.out]
  with_reducible refine hgi.mono ?_
  rintro e w10 ⟨A10, n10, c10, g10, N10, hN10, rfl, hr10, hf10, hb10⟩
  obtain rfl : n = N10 := by rw [List.length_append, List.length_take, List.length_drop, hMl] at hN10; have := HN1.out; omega
  obtain ⟨W, hW⟩ : ∃ W, w10.alloc (.cells #[.int .i64 v.to, .slice A10 n10 c10, .bool v.sp] 29) = W := ⟨_, rfl⟩
  have hbW : Below w10.heap.size w10 W := by rw [← hW]; exact nkeep_alloc (Below.refl _ _) _
  have gW : W.heap[w10.heap.size]? = some (.cells #[.int .i64 v.to, .slice A10 n10 c10, .bool v.sp] 29 (0, 0)) := by rw [← hW]; exact alloc_at _ _ _ rfl
  have hb9W := bthen hb10 hbW
  have hb7W := bthen hb79 hb9W
  have hb5W := bthen hb6 (bthen hb7 hb7W)
  have hb0W := bthen hb05 hb5W
  have gW9 := (hb9W.block _ (blk_lt gw9)).trans gw9
  have K1 := fun w' (hb : Below W.heap.size W w') => (cells3g ((hb.block _ (blk_lt gW)).trans gW)).1
  have K2 := fun w' (hb : Below W.heap.size W w') => (cells3g ((hb.block _ (blk_lt gW)).trans gW)).2.1
  have K3 := fun w' (hb : Below W.heap.size W w') => (cells3g ((hb.block _ (blk_lt gW)).trans gW)).2.2
  have K4 := fun w' (hb : Below W.heap.size W w') => (cells3g ((hb.block _ (blk_lt gW9)).trans gW9)).1
  have K5 := fun w' (hb : Below W.heap.size W w') => (cells3g ((hb.block _ (blk_lt gW9)).trans gW9)).2.1
  have K6 := fun w' (hb : Below W.heap.size W w') => (cells3g ((hb.block _ (blk_lt gW9)).trans gW9)).2.2
  have rM := hrM.below hb5W
  have r7 := hr7.below hb7W
  have r8 := hr8.below (bthen hb9 hb9W)
  have r10 := hr10.below hbW
  have rr := (hf10.rd hN10 (by omega)).below hbW
  have C1 := fun w' (hb : Below W.heap.size W w') => rsame_yes _ _ _ M _ _ _ w' (r7.below hb) (rM.below hb)
  have C2 := fun w' (hb : Below W.heap.size W w') => two_lit W w' hb v.to v.sp A8 n8 c8 A10 n10 c10 v.b r8 r10 29
  have C2' := fun w' (hb : Below W.heap.size W w') => two_lit' W w' hb v.to v.sp A8 n8 c8 A10 n10 c10 v.b r8 r10 29
  have hMi : (M.take i).length = i := by rw [List.length_take]; omega
  have L1 := rr.take (k := i) (by have := HN1.out; omega)
  rw [List.take_left' hMi] at L1
  have L2 := rM.take (k := i) (by omega)
  have C3 := fun w' (hb : Below W.heap.size W w') => rsame_yes _ _ _ _ _ _ _ w' (L1.below hb) (L2.below hb)
  have L3 := cut_rd' rr (k := i) (by have := HN1.out; omega)
  rw [List.drop_left' hMi] at L3
  have L4 := cut_rd' rM (k := i + 1) (by omega)
  obtain ⟨X1, hX1⟩ : ∃ X1, (if n = i then some (⟨g10, 0, none⟩ : Addr) else some ⟨g10, i * 3, none⟩) = X1 := ⟨_, rfl⟩
  obtain ⟨X2, hX2⟩ : ∃ X2, (if N1 = i + 1 then some (⟨g1, 0, none⟩ : Addr) else some ⟨g1, (i + 1) * 3, none⟩) = X2 := ⟨_, rfl⟩
  rw [hX1] at L3
  rw [hX2] at L4
  have C4 := fun w' (hb : Below W.heap.size W w') => rsame_yes _ _ _ _ _ _ _ w' (L3.below hb) (L4.below hb)
  have HC1 := hidT C1
  have HC2 := hidT C2
  have HC2' := hidT C2'
  have HC3 := hidT C3
  have HC4 := hidT C4
  have HW := hidT hW
  have z1 : (0 : Int) ≤ (i : Int) := by omega
  have z2 : (i : Int) ≤ (n : Int) := by have := HN1.out; omega
  have z3 : (i : Int) ≤ (N1 : Int) := by omega
  have z4 : (0 : Int) ≤ (i : Int) + 1 := by omega
  have z5 : (i : Int) + 1 ≤ (N1 : Int) := by omega
  have z6 : IntKind.i64.wrap ((i : Int) + 1) = (i : Int) + 1 := IntWalk.i64_in _ (by omega)
  have z7 : ((i : Int) + 1).toNat = i + 1 := by omega
  have z8 : IntKind.i64.wrap ((N1 : Int) + 1) = (N1 : Int) + 1 := IntWalk.i64_in _ (by omega)
  have z9 : ((N6 : Int) == (N1 : Int) + 1) = true := by simp; have := HN6.out; omega
  clear C1 C2 C2' C3 C4 L1 L2 L3 L4 hMi hW gW gw9 gW9 rM r7 r8 r10 rr hgi hf10 hN10 hr8 hr10 hr7 hrM hr6
  go_wp2_with fail
  rw [HW.out]
  clear HW
  go_region_held_law (fun w' => Below W.heap.size W w')
    (first | exact (Below.refl _ _).drew | exact hb14 | exact hb13 | exact hb12 | exact nkeep_alloc (nkeep_alloc hb11 _) _ | exact nkeep_alloc hb11 _ | exact hb11)
    (first
      | (go_at_call 19; ((with_reducible refine (HC1.out _ (Below.refl _ _).drew).mono ?_); rintro e11 w11 ⟨rfl, hb11'⟩; have hb11 : Below W.heap.size W w11 := undrew hb11'))
      | (go_at_call 19; ((with_reducible refine (HC2.out w11 hb11).mono ?_); rintro e12 w12 ⟨rfl, hb12'⟩; have hb12 : Below W.heap.size W w12 := bthen (nkeep_alloc (nkeep_alloc hb11 _) _) hb12'))
      | (go_at_call 19; ((with_reducible refine (HC2'.out w11 hb11).mono ?_); rintro e12 w12 ⟨rfl, hb12'⟩; have hb12 : Below W.heap.size W w12 := bthen (nkeep_alloc (nkeep_alloc hb11 _) _) hb12'))
      | (go_at_call 19; ((with_reducible refine (HC3.out w12 hb12).mono ?_); rintro e13 w13 ⟨rfl, hb13'⟩; have hb13 : Below W.heap.size W w13 := bthen hb12 hb13'))
      | (go_at_call 19; ((with_reducible refine (HC4.out w13 hb13).mono ?_); rintro e14 w14 ⟨rfl, hb14'⟩; have hb14 : Below W.heap.size W w14 := bthen hb13 hb14')))
  all_goals
    go_wp2
    go_ret
    exact ⟨rfl, bthen hb0W hb14⟩
end Go.Proofs.Ytenefjkgnkelgaa
