/- Chapter 5's example, walked. -/
import Derived.Test.YtenefjkgnkelgaaNet8
import Derived.Lib.SlBytesConst
set_option maxRecDepth 100000
namespace Go.Proofs.Ytenefjkgnkelgaa
open Go.RowKit
set_option linter.unusedVariables false

theorem drop_in (b o n c : Nat) (ls : List Lt) (k : Nat) (w : World) (h : RdL w (some ⟨b, o, none⟩) n c ls) (hs : Small ls) (hk : k < n) :
    Calls Try.prog 13 #[.slice (some ⟨b, o, none⟩) n c, .int .i64 (k : Int)] w (FreshC w 29 (ls.take k ++ ls.drop (k + 1)) 0) := by
  have := drop_any (some ⟨b, o, none⟩) n c ls k w h hs
  rw [if_pos (by omega), if_pos (by omega), Int.toNat_natCast] at this
  exact this
theorem drop_out (A : Option Addr) (n c : Nat) (ls : List Lt) (i : Int) (w : World) (h : RdL w A n c ls) (hs : Small ls) (hi : ¬ (0 ≤ i ∧ i < n)) :
    Calls Try.prog 13 #[.slice A n c, .int .i64 i] w (FreshC w 29 ls 7) := by
  have := drop_any A n c ls i w h hs
  rw [if_neg hi, if_neg hi] at this
  exact this
theorem nstr_list (l : List UInt8) : (str l).toList = l := by rw [ByteArray.toList_eq]; rfl
theorem blk_lt {w : World} {g : Nat} {o : Obj} (h : w.heap[g]? = some o) : g < w.heap.size := by
  rcases Nat.lt_or_ge g w.heap.size with hlt | hge
  · exact hlt
  · rw [Array.getElem?_eq_none hge] at h; cases h
/-- The letter of the example. -/
def ab : Lt := ⟨2, [97, 98], false⟩
theorem small_ab : Small [ab] := Small.one (by simp [ab])
theorem small_ab2 : Small [ab, ab] := ⟨by simp, fun y hy => by
  simp only [List.mem_cons, List.not_mem_nil, or_false] at hy
  rcases hy with rfl | rfl <;> simp [ab]⟩

set_option maxRecDepth 100000 in
set_option maxHeartbeats 4000000 in
theorem nshown_any (w : World) : Calls Try.prog 9 #[] w (Yes w) := by
  have z1 := nstr_list [97, 98]
  have z2 := nstr_list [97, 99]
  have kc := fun (w : World) (C : Array Value) (n c : Nat) => Lib.run_convert_bytes_const (P := Try.prog) w 23 5 C n c Try.underlying23 Try.underlying5
  have p1 := put_any none 0 0 [] 2 (some ⟨w.heap.size, 0, none⟩) 2 2 [97, 98] (w.alloc (.cells #[.int .u8 97, .int .u8 98] 5 (2, 3))) (RdL.empty _ _) (Rd.lit w _ _ _ [97, 98] rfl 2 rfl (by simp only [maxLen]; omega)) ⟨by simp, fun x hx => by cases hx⟩ (by simp) (by simp)
  go_enter Try.func9, Try.ntmps9
  go_wp2_with fail
  with_reducible refine p1.mono ?_
  rintro e w1 ⟨g1, N1, hN1, rfl, hf1, hb1'⟩
  obtain rfl : 1 = N1 := hN1
  have hb1 : Below w.heap.size w w1 := bthen ((Below.refl _ _).alloc (Nat.le_refl _) _) hb1'
  have L1 : RdL w1 (some ⟨g1, 0, none⟩) 1 1 [ab] := hf1.rd rfl (by omega)
  clear p1 hb1' hf1 kc
  have p2 : Calls Try.prog 15 #[.slice (some ⟨g1, 0, none⟩) 1 1, .int .i64 0] w1 (FreshC w1 29 [ab, ab] 0) := dup_in g1 0 1 1 [ab] 0 ab w1 L1 small_ab (by simp) (by omega) rfl
  go_wp2_with fail
  with_reducible refine p2.mono ?_
  rintro e w2 ⟨g2, N2, hN2, rfl, hf2, hb2⟩
  obtain rfl : 2 = N2 := hN2
  have L2 : RdL w2 (some ⟨g2, 0, none⟩) 2 2 [ab, ab] := hf2.rd rfl (by omega)
  have hb02 := bthen hb1 hb2
  clear p2 hf2
  have p3 : Calls Try.prog 13 #[.slice (some ⟨g2, 0, none⟩) 2 2, .int .i64 0] w2 (FreshC w2 29 [ab] 0) := drop_in g2 0 2 2 [ab, ab] 0 w2 L2 small_ab2 (by omega)
  go_wp2_with fail
  with_reducible refine p3.mono ?_
  rintro e w3 ⟨g3, N3, hN3, rfl, hf3, hb3⟩
  obtain rfl : 1 = N3 := hN3
  have L3 : RdL w3 (some ⟨g3, 0, none⟩) 1 1 [ab] := hf3.rd rfl (by omega)
  have hb03 := bthen hb02 hb3
  clear p3 hf3
  have p4 : Calls Try.prog 11 #[.slice (some ⟨g3, 0, none⟩) 1 1, .int .i64 0] w3 (FreshG w3 29 ab [] 0) := give_in g3 0 1 1 [ab] 0 ab w3 L3 small_ab (by omega) rfl
  go_wp2_with fail
  with_reducible refine p4.mono ?_
  rintro e w4 ⟨A4, n4, c4, g4, N4, hN4, rfl, hr4, hf4, hb4⟩
  obtain rfl : 0 = N4 := hN4
  have hb04 := bthen hb03 hb4
  have e4 : ab.to = 2 := rfl
  have e4' : ab.sp = false := rfl
  rw [e4, e4']
  clear p4 hf4 e4 e4'
  obtain ⟨w5, hw5⟩ : ∃ w5, w5 = w4.alloc (.cells #[.int .i64 2, .slice A4 n4 c4, .bool false] 29) := ⟨_, rfl⟩
  have hb5 : Below w4.heap.size w4 w5 := by rw [hw5]; exact nkeep_alloc (Below.refl _ _) _
  have hx5 : w5.heap[w4.heap.size]? = some (.cells #[.int .i64 2, .slice A4 n4 c4, .bool false] 29 (0, 0)) := by rw [hw5]; exact alloc_at _ _ _ rfl
  have hb15 := bthen hb2 (bthen hb3 (bthen hb4 hb5))
  have p5 : Calls Try.prog 17 #[.slice (some ⟨g1, 0, none⟩) 1 1, .int .i64 0, .int .i64 1, .slice (some ⟨w5.heap.size, 0, none⟩) 1 1] (w5.alloc (.cells #[.int .u8 1] 5)) (FreshC (w5.alloc (.cells #[.int .u8 1] 5)) 29 [⟨2, [97, 99], true⟩] 0) :=
    nspoil_in g1 0 1 1 [ab] 0 ab 1 (some ⟨w5.heap.size, 0, none⟩) 1 1 [1] _ ((L1.below hb15).alloc _) (Rd.lit w5 _ _ _ [1] rfl 1 rfl (by simp only [maxLen]; omega)) small_ab (by omega) rfl
  have hsz5 : w4.heap.size + 1 = w5.heap.size := by rw [hw5, size_alloc]
  have HW5 := hidT hw5
  have HSZ := hidT hsz5
  clear hw5 hsz5
  go_wp2_with fail
  rw [← HW5.out, HSZ.out]
  clear HW5 HSZ
  with_reducible refine p5.mono ?_
  rintro e w6 ⟨g6, N6, hN6, rfl, hf6, hb6'⟩
  obtain rfl : 1 = N6 := hN6
  have hb6 : Below w5.heap.size w5 w6 := bthen (nkeep_alloc (Below.refl _ _) _) hb6'
  obtain ⟨A6, n6, c6, hh6, hr6⟩ := hf6.one
  have L6 : RdL w6 (some ⟨g6, 0, none⟩) 1 1 [⟨2, [97, 99], true⟩] := hf6.rd rfl (by omega)
  clear p5 hf6 hb6'
  have p7 := drop_out none 0 0 [] 0 w6 (RdL.empty _ _) ⟨by simp, fun x hx => by cases hx⟩ (by omega)
  go_wp2_with fail
  with_reducible refine p7.mono ?_
  rintro e w7 ⟨g7, N7, hN7, rfl, hf7, hb7⟩
  obtain rfl : 0 = N7 := hN7
  have hx7 := (hb7.block _ (blk_lt ((hb6.block _ (blk_lt hx5)).trans hx5))).trans ((hb6.block _ (blk_lt hx5)).trans hx5)
  have hh7 := (hb7.block _ (blk_lt hh6)).trans hh6
  obtain ⟨x0, x1, x2⟩ := cells3g hx7
  obtain ⟨y0, y1, y2⟩ := cells3g hh7
  have s4 := strs hr4 w7 (bthen hb5 (bthen hb6 hb7))
  have s6 := strs hr6 w7 hb7
  have e4 : ab.b = [97, 98] := rfl
  rw [e4] at s4
  have hb27 := bthen hb3 (bthen hb4 (bthen hb5 (bthen hb6 hb7)))
  have hb17 := bthen hb2 hb27
  have hb37 := bthen hb4 (bthen hb5 (bthen hb6 hb7))
  have hb07 := bthen hb1 hb17
  have L27 := L2.below hb27
  have L17 := L1.below hb17
  have L37 := L3.below hb37
  have L67 := L6.below hb7
  have p8 : Calls Try.prog 23 #[.slice (some ⟨g2, 0, none⟩) 2 2, .int .i64 2] w7 (Fresh w7 29 [ab, ab]) := all_any (some ⟨g2, 0, none⟩) 2 2 [ab, ab] 2 w7 L27 small_ab2
  clear p7 hf7 hx5 hh6 hx7 hh7 hr4 hr6 e4 L1 L2 L3 L6
  go_wp2_with fail
  with_reducible refine p8.mono ?_
  rintro e w8 ⟨g8, N8, hN8, rfl, hf8, hb8⟩
  obtain rfl : 2 = N8 := hN8
  have p9 : Calls Try.prog 23 #[.slice (some ⟨g2, 0, none⟩) 2 2, .int .i64 1] w8 (Fresh w8 29 []) := all_any (some ⟨g2, 0, none⟩) 2 2 [ab, ab] 1 w8 (L27.below hb8) small_ab2
  clear p8 hf8 x0 x1 x2 y0 y1 y2 s4 s6
  go_wp2_with fail
  with_reducible refine p9.mono ?_
  rintro e w9 ⟨g9, N9, hN9, rfl, hf9, hb9⟩
  obtain rfl : 0 = N9 := hN9
  have hb79 := bthen hb8 hb9
  have q1 := same_any _ _ _ [ab] _ _ _ [ab] w9 (L17.below hb79) (L37.below hb79)
  rw [show decide ([ab] = [ab]) = true from rfl] at q1
  clear p9 hf9
  go_wp2_with fail
  with_reducible refine q1.mono ?_
  rintro e w10 ⟨rfl, hb10⟩
  have hb710 := bthen hb79 hb10
  have q2 := same_any _ _ _ [ab] _ _ _ [⟨2, [97, 99], true⟩] w10 (L17.below hb710) (L67.below hb710)
  rw [show decide ([ab] = [⟨2, [97, 99], true⟩]) = false from rfl] at q2
  clear q1
  go_wp2_with fail
  with_reducible refine q2.mono ?_
  rintro e w11 ⟨rfl, hb11⟩
  go_wp2
  go_ret
  exact ⟨rfl, bthen hb07 (bthen hb710 hb11)⟩
end Go.Proofs.Ytenefjkgnkelgaa
