/- What pkt.takeTail comes to, of questions and stable ones. (Written by wip/gen/pkt8.py.) -/
import Derived.Test.YtahkhideepncfaaDoorPkt8
set_option maxRecDepth 100000
namespace Go.Proofs.YtahkhideepncfaaDoor
open Go.RowKit
set_option linter.unusedVariables false

theorem rest_le (r : List UInt8) (k : Int) : (Num.rest r k).length ≤ r.length := by
  unfold Num.rest
  split
  · rw [List.length_drop]; omega
  · exact Nat.zero_le _
set_option maxHeartbeats 4000000 in
theorem ptake_3 (f : Int) (A : Option Addr) (n c : Nat) (r : List UInt8) (w : World) (hw : Wd w) (h : Rd w A n c r) (hn : n ≤ 65536) :
    Calls Tryd.prog 21 #[.agg #[.int .i64 3, .int .i64 f, .int .i64 0, .int .i64 0, .int .i64 0, .int .i64 0, .int .i64 0, .int .i64 0, .slice none 0 0, .slice none 0 0, .int .i64 0, .int .i64 0, .int .i64 0, .int .i64 0, .slice none 0 0], .slice A n c] w (PTail w (Pkt.tailC 3 f r)) := by
  obtain ⟨g0, g1, hb0⟩ := two_alloc w (.cells #[.int .i64 3, .int .i64 f, .int .i64 0, .int .i64 0, .int .i64 0, .int .i64 0, .int .i64 0, .int .i64 0, .slice none 0 0, .slice none 0 0, .int .i64 0, .int .i64 0, .int .i64 0, .int .i64 0, .slice none 0 0] 27) (.cells #[.int .i64 0, .int .i64 0, .int .i64 0, .int .i64 0, .int .i64 0, .int .i64 0, .int .i64 0, .int .i64 0, .slice none 0 0, .slice none 0 0, .int .i64 0, .int .i64 0, .int .i64 0, .int .i64 0, .slice none 0 0] 27)
  have hs0 : ((w.alloc (.cells #[.int .i64 3, .int .i64 f, .int .i64 0, .int .i64 0, .int .i64 0, .int .i64 0, .int .i64 0, .int .i64 0, .slice none 0 0, .slice none 0 0, .int .i64 0, .int .i64 0, .int .i64 0, .int .i64 0, .slice none 0 0] 27)).alloc (.cells #[.int .i64 0, .int .i64 0, .int .i64 0, .int .i64 0, .int .i64 0, .int .i64 0, .int .i64 0, .int .i64 0, .slice none 0 0, .slice none 0 0, .int .i64 0, .int .i64 0, .int .i64 0, .int .i64 0, .slice none 0 0] 27)).heap.size = w.heap.size + 2 := by rw [size_alloc, size_alloc]
  have sz : w.heap.size ≠ w.heap.size + 1 := by omega
  have sz' : w.heap.size + 1 ≠ w.heap.size := by omega
  have sle : w.heap.size ≤ w.heap.size + 1 := by omega
  have z0 := cell_at g0 0 rfl
  have hrn := h.1
  have ht1 := take_any A n c r 1 _ (hw.below hb0) (h.below hb0) hn
  have l1 := rest_le r 1
  have l2 := rest_le (Num.rest r 1) 8
  have ht2 := fun (B : Option Addr) (d : Nat) (w' : World) (hw' : Wd w') (hb' : Rd w' B (Num.rest r 1).length d (Num.rest r 1)) => take_any B _ d (Num.rest r 1) 8 w' hw' hb' (by omega)
  have ht3 := fun (B : Option Addr) (d : Nat) (w' : World) (hw' : Wd w') (hb' : Rd w' B (Num.rest (Num.rest r 1) 8).length d (Num.rest (Num.rest r 1) 8)) => take_any B _ d (Num.rest (Num.rest r 1) 8) 1 w' hw' hb' (by omega)
  have HO : (match Pkt.tailC 3 f r with | some q => Num.code (Num.rest (Num.rest r 1) 8) 1 = 0 ∧ q = (⟨3, f, Item.It.zero, Num.num r 1, Num.num (Num.rest r 1) 8, Num.num (Num.rest (Num.rest r 1) 8) 1, 0, []⟩, Num.rest (Num.rest (Num.rest r 1) 8) 1) | none => Num.code (Num.rest (Num.rest r 1) 8) 1 = 2) := by
    unfold Pkt.tailC
    rw [if_neg (by decide), if_pos rfl]
    by_cases hc : Num.code (Num.rest (Num.rest r 1) 8) 1 = 0
    · rw [if_pos hc]
      exact ⟨hc, rfl⟩
    · rw [if_neg hc]
      exact Num.code_width (by decide) hc
  have HO2 := hidT HO
  clear HO l1 l2
  revert ht1 ht2 ht3 HO2
  generalize (Num.num (Num.rest (Num.rest r 1) 8) 1 : Int) = m3
  generalize Num.code (Num.rest (Num.rest r 1) 8) 1 = kc3
  generalize Num.rest (Num.rest (Num.rest r 1) 8) 1 = r3
  generalize Num.rest (Num.rest r 1) 8 = r2
  generalize (Num.num (Num.rest r 1) 8 : Int) = m2
  generalize Num.code (Num.rest r 1) 8 = kc2
  generalize Num.rest r 1 = r1
  generalize (Num.num r 1 : Int) = m1
  generalize Num.code r 1 = kc1
  intro ht1 ht2 ht3 HO2
  go_enter Tryd.func21, Tryd.ntmps21
  go_wp2_with fail
  with_reducible refine ht1.mono ?_
  rintro en w1 ⟨A1, d1, rfl, o1, b1⟩
  rw [hs0] at b1 o1
  have hb1 : Below w.heap.size w w1 := hb0.trans (b1.mono (by omega))
  have z1 := b1.size
  have k0 := (b1.block _ (by omega)).trans g0
  have k1 := (b1.block _ (by omega)).trans g1
  clear ht1 g0 g1 z0 hb0 b1
  go_wp2_with (first
    | (refine wpList_st1 rfl 3 (.tmp 30) (.tmp 27) rfl w.heap.size 10 _ rfl rfl rfl _ _ #[.int .i64 3, .int .i64 f, .int .i64 0, .int .i64 0, .int .i64 0, .int .i64 0, .int .i64 0, .int .i64 0, .slice none 0 0, .slice none 0 0, .int .i64 m1, .int .i64 0, .int .i64 0, .int .i64 0, .slice none 0 0] k0 infoInt (Nat.le_of_ble_eq_true rfl) rfl rfl ?_
       intro w2 hg2 hbut2 hbel2
       have hb2 := hbel2 _ _ hb1 (Nat.le_refl _)
       have k1_2 := (hbut2.2 _ sz').trans k1
       have s2 := hbut2.1
       have t2 := ht2 A1 d1 w2 (hw.below hb2) (o1.but (by omega) hbut2).same))
  with_reducible refine t2.mono ?_
  rintro en w3 ⟨A3, d3, rfl, o3, b3⟩
  have hb3 := bthen hb2 b3
  have z3 := b3.size
  have k0 := (b3.block _ (by omega)).trans hg2
  have k1 := (b3.block _ (by omega)).trans k1_2
  clear t2 ht2 b3 hg2 k1_2 hbel2 hbut2 o1
  go_wp2_with (first
    | (refine wpList_st1 rfl 3 (.tmp 37) (.tmp 34) rfl w.heap.size 11 _ rfl rfl rfl _ _ #[.int .i64 3, .int .i64 f, .int .i64 0, .int .i64 0, .int .i64 0, .int .i64 0, .int .i64 0, .int .i64 0, .slice none 0 0, .slice none 0 0, .int .i64 m1, .int .i64 m2, .int .i64 0, .int .i64 0, .slice none 0 0] k0 infoInt (Nat.le_of_ble_eq_true rfl) rfl rfl ?_
       intro w4 hg4 hbut4 hbel4
       have hb4 := hbel4 _ _ hb3 (Nat.le_refl _)
       have k1_4 := (hbut4.2 _ sz').trans k1
       have s4 := hbut4.1
       have t3 := ht3 A3 d3 w4 (hw.below hb4) (o3.but (by omega) hbut4).same))
  with_reducible refine t3.mono ?_
  rintro en w5 ⟨A5, d5, rfl, o5, b5⟩
  have hb5 := bthen hb4 b5
  have z5 := b5.size
  have k0 := (b5.block _ (by omega)).trans hg4
  have k1 := (b5.block _ (by omega)).trans k1_4
  clear t3 ht3 b5 hg4 k1_4 hbel4 hbut4 o3
  go_wp2_with (first
    | (refine wpList_st1 rfl 3 (.tmp 44) (.tmp 41) rfl w.heap.size 12 _ rfl rfl rfl _ _ #[.int .i64 3, .int .i64 f, .int .i64 0, .int .i64 0, .int .i64 0, .int .i64 0, .int .i64 0, .int .i64 0, .slice none 0 0, .slice none 0 0, .int .i64 m1, .int .i64 m2, .int .i64 m3, .int .i64 0, .slice none 0 0] k0 infoInt (Nat.le_of_ble_eq_true rfl) rfl rfl ?_
       intro w6 hg6 hbut6 hbel6
       have hb6 := hbel6 _ _ hb5 (Nat.le_refl _)
       have k1_6 := (hbut6.2 _ sz').trans k1
       have s6 := hbut6.1
       obtain ⟨⟨c0, c1⟩, ⟨c2, c3, c4, c5, c6, c7, c8, c9⟩, ⟨c10, c11, c12, c13, c14⟩⟩ := cells15 hg6)
    | (refine wpList_stI rfl 27 (.tmp 4) (.tmp 64) rfl (w.heap.size + 1) #[.int .i64 3, .int .i64 f, .int .i64 0, .int .i64 0, .int .i64 0, .int .i64 0, .int .i64 0, .int .i64 0, .slice none 0 0, .slice none 0 0, .int .i64 m1, .int .i64 m2, .int .i64 m3, .int .i64 0, .slice none 0 0] rfl rfl _ _ k1_6 info37 rfl (all15 rfl rfl rfl rfl rfl rfl rfl rfl rfl rfl rfl rfl rfl rfl rfl) ?_
       intro w9 hg9 hbut9 hbel9
       have hb9 := hbel9 _ _ hb6 sle))
  obtain ⟨⟨y0, y1⟩, ⟨y2, y3, y4, y5, y6, y7, y8, y9⟩, ⟨y10, y11, y12, y13, y14⟩⟩ := cells15 hg9
  exact bodyPost_ret (v := .tuple #[.agg #[.int .i64 3, .int .i64 f, .int .i64 0, .int .i64 0, .int .i64 0, .int .i64 0, .int .i64 0, .int .i64 0, .slice none 0 0, .slice none 0 0, .int .i64 m1, .int .i64 m2, .int .i64 m3, .int .i64 0, .slice none 0 0], .slice A5 r3.length d5, .int .i64 kc3]) (by simp [results, Tryd.results21, go_sem, y0, y1, y2, y3, y4, y5, y6, y7, y8, y9, y10, y11, y12, y13, y14]) rfl ⟨⟨3, f, Item.It.zero, m1, m2, m3, 0, []⟩, r3, kc3, none, 0, 0, none, 0, 0, none, 0, 0, A5, d5, rfl, RdV.nil_ _, Rd.nil_ _, RdV.nil_ _, no_addr, no_addr, no_addr, hb9, HO2.out⟩

set_option maxHeartbeats 4000000 in
theorem ptake_4a (f : Int) (A : Option Addr) (n c : Nat) (r : List UInt8) (w : World) (hw : Wd w) (h : Rd w A n c r) (hn : n ≤ 65536) (hc : Num.code r 8 ≠ 0) :
    Calls Tryd.prog 21 #[.agg #[.int .i64 4, .int .i64 f, .int .i64 0, .int .i64 0, .int .i64 0, .int .i64 0, .int .i64 0, .int .i64 0, .slice none 0 0, .slice none 0 0, .int .i64 0, .int .i64 0, .int .i64 0, .int .i64 0, .slice none 0 0], .slice A n c] w (PTail w none) := by
  obtain ⟨g0, g1, hb0⟩ := two_alloc w (.cells #[.int .i64 4, .int .i64 f, .int .i64 0, .int .i64 0, .int .i64 0, .int .i64 0, .int .i64 0, .int .i64 0, .slice none 0 0, .slice none 0 0, .int .i64 0, .int .i64 0, .int .i64 0, .int .i64 0, .slice none 0 0] 27) (.cells #[.int .i64 0, .int .i64 0, .int .i64 0, .int .i64 0, .int .i64 0, .int .i64 0, .int .i64 0, .int .i64 0, .slice none 0 0, .slice none 0 0, .int .i64 0, .int .i64 0, .int .i64 0, .int .i64 0, .slice none 0 0] 27)
  have hs0 : ((w.alloc (.cells #[.int .i64 4, .int .i64 f, .int .i64 0, .int .i64 0, .int .i64 0, .int .i64 0, .int .i64 0, .int .i64 0, .slice none 0 0, .slice none 0 0, .int .i64 0, .int .i64 0, .int .i64 0, .int .i64 0, .slice none 0 0] 27)).alloc (.cells #[.int .i64 0, .int .i64 0, .int .i64 0, .int .i64 0, .int .i64 0, .int .i64 0, .int .i64 0, .int .i64 0, .slice none 0 0, .slice none 0 0, .int .i64 0, .int .i64 0, .int .i64 0, .int .i64 0, .slice none 0 0] 27)).heap.size = w.heap.size + 2 := by rw [size_alloc, size_alloc]
  have sz : w.heap.size ≠ w.heap.size + 1 := by omega
  have sz' : w.heap.size + 1 ≠ w.heap.size := by omega
  have sle : w.heap.size ≤ w.heap.size + 1 := by omega
  have z0 := cell_at g0 0 rfl
  have ht1 := take_any A n c r 8 _ (hw.below hb0) (h.below hb0) hn
  have hc2 : Num.code r 8 = 2 := Num.code_width (by decide) hc
  rw [hc2] at ht1
  clear hc hc2
  revert ht1
  generalize (Num.num r 8 : Int) = m1
  generalize Num.rest r 8 = r1
  intro ht1
  go_enter Tryd.func21, Tryd.ntmps21
  go_wp2_with fail
  with_reducible refine ht1.mono ?_
  rintro en w1 ⟨A1, d1, rfl, o1, b1⟩
  rw [hs0] at b1 o1
  have hb1 : Below w.heap.size w w1 := hb0.trans (b1.mono (by omega))
  have z1 := b1.size
  have k0 := (b1.block _ (by omega)).trans g0
  have k1 := (b1.block _ (by omega)).trans g1
  clear ht1 g0 g1 z0 hb0 b1
  go_wp2_with (first
    | (refine wpList_st1 rfl 3 (.tmp 51) (.tmp 48) rfl w.heap.size 13 _ rfl rfl rfl _ _ #[.int .i64 4, .int .i64 f, .int .i64 0, .int .i64 0, .int .i64 0, .int .i64 0, .int .i64 0, .int .i64 0, .slice none 0 0, .slice none 0 0, .int .i64 0, .int .i64 0, .int .i64 0, .int .i64 m1, .slice none 0 0] k0 infoInt (Nat.le_of_ble_eq_true rfl) rfl rfl ?_
       intro w2 hg2 hbut2 hbel2
       have hb2 := hbel2 _ _ hb1 (Nat.le_refl _)
       have k1_2 := (hbut2.2 _ sz').trans k1
       have s2 := hbut2.1
       obtain ⟨⟨c0, c1⟩, ⟨c2, c3, c4, c5, c6, c7, c8, c9⟩, ⟨c10, c11, c12, c13, c14⟩⟩ := cells15 hg2)
    | (refine wpList_stI rfl 27 (.tmp 4) (.tmp 64) rfl (w.heap.size + 1) #[.int .i64 4, .int .i64 f, .int .i64 0, .int .i64 0, .int .i64 0, .int .i64 0, .int .i64 0, .int .i64 0, .slice none 0 0, .slice none 0 0, .int .i64 0, .int .i64 0, .int .i64 0, .int .i64 m1, .slice none 0 0] rfl rfl _ _ k1_2 info37 rfl (all15 rfl rfl rfl rfl rfl rfl rfl rfl rfl rfl rfl rfl rfl rfl rfl) ?_
       intro w9 hg9 hbut9 hbel9
       have hb9 := hbel9 _ _ hb2 sle))
  obtain ⟨⟨y0, y1⟩, ⟨y2, y3, y4, y5, y6, y7, y8, y9⟩, ⟨y10, y11, y12, y13, y14⟩⟩ := cells15 hg9
  exact bodyPost_ret (v := .tuple #[.agg #[.int .i64 4, .int .i64 f, .int .i64 0, .int .i64 0, .int .i64 0, .int .i64 0, .int .i64 0, .int .i64 0, .slice none 0 0, .slice none 0 0, .int .i64 0, .int .i64 0, .int .i64 0, .int .i64 m1, .slice none 0 0], .slice A1 r1.length d1, .int .i64 2]) (by simp [results, Tryd.results21, go_sem, y0, y1, y2, y3, y4, y5, y6, y7, y8, y9, y10, y11, y12, y13, y14]) rfl ⟨⟨4, f, Item.It.zero, 0, 0, 0, m1, []⟩, r1, 2, none, 0, 0, none, 0, 0, none, 0, 0, A1, d1, rfl, RdV.nil_ _, Rd.nil_ _, RdV.nil_ _, no_addr, no_addr, no_addr, hb9, rfl⟩

set_option maxHeartbeats 4000000 in
theorem ptake_4b (f : Int) (A : Option Addr) (n c : Nat) (r : List UInt8) (w : World) (hw : Wd w) (h : Rd w A n c r) (hn : n ≤ 65536) (hc : Num.code r 8 = 0) :
    Calls Tryd.prog 21 #[.agg #[.int .i64 4, .int .i64 f, .int .i64 0, .int .i64 0, .int .i64 0, .int .i64 0, .int .i64 0, .int .i64 0, .slice none 0 0, .slice none 0 0, .int .i64 0, .int .i64 0, .int .i64 0, .int .i64 0, .slice none 0 0], .slice A n c] w (PTail w (Pkt.tailC 4 f r)) := by
  obtain ⟨g0, g1, hb0⟩ := two_alloc w (.cells #[.int .i64 4, .int .i64 f, .int .i64 0, .int .i64 0, .int .i64 0, .int .i64 0, .int .i64 0, .int .i64 0, .slice none 0 0, .slice none 0 0, .int .i64 0, .int .i64 0, .int .i64 0, .int .i64 0, .slice none 0 0] 27) (.cells #[.int .i64 0, .int .i64 0, .int .i64 0, .int .i64 0, .int .i64 0, .int .i64 0, .int .i64 0, .int .i64 0, .slice none 0 0, .slice none 0 0, .int .i64 0, .int .i64 0, .int .i64 0, .int .i64 0, .slice none 0 0] 27)
  have hs0 : ((w.alloc (.cells #[.int .i64 4, .int .i64 f, .int .i64 0, .int .i64 0, .int .i64 0, .int .i64 0, .int .i64 0, .int .i64 0, .slice none 0 0, .slice none 0 0, .int .i64 0, .int .i64 0, .int .i64 0, .int .i64 0, .slice none 0 0] 27)).alloc (.cells #[.int .i64 0, .int .i64 0, .int .i64 0, .int .i64 0, .int .i64 0, .int .i64 0, .int .i64 0, .int .i64 0, .slice none 0 0, .slice none 0 0, .int .i64 0, .int .i64 0, .int .i64 0, .int .i64 0, .slice none 0 0] 27)).heap.size = w.heap.size + 2 := by rw [size_alloc, size_alloc]
  have sz : w.heap.size ≠ w.heap.size + 1 := by omega
  have sz' : w.heap.size + 1 ≠ w.heap.size := by omega
  have sle : w.heap.size ≤ w.heap.size + 1 := by omega
  have z0 := cell_at g0 0 rfl
  have hrn := h.1
  have ht1 := take_any A n c r 8 _ (hw.below hb0) (h.below hb0) hn
  have l1 := rest_le r 8
  have HO : (match Pkt.tailC 4 f r with | some q => (Num.rowOf (Num.rest r 8) ((Num.rest r 8).length / 8 : Nat) 8).2.2 = 0 ∧ q = (⟨4, f, Item.It.zero, 0, 0, 0, Num.num r 8, (Num.rowOf (Num.rest r 8) ((Num.rest r 8).length / 8 : Nat) 8).1⟩, (Num.rowOf (Num.rest r 8) ((Num.rest r 8).length / 8 : Nat) 8).2.1) | none => (Num.rowOf (Num.rest r 8) ((Num.rest r 8).length / 8 : Nat) 8).2.2 = 2) := by
    unfold Pkt.tailC
    rw [if_neg (by decide), if_neg (by decide), if_pos rfl, if_pos hc]
    cases ht : Num.takes 8 ((Num.rest r 8).length / 8) (Num.rest r 8) with
    | none =>
      rw [Num.rowOf_none (by decide) ht]
    | some q =>
      obtain ⟨a, b⟩ := q
      rw [Num.rowOf_some (by decide) ht]
      exact ⟨rfl, rfl⟩
  have HO2 := hidT HO
  clear HO
  rw [hc] at ht1
  clear hc
  revert ht1 HO2
  generalize (Num.num r 8 : Int) = m1
  generalize Num.rest r 8 = r1 at l1 ⊢
  intro ht1
  have ht2 := fun (B : Option Addr) (d : Nat) (w' : World) (hw' : Wd w') (hb' : Rd w' B r1.length d r1) => takeRow_any B r1.length d r1 (r1.length / 8 : Nat) 8 w' hw' hb' (by omega)
  revert ht2
  generalize Num.rowOf r1 (r1.length / 8 : Nat) 8 = p
  intro ht2 HO2
  have ez : ((r1.length / 8 : Nat) : Int) = (r1.length : Int) / 8 := by omega
  rw [ez] at ht2
  have hlt : (r1.length : Int) ≤ 9223372036854775807 := by omega
  clear ez l1
  go_enter Tryd.func21, Tryd.ntmps21
  go_wp2_with fail
  with_reducible refine ht1.mono ?_
  rintro en w1 ⟨A1, d1, rfl, o1, b1⟩
  rw [hs0] at b1 o1
  have hb1 : Below w.heap.size w w1 := hb0.trans (b1.mono (by omega))
  have z1 := b1.size
  have k0 := (b1.block _ (by omega)).trans g0
  have k1 := (b1.block _ (by omega)).trans g1
  clear ht1 g0 g1 z0 hb0 b1
  go_wp2_with (first
    | (refine wpList_st1 rfl 3 (.tmp 51) (.tmp 48) rfl w.heap.size 13 _ rfl rfl rfl _ _ #[.int .i64 4, .int .i64 f, .int .i64 0, .int .i64 0, .int .i64 0, .int .i64 0, .int .i64 0, .int .i64 0, .slice none 0 0, .slice none 0 0, .int .i64 0, .int .i64 0, .int .i64 0, .int .i64 m1, .slice none 0 0] k0 infoInt (Nat.le_of_ble_eq_true rfl) rfl rfl ?_
       intro w2 hg2 hbut2 hbel2
       have hb2 := hbel2 _ _ hb1 (Nat.le_refl _)
       have k1_2 := (hbut2.2 _ sz').trans k1
       have s2 := hbut2.1
       have t2 := ht2 A1 d1 w2 (hw.below hb2) (o1.but (by omega) hbut2).same))
  with_reducible refine t2.mono ?_
  rintro en w3 ⟨A3, q3, B3, d3, rfl, i3, o3, b3⟩
  have hb3 := bthen hb2 b3
  have z3 := b3.size
  have al := addrV (base' := w.heap.size + 2) i3 (by omega)
  have i3' : RdI w3 A3 p.1.length q3 p.1 := OwnV.same i3
  have k0 := (b3.block _ (by omega)).trans hg2
  have k1 := (b3.block _ (by omega)).trans k1_2
  clear t2 ht2 b3 hg2 k1_2 hbel2 hbut2 o1 i3
  go_wp2_with (first
    | (refine wpList_st1 rfl 22 (.tmp 63) (.tmp 60) rfl w.heap.size 14 _ rfl rfl rfl _ _ #[.int .i64 4, .int .i64 f, .int .i64 0, .int .i64 0, .int .i64 0, .int .i64 0, .int .i64 0, .int .i64 0, .slice none 0 0, .slice none 0 0, .int .i64 0, .int .i64 0, .int .i64 0, .int .i64 m1, .slice A3 p.1.length q3] k0 infoInts (Nat.le_of_ble_eq_true rfl) rfl rfl ?_
       intro w4 hg4 hbut4 hbel4
       have hb4 := hbel4 _ _ hb3 (Nat.le_refl _)
       have k1_4 := (hbut4.2 _ sz').trans k1
       have s4 := hbut4.1
       have i4 := RdV.but i3' (fun b o hA => by have := al b o hA; omega) hbut4
       obtain ⟨⟨c0, c1⟩, ⟨c2, c3, c4, c5, c6, c7, c8, c9⟩, ⟨c10, c11, c12, c13, c14⟩⟩ := cells15 hg4)
    | (refine wpList_stI rfl 27 (.tmp 4) (.tmp 64) rfl (w.heap.size + 1) #[.int .i64 4, .int .i64 f, .int .i64 0, .int .i64 0, .int .i64 0, .int .i64 0, .int .i64 0, .int .i64 0, .slice none 0 0, .slice none 0 0, .int .i64 0, .int .i64 0, .int .i64 0, .int .i64 m1, .slice A3 p.1.length q3] rfl rfl _ _ k1_4 info37 rfl (all15 rfl rfl rfl rfl rfl rfl rfl rfl rfl rfl rfl rfl rfl rfl rfl) ?_
       intro w9 hg9 hbut9 hbel9
       have hb9 := hbel9 _ _ hb4 sle))
  obtain ⟨⟨y0, y1⟩, ⟨y2, y3, y4, y5, y6, y7, y8, y9⟩, ⟨y10, y11, y12, y13, y14⟩⟩ := cells15 hg9
  exact bodyPost_ret (v := .tuple #[.agg #[.int .i64 4, .int .i64 f, .int .i64 0, .int .i64 0, .int .i64 0, .int .i64 0, .int .i64 0, .int .i64 0, .slice none 0 0, .slice none 0 0, .int .i64 0, .int .i64 0, .int .i64 0, .int .i64 m1, .slice A3 p.1.length q3], .slice B3 p.2.1.length d3, .int .i64 p.2.2]) (by simp [results, Tryd.results21, go_sem, y0, y1, y2, y3, y4, y5, y6, y7, y8, y9, y10, y11, y12, y13, y14]) rfl ⟨⟨4, f, Item.It.zero, 0, 0, 0, m1, p.1⟩, p.2.1, p.2.2, none, 0, 0, none, 0, 0, A3, p.1.length, q3, B3, d3, rfl, RdV.nil_ _, Rd.nil_ _, RdV.but i4 (fun b o hA => by have := al b o hA; omega) hbut9, no_addr, no_addr, (fun b o hA => by have := al b o hA; omega), hb9, HO2.out⟩

theorem ptake_any (k f : Int) (A : Option Addr) (n c : Nat) (r : List UInt8) (w : World) (hw : Wd w) (h : Rd w A n c r) (hn : n ≤ 65536) :
    Calls Tryd.prog 21 #[.agg #[.int .i64 k, .int .i64 f, .int .i64 0, .int .i64 0, .int .i64 0, .int .i64 0, .int .i64 0, .int .i64 0, .slice none 0 0, .slice none 0 0, .int .i64 0, .int .i64 0, .int .i64 0, .int .i64 0, .slice none 0 0], .slice A n c] w (PTail w (Pkt.tailC k f r)) := by
  by_cases k1 : k = 1
  · subst k1
    cases hx : Item.takeOf r with
    | some x => rw [show Pkt.tailC 1 f r = some (⟨1, f, x, 0, 0, 0, 0, []⟩, []) from by unfold Pkt.tailC; rw [if_pos (.inl rfl), hx]]; exact ptake_1a f A n c r w hw h hn x hx
    | none => rw [show Pkt.tailC 1 f r = none from by unfold Pkt.tailC; rw [if_pos (.inl rfl), hx]]; exact ptake_1b f A n c r w hw h hn hx
  by_cases k2 : k = 2
  · subst k2
    cases hx : Item.takeOf r with
    | some x => rw [show Pkt.tailC 2 f r = some (⟨2, f, x, 0, 0, 0, 0, []⟩, []) from by unfold Pkt.tailC; rw [if_pos (.inr rfl), hx]]; exact ptake_2a f A n c r w hw h hn x hx
    | none => rw [show Pkt.tailC 2 f r = none from by unfold Pkt.tailC; rw [if_pos (.inr rfl), hx]]; exact ptake_2b f A n c r w hw h hn hx
  by_cases k3 : k = 3
  · subst k3
    exact ptake_3 f A n c r w hw h hn
  by_cases k4 : k = 4
  · subst k4
    by_cases hc : Num.code r 8 = 0
    · exact ptake_4b f A n c r w hw h hn hc
    · rw [show Pkt.tailC 4 f r = none from by unfold Pkt.tailC; rw [if_neg (by decide), if_neg (by decide), if_pos rfl, if_neg hc]]
      exact ptake_4a f A n c r w hw h hn hc
  · rw [show Pkt.tailC k f r = some (⟨k, f, Item.It.zero, 0, 0, 0, 0, []⟩, r) from by unfold Pkt.tailC; rw [if_neg (by omega), if_neg k3, if_neg k4]]
    exact ptake_none k f A n c r w hw h hn k1 k2 k3 k4
end Go.Proofs.YtahkhideepncfaaDoor
