/- The walk of the law ItemBounds. (Written by wip/gen/laws.py.) -/
import Derived.Test.YtpahkkblkdkefaaDoorItemShown
import Derived.Test.YtpahkkblkdkefaaDoorRefItem3
import Derived.Test.YtpahkkblkdkefaaDoorRefItem1
import Derived.Deep.RegionHeld3
import Derived.Test.YtpahkkblkdkefaaDoorAppZ
import Derived.Test.YtpahkkblkdkefaaDoorStruct
import Derived.Test.YtpahkkblkdkefaaDoorItem12
namespace Go.Proofs.YtpahkkblkdkefaaDoor
open Go.RowKit
set_option linter.unusedVariables false

theorem may_ask2 {x : Item.It} (h : Item.may x = false ∨ Item.ask x = false) : Item.may x = false := by
  rcases h with h | h
  · exact h
  · simp [Item.may, h]
theorem bound_q {x : Item.It} (h : Item.may x = true) : Item.may { x with q := 0 } = false := by simp [Item.may, Item.win]
theorem bound_e {x : Item.It} (h : Item.may x = true) : Item.may { x with e := -1 } = false := by simp [Item.may, Item.win]
theorem bound_k {x : Item.It} (h : Item.may x = true) : Item.may { x with k := x.k + 6 } = false := by
  obtain ⟨k1, k6⟩ := Item.kinds_k (Item.may_kinds h)
  refine may_ask2 (.inr (ask_none ?_ ?_ ?_ ?_ ?_ ?_))
  all_goals (dsimp only; omega)
theorem not_true {b : Bool} (h : b = true → False) : b = false := by cases b with | false => rfl | true => exact (h rfl).elim
theorem bound_i {x : Item.It} (h : Item.may x = true) : Item.may { x with i := 32 } = false := by
  refine not_true fun h2 => ?_
  have h3 := Item.may_kinds h2
  generalize hy : ({ x with i := 32 } : Item.It) = y at h3
  cases h3 <;> (injection hy with e0 e1 e2 e3 e4 e5 e6 e7; omega)
theorem bound_c {x : Item.It} (h : Item.may x = true) : Item.may { x with c := -1 } = false := by
  refine not_true fun h2 => ?_
  have h3 := Item.may_kinds h2
  generalize hy : ({ x with c := -1 } : Item.It) = y at h3
  cases h3 <;> (injection hy with e0 e1 e2 e3 e4 e5 e6 e7; omega)
theorem bound_b {x : Item.It} {K : Nat} (hK : 1025 ≤ K) : Item.may { x with b := x.b ++ List.replicate K 0 } = false := by
  refine not_true fun h2 => ?_
  have h3 := (ask_len (may_ask h2)).2
  dsimp only at h3
  rw [List.length_append, List.length_replicate] at h3
  omega

set_option maxRecDepth 100000 in
set_option maxHeartbeats 4000000 in
theorem bounds_any (u : Value) (x : Item.It) (w : World) (hw : Wd w) (hu : IsItem w u x) :
    Calls Tryd.prog 8 #[u] w (Yes w) := by
  obtain ⟨LA, ln, lc, BA, bn, bc, rfl, hl, hb⟩ := hu
  have hb0 : Below w.heap.size w (w.alloc (.cells #[.int .i64 x.k, .int .i64 x.q, .int .i64 x.e, .int .i64 x.i, .int .i64 x.t, .int .i64 x.c, .slice LA ln lc, .slice BA bn bc] 25)) := (Below.refl _ _).alloc (Nat.le_refl _) _
  have g0 := alloc_at w (.cells #[.int .i64 x.k, .int .i64 x.q, .int .i64 x.e, .int .i64 x.i, .int .i64 x.t, .int .i64 x.c, .slice LA ln lc, .slice BA bn bc] 25) _ rfl
  obtain ⟨a0, a1, a2, a3, a4, a5, a6, a7⟩ := cells8 g0
  have hit : ∀ w', Below w.heap.size w w' → IsItem w' (.agg #[.int .i64 x.k, .int .i64 x.q, .int .i64 x.e, .int .i64 x.i, .int .i64 x.t, .int .i64 x.c, .slice LA ln lc, .slice BA bn bc]) x := fun w' h => ⟨LA, ln, lc, BA, bn, bc, rfl, RdV.below hl h, hb.below h⟩
  have HRL : Hid (∀ w', Below w.heap.size w w' → RdI w' LA ln lc x.l) := hidT fun w' h => RdV.below hl h
  have HRB : Hid (∀ w', Below w.heap.size w w' → Rd w' BA bn bc x.b) := hidT fun w' h => hb.below h
  have HRN := hidT hb.1
  have hS := shown_any _ (hw.below hb0)
  clear hl hb g0
  go_enter Tryd.func8, Tryd.ntmps8
  go_wp2_with fail
  with_reducible refine hS.mono ?_
  rintro en w1 ⟨rfl, hw1⟩
  have bw1 := bthen hb0 hw1
  clear hS
  have a1_0 := keepC hw1 a0
  have a1_1 := keepC hw1 a1
  have a1_2 := keepC hw1 a2
  have a1_3 := keepC hw1 a3
  have a1_4 := keepC hw1 a4
  have a1_5 := keepC hw1 a5
  have a1_6 := keepC hw1 a6
  have a1_7 := keepC hw1 a7
  clear a0 a1 a2 a3 a4 a5 a6 a7
  go_wp2_with fail
  with_reducible refine (few_is _ x w1 (hit _ bw1)).mono ?_
  rintro en w2 ⟨rfl, hw2⟩
  have bw2 := bthen bw1 hw2
  have a2_0 := keepC hw2 a1_0
  have a2_1 := keepC hw2 a1_1
  have a2_2 := keepC hw2 a1_2
  have a2_3 := keepC hw2 a1_3
  have a2_4 := keepC hw2 a1_4
  have a2_5 := keepC hw2 a1_5
  have a2_6 := keepC hw2 a1_6
  have a2_7 := keepC hw2 a1_7
  clear a1_0 a1_1 a1_2 a1_3 a1_4 a1_5 a1_6 a1_7
  cases f1 : (decide (x.l.length ≤ 80) && decide (x.b.length ≤ 1100)) with
  | false =>
    go_wp2
    go_ret
    exact ⟨rfl, bw2⟩
  | true =>
    go_wp2_with fail
    with_reducible refine (rmay_any _ x w2 (hit _ bw2)).mono ?_
    rintro en w3 ⟨rfl, hw3⟩
    have bw3 := bthen bw2 hw3
    have a3_0 := keepC hw3 a2_0
    have a3_1 := keepC hw3 a2_1
    have a3_2 := keepC hw3 a2_2
    have a3_3 := keepC hw3 a2_3
    have a3_4 := keepC hw3 a2_4
    have a3_5 := keepC hw3 a2_5
    have a3_6 := keepC hw3 a2_6
    have a3_7 := keepC hw3 a2_7
    clear a2_0 a2_1 a2_2 a2_3 a2_4 a2_5 a2_6 a2_7
    cases m1 : Item.may x with
    | false =>
      go_wp2
      go_ret
      exact ⟨rfl, bw3⟩
    | true =>
      have hbn : bn ≤ 1100 := by
        have hf := f1
        simp only [Bool.and_eq_true, decide_eq_true_eq] at hf
        have := HRN.out
        omega
      obtain ⟨K, HK⟩ : ∃ K : Nat, Hid (K = 1025) := ⟨_, hidT rfl⟩
      have hK1 : 1025 ≤ K := by rw [HK.out]; omega
      have hK2 : K ≤ 1025 := by rw [HK.out]; omega
      obtain ⟨k1, k6⟩ := Item.kinds_k (Item.may_kinds m1)
      have hlt : w.heap.size < w3.heap.size := World.block_lt_of_cell? _ _ a3_0
      have hlt1 : w.heap.size < w3.heap.size + 1 := by omega
      have hlt2 : w.heap.size < w3.heap.size + 1 + 1 := by omega
      have hlt3 : w.heap.size < w3.heap.size + 1 + 1 + 1 := by omega
      have hlt4 : w.heap.size < w3.heap.size + 1 + 1 + 1 + 1 := by omega
      have hlt5 : w.heap.size < w3.heap.size + 1 + 1 + 1 + 1 + 1 := by omega
      have hlt6 : w.heap.size < w3.heap.size + 1 + 1 + 1 + 1 + 1 + 1 := by omega
      obtain ⟨ga, gb, gc, gd, ge, gf, gz, gw⟩ := heap7 w3 (.cells #[.int .i64 x.k, .int .i64 0, .int .i64 x.e, .int .i64 x.i, .int .i64 x.t, .int .i64 x.c, .slice LA ln lc, .slice BA bn bc] 25) (.cells #[.int .i64 x.k, .int .i64 x.q, .int .i64 (-1), .int .i64 x.i, .int .i64 x.t, .int .i64 x.c, .slice LA ln lc, .slice BA bn bc] 25) (.cells #[.int .i64 x.k, .int .i64 x.q, .int .i64 x.e, .int .i64 32, .int .i64 x.t, .int .i64 x.c, .slice LA ln lc, .slice BA bn bc] 25) (.cells #[.int .i64 (x.k + 6), .int .i64 x.q, .int .i64 x.e, .int .i64 x.i, .int .i64 x.t, .int .i64 x.c, .slice LA ln lc, .slice BA bn bc] 25) (.cells #[.int .i64 x.k, .int .i64 x.q, .int .i64 x.e, .int .i64 x.i, .int .i64 x.t, .int .i64 (-1), .slice LA ln lc, .slice BA bn bc] 25) (.cells #[.int .i64 x.k, .int .i64 x.q, .int .i64 x.e, .int .i64 x.i, .int .i64 x.t, .int .i64 x.c, .slice LA ln lc, .slice BA bn bc] 25) (.cells #[] 5)
      have sz6 : ((((((w3.alloc (.cells #[.int .i64 x.k, .int .i64 0, .int .i64 x.e, .int .i64 x.i, .int .i64 x.t, .int .i64 x.c, .slice LA ln lc, .slice BA bn bc] 25)).alloc (.cells #[.int .i64 x.k, .int .i64 x.q, .int .i64 (-1), .int .i64 x.i, .int .i64 x.t, .int .i64 x.c, .slice LA ln lc, .slice BA bn bc] 25)).alloc (.cells #[.int .i64 x.k, .int .i64 x.q, .int .i64 x.e, .int .i64 32, .int .i64 x.t, .int .i64 x.c, .slice LA ln lc, .slice BA bn bc] 25)).alloc (.cells #[.int .i64 (x.k + 6), .int .i64 x.q, .int .i64 x.e, .int .i64 x.i, .int .i64 x.t, .int .i64 x.c, .slice LA ln lc, .slice BA bn bc] 25)).alloc (.cells #[.int .i64 x.k, .int .i64 x.q, .int .i64 x.e, .int .i64 x.i, .int .i64 x.t, .int .i64 (-1), .slice LA ln lc, .slice BA bn bc] 25)).alloc (.cells #[.int .i64 x.k, .int .i64 x.q, .int .i64 x.e, .int .i64 x.i, .int .i64 x.t, .int .i64 x.c, .slice LA ln lc, .slice BA bn bc] 25)).heap.size = w3.heap.size + 1 + 1 + 1 + 1 + 1 + 1 := by simp only [size_alloc]
      have ow7 : Own (((((((w3.alloc (.cells #[.int .i64 x.k, .int .i64 0, .int .i64 x.e, .int .i64 x.i, .int .i64 x.t, .int .i64 x.c, .slice LA ln lc, .slice BA bn bc] 25)).alloc (.cells #[.int .i64 x.k, .int .i64 x.q, .int .i64 (-1), .int .i64 x.i, .int .i64 x.t, .int .i64 x.c, .slice LA ln lc, .slice BA bn bc] 25)).alloc (.cells #[.int .i64 x.k, .int .i64 x.q, .int .i64 x.e, .int .i64 32, .int .i64 x.t, .int .i64 x.c, .slice LA ln lc, .slice BA bn bc] 25)).alloc (.cells #[.int .i64 (x.k + 6), .int .i64 x.q, .int .i64 x.e, .int .i64 x.i, .int .i64 x.t, .int .i64 x.c, .slice LA ln lc, .slice BA bn bc] 25)).alloc (.cells #[.int .i64 x.k, .int .i64 x.q, .int .i64 x.e, .int .i64 x.i, .int .i64 x.t, .int .i64 (-1), .slice LA ln lc, .slice BA bn bc] 25)).alloc (.cells #[.int .i64 x.k, .int .i64 x.q, .int .i64 x.e, .int .i64 x.i, .int .i64 x.t, .int .i64 x.c, .slice LA ln lc, .slice BA bn bc] 25)).alloc (.cells #[] 5)) (w3.heap.size + 1 + 1 + 1 + 1 + 1 + 1) 5 (.slice (some ⟨w3.heap.size + 1 + 1 + 1 + 1 + 1 + 1, 0, none⟩) 0 0) 0 [] := by
        have hh := World.ownsRow_made (base := w3.heap.size + 1 + 1 + 1 + 1 + 1 + 1) (e := 5) (size := 1) ((((((w3.alloc (.cells #[.int .i64 x.k, .int .i64 0, .int .i64 x.e, .int .i64 x.i, .int .i64 x.t, .int .i64 x.c, .slice LA ln lc, .slice BA bn bc] 25)).alloc (.cells #[.int .i64 x.k, .int .i64 x.q, .int .i64 (-1), .int .i64 x.i, .int .i64 x.t, .int .i64 x.c, .slice LA ln lc, .slice BA bn bc] 25)).alloc (.cells #[.int .i64 x.k, .int .i64 x.q, .int .i64 x.e, .int .i64 32, .int .i64 x.t, .int .i64 x.c, .slice LA ln lc, .slice BA bn bc] 25)).alloc (.cells #[.int .i64 (x.k + 6), .int .i64 x.q, .int .i64 x.e, .int .i64 x.i, .int .i64 x.t, .int .i64 x.c, .slice LA ln lc, .slice BA bn bc] 25)).alloc (.cells #[.int .i64 x.k, .int .i64 x.q, .int .i64 x.e, .int .i64 x.i, .int .i64 x.t, .int .i64 (-1), .slice LA ln lc, .slice BA bn bc] 25)).alloc (.cells #[.int .i64 x.k, .int .i64 x.q, .int .i64 x.e, .int .i64 x.i, .int .i64 x.t, .int .i64 x.c, .slice LA ln lc, .slice BA bn bc] 25)) #[] 0 (by rw [sz6]; exact Nat.le_refl _) (Nat.zero_le _) rfl
        rw [sz6] at hh
        exact hh
      have sz7 : w3.heap.size + 1 + 1 + 1 + 1 + 1 + 1 ≤ (((((((w3.alloc (.cells #[.int .i64 x.k, .int .i64 0, .int .i64 x.e, .int .i64 x.i, .int .i64 x.t, .int .i64 x.c, .slice LA ln lc, .slice BA bn bc] 25)).alloc (.cells #[.int .i64 x.k, .int .i64 x.q, .int .i64 (-1), .int .i64 x.i, .int .i64 x.t, .int .i64 x.c, .slice LA ln lc, .slice BA bn bc] 25)).alloc (.cells #[.int .i64 x.k, .int .i64 x.q, .int .i64 x.e, .int .i64 32, .int .i64 x.t, .int .i64 x.c, .slice LA ln lc, .slice BA bn bc] 25)).alloc (.cells #[.int .i64 (x.k + 6), .int .i64 x.q, .int .i64 x.e, .int .i64 x.i, .int .i64 x.t, .int .i64 x.c, .slice LA ln lc, .slice BA bn bc] 25)).alloc (.cells #[.int .i64 x.k, .int .i64 x.q, .int .i64 x.e, .int .i64 x.i, .int .i64 x.t, .int .i64 (-1), .slice LA ln lc, .slice BA bn bc] 25)).alloc (.cells #[.int .i64 x.k, .int .i64 x.q, .int .i64 x.e, .int .i64 x.i, .int .i64 x.t, .int .i64 x.c, .slice LA ln lc, .slice BA bn bc] 25)).alloc (.cells #[] 5)).heap.size := by simp only [size_alloc]; omega
      have bw7 := bthen bw3 gw
      go_wp2_with (first
        | (at_builtin
           refine wpList_app rfl (.tmp 34) (.tmp 36) 23 rfl (w3.heap.size + 1 + 1 + 1 + 1 + 1 + 1) 5 info5 Tryd.underlying23 _ 0 [] rfl ow7 BA bn bc x.b rfl (HRB.out _ bw7) (by omega) sz7 ?_
           intro v5 w5 ho5 hb5
           have sz5 : w3.heap.size + 1 + 1 + 1 + 1 + 1 + 1 ≤ w5.heap.size := Nat.le_trans sz7 hb5.size)
        | (at_builtin
           refine wpList_appZ rfl (.tmp 37) (.const (.int .i64 1025)) 23 3 rfl (w3.heap.size + 1 + 1 + 1 + 1 + 1 + 1) 5 info5 Tryd.underlying23 Tryd.underlying3 _ (0 + bn) ([] ++ x.b) rfl ho5 K (by rw [HK.out]; rfl) (by omega) (by omega) sz5 ?_
           intro v6 w6 ho6 hb6
           have hbZ := hb5.trans hb6
           rw [Nat.zero_add, List.nil_append] at ho6
           obtain ⟨A6, d6, rfl, hr6⟩ := ho6.rd
           have HF := (hbZ.block (w3.heap.size + 1 + 1 + 1 + 1 + 1) (by omega)).trans gf
           have fz := no_frozen HF
           obtain ⟨rpf0, rpf1, rpf2, rpf3, rpf4, rpf5, rpf6, rpf7⟩ := cells8 HF
           have bu := But.setCell w6 (w3.heap.size + 1 + 1 + 1 + 1 + 1) 7 (.slice A6 (bn + K) d6)
           obtain ⟨rpa0, rpa1, rpa2, rpa3, rpa4, rpa5, rpa6, rpa7⟩ := cells8 ((hbZ.block (w3.heap.size) (by omega)).trans ga)
           obtain ⟨pa0, pa1, pa2, pa3, pa4, pa5, pa6, pa7⟩ := cells8 ((bu.2 (w3.heap.size) (by omega)).trans ((hbZ.block (w3.heap.size) (by omega)).trans ga))
           obtain ⟨rpb0, rpb1, rpb2, rpb3, rpb4, rpb5, rpb6, rpb7⟩ := cells8 ((hbZ.block (w3.heap.size + 1) (by omega)).trans gb)
           obtain ⟨pb0, pb1, pb2, pb3, pb4, pb5, pb6, pb7⟩ := cells8 ((bu.2 (w3.heap.size + 1) (by omega)).trans ((hbZ.block (w3.heap.size + 1) (by omega)).trans gb))
           obtain ⟨rpc0, rpc1, rpc2, rpc3, rpc4, rpc5, rpc6, rpc7⟩ := cells8 ((hbZ.block (w3.heap.size + 1 + 1) (by omega)).trans gc)
           obtain ⟨pc0, pc1, pc2, pc3, pc4, pc5, pc6, pc7⟩ := cells8 ((bu.2 (w3.heap.size + 1 + 1) (by omega)).trans ((hbZ.block (w3.heap.size + 1 + 1) (by omega)).trans gc))
           obtain ⟨rpd0, rpd1, rpd2, rpd3, rpd4, rpd5, rpd6, rpd7⟩ := cells8 ((hbZ.block (w3.heap.size + 1 + 1 + 1) (by omega)).trans gd)
           obtain ⟨pd0, pd1, pd2, pd3, pd4, pd5, pd6, pd7⟩ := cells8 ((bu.2 (w3.heap.size + 1 + 1 + 1) (by omega)).trans ((hbZ.block (w3.heap.size + 1 + 1 + 1) (by omega)).trans gd))
           obtain ⟨rpe0, rpe1, rpe2, rpe3, rpe4, rpe5, rpe6, rpe7⟩ := cells8 ((hbZ.block (w3.heap.size + 1 + 1 + 1 + 1) (by omega)).trans ge)
           obtain ⟨pe0, pe1, pe2, pe3, pe4, pe5, pe6, pe7⟩ := cells8 ((bu.2 (w3.heap.size + 1 + 1 + 1 + 1) (by omega)).trans ((hbZ.block (w3.heap.size + 1 + 1 + 1 + 1) (by omega)).trans ge))
           have HF2 : (w6.setCell ⟨w3.heap.size + 1 + 1 + 1 + 1 + 1, 7, none⟩ (.slice A6 (bn + K) d6)).heap[w3.heap.size + 1 + 1 + 1 + 1 + 1]? = some (.cells #[.int .i64 x.k, .int .i64 x.q, .int .i64 x.e, .int .i64 x.i, .int .i64 x.t, .int .i64 x.c, .slice LA ln lc, .slice A6 (bn + K) d6] 25 (0, 0)) := heap_setCell_same w6 (w3.heap.size + 1 + 1 + 1 + 1 + 1) 7 _ _ (.slice A6 (bn + K) d6) HF
           obtain ⟨pf0, pf1, pf2, pf3, pf4, pf5, pf6, pf7⟩ := cells8 HF2
           have bwN : Below w.heap.size w (w6.setCell ⟨w3.heap.size + 1 + 1 + 1 + 1 + 1, 7, none⟩ (.slice A6 (bn + K) d6)) := ((bthen bw3 (gw.trans (hbZ.mono (by omega))))).setCell (p := ⟨w3.heap.size + 1 + 1 + 1 + 1 + 1, 7, none⟩) (Nat.le_trans bw3.size (show w3.heap.size ≤ w3.heap.size + 1 + 1 + 1 + 1 + 1 from by omega)) _
           have hr7 := (ho6.but (by omega) bu).same
           clear ga gb gc gd ge gf gz HF HF2))
      have M0 := may_any (.agg #[.int .i64 x.k, .int .i64 0, .int .i64 x.e, .int .i64 x.i, .int .i64 x.t, .int .i64 x.c, .slice LA ln lc, .slice BA bn bc]) { x with q := 0 } _ ⟨LA, ln, lc, BA, bn, bc, rfl, HRL.out _ bwN, HRB.out _ bwN⟩
      rw [bound_q m1] at M0
      go_wp2_with fail
      with_reducible refine M0.mono ?_
      rintro en u0 ⟨rfl, hu0⟩
      have bu0 := bthen bwN hu0
      clear M0
      have pb4_0 := keepC hu0 pb0
      have pb4_1 := keepC hu0 pb1
      have pb4_2 := keepC hu0 pb2
      have pb4_3 := keepC hu0 pb3
      have pb4_4 := keepC hu0 pb4
      have pb4_5 := keepC hu0 pb5
      have pb4_6 := keepC hu0 pb6
      have pb4_7 := keepC hu0 pb7
      clear pb0 pb1 pb2 pb3 pb4 pb5 pb6 pb7
      have pc4_0 := keepC hu0 pc0
      have pc4_1 := keepC hu0 pc1
      have pc4_2 := keepC hu0 pc2
      have pc4_3 := keepC hu0 pc3
      have pc4_4 := keepC hu0 pc4
      have pc4_5 := keepC hu0 pc5
      have pc4_6 := keepC hu0 pc6
      have pc4_7 := keepC hu0 pc7
      clear pc0 pc1 pc2 pc3 pc4 pc5 pc6 pc7
      have pd4_0 := keepC hu0 pd0
      have pd4_1 := keepC hu0 pd1
      have pd4_2 := keepC hu0 pd2
      have pd4_3 := keepC hu0 pd3
      have pd4_4 := keepC hu0 pd4
      have pd4_5 := keepC hu0 pd5
      have pd4_6 := keepC hu0 pd6
      have pd4_7 := keepC hu0 pd7
      clear pd0 pd1 pd2 pd3 pd4 pd5 pd6 pd7
      have pe4_0 := keepC hu0 pe0
      have pe4_1 := keepC hu0 pe1
      have pe4_2 := keepC hu0 pe2
      have pe4_3 := keepC hu0 pe3
      have pe4_4 := keepC hu0 pe4
      have pe4_5 := keepC hu0 pe5
      have pe4_6 := keepC hu0 pe6
      have pe4_7 := keepC hu0 pe7
      clear pe0 pe1 pe2 pe3 pe4 pe5 pe6 pe7
      have pf4_0 := keepC hu0 pf0
      have pf4_1 := keepC hu0 pf1
      have pf4_2 := keepC hu0 pf2
      have pf4_3 := keepC hu0 pf3
      have pf4_4 := keepC hu0 pf4
      have pf4_5 := keepC hu0 pf5
      have pf4_6 := keepC hu0 pf6
      have pf4_7 := keepC hu0 pf7
      clear pf0 pf1 pf2 pf3 pf4 pf5 pf6 pf7
      have hr8 := Rd.below hr7 hu0
      have M1 := may_any (.agg #[.int .i64 x.k, .int .i64 x.q, .int .i64 (-1), .int .i64 x.i, .int .i64 x.t, .int .i64 x.c, .slice LA ln lc, .slice BA bn bc]) { x with e := -1 } _ ⟨LA, ln, lc, BA, bn, bc, rfl, HRL.out _ bu0, HRB.out _ bu0⟩
      rw [bound_e m1] at M1
      go_wp2_with fail
      with_reducible refine M1.mono ?_
      rintro en u1 ⟨rfl, hu1⟩
      have bu1 := bthen bu0 hu1
      clear M1
      have pc5_0 := keepC hu1 pc4_0
      have pc5_1 := keepC hu1 pc4_1
      have pc5_2 := keepC hu1 pc4_2
      have pc5_3 := keepC hu1 pc4_3
      have pc5_4 := keepC hu1 pc4_4
      have pc5_5 := keepC hu1 pc4_5
      have pc5_6 := keepC hu1 pc4_6
      have pc5_7 := keepC hu1 pc4_7
      clear pc4_0 pc4_1 pc4_2 pc4_3 pc4_4 pc4_5 pc4_6 pc4_7
      have pd5_0 := keepC hu1 pd4_0
      have pd5_1 := keepC hu1 pd4_1
      have pd5_2 := keepC hu1 pd4_2
      have pd5_3 := keepC hu1 pd4_3
      have pd5_4 := keepC hu1 pd4_4
      have pd5_5 := keepC hu1 pd4_5
      have pd5_6 := keepC hu1 pd4_6
      have pd5_7 := keepC hu1 pd4_7
      clear pd4_0 pd4_1 pd4_2 pd4_3 pd4_4 pd4_5 pd4_6 pd4_7
      have pe5_0 := keepC hu1 pe4_0
      have pe5_1 := keepC hu1 pe4_1
      have pe5_2 := keepC hu1 pe4_2
      have pe5_3 := keepC hu1 pe4_3
      have pe5_4 := keepC hu1 pe4_4
      have pe5_5 := keepC hu1 pe4_5
      have pe5_6 := keepC hu1 pe4_6
      have pe5_7 := keepC hu1 pe4_7
      clear pe4_0 pe4_1 pe4_2 pe4_3 pe4_4 pe4_5 pe4_6 pe4_7
      have pf5_0 := keepC hu1 pf4_0
      have pf5_1 := keepC hu1 pf4_1
      have pf5_2 := keepC hu1 pf4_2
      have pf5_3 := keepC hu1 pf4_3
      have pf5_4 := keepC hu1 pf4_4
      have pf5_5 := keepC hu1 pf4_5
      have pf5_6 := keepC hu1 pf4_6
      have pf5_7 := keepC hu1 pf4_7
      clear pf4_0 pf4_1 pf4_2 pf4_3 pf4_4 pf4_5 pf4_6 pf4_7
      have hr9 := Rd.below hr8 hu1
      have M2 := may_any (.agg #[.int .i64 x.k, .int .i64 x.q, .int .i64 x.e, .int .i64 32, .int .i64 x.t, .int .i64 x.c, .slice LA ln lc, .slice BA bn bc]) { x with i := 32 } _ ⟨LA, ln, lc, BA, bn, bc, rfl, HRL.out _ bu1, HRB.out _ bu1⟩
      rw [bound_i m1] at M2
      go_wp2_with fail
      with_reducible refine M2.mono ?_
      rintro en u2 ⟨rfl, hu2⟩
      have bu2 := bthen bu1 hu2
      clear M2
      have pd6_0 := keepC hu2 pd5_0
      have pd6_1 := keepC hu2 pd5_1
      have pd6_2 := keepC hu2 pd5_2
      have pd6_3 := keepC hu2 pd5_3
      have pd6_4 := keepC hu2 pd5_4
      have pd6_5 := keepC hu2 pd5_5
      have pd6_6 := keepC hu2 pd5_6
      have pd6_7 := keepC hu2 pd5_7
      clear pd5_0 pd5_1 pd5_2 pd5_3 pd5_4 pd5_5 pd5_6 pd5_7
      have pe6_0 := keepC hu2 pe5_0
      have pe6_1 := keepC hu2 pe5_1
      have pe6_2 := keepC hu2 pe5_2
      have pe6_3 := keepC hu2 pe5_3
      have pe6_4 := keepC hu2 pe5_4
      have pe6_5 := keepC hu2 pe5_5
      have pe6_6 := keepC hu2 pe5_6
      have pe6_7 := keepC hu2 pe5_7
      clear pe5_0 pe5_1 pe5_2 pe5_3 pe5_4 pe5_5 pe5_6 pe5_7
      have pf6_0 := keepC hu2 pf5_0
      have pf6_1 := keepC hu2 pf5_1
      have pf6_2 := keepC hu2 pf5_2
      have pf6_3 := keepC hu2 pf5_3
      have pf6_4 := keepC hu2 pf5_4
      have pf6_5 := keepC hu2 pf5_5
      have pf6_6 := keepC hu2 pf5_6
      have pf6_7 := keepC hu2 pf5_7
      clear pf5_0 pf5_1 pf5_2 pf5_3 pf5_4 pf5_5 pf5_6 pf5_7
      have hr10 := Rd.below hr9 hu2
      have M3 := may_any (.agg #[.int .i64 (x.k + 6), .int .i64 x.q, .int .i64 x.e, .int .i64 x.i, .int .i64 x.t, .int .i64 x.c, .slice LA ln lc, .slice BA bn bc]) { x with k := x.k + 6 } _ ⟨LA, ln, lc, BA, bn, bc, rfl, HRL.out _ bu2, HRB.out _ bu2⟩
      rw [bound_k m1] at M3
      go_wp2_with fail
      with_reducible refine M3.mono ?_
      rintro en u3 ⟨rfl, hu3⟩
      have bu3 := bthen bu2 hu3
      clear M3
      have pe7_0 := keepC hu3 pe6_0
      have pe7_1 := keepC hu3 pe6_1
      have pe7_2 := keepC hu3 pe6_2
      have pe7_3 := keepC hu3 pe6_3
      have pe7_4 := keepC hu3 pe6_4
      have pe7_5 := keepC hu3 pe6_5
      have pe7_6 := keepC hu3 pe6_6
      have pe7_7 := keepC hu3 pe6_7
      clear pe6_0 pe6_1 pe6_2 pe6_3 pe6_4 pe6_5 pe6_6 pe6_7
      have pf7_0 := keepC hu3 pf6_0
      have pf7_1 := keepC hu3 pf6_1
      have pf7_2 := keepC hu3 pf6_2
      have pf7_3 := keepC hu3 pf6_3
      have pf7_4 := keepC hu3 pf6_4
      have pf7_5 := keepC hu3 pf6_5
      have pf7_6 := keepC hu3 pf6_6
      have pf7_7 := keepC hu3 pf6_7
      clear pf6_0 pf6_1 pf6_2 pf6_3 pf6_4 pf6_5 pf6_6 pf6_7
      have hr11 := Rd.below hr10 hu3
      have M4 := may_any (.agg #[.int .i64 x.k, .int .i64 x.q, .int .i64 x.e, .int .i64 x.i, .int .i64 x.t, .int .i64 (-1), .slice LA ln lc, .slice BA bn bc]) { x with c := -1 } _ ⟨LA, ln, lc, BA, bn, bc, rfl, HRL.out _ bu3, HRB.out _ bu3⟩
      rw [bound_c m1] at M4
      go_wp2_with fail
      with_reducible refine M4.mono ?_
      rintro en u4 ⟨rfl, hu4⟩
      have bu4 := bthen bu3 hu4
      clear M4
      have pf8_0 := keepC hu4 pf7_0
      have pf8_1 := keepC hu4 pf7_1
      have pf8_2 := keepC hu4 pf7_2
      have pf8_3 := keepC hu4 pf7_3
      have pf8_4 := keepC hu4 pf7_4
      have pf8_5 := keepC hu4 pf7_5
      have pf8_6 := keepC hu4 pf7_6
      have pf8_7 := keepC hu4 pf7_7
      clear pf7_0 pf7_1 pf7_2 pf7_3 pf7_4 pf7_5 pf7_6 pf7_7
      have hr12 := Rd.below hr11 hu4
      have M9 := may_any (.agg #[.int .i64 x.k, .int .i64 x.q, .int .i64 x.e, .int .i64 x.i, .int .i64 x.t, .int .i64 x.c, .slice LA ln lc, .slice A6 (bn + K) d6]) { x with b := x.b ++ List.replicate K 0 } _ ⟨LA, ln, lc, A6, _, d6, rfl, HRL.out _ bu4, hr12⟩
      rw [bound_b hK1] at M9
      go_wp2_with fail
      with_reducible refine M9.mono ?_
      rintro en u9 ⟨rfl, hu9⟩
      have bu9 := bthen bu4 hu9
      go_wp2
      go_ret
      exact ⟨rfl, bu9⟩
end Go.Proofs.YtpahkkblkdkefaaDoor
