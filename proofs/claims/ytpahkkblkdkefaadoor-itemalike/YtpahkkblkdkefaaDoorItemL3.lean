/- The walk of the law ItemAlike. (Written by wip/gen/laws.py.) -/
import Derived.Test.YtpahkkblkdkefaaDoorItemShown
import Derived.Test.YtpahkkblkdkefaaDoorRefItem3
import Derived.Test.YtpahkkblkdkefaaDoorRefItem1
import Derived.Deep.RegionHeld3
namespace Go.Proofs.YtpahkkblkdkefaaDoor
open Go.RowKit
set_option linter.unusedVariables false

set_option maxRecDepth 100000 in
set_option maxHeartbeats 4000000 in
theorem alike_any (u v : Value) (x y : Item.It) (w : World) (hw : Wd w) (hu : IsItem w u x) (hv : IsItem w v y) :
    Calls Tryd.prog 5 #[u, v] w (Yes w) := by
  obtain ⟨LA, ln, lc, BA, bn, bc, rfl, hl, hb⟩ := hu
  obtain ⟨LA', ln', lc', BA', bn', bc', rfl, hl', hb'⟩ := hv
  obtain ⟨g0, g1, hb0⟩ := two_alloc w (.cells #[.int .i64 x.k, .int .i64 x.q, .int .i64 x.e, .int .i64 x.i, .int .i64 x.t, .int .i64 x.c, .slice LA ln lc, .slice BA bn bc] 25) (.cells #[.int .i64 y.k, .int .i64 y.q, .int .i64 y.e, .int .i64 y.i, .int .i64 y.t, .int .i64 y.c, .slice LA' ln' lc', .slice BA' bn' bc'] 25)
  obtain ⟨a0, a1, a2, a3, a4, a5, a6, a7⟩ := cells8 g0
  obtain ⟨b0, b1, b2, b3, b4, b5, b6, b7⟩ := cells8 g1
  have hit : ∀ w', Below w.heap.size w w' → IsItem w' (.agg #[.int .i64 x.k, .int .i64 x.q, .int .i64 x.e, .int .i64 x.i, .int .i64 x.t, .int .i64 x.c, .slice LA ln lc, .slice BA bn bc]) x := fun w' h => ⟨LA, ln, lc, BA, bn, bc, rfl, RdV.below hl h, hb.below h⟩
  have hjt : ∀ w', Below w.heap.size w w' → IsItem w' (.agg #[.int .i64 y.k, .int .i64 y.q, .int .i64 y.e, .int .i64 y.i, .int .i64 y.t, .int .i64 y.c, .slice LA' ln' lc', .slice BA' bn' bc']) y := fun w' h => ⟨LA', ln', lc', BA', bn', bc', rfl, RdV.below hl' h, hb'.below h⟩
  have hS := shown_any _ (hw.below hb0)
  clear hl hb hl' hb' g0 g1
  go_enter Tryd.func5, Tryd.ntmps5
  go_wp2_with fail
  with_reducible refine hS.mono ?_
  rintro en w1 ⟨rfl, hw1⟩
  have bw1 := bthen hb0 hw1
  clear hS
  have a1_0 := keepC hw1 a0
  have a1_1 := keepC hw1 a1
  have a1_2 := keepC hw1 a2
  have a1_3 := keepC hw1 a3
  have a1_4 := keepC hw1 a4
  have a1_5 := keepC hw1 a5
  have a1_6 := keepC hw1 a6
  have a1_7 := keepC hw1 a7
  clear a0 a1 a2 a3 a4 a5 a6 a7
  have b1_0 := keepC hw1 b0
  have b1_1 := keepC hw1 b1
  have b1_2 := keepC hw1 b2
  have b1_3 := keepC hw1 b3
  have b1_4 := keepC hw1 b4
  have b1_5 := keepC hw1 b5
  have b1_6 := keepC hw1 b6
  have b1_7 := keepC hw1 b7
  clear b0 b1 b2 b3 b4 b5 b6 b7
  go_wp2_with fail
  with_reducible refine (few_is _ x w1 (hit _ bw1)).mono ?_
  rintro en w2 ⟨rfl, hw2⟩
  have bw2 := bthen bw1 hw2
  have a2_0 := keepC hw2 a1_0
  have a2_1 := keepC hw2 a1_1
  have a2_2 := keepC hw2 a1_2
  have a2_3 := keepC hw2 a1_3
  have a2_4 := keepC hw2 a1_4
  have a2_5 := keepC hw2 a1_5
  have a2_6 := keepC hw2 a1_6
  have a2_7 := keepC hw2 a1_7
  clear a1_0 a1_1 a1_2 a1_3 a1_4 a1_5 a1_6 a1_7
  have b2_0 := keepC hw2 b1_0
  have b2_1 := keepC hw2 b1_1
  have b2_2 := keepC hw2 b1_2
  have b2_3 := keepC hw2 b1_3
  have b2_4 := keepC hw2 b1_4
  have b2_5 := keepC hw2 b1_5
  have b2_6 := keepC hw2 b1_6
  have b2_7 := keepC hw2 b1_7
  clear b1_0 b1_1 b1_2 b1_3 b1_4 b1_5 b1_6 b1_7
  cases f1 : (decide (x.l.length ≤ 80) && decide (x.b.length ≤ 1100)) with
  | false =>
    go_wp2
    go_ret
    exact ⟨rfl, bw2⟩
  | true =>
    go_wp2_with fail
    with_reducible refine (few_is _ y w2 (hjt _ bw2)).mono ?_
    rintro en w3 ⟨rfl, hw3⟩
    have bw3 := bthen bw2 hw3
    have a3_0 := keepC hw3 a2_0
    have a3_1 := keepC hw3 a2_1
    have a3_2 := keepC hw3 a2_2
    have a3_3 := keepC hw3 a2_3
    have a3_4 := keepC hw3 a2_4
    have a3_5 := keepC hw3 a2_5
    have a3_6 := keepC hw3 a2_6
    have a3_7 := keepC hw3 a2_7
    clear a2_0 a2_1 a2_2 a2_3 a2_4 a2_5 a2_6 a2_7
    have b3_0 := keepC hw3 b2_0
    have b3_1 := keepC hw3 b2_1
    have b3_2 := keepC hw3 b2_2
    have b3_3 := keepC hw3 b2_3
    have b3_4 := keepC hw3 b2_4
    have b3_5 := keepC hw3 b2_5
    have b3_6 := keepC hw3 b2_6
    have b3_7 := keepC hw3 b2_7
    clear b2_0 b2_1 b2_2 b2_3 b2_4 b2_5 b2_6 b2_7
    cases f2 : (decide (y.l.length ≤ 80) && decide (y.b.length ≤ 1100)) with
    | false =>
      go_wp2
      go_ret
      exact ⟨rfl, bw3⟩
    | true =>
      go_wp2_with fail
      with_reducible refine (may_any _ x w3 (hit _ bw3)).mono ?_
      rintro en w4 ⟨rfl, hw4⟩
      have bw4 := bthen bw3 hw4
      have a4_0 := keepC hw4 a3_0
      have a4_1 := keepC hw4 a3_1
      have a4_2 := keepC hw4 a3_2
      have a4_3 := keepC hw4 a3_3
      have a4_4 := keepC hw4 a3_4
      have a4_5 := keepC hw4 a3_5
      have a4_6 := keepC hw4 a3_6
      have a4_7 := keepC hw4 a3_7
      clear a3_0 a3_1 a3_2 a3_3 a3_4 a3_5 a3_6 a3_7
      have b4_0 := keepC hw4 b3_0
      have b4_1 := keepC hw4 b3_1
      have b4_2 := keepC hw4 b3_2
      have b4_3 := keepC hw4 b3_3
      have b4_4 := keepC hw4 b3_4
      have b4_5 := keepC hw4 b3_5
      have b4_6 := keepC hw4 b3_6
      have b4_7 := keepC hw4 b3_7
      clear b3_0 b3_1 b3_2 b3_3 b3_4 b3_5 b3_6 b3_7
      cases m1 : Item.may x with
      | false =>
        go_wp2
        go_ret
        exact ⟨rfl, bw4⟩
      | true =>
        go_wp2_with fail
        with_reducible refine (may_any _ y w4 (hjt _ bw4)).mono ?_
        rintro en w5 ⟨rfl, hw5⟩
        have bw5 := bthen bw4 hw5
        have a5_0 := keepC hw5 a4_0
        have a5_1 := keepC hw5 a4_1
        have a5_2 := keepC hw5 a4_2
        have a5_3 := keepC hw5 a4_3
        have a5_4 := keepC hw5 a4_4
        have a5_5 := keepC hw5 a4_5
        have a5_6 := keepC hw5 a4_6
        have a5_7 := keepC hw5 a4_7
        clear a4_0 a4_1 a4_2 a4_3 a4_4 a4_5 a4_6 a4_7
        have b5_0 := keepC hw5 b4_0
        have b5_1 := keepC hw5 b4_1
        have b5_2 := keepC hw5 b4_2
        have b5_3 := keepC hw5 b4_3
        have b5_4 := keepC hw5 b4_4
        have b5_5 := keepC hw5 b4_5
        have b5_6 := keepC hw5 b4_6
        have b5_7 := keepC hw5 b4_7
        clear b4_0 b4_1 b4_2 b4_3 b4_4 b4_5 b4_6 b4_7
        cases m2 : Item.may y with
        | false =>
          go_wp2
          go_ret
          exact ⟨rfl, bw5⟩
        | true =>
          have hw5 := hw.below bw5
          have HQ : Hid (((str (Item.bytes x)).toList == (str (Item.bytes y)).toList) = decide (x = y)) := by
            refine hidT ?_
            rw [str_beq, Bool.eq_iff_iff, decide_eq_true_eq, decide_eq_true_eq]
            exact ⟨Item.bytes_inj m1 m2, fun h => by rw [h]⟩
          obtain ⟨tt, ht⟩ : ∃ tt, decide (x = y) = tt := ⟨_, rfl⟩
          have qb := HQ.out
          rw [ht] at qb
          clear HQ
          have KS : Hid (∀ w', Below w5.heap.size w5 w' → w'.cell? ⟨w.heap.size, 0, none⟩ = some (.int .i64 x.k) ∧ w'.cell? ⟨w.heap.size, 1, none⟩ = some (.int .i64 x.q) ∧ w'.cell? ⟨w.heap.size, 2, none⟩ = some (.int .i64 x.e) ∧ w'.cell? ⟨w.heap.size, 3, none⟩ = some (.int .i64 x.i) ∧ w'.cell? ⟨w.heap.size, 4, none⟩ = some (.int .i64 x.t) ∧ w'.cell? ⟨w.heap.size, 5, none⟩ = some (.int .i64 x.c) ∧ w'.cell? ⟨w.heap.size, 6, none⟩ = some (.slice LA ln lc) ∧ w'.cell? ⟨w.heap.size, 7, none⟩ = some (.slice BA bn bc) ∧ w'.cell? ⟨w.heap.size + 1, 0, none⟩ = some (.int .i64 y.k) ∧ w'.cell? ⟨w.heap.size + 1, 1, none⟩ = some (.int .i64 y.q) ∧ w'.cell? ⟨w.heap.size + 1, 2, none⟩ = some (.int .i64 y.e) ∧ w'.cell? ⟨w.heap.size + 1, 3, none⟩ = some (.int .i64 y.i) ∧ w'.cell? ⟨w.heap.size + 1, 4, none⟩ = some (.int .i64 y.t) ∧ w'.cell? ⟨w.heap.size + 1, 5, none⟩ = some (.int .i64 y.c) ∧ w'.cell? ⟨w.heap.size + 1, 6, none⟩ = some (.slice LA' ln' lc') ∧ w'.cell? ⟨w.heap.size + 1, 7, none⟩ = some (.slice BA' bn' bc') ∧ Below w5.heap.size w5 w') := hidT fun w' h => ⟨keepC h a5_0, keepC h a5_1, keepC h a5_2, keepC h a5_3, keepC h a5_4, keepC h a5_5, keepC h a5_6, keepC h a5_7, keepC h b5_0, keepC h b5_1, keepC h b5_2, keepC h b5_3, keepC h b5_4, keepC h b5_5, keepC h b5_6, keepC h b5_7, h⟩
          have KB : Hid (∀ w', (w'.cell? ⟨w.heap.size, 0, none⟩ = some (.int .i64 x.k) ∧ w'.cell? ⟨w.heap.size, 1, none⟩ = some (.int .i64 x.q) ∧ w'.cell? ⟨w.heap.size, 2, none⟩ = some (.int .i64 x.e) ∧ w'.cell? ⟨w.heap.size, 3, none⟩ = some (.int .i64 x.i) ∧ w'.cell? ⟨w.heap.size, 4, none⟩ = some (.int .i64 x.t) ∧ w'.cell? ⟨w.heap.size, 5, none⟩ = some (.int .i64 x.c) ∧ w'.cell? ⟨w.heap.size, 6, none⟩ = some (.slice LA ln lc) ∧ w'.cell? ⟨w.heap.size, 7, none⟩ = some (.slice BA bn bc) ∧ w'.cell? ⟨w.heap.size + 1, 0, none⟩ = some (.int .i64 y.k) ∧ w'.cell? ⟨w.heap.size + 1, 1, none⟩ = some (.int .i64 y.q) ∧ w'.cell? ⟨w.heap.size + 1, 2, none⟩ = some (.int .i64 y.e) ∧ w'.cell? ⟨w.heap.size + 1, 3, none⟩ = some (.int .i64 y.i) ∧ w'.cell? ⟨w.heap.size + 1, 4, none⟩ = some (.int .i64 y.t) ∧ w'.cell? ⟨w.heap.size + 1, 5, none⟩ = some (.int .i64 y.c) ∧ w'.cell? ⟨w.heap.size + 1, 6, none⟩ = some (.slice LA' ln' lc') ∧ w'.cell? ⟨w.heap.size + 1, 7, none⟩ = some (.slice BA' bn' bc') ∧ Below w5.heap.size w5 w') → Below w5.heap.size w5 w') := hidT fun w' h => h.2.2.2.2.2.2.2.2.2.2.2.2.2.2.2.2
          have KC : Hid (∀ (u v : World), (u.cell? ⟨w.heap.size, 0, none⟩ = some (.int .i64 x.k) ∧ u.cell? ⟨w.heap.size, 1, none⟩ = some (.int .i64 x.q) ∧ u.cell? ⟨w.heap.size, 2, none⟩ = some (.int .i64 x.e) ∧ u.cell? ⟨w.heap.size, 3, none⟩ = some (.int .i64 x.i) ∧ u.cell? ⟨w.heap.size, 4, none⟩ = some (.int .i64 x.t) ∧ u.cell? ⟨w.heap.size, 5, none⟩ = some (.int .i64 x.c) ∧ u.cell? ⟨w.heap.size, 6, none⟩ = some (.slice LA ln lc) ∧ u.cell? ⟨w.heap.size, 7, none⟩ = some (.slice BA bn bc) ∧ u.cell? ⟨w.heap.size + 1, 0, none⟩ = some (.int .i64 y.k) ∧ u.cell? ⟨w.heap.size + 1, 1, none⟩ = some (.int .i64 y.q) ∧ u.cell? ⟨w.heap.size + 1, 2, none⟩ = some (.int .i64 y.e) ∧ u.cell? ⟨w.heap.size + 1, 3, none⟩ = some (.int .i64 y.i) ∧ u.cell? ⟨w.heap.size + 1, 4, none⟩ = some (.int .i64 y.t) ∧ u.cell? ⟨w.heap.size + 1, 5, none⟩ = some (.int .i64 y.c) ∧ u.cell? ⟨w.heap.size + 1, 6, none⟩ = some (.slice LA' ln' lc') ∧ u.cell? ⟨w.heap.size + 1, 7, none⟩ = some (.slice BA' bn' bc') ∧ Below w5.heap.size w5 u) → Below u.heap.size u v → v.cell? ⟨w.heap.size, 0, none⟩ = some (.int .i64 x.k) ∧ v.cell? ⟨w.heap.size, 1, none⟩ = some (.int .i64 x.q) ∧ v.cell? ⟨w.heap.size, 2, none⟩ = some (.int .i64 x.e) ∧ v.cell? ⟨w.heap.size, 3, none⟩ = some (.int .i64 x.i) ∧ v.cell? ⟨w.heap.size, 4, none⟩ = some (.int .i64 x.t) ∧ v.cell? ⟨w.heap.size, 5, none⟩ = some (.int .i64 x.c) ∧ v.cell? ⟨w.heap.size, 6, none⟩ = some (.slice LA ln lc) ∧ v.cell? ⟨w.heap.size, 7, none⟩ = some (.slice BA bn bc) ∧ v.cell? ⟨w.heap.size + 1, 0, none⟩ = some (.int .i64 y.k) ∧ v.cell? ⟨w.heap.size + 1, 1, none⟩ = some (.int .i64 y.q) ∧ v.cell? ⟨w.heap.size + 1, 2, none⟩ = some (.int .i64 y.e) ∧ v.cell? ⟨w.heap.size + 1, 3, none⟩ = some (.int .i64 y.i) ∧ v.cell? ⟨w.heap.size + 1, 4, none⟩ = some (.int .i64 y.t) ∧ v.cell? ⟨w.heap.size + 1, 5, none⟩ = some (.int .i64 y.c) ∧ v.cell? ⟨w.heap.size + 1, 6, none⟩ = some (.slice LA' ln' lc') ∧ v.cell? ⟨w.heap.size + 1, 7, none⟩ = some (.slice BA' bn' bc') ∧ Below w5.heap.size w5 v) := hidT fun u v h hb => KS.out _ (bthen (KB.out _ h) hb)
          go_wp2
          go_region_held (fun w' => w'.cell? ⟨w.heap.size, 0, none⟩ = some (.int .i64 x.k) ∧ w'.cell? ⟨w.heap.size, 1, none⟩ = some (.int .i64 x.q) ∧ w'.cell? ⟨w.heap.size, 2, none⟩ = some (.int .i64 x.e) ∧ w'.cell? ⟨w.heap.size, 3, none⟩ = some (.int .i64 x.i) ∧ w'.cell? ⟨w.heap.size, 4, none⟩ = some (.int .i64 x.t) ∧ w'.cell? ⟨w.heap.size, 5, none⟩ = some (.int .i64 x.c) ∧ w'.cell? ⟨w.heap.size, 6, none⟩ = some (.slice LA ln lc) ∧ w'.cell? ⟨w.heap.size, 7, none⟩ = some (.slice BA bn bc) ∧ w'.cell? ⟨w.heap.size + 1, 0, none⟩ = some (.int .i64 y.k) ∧ w'.cell? ⟨w.heap.size + 1, 1, none⟩ = some (.int .i64 y.q) ∧ w'.cell? ⟨w.heap.size + 1, 2, none⟩ = some (.int .i64 y.e) ∧ w'.cell? ⟨w.heap.size + 1, 3, none⟩ = some (.int .i64 y.i) ∧ w'.cell? ⟨w.heap.size + 1, 4, none⟩ = some (.int .i64 y.t) ∧ w'.cell? ⟨w.heap.size + 1, 5, none⟩ = some (.int .i64 y.c) ∧ w'.cell? ⟨w.heap.size + 1, 6, none⟩ = some (.slice LA' ln' lc') ∧ w'.cell? ⟨w.heap.size + 1, 7, none⟩ = some (.slice BA' bn' bc') ∧ Below w5.heap.size w5 w')
            (first | exact KS.out _ (Below.refl _ _).drew | exact KC.out _ _ (by assumption) h8 | exact KC.out _ _ (by assumption) h7 | exact KC.out _ _ (by assumption) h6 | assumption)
            (first
              | (go_at_call 17; ((with_reducible refine (bytes_any (.agg #[.int .i64 x.k, .int .i64 x.q, .int .i64 x.e, .int .i64 x.i, .int .i64 x.t, .int .i64 x.c, .slice LA ln lc, .slice BA bn bc]) x _ (hw5.below (KB.out _ (by assumption))) (hit _ (bthen bw5 (KB.out _ (by assumption))))).mono ?_); rintro en v6 ⟨A6, n6, rfl, o6, h6⟩; have s6 := strs o6.same; have r6 := Below.refl v6.heap.size v6; (try have t76 := bthen h7 h6); (try have t86 := bthen h8 h6)))
              | (go_at_call 17; ((with_reducible refine (bytes_any (.agg #[.int .i64 y.k, .int .i64 y.q, .int .i64 y.e, .int .i64 y.i, .int .i64 y.t, .int .i64 y.c, .slice LA' ln' lc', .slice BA' bn' bc']) y _ (hw5.below (KB.out _ (by assumption))) (hjt _ (bthen bw5 (KB.out _ (by assumption))))).mono ?_); rintro en v7 ⟨A7, n7, rfl, o7, h7⟩; have s7 := strs o7.same; have r7 := Below.refl v7.heap.size v7; (try have t67 := bthen h6 h7); (try have t87 := bthen h8 h7)))
              | (go_at_call 16; ((with_reducible refine (rsameI_is _ _ x y _ (hit _ (bthen bw5 (KB.out _ (by assumption)))) (hjt _ (bthen bw5 (KB.out _ (by assumption)))) tt ht).mono ?_); rintro en v8 ⟨rfl, h8⟩; (try have t68 := bthen h6 h8); (try have t78 := bthen h7 h8))))
          all_goals
            have hfin := bthen bw5 (KB.out _ (by assumption))
            cases tt
            all_goals
              go_wp2
              go_ret
              exact ⟨rfl, hfin⟩
end Go.Proofs.YtpahkkblkdkefaaDoor
