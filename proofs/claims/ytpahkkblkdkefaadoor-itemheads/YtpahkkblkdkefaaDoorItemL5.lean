/- The walk of the law ItemHeads. (Written by wip/gen/laws.py.) -/
import Derived.Test.YtpahkkblkdkefaaDoorItemShown
import Derived.Test.YtpahkkblkdkefaaDoorRefItem3
import Derived.Test.YtpahkkblkdkefaaDoorRefItem1
import Derived.Deep.RegionHeld3
import Derived.Test.YtpahkkblkdkefaaDoorItemHead
namespace Go.Proofs.YtpahkkblkdkefaaDoor
open Go.RowKit
set_option linter.unusedVariables false

set_option maxRecDepth 100000 in
set_option maxHeartbeats 4000000 in
theorem heads_any (u v : Value) (x y : Item.It) (w : World) (hw : Wd w) (hu : IsItem w u x) (hv : IsItem w v y) :
    Calls Tryd.prog 7 #[u, v] w (Yes w) := by
  obtain ⟨LA, ln, lc, BA, bn, bc, rfl, hl, hb⟩ := hu
  obtain ⟨LA', ln', lc', BA', bn', bc', rfl, hl', hb'⟩ := hv
  obtain ⟨g0, g1, hb0⟩ := two_alloc w (.cells #[.int .i64 x.k, .int .i64 x.q, .int .i64 x.e, .int .i64 x.i, .int .i64 x.t, .int .i64 x.c, .slice LA ln lc, .slice BA bn bc] 25) (.cells #[.int .i64 y.k, .int .i64 y.q, .int .i64 y.e, .int .i64 y.i, .int .i64 y.t, .int .i64 y.c, .slice LA' ln' lc', .slice BA' bn' bc'] 25)
  obtain ⟨a0, a1, a2, a3, a4, a5, a6, a7⟩ := cells8 g0
  obtain ⟨b0, b1, b2, b3, b4, b5, b6, b7⟩ := cells8 g1
  have hit : ∀ w', Below w.heap.size w w' → IsItem w' (.agg #[.int .i64 x.k, .int .i64 x.q, .int .i64 x.e, .int .i64 x.i, .int .i64 x.t, .int .i64 x.c, .slice LA ln lc, .slice BA bn bc]) x := fun w' h => ⟨LA, ln, lc, BA, bn, bc, rfl, RdV.below hl h, hb.below h⟩
  have hjt : ∀ w', Below w.heap.size w w' → IsItem w' (.agg #[.int .i64 y.k, .int .i64 y.q, .int .i64 y.e, .int .i64 y.i, .int .i64 y.t, .int .i64 y.c, .slice LA' ln' lc', .slice BA' bn' bc']) y := fun w' h => ⟨LA', ln', lc', BA', bn', bc', rfl, RdV.below hl' h, hb'.below h⟩
  have hS := shown_any _ (hw.below hb0)
  clear hl hb hl' hb' g0 g1
  go_enter Tryd.func7, Tryd.ntmps7
  go_wp2_with fail
  with_reducible refine hS.mono ?_
  rintro en w1 ⟨rfl, hw1⟩
  have bw1 := bthen hb0 hw1
  clear hS
  have a1_0 := keepC hw1 a0
  have a1_1 := keepC hw1 a1
  have a1_2 := keepC hw1 a2
  have a1_3 := keepC hw1 a3
  have a1_4 := keepC hw1 a4
  have a1_5 := keepC hw1 a5
  have a1_6 := keepC hw1 a6
  have a1_7 := keepC hw1 a7
  clear a0 a1 a2 a3 a4 a5 a6 a7
  have b1_0 := keepC hw1 b0
  have b1_1 := keepC hw1 b1
  have b1_2 := keepC hw1 b2
  have b1_3 := keepC hw1 b3
  have b1_4 := keepC hw1 b4
  have b1_5 := keepC hw1 b5
  have b1_6 := keepC hw1 b6
  have b1_7 := keepC hw1 b7
  clear b0 b1 b2 b3 b4 b5 b6 b7
  go_wp2_with fail
  with_reducible refine (few_is _ x w1 (hit _ bw1)).mono ?_
  rintro en w2 ⟨rfl, hw2⟩
  have bw2 := bthen bw1 hw2
  have a2_0 := keepC hw2 a1_0
  have a2_1 := keepC hw2 a1_1
  have a2_2 := keepC hw2 a1_2
  have a2_3 := keepC hw2 a1_3
  have a2_4 := keepC hw2 a1_4
  have a2_5 := keepC hw2 a1_5
  have a2_6 := keepC hw2 a1_6
  have a2_7 := keepC hw2 a1_7
  clear a1_0 a1_1 a1_2 a1_3 a1_4 a1_5 a1_6 a1_7
  have b2_0 := keepC hw2 b1_0
  have b2_1 := keepC hw2 b1_1
  have b2_2 := keepC hw2 b1_2
  have b2_3 := keepC hw2 b1_3
  have b2_4 := keepC hw2 b1_4
  have b2_5 := keepC hw2 b1_5
  have b2_6 := keepC hw2 b1_6
  have b2_7 := keepC hw2 b1_7
  clear b1_0 b1_1 b1_2 b1_3 b1_4 b1_5 b1_6 b1_7
  cases f1 : (decide (x.l.length ≤ 80) && decide (x.b.length ≤ 1100)) with
  | false =>
    go_wp2
    go_ret
    exact ⟨rfl, bw2⟩
  | true =>
    go_wp2_with fail
    with_reducible refine (few_is _ y w2 (hjt _ bw2)).mono ?_
    rintro en w3 ⟨rfl, hw3⟩
    have bw3 := bthen bw2 hw3
    have a3_0 := keepC hw3 a2_0
    have a3_1 := keepC hw3 a2_1
    have a3_2 := keepC hw3 a2_2
    have a3_3 := keepC hw3 a2_3
    have a3_4 := keepC hw3 a2_4
    have a3_5 := keepC hw3 a2_5
    have a3_6 := keepC hw3 a2_6
    have a3_7 := keepC hw3 a2_7
    clear a2_0 a2_1 a2_2 a2_3 a2_4 a2_5 a2_6 a2_7
    have b3_0 := keepC hw3 b2_0
    have b3_1 := keepC hw3 b2_1
    have b3_2 := keepC hw3 b2_2
    have b3_3 := keepC hw3 b2_3
    have b3_4 := keepC hw3 b2_4
    have b3_5 := keepC hw3 b2_5
    have b3_6 := keepC hw3 b2_6
    have b3_7 := keepC hw3 b2_7
    clear b2_0 b2_1 b2_2 b2_3 b2_4 b2_5 b2_6 b2_7
    cases f2 : (decide (y.l.length ≤ 80) && decide (y.b.length ≤ 1100)) with
    | false =>
      go_wp2
      go_ret
      exact ⟨rfl, bw3⟩
    | true =>
      go_wp2_with fail
      with_reducible refine (rmay_any _ x w3 (hit _ bw3)).mono ?_
      rintro en w4 ⟨rfl, hw4⟩
      have bw4 := bthen bw3 hw4
      have a4_0 := keepC hw4 a3_0
      have a4_1 := keepC hw4 a3_1
      have a4_2 := keepC hw4 a3_2
      have a4_3 := keepC hw4 a3_3
      have a4_4 := keepC hw4 a3_4
      have a4_5 := keepC hw4 a3_5
      have a4_6 := keepC hw4 a3_6
      have a4_7 := keepC hw4 a3_7
      clear a3_0 a3_1 a3_2 a3_3 a3_4 a3_5 a3_6 a3_7
      have b4_0 := keepC hw4 b3_0
      have b4_1 := keepC hw4 b3_1
      have b4_2 := keepC hw4 b3_2
      have b4_3 := keepC hw4 b3_3
      have b4_4 := keepC hw4 b3_4
      have b4_5 := keepC hw4 b3_5
      have b4_6 := keepC hw4 b3_6
      have b4_7 := keepC hw4 b3_7
      clear b3_0 b3_1 b3_2 b3_3 b3_4 b3_5 b3_6 b3_7
      cases m1 : Item.may x with
      | false =>
        go_wp2
        go_ret
        exact ⟨rfl, bw4⟩
      | true =>
        go_wp2_with fail
        with_reducible refine (rmay_any _ y w4 (hjt _ bw4)).mono ?_
        rintro en w5 ⟨rfl, hw5⟩
        have bw5 := bthen bw4 hw5
        have a5_0 := keepC hw5 a4_0
        have a5_1 := keepC hw5 a4_1
        have a5_2 := keepC hw5 a4_2
        have a5_3 := keepC hw5 a4_3
        have a5_4 := keepC hw5 a4_4
        have a5_5 := keepC hw5 a4_5
        have a5_6 := keepC hw5 a4_6
        have a5_7 := keepC hw5 a4_7
        clear a4_0 a4_1 a4_2 a4_3 a4_4 a4_5 a4_6 a4_7
        have b5_0 := keepC hw5 b4_0
        have b5_1 := keepC hw5 b4_1
        have b5_2 := keepC hw5 b4_2
        have b5_3 := keepC hw5 b4_3
        have b5_4 := keepC hw5 b4_4
        have b5_5 := keepC hw5 b4_5
        have b5_6 := keepC hw5 b4_6
        have b5_7 := keepC hw5 b4_7
        clear b4_0 b4_1 b4_2 b4_3 b4_4 b4_5 b4_6 b4_7
        cases m2 : Item.may y with
        | false =>
          go_wp2
          go_ret
          exact ⟨rfl, bw5⟩
        | true =>
          go_wp2_with fail
          with_reducible refine (bytes_any _ x w5 (hw.below bw5) (hit _ bw5)).mono ?_
          rintro en w6 ⟨A6, n6, rfl, o6, hw6⟩
          have bw6 := bthen bw5 hw6
          have a6_0 := keepC hw6 a5_0
          have a6_1 := keepC hw6 a5_1
          have a6_2 := keepC hw6 a5_2
          have a6_3 := keepC hw6 a5_3
          have a6_4 := keepC hw6 a5_4
          have a6_5 := keepC hw6 a5_5
          have a6_6 := keepC hw6 a5_6
          have a6_7 := keepC hw6 a5_7
          clear a5_0 a5_1 a5_2 a5_3 a5_4 a5_5 a5_6 a5_7
          have b6_0 := keepC hw6 b5_0
          have b6_1 := keepC hw6 b5_1
          have b6_2 := keepC hw6 b5_2
          have b6_3 := keepC hw6 b5_3
          have b6_4 := keepC hw6 b5_4
          have b6_5 := keepC hw6 b5_5
          have b6_6 := keepC hw6 b5_6
          have b6_7 := keepC hw6 b5_7
          clear b5_0 b5_1 b5_2 b5_3 b5_4 b5_5 b5_6 b5_7
          go_wp2_with fail
          with_reducible refine (bytes_any _ y w6 (hw.below bw6) (hjt _ bw6)).mono ?_
          rintro en w7 ⟨A7, n7, rfl, o7, hw7⟩
          have bw7 := bthen bw6 hw7
          have a7_0 := keepC hw7 a6_0
          have a7_1 := keepC hw7 a6_1
          have a7_2 := keepC hw7 a6_2
          have a7_3 := keepC hw7 a6_3
          have a7_4 := keepC hw7 a6_4
          have a7_5 := keepC hw7 a6_5
          have a7_6 := keepC hw7 a6_6
          have a7_7 := keepC hw7 a6_7
          clear a6_0 a6_1 a6_2 a6_3 a6_4 a6_5 a6_6 a6_7
          have b7_0 := keepC hw7 b6_0
          have b7_1 := keepC hw7 b6_1
          have b7_2 := keepC hw7 b6_2
          have b7_3 := keepC hw7 b6_3
          have b7_4 := keepC hw7 b6_4
          have b7_5 := keepC hw7 b6_5
          have b7_6 := keepC hw7 b6_6
          have b7_7 := keepC hw7 b6_7
          clear b6_0 b6_1 b6_2 b6_3 b6_4 b6_5 b6_6 b6_7
          have hdif : x.k ≠ y.k → Item.bytes x ≠ Item.bytes y := fun hne he => hne (by rw [Item.bytes_inj m1 m2 he])
          have HD := hidT hdif
          obtain ⟨hd0, hdq, hde, h17, k1, k6⟩ := Item.heads m1
          have h17y := (Item.heads m2).2.2.2.1
          have r6 := o6.same.below hw7
          have s6 := strs r6
          have s7 := strs o7.same
          have qb := str_beq (Item.bytes x) (Item.bytes y)
          have HQ := hidT hdq
          have HE := hidT hde
          have hq62 : x.q ≤ 4611686018427387904 := (Item.may_parts m1).1.2
          have he62 : x.e ≤ 4611686018427387904 := (Item.may_parts m1).2.1.2
          clear hdif hdq hde
          generalize Item.bytes x = X at *
          generalize Item.bytes y = Y at *
          obtain ⟨b, o, rfl, hcell⟩ := r6.at_ (by omega)
          have hlx := r6.1
          have hcap := r6.2.1
          obtain ⟨z0, hz0, hc0⟩ := hcell 0 (by omega)
          rw [hd0] at hz0
          injection hz0 with hz0
          subst hz0
          have hk8 : ((UInt8.ofNat x.k.toNat).toNat : Int) = x.k := by rw [UInt8.toNat_ofNat']; omega
          have hk9 : (((UInt8.ofNat x.k.toNat).toNat : Int) != x.k) = false := by rw [hk8]; simp
          have hk10 : (((UInt8.ofNat x.k.toNat).toNat : Int) == x.k) = true := by rw [hk8]; simp
          rw [Nat.add_zero] at hc0
          have HZ := hidT hd0
          clear hd0
          have q1 : decide ((X.length : Int) < 17) = false := by simp; omega
          have q2 : decide ((Y.length : Int) < 17) = false := by simp; omega
          have q1n : decide (X.length < 17) = false := by simp; omega
          have q2n : decide (Y.length < 17) = false := by simp; omega
          rw [hk8] at hc0
          obtain ⟨U, HU⟩ : ∃ U, Hid (X.drop 1 = U) := ⟨_, hidT rfl⟩
          obtain ⟨V, HV⟩ : ∃ V, Hid (X.drop 9 = V) := ⟨_, hidT rfl⟩
          rw [HU.out] at HQ
          rw [HV.out] at HE
          go_wp2
          go_quiet (fail)
          go_wp2
          go_loop [8, 9, 10] (fun n m i => ∃ j : Nat, j ≤ 8 ∧ i = .int .i64 ((j : Int) + 1) ∧ n = .int .i64 (Num.val (U.take j) : Nat) ∧ m = .int .i64 (Num.val (V.take j) : Nat)) (fun _ _ i => 9 - (intOf i).toNat)
          case atStart => exact ⟨0, by omega, rfl, rfl, rfl⟩
          case round =>
            obtain ⟨j, hj, rfl, rfl, rfl⟩ := hrel
            by_cases hj8 : j < 8
            · obtain ⟨p, hp, hcp⟩ := hcell (j + 1) (by omega)
              obtain ⟨p2, hp2, hcp2⟩ := hcell (j + 9) (by omega)
              have e1 : U[j]? = some p := by rw [← HU.out, List.getElem?_drop, Nat.add_comm]; exact hp
              have e2 : V[j]? = some p2 := by rw [← HV.out, List.getElem?_drop, Nat.add_comm]; exact hp2
              have S1 := hidT (val_take_succ e1)
              have S2 := hidT (val_take_succ e2)
              have n1 : 256 * Num.val (U.take j) + p.toNat ≤ 4611686018427387904 := by
                have h1 := Item.val_mono U (8 - (j + 1)) (j + 1) (by rw [← HU.out, List.length_drop]; omega)
                rw [show j + 1 + (8 - (j + 1)) = 8 from by omega, S1.out] at h1
                have := HQ.out
                omega
              have n2 : 256 * Num.val (V.take j) + p2.toNat ≤ 4611686018427387904 := by
                have h1 := Item.val_mono V (8 - (j + 1)) (j + 1) (by rw [← HV.out, List.length_drop]; omega)
                rw [show j + 1 + (8 - (j + 1)) = 8 from by omega, S2.out] at h1
                have := HE.out
                omega
              have hcp3 : w7.cell? ⟨b, o + (j + 1 + 8), none⟩ = some (.int .u8 (p2.toNat : Int)) := hcp2
              clear hp hp2 e1 e2 hcell
              rw [← S1.out] at n1
              rw [← S2.out] at n2
              have E1 : Hid ((256 : Int) * (Num.val (U.take j) : Nat) + (p.toNat : Int) = (Num.val (U.take (j + 1)) : Nat)) := by rw [S1.out]; exact hidT (by push_cast; rfl)
              have E2 : Hid ((256 : Int) * (Num.val (V.take j) : Nat) + (p2.toNat : Int) = (Num.val (V.take (j + 1)) : Nat)) := by rw [S2.out]; exact hidT (by push_cast; rfl)
              have b1 : 256 * Num.val (U.take j) + p.toNat ≤ 4611686018427387904 := by rw [← S1.out]; exact n1
              have b2 : 256 * Num.val (V.take j) + p2.toNat ≤ 4611686018427387904 := by rw [← S2.out]; exact n2
              clear n1 n2
              go_wp2
              rw [E1.out, E2.out]
              exact ⟨⟨j + 1, by omega, by go_num, rfl, rfl⟩, by simp [intOf]; omega⟩
            · obtain rfl : j = 8 := by omega
              have t1 : ((Num.val (U.take 8) : Nat) : Int) = x.q := HQ.out
              have t2 : ((Num.val (V.take 8) : Nat) : Int) = x.e := HE.out
              rw [t1, t2]
              have s6w := fun k => s6 (w7.drewN k) (drawn_below _ _)
              have s7w := fun k => s7 (w7.drewN k) (drawn_below _ _)
              have hdn := drawn_below w7
              by_cases hxy : x.k = y.k
              · have qk : (x.k == y.k) = true := by simpa using hxy
                go_wp2
                go_ret
                exact ⟨rfl, bthen bw7 (hdn _)⟩
              · have qk : (x.k == y.k) = false := by simpa using hxy
                have qd : ((str X).toList == (str Y).toList) = false := by rw [qb]; simpa using HD.out hxy
                have qd2 : ((str X).toList != (str Y).toList) = true := by simp only [bne, qd]; rfl
                clear qb
                go_wp2
                go_ret
                exact ⟨rfl, bthen bw7 (hdn _)⟩
end Go.Proofs.YtpahkkblkdkefaaDoor
