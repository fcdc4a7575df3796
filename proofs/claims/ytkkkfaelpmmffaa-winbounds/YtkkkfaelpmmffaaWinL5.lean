/- The law WinBounds, walked. -/
import Derived.Test.YtkkkfaelpmmffaaWShown
import Derived.Test.YtkkkfaelpmmffaaRWin1
set_option maxRecDepth 100000
namespace Go.Proofs.Ytkkkfaelpmmffaa
open Go.RowKit
set_option linter.unusedVariables false

set_option maxRecDepth 100000 in
set_option maxHeartbeats 16000000 in
theorem wbounds_any (p q : Int) (A : Option Addr) (m c : Nat) (fs : List UInt8) (w : World) (hA : Rd w A m c fs) (hp : 0 ≤ p ∧ p < 256) (hq : 0 ≤ q ∧ q < 256) :
    Calls Try.prog 7 #[.int .u8 p, .int .u8 q, .slice A m c] w (Yes w) := by
  have hm := hA.le
  have HA := hidT hA
  obtain ⟨hp0, hp1⟩ := hp
  obtain ⟨hq0, hq1⟩ := hq
  have e1 : Int.tmod p 20 = p % 20 := Int.tmod_eq_emod_of_nonneg hp0
  have e2 : Int.tmod q 60 = q % 60 := Int.tmod_eq_emod_of_nonneg hq0
  obtain ⟨N, hN⟩ : ∃ N, p % 20 = N := ⟨_, rfl⟩
  obtain ⟨S, hS⟩ : ∃ S, q % 60 = S := ⟨_, rfl⟩
  have N0 : 0 ≤ N := by omega
  have N1 : N < 20 := by omega
  have S0 : 0 ≤ S := by omega
  have S1 : S < 60 := by omega
  rw [hN] at e1
  rw [hS] at e2
  clear hA
  have p1 : wrap64 p = p := IntWalk.wrap64_in _ (by omega)
  have p2 : wrap64 q = q := IntWalk.wrap64_in _ (by omega)
  obtain ⟨n, an⟩ : ∃ n, 1 + N = n := ⟨_, rfl⟩
  have n0 : 1 ≤ n := by omega
  have n1 : n ≤ 20 := by omega
  clear N0 N1 hN
  go_enter Try.func7, Try.ntmps7
  go_wp2_with fail
  with_reducible refine (wshown_any _).mono ?_
  rintro e w1 ⟨rfl, hb1⟩
  by_cases h80 : m ≤ 80
  · have t1 : decide (80 < m) = false := by simpa using h80
    have t2 : decide ((80 : Int) < (m : Int)) = false := by simp; omega
    have z1 := alloc_at w1 (.cells #[.int .i64 n, .slice none 0 0] 24) _ rfl
    have z3 := nkeep w1 (.cells #[.int .i64 n, .slice none 0 0] 24)
    have hbw := bthen hb1 z3
    have hsz := size_alloc w1 (.cells #[.int .i64 n, .slice none 0 0] 24)
    obtain ⟨g, hg⟩ : ∃ g, w1.heap.size = g := ⟨_, rfl⟩
    rw [hg] at z1 hsz
    have hgw : w.heap.size ≤ g := by have := hb1.size; omega
    obtain ⟨W, hW⟩ : ∃ W, w1.alloc (.cells #[.int .i64 n, .slice none 0 0] 24) = W := ⟨_, rfl⟩
    rw [hW] at z1 hbw hsz
    have Z0 := hidT z1
    have HB0 := hidT hbw
    have HW := hidT hW
    have HGW := hidT hgw
    clear z1 z3 hbw hW hb1 hS hp0 hp1 hq0 hq1 hsz hgw
    go_wp2_with fail
    rw [HW.out]
    clear hg t1 t2 e1 e2 p1 p2 an
    go_loopw [11] (fun i wr => ∃ (j : Nat) (K : List Item.It) (B : Option Addr) (nl d : Nat), i = .int .i64 j ∧ j ≤ m ∧ Hid (Win.right ⟨n, K⟩ = true ∧ ∀ x ∈ K, x.q ≤ S) ∧
        Hid (wr.heap[g]? = some (.cells #[.int .i64 n, .slice B nl d] 24 (0, 0))) ∧ Hid (FrK wr (g + 1) (.agg #[.int .i64 n, .slice B nl d]) ⟨n, K⟩) ∧ Hid (Below w.heap.size w wr)) (fun i _ => m - (intOf i).toNat)
    case atStart => exact ⟨0, [], none, 0, 0, rfl, Nat.zero_le _, hidT ⟨Win.right_iff.2 ⟨⟨by simp, by simp; omega, by simp; omega⟩, fun x hx => (by cases hx), rfl⟩, fun x hx => (by cases hx)⟩, hidT Z0.out, hidT (FrK.empty _ _ _), hidT HB0.out⟩
    case round =>
      obtain ⟨j, K, B, nl, d, rfl, hj, HR, XG, XK, XB⟩ := hrel
      obtain ⟨i0, i1⟩ := cells2 XG.out
      have hgs := blk_lt XG.out
      by_cases hjm : j < m
      · obtain ⟨b, o, fb, rfl, hfb, hcell⟩ := HA.out.byte hjm
        have hc := hcell wr XB.out
        have x1 : (0 : Int) ≤ (j : Int) := by omega
        have x2 : (j : Int) < (m : Int) := by omega
        have f0 : (0 : Int) ≤ (fb.toNat : Int) := by omega
        have f1 : (fb.toNat : Int) < 256 := by have := fb.toNat_lt; omega
        have e3 : Int.tmod (fb.toNat : Int) 60 = (fb.toNat : Int) % 60 := Int.tmod_eq_emod_of_nonneg f0
        have e4 : wrap64 (fb.toNat : Int) = (fb.toNat : Int) := IntWalk.wrap64_in _ (by omega)
        obtain ⟨F, hF⟩ : ∃ F, (fb.toNat : Int) % 60 = F := ⟨_, rfl⟩
        have F0 : 0 ≤ F := by omega
        have F1 : F < 60 := by omega
        rw [hF] at e3
        obtain ⟨s, es⟩ : ∃ s, 1 + F = s := ⟨_, rfl⟩
        have s0 : 1 ≤ s := by omega
        have s1 : s ≤ 60 := by omega
        clear F0 F1 hF f0 f1 hcell hfb
        go_upto_region 11 with fail
        clear e3 e4 es x1 x2 hc
        have hpu := wput_right (.agg #[.int .i64 n, .slice B nl d]) (.agg #[.int .i64 3, .int .i64 s, .int .i64 0, .int .i64 0, .int .i64 0, .int .i64 0, .slice none 0 0, .slice none 0 0]) ⟨n, K⟩ (Keep.tok s) S wr XK.out.is (IsItem.tokq wr s) HR.out.1 (by simp [Keep.tok])
        obtain ⟨P, hP⟩ : ∃ P, Win.put ⟨n, K⟩ (Keep.tok s) S = P := ⟨_, rfl⟩
        have hPn : P.next = n := by rw [← hP]; exact Win.put_next _ _ _
        have hPr : Win.right P = true := by rw [← hP]; exact Win.right_put _ _ HR.out.1
        obtain ⟨PL, hPL⟩ : ∃ PL, P.l = PL := ⟨_, rfl⟩
        have hPe : P = ⟨n, PL⟩ := by rw [← hPn, ← hPL]
        rw [hPe] at hPr hP
        rw [hP] at hpu
        have HP := hidT hP
        have HPR := hidT hPr
        clear hPn hPL hPe hPr hP
        cases ht : Win.takes ⟨n, K⟩ (Keep.tok s) S with
        | true =>
          rw [ht] at hpu
          obtain ⟨⟨_, k1, k2⟩, _, _⟩ := Win.takes_iff.1 ht
          have k1' : n ≤ s := k1
          have k2' : s ≤ S := k2
          have HPL : Hid (PL = Win.ins K (Keep.tok s)) := hidT (by have h1 := HP.out; rw [Win.put_yes ht] at h1; injection h1 with _ h1; exact h1.symm)
          have g1 : decide (s < n) = false := by rw [decide_eq_false_iff_not]; omega
          have g2 : decide (S < s) = false := by rw [decide_eq_false_iff_not]; omega
          clear k1 k2 k1' ht
          go_wp2_with fail
          with_reducible refine hpu.mono ?_
          rintro e w5 ⟨v5, rfl, hK5, hb5⟩
          obtain ⟨A5, n5, c5, us5, ev5, hr5, ha5, hf5⟩ := id hK5
          have ev5' : v5 = .agg #[.int .i64 n, .slice A5 n5 c5] := ev5
          clear ev5 hr5 ha5 hf5
          subst ev5'
          have t1 := alloc_at w5 (.cells #[.int .i64 n, .slice A5 n5 c5] 24) _ rfl
          have t3 := nkeep w5 (.cells #[.int .i64 n, .slice A5 n5 c5] 24)
          obtain ⟨V5, hV5⟩ : ∃ V, w5.alloc (.cells #[.int .i64 n, .slice A5 n5 c5] 24) = V := ⟨_, rfl⟩
          have hb57 := bthen hb5 t3
          have hk7 := (hK5.below t3).mono (show g + 1 ≤ wr.heap.size by omega)
          rw [hV5] at t1 hb57 hk7
          have HV5 := hidT hV5
          have YG := hidT (keepH XG.out hb57)
          have HB57 := hidT hb57
          have HB7 := hidT (bthen XB.out hb57)
          have HK7 := hidT hk7
          obtain ⟨gv, hgv⟩ : ∃ gv, w5.heap.size = gv := ⟨_, rfl⟩
          rw [hgv] at t1
          have YX := hidT t1
          obtain ⟨yc0, yc1⟩ := cells2 t1
          rw [← HV5.out] at yc0 yc1
          clear t1 t3 hb57 hk7 hV5 hb5 hK5 hpu i0 i1
          have yg := YG.out
          rw [← HV5.out] at yg
          go_wp2_with (
            refine wpList_stI rfl 24 _ _ rfl g #[.int .i64 n, .slice A5 n5 c5] rfl rfl _ _ yg wsize2 rfl (by simp [Value.oneCell']) ?_
            intro w8 hg8 hbut hbel)
          exact ⟨⟨j + 1, PL, A5, n5, c5, by go_num, by omega, hidT ⟨HPR.out, fun x hx => by
            rw [HPL.out] at hx
            rcases Win.mem_ins.1 hx with rfl | hx
            · exact k2'
            · exact HR.out.2 x hx⟩, hidT hg8, hidT (FrK.but (by rw [HV5.out]; exact HK7.out) (by omega) hbut), hidT (hbel _ _ (by rw [HV5.out]; exact HB7.out) HGW.out)⟩, by first | (simp [intOf]; done) | (simp [intOf]; omega)⟩
        | false =>
          rw [ht] at hpu
          have HPL : Hid (PL = K) := hidT (by have h1 := HP.out; rw [Win.put_no ht] at h1; injection h1 with _ h1; exact h1.symm)
          clear ht
          go_wp2_with fail
          with_reducible refine hpu.mono ?_
          rintro e w5 ⟨v5, rfl, hK5, hb5⟩
          obtain ⟨A5, n5, c5, us5, ev5, hr5, ha5, hf5⟩ := id hK5
          have ev5' : v5 = .agg #[.int .i64 n, .slice A5 n5 c5] := ev5
          clear ev5 hr5 ha5 hf5
          subst ev5'
          have t1 := alloc_at w5 (.cells #[.int .i64 n, .slice A5 n5 c5] 24) _ rfl
          have t3 := nkeep w5 (.cells #[.int .i64 n, .slice A5 n5 c5] 24)
          obtain ⟨V5, hV5⟩ : ∃ V, w5.alloc (.cells #[.int .i64 n, .slice A5 n5 c5] 24) = V := ⟨_, rfl⟩
          have hb57 := bthen hb5 t3
          have hk7 := (hK5.below t3).mono (show g + 1 ≤ wr.heap.size by omega)
          rw [hV5] at t1 hb57 hk7
          have HV5 := hidT hV5
          have YG := hidT (keepH XG.out hb57)
          have HB57 := hidT hb57
          have HB7 := hidT (bthen XB.out hb57)
          have HK7 := hidT hk7
          obtain ⟨gv, hgv⟩ : ∃ gv, w5.heap.size = gv := ⟨_, rfl⟩
          rw [hgv] at t1
          have YX := hidT t1
          obtain ⟨yc0, yc1⟩ := cells2 t1
          rw [← HV5.out] at yc0 yc1
          clear t1 t3 hb57 hk7 hV5 hb5 hK5 hpu i0 i1
          have hsa := rwsame_is _ _ ⟨n, PL⟩ ⟨n, K⟩ V5 HK7.out.is (XK.out.is.below HB57.out) true (by rw [HPL.out]; simp)
          obtain ⟨i0, i1⟩ := cells2 YG.out
          rw [← HV5.out] at i0 i1
          go_wp2_with fail
          rw [HV5.out]
          clear hgv i0 i1 yc0 yc1
          with_reducible refine hsa.mono ?_
          rintro e w6 ⟨rfl, hb6⟩
          obtain ⟨yc0, yc1⟩ := cells2 (keepH YX.out hb6)
          have YG6 := hidT (keepH YG.out hb6)
          have HK6 := hidT (HK7.out.below hb6)
          have HB6 := hidT (bthen HB7.out hb6)
          clear hb6 hsa
          go_wp2_with (
            refine wpList_stI rfl 24 _ _ rfl g #[.int .i64 n, .slice A5 n5 c5] rfl rfl _ _ YG6.out wsize2 rfl (by simp [Value.oneCell']) ?_
            intro w8 hg8 hbut hbel)
          exact ⟨⟨j + 1, PL, A5, n5, c5, by go_num, by omega, hidT ⟨HPR.out, fun x hx => by
            rw [HPL.out] at hx
            exact HR.out.2 x hx⟩, hidT hg8, hidT (HK6.out.but (by omega) hbut), hidT (hbel _ _ HB6.out HGW.out)⟩, by first | (simp [intOf]; done) | (simp [intOf]; omega)⟩
      · have hjm2 : j = m := by omega
        have hWX : RdX wr B nl d K := by
          obtain ⟨A9, n9, c9, e9, h9⟩ := XK.out.is
          injection e9 with e9
          have e9' : (#[.int .i64 n, .slice B nl d] : Array Value) = #[.int .i64 n, .slice A9 n9 c9] := e9
          injection e9' with e9'
          injection e9' with _ e9'
          injection e9' with e9' _
          injection e9' with r1 r2 r3
          subst r1 r2 r3
          exact h9
        have hnl := hWX.le
        have HWX := hidT hWX
        have HRI := hidT (Win.right_iff.1 HR.out.1).2.2
        have b1 : wrap64 (n + S) = n + S := IntWalk.wrap64_in _ (by omega)
        have b2 : IntKind.i64.wrap (n + S) = n + S := IntWalk.i64_in _ (by omega)
        have b3 : wrap64 (n + S + 1) = n + S + 1 := IntWalk.wrap64_in _ (by omega)
        have b4 : IntKind.i64.wrap (n + S + 1) = n + S + 1 := IntWalk.i64_in _ (by omega)
        clear hWX
        obtain ⟨wq, rfl⟩ : ∃ wq, wq = wr := ⟨wr, rfl⟩
        go_wp2_with fail
        go_loopw [15] (fun i wr => ∃ j : Nat, j ≤ nl ∧ i = .int .i64 j ∧ wq = wr) (fun i _ => nl - (intOf i).toNat)
        case atStart => exact ⟨0, Nat.zero_le _, rfl, rfl⟩
        case round =>
          obtain ⟨j', hj', rfl, rfl⟩ := hrel
          by_cases hjn : j' < nl
          · obtain ⟨b, o, x, LA, ln, lc, BA, bn, bc, e, hx, hi, hcs⟩ := HWX.out.told hjn
            subst e
            have c1 := (hcs wq (Below.refl _ _)).2.1
            have x1 : (0 : Int) ≤ (j' : Int) := by omega
            have x2 : (j' : Int) < (nl : Int) := by omega
            have u1 := Win.rises_low HRI.out x (List.mem_of_getElem? hx)
            have u1' : n ≤ x.q := u1
            have u2 := HR.out.2 x (List.mem_of_getElem? hx)
            have g1 : decide (x.q < n) = false := by rw [decide_eq_false_iff_not]; omega
            have g2 : decide (S < x.q) = false := by rw [decide_eq_false_iff_not]; omega
            clear hcs hi hx u1
            go_wp2
            exact ⟨⟨j' + 1, by omega, by go_num, trivial⟩, by simp [intOf]; omega⟩
          · have hjn2 : j' = nl := by omega
            have hp1 := wput_right (.agg #[.int .i64 n, .slice none 0 0]) (.agg #[.int .i64 3, .int .i64 (n + S), .int .i64 0, .int .i64 0, .int .i64 0, .int .i64 0, .slice none 0 0, .slice none 0 0]) ⟨n, []⟩ (Keep.tok (n + S)) (n + S) wq (IsKeep.empty _ _) (IsItem.tokq _ _) (Win.right_iff.2 ⟨⟨by simp, by simp; omega, by simp; omega⟩, fun x hx => (by cases hx), rfl⟩) (by simp [Keep.tok])
            have ht1 : Win.takes ⟨n, []⟩ (Keep.tok (n + S)) (n + S) = true := Win.takes_iff.2 ⟨⟨Keep.may_tok (by omega) (by omega), by show n ≤ n + S; omega, Int.le_refl _⟩, by simp, rfl⟩
            rw [ht1] at hp1
            subst hjn2
            clear ht1
            go_wp2_with fail
            with_reducible refine hp1.mono ?_
            rintro e w5 ⟨v5, rfl, hK5, hb5⟩
            obtain ⟨A5, n5, c5, us5, ev5, hr5, ha5, hf5⟩ := id hK5
            clear hr5 ha5 hf5 hK5
            subst ev5
            have z3 := nkeep w5 (.cells #[.int .i64 (Win.put ⟨n, []⟩ (Keep.tok (n + S)) (n + S)).next, .slice A5 n5 c5] 24)
            obtain ⟨V5, hV5⟩ : ∃ V, w5.alloc (.cells #[.int .i64 (Win.put ⟨n, []⟩ (Keep.tok (n + S)) (n + S)).next, .slice A5 n5 c5] 24) = V := ⟨_, rfl⟩
            rw [hV5] at z3
            have HV5 := hidT hV5
            have HB5 := hidT (bthen XB.out (bthen hb5 z3))
            clear hb5 z3 hV5 hp1
            have hp2 := wput_right (.agg #[.int .i64 n, .slice none 0 0]) (.agg #[.int .i64 3, .int .i64 (n + S + 1), .int .i64 0, .int .i64 0, .int .i64 0, .int .i64 0, .slice none 0 0, .slice none 0 0]) ⟨n, []⟩ (Keep.tok (n + S + 1)) (n + S) V5 (IsKeep.empty _ _) (IsItem.tokq _ _) (Win.right_iff.2 ⟨⟨by simp, by simp; omega, by simp; omega⟩, fun x hx => (by cases hx), rfl⟩) (by simp [Keep.tok])
            have ht2 : Win.takes ⟨n, []⟩ (Keep.tok (n + S + 1)) (n + S) = false := by
              rw [Bool.eq_false_iff]; intro h
              have h2 := (Win.takes_iff.1 h).1.2.2
              have h3 : n + S + 1 ≤ n + S := h2
              omega
            rw [ht2] at hp2
            clear ht2
            go_wp2_with fail
            rw [HV5.out]
            with_reducible refine hp2.mono ?_
            rintro e w6 ⟨v6, rfl, hK6, hb6⟩
            obtain ⟨A6, n6, c6, us6, ev6, hr6, ha6, hf6⟩ := id hK6
            clear hr6 ha6 hf6 hK6
            subst ev6
            have z6 := nkeep w6 (.cells #[.int .i64 (Win.put ⟨n, []⟩ (Keep.tok (n + S + 1)) (n + S)).next, .slice A6 n6 c6] 24)
            go_wp2
            go_ret
            exact ⟨rfl, bthen HB5.out (bthen hb6 z6)⟩
  · have t1 : decide (80 < m) = true := by simp; omega
    have t2 : decide ((80 : Int) < (m : Int)) = true := by simp; omega
    go_wp2
    go_ret
    exact ⟨rfl, hb1⟩
end Go.Proofs.Ytkkkfaelpmmffaa
