/- The law WinTells, walked. (Written by wip/gen/wintells.py.) -/
import Derived.Test.YtkkkfaelpmmffaaWShown
import Derived.Test.YtkkkfaelpmmffaaRWin2
import Derived.Test.YtkkkfaelpmmffaaRWin3
import Derived.Test.YtkkkfaelpmmffaaRWin5
import Derived.Deep.RegionHeldLaw
set_option maxRecDepth 100000
namespace Go.Proofs.Ytkkkfaelpmmffaa
open Go.RowKit
set_option linter.unusedVariables false

set_option maxRecDepth 100000 in
set_option maxHeartbeats 16000000 in
theorem wtells_any (A : Option Addr) (n c : Nat) (k : Keep.Kp) (A' : Option Addr) (n' c' : Nat) (o : Keep.Kp) (LA : Option Addr) (ln lc : Nat) (BA : Option Addr) (bn bc : Nat) (x : Item.It) (last : Int) (w : World) (hX : RdX w A n c k.l) (hO : RdX w A' n' c' o.l) (hl : RdI w LA ln lc x.l) (hb : Rd w BA bn bc x.b) :
    Calls Try.prog 3 #[.agg #[.int .i64 k.next, .slice A n c, .int .i64 o.next, .slice A' n' c', .int .i64 x.k, .int .i64 x.q, .int .i64 x.e, .int .i64 x.i, .int .i64 x.t, .int .i64 x.c, .slice LA ln lc, .slice BA bn bc, .int .i64 last]] w (Yes w) := by
  have hn := hX.le
  have hn' := hO.le
  have hit : IsItem w (.agg #[.int .i64 x.k, .int .i64 x.q, .int .i64 x.e, .int .i64 x.i, .int .i64 x.t, .int .i64 x.c, .slice LA ln lc, .slice BA bn bc]) x := ⟨LA, ln, lc, BA, bn, bc, rfl, hl, hb⟩
  obtain ⟨y0, y1, y2, y3, hb0, hs0⟩ := four_alloc w (.cells #[.int .i64 k.next, .slice A n c, .int .i64 o.next, .slice A' n' c', .int .i64 x.k, .int .i64 x.q, .int .i64 x.e, .int .i64 x.i, .int .i64 x.t, .int .i64 x.c, .slice LA ln lc, .slice BA bn bc, .int .i64 last] 30) (.cells #[.int .i64 k.next, .slice A n c] 24) (.cells #[.int .i64 o.next, .slice A' n' c'] 24) (.cells #[.int .i64 x.k, .int .i64 x.q, .int .i64 x.e, .int .i64 x.i, .int .i64 x.t, .int .i64 x.c, .slice LA ln lc, .slice BA bn bc] 28)
  have o12 := cell_at y0 12 (u := .int .i64 last) rfl
  obtain ⟨g, hg⟩ : ∃ g, w.heap.size = g := ⟨_, rfl⟩
  rw [hg] at y1 y2 y3 o12
  have K_0 := hidT (y1)
  have O_0 := hidT (y2)
  have X_0 := hidT (y3)
  have B_0 := hidT (hb0)
  have HX := hidT hX
  have HO := hidT hO
  have HIT := hidT hit
  clear y0 y1 y2 y3 hs0 hX hO hit hl hb
  go_enter Try.func3, Try.ntmps3
  go_wp2_with fail
  with_reducible refine (wshown_any _).mono ?_
  rintro e w1 ⟨rfl, hb1⟩
  have K_1 := hidT (keepH K_0.out hb1)
  have O_1 := hidT (keepH O_0.out hb1)
  have X_1 := hidT (keepH X_0.out hb1)
  have B_1 := hidT (bthen B_0.out hb1)
  clear K_0 O_0 X_0 B_0
  clear hb1 hb0 hg o12
  obtain ⟨i0, i1⟩ := cells2 K_1.out
  have hf := fewK_is A n c k.l w1 (HX.out.below B_1.out)
  go_wp2_with fail
  cases hfew : fewK k.l with
  | false =>
    rw [hfew] at hf
    with_reducible refine hf.mono ?_
    rintro e w2 ⟨rfl, hbx⟩
    go_wp2
    go_ret
    exact ⟨rfl, bthen B_1.out hbx⟩
  | true =>
    rw [hfew] at hf
    clear hfew
    with_reducible refine hf.mono ?_
    rintro e w2 ⟨rfl, hb2⟩
    have K_2 := hidT (keepH K_1.out hb2)
    have O_2 := hidT (keepH O_1.out hb2)
    have X_2 := hidT (keepH X_1.out hb2)
    have B_2 := hidT (bthen B_1.out hb2)
    clear K_1 O_1 X_1 B_1
    clear hb2 hf i0 i1
    obtain ⟨j0, j1⟩ := cells2 O_2.out
    have hf := fewK_is A' n' c' o.l w2 (HO.out.below B_2.out)
    go_wp2_with fail
    cases hfew : fewK o.l with
    | false =>
      rw [hfew] at hf
      with_reducible refine hf.mono ?_
      rintro e w3 ⟨rfl, hbx⟩
      go_wp2
      go_ret
      exact ⟨rfl, bthen B_2.out hbx⟩
    | true =>
      rw [hfew] at hf
      clear hfew
      with_reducible refine hf.mono ?_
      rintro e w3 ⟨rfl, hb3⟩
      have K_3 := hidT (keepH K_2.out hb3)
      have O_3 := hidT (keepH O_2.out hb3)
      have X_3 := hidT (keepH X_2.out hb3)
      have B_3 := hidT (bthen B_2.out hb3)
      clear K_2 O_2 X_2 B_2
      clear hb3 hf j0 j1
      obtain ⟨l0, l1, l2, l3, l4, l5, l6, l7⟩ := cells8 X_3.out
      have hf : Calls Try.prog 10 #[.agg #[.int .i64 x.k, .int .i64 x.q, .int .i64 x.e, .int .i64 x.i, .int .i64 x.t, .int .i64 x.c, .slice LA ln lc, .slice BA bn bc]] w3 (BoolIs w3 (fewI x)) := few_is _ x w3 (HIT.out.below B_3.out)
      go_wp2_with fail
      cases hfi : fewI x with
      | false =>
        rw [hfi] at hf
        with_reducible refine hf.mono ?_
        rintro e w4 ⟨rfl, hbx⟩
        go_wp2
        go_ret
        exact ⟨rfl, bthen B_3.out hbx⟩
      | true =>
        rw [hfi] at hf
        have hsx : x.l.length ≤ 80 ∧ x.b.length ≤ 1100 := by simpa [fewI] using hfi
        have HSX := hidT hsx
        clear hfi hsx
        with_reducible refine hf.mono ?_
        rintro e w4 ⟨rfl, hb4⟩
        have K_4 := hidT (keepH K_3.out hb4)
        have O_4 := hidT (keepH O_3.out hb4)
        have X_4 := hidT (keepH X_3.out hb4)
        have B_4 := hidT (bthen B_3.out hb4)
        clear K_3 O_3 X_3 B_3
        clear hb4 hf l0 l1 l2 l3 l4 l5 l6 l7
        obtain ⟨i0, i1⟩ := cells2 K_4.out
        have hr := rwright_any (.agg #[.int .i64 k.next, .slice A n c]) k w4 ⟨A, n, c, rfl, HX.out.below B_4.out⟩
        obtain ⟨rr, hrr⟩ : ∃ rr, Win.right k = rr := ⟨_, rfl⟩
        rw [hrr] at hr
        have HRR := hidT hrr
        clear hrr
        go_wp2_with fail
        with_reducible refine hr.mono ?_
        rintro e w5 ⟨rfl, hb5⟩
        have K_5 := hidT (keepH K_4.out hb5)
        have O_5 := hidT (keepH O_4.out hb5)
        have X_5 := hidT (keepH X_4.out hb5)
        have B_5 := hidT (bthen B_4.out hb5)
        clear K_4 O_4 X_4 B_4
        clear hb5 hr i0 i1
        obtain ⟨t, ht⟩ : ∃ t, decide (k = o) = t := ⟨_, rfl⟩
        have C13 := hidT fun w' (hb : Below w5.heap.size w5 w') => wright_any (.agg #[.int .i64 k.next, .slice A n c]) k w' ⟨A, n, c, rfl, HX.out.below (bthen B_5.out hb)⟩
        rw [HRR.out] at C13
        have C14 := hidT fun w' (hb : Below w5.heap.size w5 w') => wsame_is (.agg #[.int .i64 k.next, .slice A n c]) (.agg #[.int .i64 o.next, .slice A' n' c']) k o w' ⟨A, n, c, rfl, HX.out.below (bthen B_5.out hb)⟩ ⟨A', n', c', rfl, HO.out.below (bthen B_5.out hb)⟩ t ht
        have C15 := hidT fun w' (hb : Below w5.heap.size w5 w') => rwsame_is (.agg #[.int .i64 k.next, .slice A n c]) (.agg #[.int .i64 o.next, .slice A' n' c']) k o w' ⟨A, n, c, rfl, HX.out.below (bthen B_5.out hb)⟩ ⟨A', n', c', rfl, HO.out.below (bthen B_5.out hb)⟩ t ht
        have C16 := hidT fun w' => wnew_any w'
        have C17 := hidT fun w' => rwnew_any w'
        have C18 := hidT fun w' => rwsame_is (.agg #[.int .i64 1, .slice none 0 0]) (.agg #[.int .i64 1, .slice none 0 0]) Keep.new Keep.new w' (IsKeep.new w') (IsKeep.new w') true (by simp)
        have e1 : (rr != rr) = false := by simp
        have e2 : (t != t) = false := by simp
        have kx0 := fun w' (hb : Below w5.heap.size w5 w') => (cells2 (keepH K_5.out hb)).1
        have kx1 := fun w' (hb : Below w5.heap.size w5 w') => (cells2 (keepH K_5.out hb)).2
        have ky0 := fun w' (hb : Below w5.heap.size w5 w') => (cells2 (keepH O_5.out hb)).1
        have ky1 := fun w' (hb : Below w5.heap.size w5 w') => (cells2 (keepH O_5.out hb)).2
        clear ht
        go_wp2_with fail
        go_region_held_law (fun w' => Below w5.heap.size w5 w')
          (first | exact (Below.refl _ _).drew | exact hc6 | exact hc5 | exact hc4 | exact hc3 | exact hc2 | exact hc1)
          (first
            | (go_at_call 12; ((with_reducible refine (C13.out _ (Below.refl _ _).drew).mono ?_); rintro e a1 ⟨rfl, hc1'⟩; have hc1 : Below w5.heap.size w5 a1 := undrew hc1'))
            | (go_at_call 13; ((with_reducible refine (C14.out a1 hc1).mono ?_); rintro e a2 ⟨rfl, hc2'⟩; have hc2 : Below w5.heap.size w5 a2 := bthen hc1 hc2'))
            | (go_at_call 14; ((with_reducible refine (C15.out a2 hc2).mono ?_); rintro e a3 ⟨rfl, hc3'⟩; have hc3 : Below w5.heap.size w5 a3 := bthen hc2 hc3'))
            | (go_at_call 15; ((with_reducible refine (C16.out a3).mono ?_); rintro e a4 ⟨rfl, hc4'⟩; have hc4 : Below w5.heap.size w5 a4 := bthen hc3 hc4'))
            | (go_at_call 16; ((with_reducible refine (C17.out a4).mono ?_); rintro e a5 ⟨rfl, hc5'⟩; have hc5 : Below w5.heap.size w5 a5 := bthen hc4 hc5'))
            | (go_at_call 14; ((with_reducible refine (C18.out a5).mono ?_); rintro e a6 ⟨rfl, hc6'⟩; have hc6 : Below w5.heap.size w5 a6 := bthen hc5 hc6'))
            | fail)
        clear C13 C14 C15 C16 C17 C18 e1 e2 kx0 kx1 ky0 ky1 hc1' hc2' hc3' hc4' hc5' hc6' hc1 hc2 hc3 hc4 hc5
        have K_6 := hidT (keepH K_5.out hc6)
        have O_6 := hidT (keepH O_5.out hc6)
        have X_6 := hidT (keepH X_5.out hc6)
        have B_6 := hidT (bthen B_5.out hc6)
        clear K_5 O_5 X_5 B_5
        clear hc6
        cases rr with
        | false =>
          go_wp2
          go_ret
          exact ⟨rfl, B_6.out⟩
        | true =>
          clear O_6
          clear HO
          have HSM := hidT (right_small HRR.out)
          obtain ⟨P, hP⟩ : ∃ P, Win.put k x last = P := ⟨_, rfl⟩
          obtain ⟨t1, ht1⟩ : ∃ t1, Win.takes k x last = t1 := ⟨_, rfl⟩
          have HP := hidT hP
          have HT := hidT ht1
          obtain ⟨Q, hQ⟩ : ∃ Q, Win.peek k = Q := ⟨_, rfl⟩
          have HQ := hidT hQ
          obtain ⟨z, hz⟩ : ∃ z, Q.getD Item.It.zero = z := ⟨_, rfl⟩
          obtain ⟨s, hs⟩ : ∃ s, Q.isSome = s := ⟨_, rfl⟩
          have HZ := hidT hz
          have HS := hidT hs
          obtain ⟨R, hR⟩ : ∃ R, Win.take k = R := ⟨_, rfl⟩
          have HR := hidT hR
          obtain ⟨G, hG⟩ : ∃ G, Win.gap k last = G := ⟨_, rfl⟩
          have HG := hidT hG
          clear hP ht1 hQ hz hs hR hG
          obtain ⟨i0, i1⟩ := cells2 K_6.out
          obtain ⟨l0, l1, l2, l3, l4, l5, l6, l7⟩ := cells8 X_6.out
          have hp := wput_right (.agg #[.int .i64 k.next, .slice A n c]) (.agg #[.int .i64 x.k, .int .i64 x.q, .int .i64 x.e, .int .i64 x.i, .int .i64 x.t, .int .i64 x.c, .slice LA ln lc, .slice BA bn bc]) k x last a6 ⟨A, n, c, rfl, HX.out.below B_6.out⟩ (HIT.out.below B_6.out) HRR.out (by have := HSX.out; omega)
          rw [HP.out, HT.out] at hp
          go_wp2_with fail
          with_reducible refine hp.mono ?_
          rintro e b1 ⟨v1, rfl, hK1, hb1⟩
          have K_7 := hidT (keepH K_6.out hb1)
          have X_7 := hidT (keepH X_6.out hb1)
          have B_7 := hidT (bthen B_6.out hb1)
          clear K_6 X_6 B_6
          clear hb1 hp i0 i1 l0 l1 l2 l3 l4 l5 l6 l7
          obtain ⟨A1, n1, c1, us1, ev1, hr1, ha1, hf1⟩ := id hK1
          clear hr1 ha1 hf1
          have ev1' : v1 = .agg #[.int .i64 P.next, .slice A1 n1 c1] := ev1
          clear ev1
          subst ev1'
          have t1 := alloc_at b1 (.cells #[.int .i64 P.next, .slice A1 n1 c1] 24) _ rfl
          have t3 := nkeep b1 (.cells #[.int .i64 P.next, .slice A1 n1 c1] 24)
          obtain ⟨Vb1, hVb1⟩ : ∃ W, b1.alloc (.cells #[.int .i64 P.next, .slice A1 n1 c1] 24) = W := ⟨_, rfl⟩
          rw [hVb1] at t1 t3
          have HVb1 := hidT hVb1
          have K_8 := hidT (keepH K_7.out t3)
          have X_8 := hidT (keepH X_7.out t3)
          have B_8 := hidT (bthen B_7.out t3)
          clear K_7 X_7 B_7
          have KA_0 := hidT (hK1.is.below t3)
          obtain ⟨gb1, hgb1⟩ : ∃ p, b1.heap.size = p := ⟨_, rfl⟩
          rw [hgb1] at t1
          have YA_0 := hidT (t1)
          clear t1 t3 hVb1
          clear hK1
          obtain ⟨i0, i1⟩ := cells2 K_8.out
          obtain ⟨l0, l1, l2, l3, l4, l5, l6, l7⟩ := cells8 X_8.out
          have hp := rwput_any (.agg #[.int .i64 k.next, .slice A n c]) (.agg #[.int .i64 x.k, .int .i64 x.q, .int .i64 x.e, .int .i64 x.i, .int .i64 x.t, .int .i64 x.c, .slice LA ln lc, .slice BA bn bc]) k x last Vb1 ⟨A, n, c, rfl, HX.out.below B_8.out⟩ (HIT.out.below B_8.out)
          rw [HP.out, HT.out] at hp
          rw [← HVb1.out] at i0 i1 l0 l1 l2 l3 l4 l5 l6 l7
          go_wp2_with fail
          rw [HVb1.out]
          clear hgb1
          with_reducible refine hp.mono ?_
          rintro e b2 ⟨v2, rfl, hK2, hb2⟩
          have K_9 := hidT (keepH K_8.out hb2)
          have X_9 := hidT (keepH X_8.out hb2)
          have B_9 := hidT (bthen B_8.out hb2)
          have KA_1 := hidT (KA_0.out.below hb2)
          have YA_1 := hidT (keepH YA_0.out hb2)
          clear K_8 X_8 B_8 KA_0 YA_0
          clear hb2 hp i0 i1 l0 l1 l2 l3 l4 l5 l6 l7
          obtain ⟨A2, n2, c2, ev2, hr2⟩ := id hK2
          clear hr2
          have ev2' : v2 = .agg #[.int .i64 P.next, .slice A2 n2 c2] := ev2
          clear ev2
          subst ev2'
          have t1 := alloc_at b2 (.cells #[.int .i64 P.next, .slice A2 n2 c2] 24) _ rfl
          have t3 := nkeep b2 (.cells #[.int .i64 P.next, .slice A2 n2 c2] 24)
          obtain ⟨Vb2, hVb2⟩ : ∃ W, b2.alloc (.cells #[.int .i64 P.next, .slice A2 n2 c2] 24) = W := ⟨_, rfl⟩
          rw [hVb2] at t1 t3
          have HVb2 := hidT hVb2
          have K_10 := hidT (keepH K_9.out t3)
          have X_10 := hidT (keepH X_9.out t3)
          have B_10 := hidT (bthen B_9.out t3)
          have KA_2 := hidT (KA_1.out.below t3)
          have YA_2 := hidT (keepH YA_1.out t3)
          clear K_9 X_9 B_9 KA_1 YA_1
          have KB_0 := hidT (hK2.below t3)
          obtain ⟨gb2, hgb2⟩ : ∃ p, b2.heap.size = p := ⟨_, rfl⟩
          rw [hgb2] at t1
          have YB_0 := hidT (t1)
          clear t1 t3 hVb2
          clear hK2
          clear X_10
          obtain ⟨i0, i1⟩ := cells2 K_10.out
          have hp := wpeek_any (.agg #[.int .i64 k.next, .slice A n c]) k Vb2 ⟨A, n, c, rfl, HX.out.below B_10.out⟩ (Win.right_iff.1 HRR.out).2.2 HSM.out
          rw [HQ.out] at hp
          unfold GetFr at hp
          rw [HZ.out, HS.out] at hp
          rw [← HVb2.out] at i0 i1
          go_wp2_with fail
          rw [HVb2.out]
          clear hgb2
          with_reducible refine hp.mono ?_
          rintro e b3 ⟨v3, rfl, hI3, hb3⟩
          have K_11 := hidT (keepH K_10.out hb3)
          have B_11 := hidT (bthen B_10.out hb3)
          have KA_3 := hidT (KA_2.out.below hb3)
          have YA_3 := hidT (keepH YA_2.out hb3)
          have KB_1 := hidT (KB_0.out.below hb3)
          have YB_1 := hidT (keepH YB_0.out hb3)
          clear K_10 B_10 KA_2 YA_2 KB_0 YB_0
          clear hb3 hp i0 i1
          obtain ⟨LA3, ln3, lc3, BA3, bn3, bc3, eu3, hl3, hbb3, hla3, hba3⟩ := id hI3
          clear hl3 hbb3 hla3 hba3
          have eu3' : v3 = .agg #[.int .i64 z.k, .int .i64 z.q, .int .i64 z.e, .int .i64 z.i, .int .i64 z.t, .int .i64 z.c, .slice LA3 ln3 lc3, .slice BA3 bn3 bc3] := eu3
          clear eu3
          subst eu3'
          have t1 := alloc_at b3 (.cells #[.int .i64 z.k, .int .i64 z.q, .int .i64 z.e, .int .i64 z.i, .int .i64 z.t, .int .i64 z.c, .slice LA3 ln3 lc3, .slice BA3 bn3 bc3] 28) _ rfl
          have t3 := nkeep b3 (.cells #[.int .i64 z.k, .int .i64 z.q, .int .i64 z.e, .int .i64 z.i, .int .i64 z.t, .int .i64 z.c, .slice LA3 ln3 lc3, .slice BA3 bn3 bc3] 28)
          obtain ⟨Vb3, hVb3⟩ : ∃ W, b3.alloc (.cells #[.int .i64 z.k, .int .i64 z.q, .int .i64 z.e, .int .i64 z.i, .int .i64 z.t, .int .i64 z.c, .slice LA3 ln3 lc3, .slice BA3 bn3 bc3] 28) = W := ⟨_, rfl⟩
          rw [hVb3] at t1 t3
          have HVb3 := hidT hVb3
          have K_12 := hidT (keepH K_11.out t3)
          have B_12 := hidT (bthen B_11.out t3)
          have KA_4 := hidT (KA_3.out.below t3)
          have YA_4 := hidT (keepH YA_3.out t3)
          have KB_2 := hidT (KB_1.out.below t3)
          have YB_2 := hidT (keepH YB_1.out t3)
          clear K_11 B_11 KA_3 YA_3 KB_1 YB_1
          have IX_0 := hidT (hI3.is.below t3)
          obtain ⟨gb3, hgb3⟩ : ∃ p, b3.heap.size = p := ⟨_, rfl⟩
          rw [hgb3] at t1
          have YX_0 := hidT (t1)
          clear t1 t3 hVb3
          clear hI3
          obtain ⟨i0, i1⟩ := cells2 K_12.out
          have hp := rwpeek_any (.agg #[.int .i64 k.next, .slice A n c]) k w Vb3 ⟨A, n, c, rfl, HX.out⟩ B_12.out (Win.right_iff.1 HRR.out).2.2
          rw [HQ.out] at hp
          unfold RGetIs at hp
          rw [HZ.out, HS.out] at hp
          rw [← HVb3.out] at i0 i1
          go_wp2_with fail
          rw [HVb3.out]
          clear hgb3
          with_reducible refine hp.mono ?_
          rintro e b4 ⟨v4, rfl, hI4, hb4⟩
          have K_13 := hidT (keepH K_12.out hb4)
          have B_13 := hidT (bthen B_12.out hb4)
          have KA_5 := hidT (KA_4.out.below hb4)
          have YA_5 := hidT (keepH YA_4.out hb4)
          have KB_3 := hidT (KB_2.out.below hb4)
          have YB_3 := hidT (keepH YB_2.out hb4)
          have IX_1 := hidT (IX_0.out.below hb4)
          have YX_1 := hidT (keepH YX_0.out hb4)
          clear K_12 B_12 KA_4 YA_4 KB_2 YB_2 IX_0 YX_0
          clear hb4 hp i0 i1
          obtain ⟨LA4, ln4, lc4, BA4, bn4, bc4, eu4, hl4, hbb4⟩ := id hI4
          clear hl4 hbb4
          have eu4' : v4 = .agg #[.int .i64 z.k, .int .i64 z.q, .int .i64 z.e, .int .i64 z.i, .int .i64 z.t, .int .i64 z.c, .slice LA4 ln4 lc4, .slice BA4 bn4 bc4] := eu4
          clear eu4
          subst eu4'
          have t1 := alloc_at b4 (.cells #[.int .i64 z.k, .int .i64 z.q, .int .i64 z.e, .int .i64 z.i, .int .i64 z.t, .int .i64 z.c, .slice LA4 ln4 lc4, .slice BA4 bn4 bc4] 28) _ rfl
          have t3 := nkeep b4 (.cells #[.int .i64 z.k, .int .i64 z.q, .int .i64 z.e, .int .i64 z.i, .int .i64 z.t, .int .i64 z.c, .slice LA4 ln4 lc4, .slice BA4 bn4 bc4] 28)
          obtain ⟨Vb4, hVb4⟩ : ∃ W, b4.alloc (.cells #[.int .i64 z.k, .int .i64 z.q, .int .i64 z.e, .int .i64 z.i, .int .i64 z.t, .int .i64 z.c, .slice LA4 ln4 lc4, .slice BA4 bn4 bc4] 28) = W := ⟨_, rfl⟩
          rw [hVb4] at t1 t3
          have HVb4 := hidT hVb4
          have K_14 := hidT (keepH K_13.out t3)
          have B_14 := hidT (bthen B_13.out t3)
          have KA_6 := hidT (KA_5.out.below t3)
          have YA_6 := hidT (keepH YA_5.out t3)
          have KB_4 := hidT (KB_3.out.below t3)
          have YB_4 := hidT (keepH YB_3.out t3)
          have IX_2 := hidT (IX_1.out.below t3)
          have YX_2 := hidT (keepH YX_1.out t3)
          clear K_13 B_13 KA_5 YA_5 KB_3 YB_3 IX_1 YX_1
          obtain ⟨gb4, hgb4⟩ : ∃ p, b4.heap.size = p := ⟨_, rfl⟩
          rw [hgb4] at t1
          have YY_0 := hidT (t1)
          clear t1 t3 hVb4
          have IY_0 := hidT (hI4.below B_14.out)
          clear hI4
          obtain ⟨i0, i1⟩ := cells2 K_14.out
          have hp := wtake_any (.agg #[.int .i64 k.next, .slice A n c]) k Vb4 ⟨A, n, c, rfl, HX.out.below B_14.out⟩ HRR.out HSM.out
          rw [HQ.out, HR.out] at hp
          unfold TakeIs at hp
          rw [HZ.out, HS.out] at hp
          rw [← HVb4.out] at i0 i1
          go_wp2_with fail
          rw [HVb4.out]
          clear hgb4
          with_reducible refine hp.mono ?_
          rintro e b5 ⟨u5, v5, rfl, hI5, hK5, hb5⟩
          have K_15 := hidT (keepH K_14.out hb5)
          have B_15 := hidT (bthen B_14.out hb5)
          have KA_7 := hidT (KA_6.out.below hb5)
          have YA_7 := hidT (keepH YA_6.out hb5)
          have KB_5 := hidT (KB_4.out.below hb5)
          have YB_5 := hidT (keepH YB_4.out hb5)
          have IX_3 := hidT (IX_2.out.below hb5)
          have YX_3 := hidT (keepH YX_2.out hb5)
          have YY_1 := hidT (keepH YY_0.out hb5)
          have IY_1 := hidT (IY_0.out.below hb5)
          clear K_14 B_14 KA_6 YA_6 KB_4 YB_4 IX_2 YX_2 YY_0 IY_0
          clear hb5 hp i0 i1
          obtain ⟨LA5, ln5, lc5, BA5, bn5, bc5, eu5, hl5, hbb5, hla5, hba5⟩ := id hI5
          clear hl5 hbb5 hla5 hba5
          have eu5' : u5 = .agg #[.int .i64 z.k, .int .i64 z.q, .int .i64 z.e, .int .i64 z.i, .int .i64 z.t, .int .i64 z.c, .slice LA5 ln5 lc5, .slice BA5 bn5 bc5] := eu5
          clear eu5
          subst eu5'
          obtain ⟨A5b, n5b, c5b, us5b, ev5b, hr5b, ha5b, hf5b⟩ := id hK5
          clear hr5b ha5b hf5b
          have ev5b' : v5 = .agg #[.int .i64 R.next, .slice A5b n5b c5b] := ev5b
          clear ev5b
          subst ev5b'
          obtain ⟨t1, t2, t3⟩ := two_alloc b5 (.cells #[.int .i64 z.k, .int .i64 z.q, .int .i64 z.e, .int .i64 z.i, .int .i64 z.t, .int .i64 z.c, .slice LA5 ln5 lc5, .slice BA5 bn5 bc5] 28) (.cells #[.int .i64 R.next, .slice A5b n5b c5b] 24)
          obtain ⟨Vb5, hVb5⟩ : ∃ W, (b5.alloc (.cells #[.int .i64 z.k, .int .i64 z.q, .int .i64 z.e, .int .i64 z.i, .int .i64 z.t, .int .i64 z.c, .slice LA5 ln5 lc5, .slice BA5 bn5 bc5] 28)).alloc (.cells #[.int .i64 R.next, .slice A5b n5b c5b] 24) = W := ⟨_, rfl⟩
          rw [hVb5] at t1 t2 t3
          have HVb5 := hidT hVb5
          have K_16 := hidT (keepH K_15.out t3)
          have B_16 := hidT (bthen B_15.out t3)
          have KA_8 := hidT (KA_7.out.below t3)
          have YA_8 := hidT (keepH YA_7.out t3)
          have KB_6 := hidT (KB_5.out.below t3)
          have YB_6 := hidT (keepH YB_5.out t3)
          have IX_4 := hidT (IX_3.out.below t3)
          have YX_4 := hidT (keepH YX_3.out t3)
          have YY_2 := hidT (keepH YY_1.out t3)
          have IY_2 := hidT (IY_1.out.below t3)
          clear K_15 B_15 KA_7 YA_7 KB_5 YB_5 IX_3 YX_3 YY_1 IY_1
          have IP_0 := hidT (hI5.is.below t3)
          have KC_0 := hidT (hK5.is.below t3)
          obtain ⟨gb5, hgb5⟩ : ∃ p, b5.heap.size = p := ⟨_, rfl⟩
          rw [hgb5] at t1 t2
          have YP_0 := hidT (t1)
          have YC_0 := hidT (t2)
          clear t1 t3 hVb5 t2
          clear hI5 hK5
          obtain ⟨i0, i1⟩ := cells2 K_16.out
          have hp := rwtake_any (.agg #[.int .i64 k.next, .slice A n c]) k Vb5 ⟨A, n, c, rfl, HX.out.below B_16.out⟩ HRR.out HSM.out.1
          rw [HQ.out, HR.out] at hp
          unfold RTakeIs at hp
          rw [HZ.out, HS.out] at hp
          rw [← HVb5.out] at i0 i1
          go_wp2_with fail
          rw [HVb5.out]
          clear hgb5
          with_reducible refine hp.mono ?_
          rintro e b6 ⟨u6, v6, rfl, hI6, hK6, hb6⟩
          have K_17 := hidT (keepH K_16.out hb6)
          have B_17 := hidT (bthen B_16.out hb6)
          have KA_9 := hidT (KA_8.out.below hb6)
          have YA_9 := hidT (keepH YA_8.out hb6)
          have KB_7 := hidT (KB_6.out.below hb6)
          have YB_7 := hidT (keepH YB_6.out hb6)
          have IX_5 := hidT (IX_4.out.below hb6)
          have YX_5 := hidT (keepH YX_4.out hb6)
          have YY_3 := hidT (keepH YY_2.out hb6)
          have IY_3 := hidT (IY_2.out.below hb6)
          have IP_1 := hidT (IP_0.out.below hb6)
          have KC_1 := hidT (KC_0.out.below hb6)
          have YP_1 := hidT (keepH YP_0.out hb6)
          have YC_1 := hidT (keepH YC_0.out hb6)
          clear K_16 B_16 KA_8 YA_8 KB_6 YB_6 IX_4 YX_4 YY_2 IY_2 IP_0 KC_0 YP_0 YC_0
          clear hb6 hp i0 i1
          obtain ⟨LA6, ln6, lc6, BA6, bn6, bc6, eu6, hl6, hbb6⟩ := id hI6
          clear hl6 hbb6
          have eu6' : u6 = .agg #[.int .i64 z.k, .int .i64 z.q, .int .i64 z.e, .int .i64 z.i, .int .i64 z.t, .int .i64 z.c, .slice LA6 ln6 lc6, .slice BA6 bn6 bc6] := eu6
          clear eu6
          subst eu6'
          obtain ⟨A6b, n6b, c6b, ev6b, hr6b⟩ := id hK6
          clear hr6b
          have ev6b' : v6 = .agg #[.int .i64 R.next, .slice A6b n6b c6b] := ev6b
          clear ev6b
          subst ev6b'
          obtain ⟨t1, t2, t3⟩ := two_alloc b6 (.cells #[.int .i64 z.k, .int .i64 z.q, .int .i64 z.e, .int .i64 z.i, .int .i64 z.t, .int .i64 z.c, .slice LA6 ln6 lc6, .slice BA6 bn6 bc6] 28) (.cells #[.int .i64 R.next, .slice A6b n6b c6b] 24)
          obtain ⟨Vb6, hVb6⟩ : ∃ W, (b6.alloc (.cells #[.int .i64 z.k, .int .i64 z.q, .int .i64 z.e, .int .i64 z.i, .int .i64 z.t, .int .i64 z.c, .slice LA6 ln6 lc6, .slice BA6 bn6 bc6] 28)).alloc (.cells #[.int .i64 R.next, .slice A6b n6b c6b] 24) = W := ⟨_, rfl⟩
          rw [hVb6] at t1 t2 t3
          have HVb6 := hidT hVb6
          have K_18 := hidT (keepH K_17.out t3)
          have B_18 := hidT (bthen B_17.out t3)
          have KA_10 := hidT (KA_9.out.below t3)
          have YA_10 := hidT (keepH YA_9.out t3)
          have KB_8 := hidT (KB_7.out.below t3)
          have YB_8 := hidT (keepH YB_7.out t3)
          have IX_6 := hidT (IX_5.out.below t3)
          have YX_6 := hidT (keepH YX_5.out t3)
          have YY_4 := hidT (keepH YY_3.out t3)
          have IY_4 := hidT (IY_3.out.below t3)
          have IP_2 := hidT (IP_1.out.below t3)
          have KC_2 := hidT (KC_1.out.below t3)
          have YP_2 := hidT (keepH YP_1.out t3)
          have YC_2 := hidT (keepH YC_1.out t3)
          clear K_17 B_17 KA_9 YA_9 KB_7 YB_7 IX_5 YX_5 YY_3 IY_3 IP_1 KC_1 YP_1 YC_1
          have IQ_0 := hidT (hI6.below t3)
          have KD_0 := hidT (hK6.below t3)
          obtain ⟨gb6, hgb6⟩ : ∃ p, b6.heap.size = p := ⟨_, rfl⟩
          rw [hgb6] at t1 t2
          have YQ_0 := hidT (t1)
          have YD_0 := hidT (t2)
          clear t1 t3 hVb6 t2
          clear hI6 hK6
          obtain ⟨i0, i1⟩ := cells2 K_18.out
          have hp := wgap_any (.agg #[.int .i64 k.next, .slice A n c]) k last Vb6 ⟨A, n, c, rfl, HX.out.below B_18.out⟩ HRR.out
          rw [HG.out] at hp
          rw [← HVb6.out] at i0 i1
          go_wp2_with fail
          rw [HVb6.out]
          clear hgb6
          with_reducible refine hp.mono ?_
          rintro e b7 ⟨rfl, hb7⟩
          have K_19 := hidT (keepH K_18.out hb7)
          have B_19 := hidT (bthen B_18.out hb7)
          have KA_11 := hidT (KA_10.out.below hb7)
          have YA_11 := hidT (keepH YA_10.out hb7)
          have KB_9 := hidT (KB_8.out.below hb7)
          have YB_9 := hidT (keepH YB_8.out hb7)
          have IX_7 := hidT (IX_6.out.below hb7)
          have YX_7 := hidT (keepH YX_6.out hb7)
          have YY_5 := hidT (keepH YY_4.out hb7)
          have IY_5 := hidT (IY_4.out.below hb7)
          have IP_3 := hidT (IP_2.out.below hb7)
          have KC_3 := hidT (KC_2.out.below hb7)
          have YP_3 := hidT (keepH YP_2.out hb7)
          have YC_3 := hidT (keepH YC_2.out hb7)
          have IQ_1 := hidT (IQ_0.out.below hb7)
          have KD_1 := hidT (KD_0.out.below hb7)
          have YQ_1 := hidT (keepH YQ_0.out hb7)
          have YD_1 := hidT (keepH YD_0.out hb7)
          clear K_18 B_18 KA_10 YA_10 KB_8 YB_8 IX_6 YX_6 YY_4 IY_4 IP_2 KC_2 YP_2 YC_2 IQ_0 KD_0 YQ_0 YD_0
          clear hb7 hp i0 i1
          obtain ⟨i0, i1⟩ := cells2 K_19.out
          have hp := rwgap_any (.agg #[.int .i64 k.next, .slice A n c]) k last b7 ⟨A, n, c, rfl, HX.out.below B_19.out⟩ HRR.out
          rw [HG.out] at hp
          go_wp2_with fail
          with_reducible refine hp.mono ?_
          rintro e b8 ⟨rfl, hb8⟩
          have K_20 := hidT (keepH K_19.out hb8)
          have B_20 := hidT (bthen B_19.out hb8)
          have KA_12 := hidT (KA_11.out.below hb8)
          have YA_12 := hidT (keepH YA_11.out hb8)
          have KB_10 := hidT (KB_9.out.below hb8)
          have YB_10 := hidT (keepH YB_9.out hb8)
          have IX_8 := hidT (IX_7.out.below hb8)
          have YX_8 := hidT (keepH YX_7.out hb8)
          have YY_6 := hidT (keepH YY_5.out hb8)
          have IY_6 := hidT (IY_5.out.below hb8)
          have IP_4 := hidT (IP_3.out.below hb8)
          have KC_4 := hidT (KC_3.out.below hb8)
          have YP_4 := hidT (keepH YP_3.out hb8)
          have YC_4 := hidT (keepH YC_3.out hb8)
          have IQ_2 := hidT (IQ_1.out.below hb8)
          have KD_2 := hidT (KD_1.out.below hb8)
          have YQ_2 := hidT (keepH YQ_1.out hb8)
          have YD_2 := hidT (keepH YD_1.out hb8)
          clear K_19 B_19 KA_11 YA_11 KB_9 YB_9 IX_7 YX_7 YY_5 IY_5 IP_3 KC_3 YP_3 YC_3 IQ_1 KD_1 YQ_1 YD_1
          clear hb8 hp i0 i1
          clear K_20
          have e1 : (t1 == t1) = true := by simp
          have e2 : (s == s) = true := by simp
          have e3 : (G.1 == G.1) = true := by simp
          have e4 : (G.2 == G.2) = true := by simp
          obtain ⟨i0, i1⟩ := cells2 YA_12.out
          obtain ⟨j0, j1⟩ := cells2 YB_10.out
          have hp := rwsame_is _ _ P P b8 KA_12.out KB_10.out true (by simp)
          go_wp2_with fail
          with_reducible refine hp.mono ?_
          rintro e b9 ⟨rfl, hb9⟩
          have B_21 := hidT (bthen B_20.out hb9)
          have KA_13 := hidT (KA_12.out.below hb9)
          have YA_13 := hidT (keepH YA_12.out hb9)
          have KB_11 := hidT (KB_10.out.below hb9)
          have YB_11 := hidT (keepH YB_10.out hb9)
          have IX_9 := hidT (IX_8.out.below hb9)
          have YX_9 := hidT (keepH YX_8.out hb9)
          have YY_7 := hidT (keepH YY_6.out hb9)
          have IY_7 := hidT (IY_6.out.below hb9)
          have IP_5 := hidT (IP_4.out.below hb9)
          have KC_5 := hidT (KC_4.out.below hb9)
          have YP_5 := hidT (keepH YP_4.out hb9)
          have YC_5 := hidT (keepH YC_4.out hb9)
          have IQ_3 := hidT (IQ_2.out.below hb9)
          have KD_3 := hidT (KD_2.out.below hb9)
          have YQ_3 := hidT (keepH YQ_2.out hb9)
          have YD_3 := hidT (keepH YD_2.out hb9)
          clear B_20 KA_12 YA_12 KB_10 YB_10 IX_8 YX_8 YY_6 IY_6 IP_4 KC_4 YP_4 YC_4 IQ_2 KD_2 YQ_2 YD_2
          clear hb9 hp i0 i1 j0 j1
          obtain ⟨l0, l1, l2, l3, l4, l5, l6, l7⟩ := cells8 YX_9.out
          obtain ⟨m0, m1, m2, m3, m4, m5, m6, m7⟩ := cells8 YY_7.out
          have hp := rsameI_is _ _ z z b9 IX_9.out IY_7.out true (by simp)
          go_wp2_with fail
          with_reducible refine hp.mono ?_
          rintro e b10 ⟨rfl, hb10⟩
          have B_22 := hidT (bthen B_21.out hb10)
          have KA_14 := hidT (KA_13.out.below hb10)
          have YA_14 := hidT (keepH YA_13.out hb10)
          have KB_12 := hidT (KB_11.out.below hb10)
          have YB_12 := hidT (keepH YB_11.out hb10)
          have IX_10 := hidT (IX_9.out.below hb10)
          have YX_10 := hidT (keepH YX_9.out hb10)
          have YY_8 := hidT (keepH YY_7.out hb10)
          have IY_8 := hidT (IY_7.out.below hb10)
          have IP_6 := hidT (IP_5.out.below hb10)
          have KC_6 := hidT (KC_5.out.below hb10)
          have YP_6 := hidT (keepH YP_5.out hb10)
          have YC_6 := hidT (keepH YC_5.out hb10)
          have IQ_4 := hidT (IQ_3.out.below hb10)
          have KD_4 := hidT (KD_3.out.below hb10)
          have YQ_4 := hidT (keepH YQ_3.out hb10)
          have YD_4 := hidT (keepH YD_3.out hb10)
          clear B_21 KA_13 YA_13 KB_11 YB_11 IX_9 YX_9 YY_7 IY_7 IP_5 KC_5 YP_5 YC_5 IQ_3 KD_3 YQ_3 YD_3
          clear hb10 hp l0 l1 l2 l3 l4 l5 l6 l7 m0 m1 m2 m3 m4 m5 m6 m7
          obtain ⟨l0, l1, l2, l3, l4, l5, l6, l7⟩ := cells8 YP_6.out
          obtain ⟨m0, m1, m2, m3, m4, m5, m6, m7⟩ := cells8 YQ_4.out
          have hp := rsameI_is _ _ z z b10 IP_6.out IQ_4.out true (by simp)
          go_wp2_with fail
          with_reducible refine hp.mono ?_
          rintro e b11 ⟨rfl, hb11⟩
          have B_23 := hidT (bthen B_22.out hb11)
          have KA_15 := hidT (KA_14.out.below hb11)
          have YA_15 := hidT (keepH YA_14.out hb11)
          have KB_13 := hidT (KB_12.out.below hb11)
          have YB_13 := hidT (keepH YB_12.out hb11)
          have IX_11 := hidT (IX_10.out.below hb11)
          have YX_11 := hidT (keepH YX_10.out hb11)
          have YY_9 := hidT (keepH YY_8.out hb11)
          have IY_9 := hidT (IY_8.out.below hb11)
          have IP_7 := hidT (IP_6.out.below hb11)
          have KC_7 := hidT (KC_6.out.below hb11)
          have YP_7 := hidT (keepH YP_6.out hb11)
          have YC_7 := hidT (keepH YC_6.out hb11)
          have IQ_5 := hidT (IQ_4.out.below hb11)
          have KD_5 := hidT (KD_4.out.below hb11)
          have YQ_5 := hidT (keepH YQ_4.out hb11)
          have YD_5 := hidT (keepH YD_4.out hb11)
          clear B_22 KA_14 YA_14 KB_12 YB_12 IX_10 YX_10 YY_8 IY_8 IP_6 KC_6 YP_6 YC_6 IQ_4 KD_4 YQ_4 YD_4
          clear hb11 hp l0 l1 l2 l3 l4 l5 l6 l7 m0 m1 m2 m3 m4 m5 m6 m7
          obtain ⟨i0, i1⟩ := cells2 YC_7.out
          obtain ⟨j0, j1⟩ := cells2 YD_5.out
          have hp := rwsame_is _ _ R R b11 KC_7.out KD_5.out true (by simp)
          go_wp2_with fail
          with_reducible refine hp.mono ?_
          rintro e b12 ⟨rfl, hb12⟩
          have B_24 := hidT (bthen B_23.out hb12)
          have KA_16 := hidT (KA_15.out.below hb12)
          have YA_16 := hidT (keepH YA_15.out hb12)
          have KB_14 := hidT (KB_13.out.below hb12)
          have YB_14 := hidT (keepH YB_13.out hb12)
          have IX_12 := hidT (IX_11.out.below hb12)
          have YX_12 := hidT (keepH YX_11.out hb12)
          have YY_10 := hidT (keepH YY_9.out hb12)
          have IY_10 := hidT (IY_9.out.below hb12)
          have IP_8 := hidT (IP_7.out.below hb12)
          have KC_8 := hidT (KC_7.out.below hb12)
          have YP_8 := hidT (keepH YP_7.out hb12)
          have YC_8 := hidT (keepH YC_7.out hb12)
          have IQ_6 := hidT (IQ_5.out.below hb12)
          have KD_6 := hidT (KD_5.out.below hb12)
          have YQ_6 := hidT (keepH YQ_5.out hb12)
          have YD_6 := hidT (keepH YD_5.out hb12)
          clear B_23 KA_15 YA_15 KB_13 YB_13 IX_11 YX_11 YY_9 IY_9 IP_7 KC_7 YP_7 YC_7 IQ_5 KD_5 YQ_5 YD_5
          clear hb12 hp i0 i1 j0 j1
          go_wp2
          go_ret
          exact ⟨rfl, B_24.out⟩
end Go.Proofs.Ytkkkfaelpmmffaa
