/- The law KeepTells, walked. (Written by wip/gen/keeptells.py.) -/
import Derived.Test.YtgnaecifinlnmaaKeepL4
import Derived.Test.YtgnaecifinlnmaaRKeep3
import Derived.Test.YtgnaecifinlnmaaKeep10
import Derived.Deep.RegionHeldLaw
set_option maxRecDepth 100000
namespace Go.Proofs.Ytgnaecifinlnmaa
open Go.RowKit
set_option linter.unusedVariables false

set_option maxRecDepth 100000 in
set_option maxHeartbeats 16000000 in
theorem ktells_any (A : Option Addr) (n c : Nat) (k : Keep.Kp) (A' : Option Addr) (n' c' : Nat) (o : Keep.Kp) (LA : Option Addr) (ln lc : Nat) (BA : Option Addr) (bn bc : Nat) (x : Item.It) (buf spare : Int) (w : World) (hX : RdX w A n c k.l) (hO : RdX w A' n' c' o.l) (hl : RdI w LA ln lc x.l) (hb : Rd w BA bn bc x.b) :
    Calls Try.prog 3 #[.agg #[.int .i64 k.next, .slice A n c, .int .i64 o.next, .slice A' n' c', .int .i64 x.k, .int .i64 x.q, .int .i64 x.e, .int .i64 x.i, .int .i64 x.t, .int .i64 x.c, .slice LA ln lc, .slice BA bn bc, .int .i64 buf, .int .i64 spare]] w (Yes w) := by
  have hn := hX.le
  have hn' := hO.le
  have hit : IsItem w (.agg #[.int .i64 x.k, .int .i64 x.q, .int .i64 x.e, .int .i64 x.i, .int .i64 x.t, .int .i64 x.c, .slice LA ln lc, .slice BA bn bc]) x := ⟨LA, ln, lc, BA, bn, bc, rfl, hl, hb⟩
  obtain ⟨y0, y1, y2, y3, hb0, hs0⟩ := four_alloc w (.cells #[.int .i64 k.next, .slice A n c, .int .i64 o.next, .slice A' n' c', .int .i64 x.k, .int .i64 x.q, .int .i64 x.e, .int .i64 x.i, .int .i64 x.t, .int .i64 x.c, .slice LA ln lc, .slice BA bn bc, .int .i64 buf, .int .i64 spare] 30) (.cells #[.int .i64 k.next, .slice A n c] 24) (.cells #[.int .i64 o.next, .slice A' n' c'] 24) (.cells #[.int .i64 x.k, .int .i64 x.q, .int .i64 x.e, .int .i64 x.i, .int .i64 x.t, .int .i64 x.c, .slice LA ln lc, .slice BA bn bc] 28)
  have o12 := cell_at y0 12 (u := .int .i64 buf) rfl
  have o13 := cell_at y0 13 (u := .int .i64 spare) rfl
  obtain ⟨g, hg⟩ : ∃ g, w.heap.size = g := ⟨_, rfl⟩
  rw [hg] at y1 y2 y3 o12 o13
  have K_0 := hidT (y1)
  have O_0 := hidT (y2)
  have X_0 := hidT (y3)
  have B_0 := hidT (hb0)
  have HX := hidT hX
  have HO := hidT hO
  have HIT := hidT hit
  clear y0 y1 y2 y3 hs0 hX hO hit hl hb
  go_enter Try.func3, Try.ntmps3
  go_wp2_with fail
  with_reducible refine (kshown_any _).mono ?_
  rintro e w1 ⟨rfl, hb1⟩
  have K_1 := hidT (keepH K_0.out hb1)
  have O_1 := hidT (keepH O_0.out hb1)
  have X_1 := hidT (keepH X_0.out hb1)
  have B_1 := hidT (bthen B_0.out hb1)
  clear K_0 O_0 X_0 B_0
  clear hb1 hb0 hg o12 o13
  obtain ⟨i0, i1⟩ := cells2 K_1.out
  have hf := fewK_is A n c k.l w1 (HX.out.below B_1.out)
  go_wp2_with fail
  cases hfew : fewK k.l with
  | false =>
    rw [hfew] at hf
    with_reducible refine hf.mono ?_
    rintro e w2 ⟨rfl, hbx⟩
    go_wp2
    go_ret
    exact ⟨rfl, bthen B_1.out hbx⟩
  | true =>
    rw [hfew] at hf
    have HSM := hidT (fewK_small hfew)
    clear hfew
    with_reducible refine hf.mono ?_
    rintro e w2 ⟨rfl, hb2⟩
    have K_2 := hidT (keepH K_1.out hb2)
    have O_2 := hidT (keepH O_1.out hb2)
    have X_2 := hidT (keepH X_1.out hb2)
    have B_2 := hidT (bthen B_1.out hb2)
    clear K_1 O_1 X_1 B_1
    clear hb2 hf i0 i1
    obtain ⟨j0, j1⟩ := cells2 O_2.out
    have hf := fewK_is A' n' c' o.l w2 (HO.out.below B_2.out)
    go_wp2_with fail
    cases hfew : fewK o.l with
    | false =>
      rw [hfew] at hf
      with_reducible refine hf.mono ?_
      rintro e w3 ⟨rfl, hbx⟩
      go_wp2
      go_ret
      exact ⟨rfl, bthen B_2.out hbx⟩
    | true =>
      rw [hfew] at hf
      clear hfew
      with_reducible refine hf.mono ?_
      rintro e w3 ⟨rfl, hb3⟩
      have K_3 := hidT (keepH K_2.out hb3)
      have O_3 := hidT (keepH O_2.out hb3)
      have X_3 := hidT (keepH X_2.out hb3)
      have B_3 := hidT (bthen B_2.out hb3)
      clear K_2 O_2 X_2 B_2
      clear hb3 hf j0 j1
      obtain ⟨l0, l1, l2, l3, l4, l5, l6, l7⟩ := cells8 X_3.out
      have hf : Calls Try.prog 11 #[.agg #[.int .i64 x.k, .int .i64 x.q, .int .i64 x.e, .int .i64 x.i, .int .i64 x.t, .int .i64 x.c, .slice LA ln lc, .slice BA bn bc]] w3 (BoolIs w3 (fewI x)) := few_is _ x w3 (HIT.out.below B_3.out)
      go_wp2_with fail
      cases hfi : fewI x with
      | false =>
        rw [hfi] at hf
        with_reducible refine hf.mono ?_
        rintro e w4 ⟨rfl, hbx⟩
        go_wp2
        go_ret
        exact ⟨rfl, bthen B_3.out hbx⟩
      | true =>
        rw [hfi] at hf
        have hsx : x.l.length ≤ 80 ∧ x.b.length ≤ 1100 := by simpa [fewI] using hfi
        have HSX := hidT hsx
        clear hfi hsx
        with_reducible refine hf.mono ?_
        rintro e w4 ⟨rfl, hb4⟩
        have K_4 := hidT (keepH K_3.out hb4)
        have O_4 := hidT (keepH O_3.out hb4)
        have X_4 := hidT (keepH X_3.out hb4)
        have B_4 := hidT (bthen B_3.out hb4)
        clear K_3 O_3 X_3 B_3
        clear hb4 hf l0 l1 l2 l3 l4 l5 l6 l7
        obtain ⟨i0, i1⟩ := cells2 K_4.out
        have hr := rright_any (.agg #[.int .i64 k.next, .slice A n c]) k w4 ⟨A, n, c, rfl, HX.out.below B_4.out⟩
        obtain ⟨rr, hrr⟩ : ∃ rr, Keep.right k = rr := ⟨_, rfl⟩
        rw [hrr] at hr
        have HRR := hidT hrr
        clear hrr
        go_wp2_with fail
        with_reducible refine hr.mono ?_
        rintro e w5 ⟨rfl, hb5⟩
        have K_5 := hidT (keepH K_4.out hb5)
        have O_5 := hidT (keepH O_4.out hb5)
        have X_5 := hidT (keepH X_4.out hb5)
        have B_5 := hidT (bthen B_4.out hb5)
        clear K_4 O_4 X_4 B_4
        clear hb5 hr i0 i1
        obtain ⟨t, ht⟩ : ∃ t, decide (k = o) = t := ⟨_, rfl⟩
        have C13 := hidT fun w' (hb : Below w5.heap.size w5 w') => kright_any (.agg #[.int .i64 k.next, .slice A n c]) k w' ⟨A, n, c, rfl, HX.out.below (bthen B_5.out hb)⟩
        rw [HRR.out] at C13
        have C14 := hidT fun w' (hb : Below w5.heap.size w5 w') => ksame_is (.agg #[.int .i64 k.next, .slice A n c]) (.agg #[.int .i64 o.next, .slice A' n' c']) k o w' ⟨A, n, c, rfl, HX.out.below (bthen B_5.out hb)⟩ ⟨A', n', c', rfl, HO.out.below (bthen B_5.out hb)⟩ t ht
        have C15 := hidT fun w' (hb : Below w5.heap.size w5 w') => rksame_is (.agg #[.int .i64 k.next, .slice A n c]) (.agg #[.int .i64 o.next, .slice A' n' c']) k o w' ⟨A, n, c, rfl, HX.out.below (bthen B_5.out hb)⟩ ⟨A', n', c', rfl, HO.out.below (bthen B_5.out hb)⟩ t ht
        have C16 := hidT fun w' => new_any w'
        have C17 := hidT fun w' => rnew_any w'
        have C18 := hidT fun w' => rksame_is (.agg #[.int .i64 1, .slice none 0 0]) (.agg #[.int .i64 1, .slice none 0 0]) Keep.new Keep.new w' (IsKeep.new w') (IsKeep.new w') true (by simp)
        have e1 : (rr != rr) = false := by simp
        have e2 : (t != t) = false := by simp
        have kx0 := fun w' (hb : Below w5.heap.size w5 w') => (cells2 (keepH K_5.out hb)).1
        have kx1 := fun w' (hb : Below w5.heap.size w5 w') => (cells2 (keepH K_5.out hb)).2
        have ky0 := fun w' (hb : Below w5.heap.size w5 w') => (cells2 (keepH O_5.out hb)).1
        have ky1 := fun w' (hb : Below w5.heap.size w5 w') => (cells2 (keepH O_5.out hb)).2
        clear ht
        go_wp2_with fail
        go_region_held_law (fun w' => Below w5.heap.size w5 w')
          (first | exact (Below.refl _ _).drew | exact hc6 | exact hc5 | exact hc4 | exact hc3 | exact hc2 | exact hc1)
          (first
            | (go_at_call 13; ((with_reducible refine (C13.out _ (Below.refl _ _).drew).mono ?_); rintro e a1 ⟨rfl, hc1'⟩; have hc1 : Below w5.heap.size w5 a1 := undrew hc1'))
            | (go_at_call 14; ((with_reducible refine (C14.out a1 hc1).mono ?_); rintro e a2 ⟨rfl, hc2'⟩; have hc2 : Below w5.heap.size w5 a2 := bthen hc1 hc2'))
            | (go_at_call 15; ((with_reducible refine (C15.out a2 hc2).mono ?_); rintro e a3 ⟨rfl, hc3'⟩; have hc3 : Below w5.heap.size w5 a3 := bthen hc2 hc3'))
            | (go_at_call 16; ((with_reducible refine (C16.out a3).mono ?_); rintro e a4 ⟨rfl, hc4'⟩; have hc4 : Below w5.heap.size w5 a4 := bthen hc3 hc4'))
            | (go_at_call 17; ((with_reducible refine (C17.out a4).mono ?_); rintro e a5 ⟨rfl, hc5'⟩; have hc5 : Below w5.heap.size w5 a5 := bthen hc4 hc5'))
            | (go_at_call 15; ((with_reducible refine (C18.out a5).mono ?_); rintro e a6 ⟨rfl, hc6'⟩; have hc6 : Below w5.heap.size w5 a6 := bthen hc5 hc6'))
            | fail)
        clear C13 C14 C15 C16 C17 C18 e1 e2 kx0 kx1 ky0 ky1 hc1' hc2' hc3' hc4' hc5' hc6' hc1 hc2 hc3 hc4 hc5
        have K_6 := hidT (keepH K_5.out hc6)
        have O_6 := hidT (keepH O_5.out hc6)
        have X_6 := hidT (keepH X_5.out hc6)
        have B_6 := hidT (bthen B_5.out hc6)
        clear K_5 O_5 X_5 B_5
        clear hc6
        cases rr with
        | false =>
          go_wp2
          go_ret
          exact ⟨rfl, B_6.out⟩
        | true =>
          obtain ⟨⟨r1, r2, r3⟩, hmays, _⟩ := Keep.right_iff.1 HRR.out
          clear hmays r3
          obtain ⟨i0, i1⟩ := cells2 K_6.out
          obtain ⟨l0, l1, l2, l3, l4, l5, l6, l7⟩ := cells8 X_6.out
          have hpu := push_any (.agg #[.int .i64 k.next, .slice A n c]) (.agg #[.int .i64 x.k, .int .i64 x.q, .int .i64 x.e, .int .i64 x.i, .int .i64 x.t, .int .i64 x.c, .slice LA ln lc, .slice BA bn bc]) k x buf spare a6 ⟨A, n, c, rfl, HX.out.below B_6.out⟩ (HIT.out.below B_6.out) HSM.out (by have := HSX.out; omega) (by have := HSX.out; omega) r2
          obtain ⟨P, hP⟩ : ∃ P, Keep.push k x buf spare = P := ⟨_, rfl⟩
          rw [hP] at hpu
          have HP := hidT hP
          clear hP
          unfold PushIs at hpu
          obtain ⟨D, hD⟩ : ∃ D, P.code = D := ⟨_, rfl⟩
          rw [hD] at hpu
          have HD := hidT hD
          clear hD
          go_wp2_with fail
          with_reducible refine hpu.mono ?_
          rintro e w6 ⟨v6, u6, rfl, hK6, hI6, hb6⟩
          obtain ⟨A6, n6, c6, us6, ev6, hr6, ha6, hf6⟩ := id hK6
          clear hr6 ha6 hf6
          subst ev6
          obtain ⟨LA6, ln6, lc6, BA6, bn6, bc6, eu6, hl6, hbb6, hla6, hba6⟩ := id hI6
          clear hl6 hbb6 hla6 hba6
          subst eu6
          have K_7 := hidT (keepH K_6.out hb6)
          have O_7 := hidT (keepH O_6.out hb6)
          have X_7 := hidT (keepH X_6.out hb6)
          have B_7 := hidT (bthen B_6.out hb6)
          clear K_6 O_6 X_6 B_6
          obtain ⟨t1, t2, t3⟩ := two_alloc w6 (.cells #[.int .i64 P.k.next, .slice A6 n6 c6] 24) (.cells #[.int .i64 P.x.k, .int .i64 P.x.q, .int .i64 P.x.e, .int .i64 P.x.i, .int .i64 P.x.t, .int .i64 P.x.c, .slice LA6 ln6 lc6, .slice BA6 bn6 bc6] 28)
          obtain ⟨w7, hw7⟩ : ∃ W, (w6.alloc (.cells #[.int .i64 P.k.next, .slice A6 n6 c6] 24)).alloc (.cells #[.int .i64 P.x.k, .int .i64 P.x.q, .int .i64 P.x.e, .int .i64 P.x.i, .int .i64 P.x.t, .int .i64 P.x.c, .slice LA6 ln6 lc6, .slice BA6 bn6 bc6] 28) = W := ⟨_, rfl⟩
          rw [hw7] at t1 t2 t3
          have Hw7 := hidT hw7
          have K_8 := hidT (keepH K_7.out t3)
          have O_8 := hidT (keepH O_7.out t3)
          have X_8 := hidT (keepH X_7.out t3)
          have B_8 := hidT (bthen B_7.out t3)
          clear K_7 O_7 X_7 B_7
          have KA_0 := hidT (hK6.is.below t3)
          have IX_0 := hidT (hI6.is.below t3)
          obtain ⟨ga, hga⟩ : ∃ p, w6.heap.size = p := ⟨_, rfl⟩
          rw [hga] at t1 t2
          have YA_0 := hidT (t1)
          have YX_0 := hidT (t2)
          clear t1 t2 t3 hb6 hK6 hI6 hpu i0 i1 l0 l1 l2 l3 l4 l5 l6 l7 hw7
          obtain ⟨i0, i1⟩ := cells2 K_8.out
          obtain ⟨l0, l1, l2, l3, l4, l5, l6, l7⟩ := cells8 X_8.out
          rw [← Hw7.out] at i0 i1 l0 l1 l2 l3 l4 l5 l6 l7
          have hpr := rpush_any (.agg #[.int .i64 k.next, .slice A n c]) (.agg #[.int .i64 x.k, .int .i64 x.q, .int .i64 x.e, .int .i64 x.i, .int .i64 x.t, .int .i64 x.c, .slice LA ln lc, .slice BA bn bc]) k x buf spare w7 ⟨A, n, c, rfl, HX.out.below B_8.out⟩ (HIT.out.below B_8.out) HSM.out.1 r2
          rw [HP.out] at hpr
          unfold RPushIs at hpr
          rw [HD.out] at hpr
          clear r2
          go_wp2_with fail
          rw [Hw7.out]
          clear hga
          with_reducible refine hpr.mono ?_
          rintro e w8 ⟨v8, u8, rfl, hK8, hI8, hb8⟩
          obtain ⟨A8, n8, c8, ev8, hX8⟩ := id hK8
          clear hX8
          subst ev8
          obtain ⟨LA8, ln8, lc8, BA8, bn8, bc8, eu8, hl8, hbb8⟩ := id hI8
          clear hl8 hbb8
          subst eu8
          have K_9 := hidT (keepH K_8.out hb8)
          have O_9 := hidT (keepH O_8.out hb8)
          have X_9 := hidT (keepH X_8.out hb8)
          have B_9 := hidT (bthen B_8.out hb8)
          have KA_1 := hidT (KA_0.out.below hb8)
          have IX_1 := hidT (IX_0.out.below hb8)
          have YA_1 := hidT (keepH YA_0.out hb8)
          have YX_1 := hidT (keepH YX_0.out hb8)
          clear K_8 O_8 X_8 B_8 KA_0 IX_0 YA_0 YX_0
          obtain ⟨t1, t2, t3⟩ := two_alloc w8 (.cells #[.int .i64 P.k.next, .slice A8 n8 c8] 24) (.cells #[.int .i64 P.x.k, .int .i64 P.x.q, .int .i64 P.x.e, .int .i64 P.x.i, .int .i64 P.x.t, .int .i64 P.x.c, .slice LA8 ln8 lc8, .slice BA8 bn8 bc8] 28)
          obtain ⟨w9, hw9⟩ : ∃ W, (w8.alloc (.cells #[.int .i64 P.k.next, .slice A8 n8 c8] 24)).alloc (.cells #[.int .i64 P.x.k, .int .i64 P.x.q, .int .i64 P.x.e, .int .i64 P.x.i, .int .i64 P.x.t, .int .i64 P.x.c, .slice LA8 ln8 lc8, .slice BA8 bn8 bc8] 28) = W := ⟨_, rfl⟩
          rw [hw9] at t1 t2 t3
          have Hw9 := hidT hw9
          have K_10 := hidT (keepH K_9.out t3)
          have O_10 := hidT (keepH O_9.out t3)
          have X_10 := hidT (keepH X_9.out t3)
          have B_10 := hidT (bthen B_9.out t3)
          have KA_2 := hidT (KA_1.out.below t3)
          have IX_2 := hidT (IX_1.out.below t3)
          have YA_2 := hidT (keepH YA_1.out t3)
          have YX_2 := hidT (keepH YX_1.out t3)
          clear K_9 O_9 X_9 B_9 KA_1 IX_1 YA_1 YX_1
          have KB_0 := hidT (hK8.below t3)
          have IY_0 := hidT (hI8.below t3)
          obtain ⟨gb, hgb⟩ : ∃ p, w8.heap.size = p := ⟨_, rfl⟩
          rw [hgb] at t1 t2
          have YB_0 := hidT (t1)
          have YY_0 := hidT (t2)
          clear t1 t2 t3 hb8 hK8 hI8 hpr i0 i1 l0 l1 l2 l3 l4 l5 l6 l7 hw9
          obtain ⟨i0, i1⟩ := cells2 K_10.out
          rw [← Hw9.out] at i0 i1
          have hge := get_any (.agg #[.int .i64 k.next, .slice A n c]) k spare w9 ⟨A, n, c, rfl, HX.out.below B_10.out⟩ HSM.out
          obtain ⟨G, hG⟩ : ∃ G, Keep.got k.l spare = G := ⟨_, rfl⟩
          have HG := hidT hG
          clear hG
          rw [HG.out] at hge
          unfold GetIs at hge
          obtain ⟨z, hz⟩ : ∃ z, G.getD Item.It.zero = z := ⟨_, rfl⟩
          obtain ⟨s, hs⟩ : ∃ s, G.isSome = s := ⟨_, rfl⟩
          have HZ := hidT hz
          have HS := hidT hs
          clear hz hs
          rw [HZ.out, HS.out] at hge
          go_wp2_with fail
          rw [Hw9.out]
          clear hgb
          with_reducible refine hge.mono ?_
          rintro e w10 ⟨v10, rfl, hI, hbx⟩
          obtain ⟨LA10, ln10, lc10, BA10, bn10, bc10, ev, hl1, hb1⟩ := id hI
          clear hl1 hb1
          subst ev
          have K_11 := hidT (keepH K_10.out hbx)
          have O_11 := hidT (keepH O_10.out hbx)
          have X_11 := hidT (keepH X_10.out hbx)
          have B_11 := hidT (bthen B_10.out hbx)
          have KA_3 := hidT (KA_2.out.below hbx)
          have IX_3 := hidT (IX_2.out.below hbx)
          have YA_3 := hidT (keepH YA_2.out hbx)
          have YX_3 := hidT (keepH YX_2.out hbx)
          have KB_1 := hidT (KB_0.out.below hbx)
          have IY_1 := hidT (IY_0.out.below hbx)
          have YB_1 := hidT (keepH YB_0.out hbx)
          have YY_1 := hidT (keepH YY_0.out hbx)
          clear K_10 O_10 X_10 B_10 KA_2 IX_2 YA_2 YX_2 KB_0 IY_0 YB_0 YY_0
          have t1 := alloc_at w10 (.cells #[.int .i64 z.k, .int .i64 z.q, .int .i64 z.e, .int .i64 z.i, .int .i64 z.t, .int .i64 z.c, .slice LA10 ln10 lc10, .slice BA10 bn10 bc10] 28) _ rfl
          have t3 := nkeep w10 (.cells #[.int .i64 z.k, .int .i64 z.q, .int .i64 z.e, .int .i64 z.i, .int .i64 z.t, .int .i64 z.c, .slice LA10 ln10 lc10, .slice BA10 bn10 bc10] 28)
          obtain ⟨w11, hw11⟩ : ∃ W, w10.alloc (.cells #[.int .i64 z.k, .int .i64 z.q, .int .i64 z.e, .int .i64 z.i, .int .i64 z.t, .int .i64 z.c, .slice LA10 ln10 lc10, .slice BA10 bn10 bc10] 28) = W := ⟨_, rfl⟩
          rw [hw11] at t1 t3
          have Hw11 := hidT hw11
          have K_12 := hidT (keepH K_11.out t3)
          have O_12 := hidT (keepH O_11.out t3)
          have X_12 := hidT (keepH X_11.out t3)
          have B_12 := hidT (bthen B_11.out t3)
          have KA_4 := hidT (KA_3.out.below t3)
          have IX_4 := hidT (IX_3.out.below t3)
          have YA_4 := hidT (keepH YA_3.out t3)
          have YX_4 := hidT (keepH YX_3.out t3)
          have KB_2 := hidT (KB_1.out.below t3)
          have IY_2 := hidT (IY_1.out.below t3)
          have YB_2 := hidT (keepH YB_1.out t3)
          have YY_2 := hidT (keepH YY_1.out t3)
          clear K_11 O_11 X_11 B_11 KA_3 IX_3 YA_3 YX_3 KB_1 IY_1 YB_1 YY_1
          have IP_0 := hidT (hI.below t3)
          obtain ⟨gc, hgc⟩ : ∃ p, w10.heap.size = p := ⟨_, rfl⟩
          rw [hgc] at t1
          have YP_0 := hidT (t1)
          clear t1 t3 hbx hI hge i0 i1 hw11
          obtain ⟨i0, i1⟩ := cells2 K_12.out
          rw [← Hw11.out] at i0 i1
          have hge := rget_any (.agg #[.int .i64 k.next, .slice A n c]) k spare w11 ⟨A, n, c, rfl, HX.out.below B_12.out⟩
          rw [HG.out] at hge
          unfold GetIs at hge
          rw [HZ.out, HS.out] at hge
          go_wp2_with fail
          rw [Hw11.out]
          clear hgc
          with_reducible refine hge.mono ?_
          rintro e w12 ⟨v12, rfl, hI, hbx⟩
          obtain ⟨LA12, ln12, lc12, BA12, bn12, bc12, ev, hl1, hb1⟩ := id hI
          clear hl1 hb1
          subst ev
          have K_13 := hidT (keepH K_12.out hbx)
          have O_13 := hidT (keepH O_12.out hbx)
          have X_13 := hidT (keepH X_12.out hbx)
          have B_13 := hidT (bthen B_12.out hbx)
          have KA_5 := hidT (KA_4.out.below hbx)
          have IX_5 := hidT (IX_4.out.below hbx)
          have YA_5 := hidT (keepH YA_4.out hbx)
          have YX_5 := hidT (keepH YX_4.out hbx)
          have KB_3 := hidT (KB_2.out.below hbx)
          have IY_3 := hidT (IY_2.out.below hbx)
          have YB_3 := hidT (keepH YB_2.out hbx)
          have YY_3 := hidT (keepH YY_2.out hbx)
          have IP_1 := hidT (IP_0.out.below hbx)
          have YP_1 := hidT (keepH YP_0.out hbx)
          clear K_12 O_12 X_12 B_12 KA_4 IX_4 YA_4 YX_4 KB_2 IY_2 YB_2 YY_2 IP_0 YP_0
          have t1 := alloc_at w12 (.cells #[.int .i64 z.k, .int .i64 z.q, .int .i64 z.e, .int .i64 z.i, .int .i64 z.t, .int .i64 z.c, .slice LA12 ln12 lc12, .slice BA12 bn12 bc12] 28) _ rfl
          have t3 := nkeep w12 (.cells #[.int .i64 z.k, .int .i64 z.q, .int .i64 z.e, .int .i64 z.i, .int .i64 z.t, .int .i64 z.c, .slice LA12 ln12 lc12, .slice BA12 bn12 bc12] 28)
          obtain ⟨w13, hw13⟩ : ∃ W, w12.alloc (.cells #[.int .i64 z.k, .int .i64 z.q, .int .i64 z.e, .int .i64 z.i, .int .i64 z.t, .int .i64 z.c, .slice LA12 ln12 lc12, .slice BA12 bn12 bc12] 28) = W := ⟨_, rfl⟩
          rw [hw13] at t1 t3
          have Hw13 := hidT hw13
          have K_14 := hidT (keepH K_13.out t3)
          have O_14 := hidT (keepH O_13.out t3)
          have X_14 := hidT (keepH X_13.out t3)
          have B_14 := hidT (bthen B_13.out t3)
          have KA_6 := hidT (KA_5.out.below t3)
          have IX_6 := hidT (IX_5.out.below t3)
          have YA_6 := hidT (keepH YA_5.out t3)
          have YX_6 := hidT (keepH YX_5.out t3)
          have KB_4 := hidT (KB_3.out.below t3)
          have IY_4 := hidT (IY_3.out.below t3)
          have YB_4 := hidT (keepH YB_3.out t3)
          have YY_4 := hidT (keepH YY_3.out t3)
          have IP_2 := hidT (IP_1.out.below t3)
          have YP_2 := hidT (keepH YP_1.out t3)
          clear K_13 O_13 X_13 B_13 KA_5 IX_5 YA_5 YX_5 KB_3 IY_3 YB_3 YY_3 IP_1 YP_1
          have IQ_0 := hidT (hI.below t3)
          obtain ⟨gd, hgd⟩ : ∃ p, w12.heap.size = p := ⟨_, rfl⟩
          rw [hgd] at t1
          have YQ_0 := hidT (t1)
          clear t1 t3 hbx hI hge i0 i1 hw13
          have D1 := hidT fun w' (hb : Below w13.heap.size w13 w') => room_any (.agg #[.int .i64 k.next, .slice A n c]) k buf spare w' ⟨A, n, c, rfl, HX.out.below (bthen B_14.out hb)⟩
          have D2 := hidT fun w' (hb : Below w13.heap.size w13 w') => rroom_any (.agg #[.int .i64 k.next, .slice A n c]) k buf spare w' ⟨A, n, c, rfl, HX.out.below (bthen B_14.out hb)⟩
          obtain ⟨R, hR⟩ : ∃ R, Keep.room k buf spare = R := ⟨_, rfl⟩
          rw [hR] at D1 D2
          clear hR
          have D3 := hidT fun w' (hb : Below w13.heap.size w13 w') => rksame_is _ _ P.k P.k w' (KA_6.out.below hb) (KB_4.out.below hb) true (by simp)
          have D4 := hidT fun w' (hb : Below w13.heap.size w13 w') => rsameI_is _ _ P.x P.x w' (IX_6.out.below hb) (IY_4.out.below hb) true (by simp)
          have D5 := hidT fun w' (hb : Below w13.heap.size w13 w') => rsameI_is _ _ z z w' (IP_2.out.below hb) (IQ_0.out.below hb) true (by simp)
          have D6 := hidT fun w' (hb : Below w13.heap.size w13 w') => free_right (.agg #[.int .i64 k.next, .slice A n c]) k spare w' ⟨A, n, c, rfl, HX.out.below (bthen B_14.out hb)⟩ HSM.out HRR.out
          have D7 := hidT fun w' (hb : Below w13.heap.size w13 w') => rfree_any (.agg #[.int .i64 k.next, .slice A n c]) k spare w' ⟨A, n, c, rfl, HX.out.below (bthen B_14.out hb)⟩ HSM.out.1
          have e1 : (R == R) = true := by simp
          have e2 : (D == D) = true := by simp
          have e3 : (s == s) = true := by simp
          have kx0 := fun w' (hb : Below w13.heap.size w13 w') => (cells2 (keepH K_14.out hb)).1
          have kx1 := fun w' (hb : Below w13.heap.size w13 w') => (cells2 (keepH K_14.out hb)).2
          have ka0 := fun w' (hb : Below w13.heap.size w13 w') => (cells2 (keepH YA_6.out hb)).1
          have ka1 := fun w' (hb : Below w13.heap.size w13 w') => (cells2 (keepH YA_6.out hb)).2
          have kb0 := fun w' (hb : Below w13.heap.size w13 w') => (cells2 (keepH YB_4.out hb)).1
          have kb1 := fun w' (hb : Below w13.heap.size w13 w') => (cells2 (keepH YB_4.out hb)).2
          have ix0 := fun w' (hb : Below w13.heap.size w13 w') => (cells8 (keepH YX_6.out hb)).1
          have ix1 := fun w' (hb : Below w13.heap.size w13 w') => (cells8 (keepH YX_6.out hb)).2.1
          have ix2 := fun w' (hb : Below w13.heap.size w13 w') => (cells8 (keepH YX_6.out hb)).2.2.1
          have ix3 := fun w' (hb : Below w13.heap.size w13 w') => (cells8 (keepH YX_6.out hb)).2.2.2.1
          have ix4 := fun w' (hb : Below w13.heap.size w13 w') => (cells8 (keepH YX_6.out hb)).2.2.2.2.1
          have ix5 := fun w' (hb : Below w13.heap.size w13 w') => (cells8 (keepH YX_6.out hb)).2.2.2.2.2.1
          have ix6 := fun w' (hb : Below w13.heap.size w13 w') => (cells8 (keepH YX_6.out hb)).2.2.2.2.2.2.1
          have ix7 := fun w' (hb : Below w13.heap.size w13 w') => (cells8 (keepH YX_6.out hb)).2.2.2.2.2.2.2
          have iy0 := fun w' (hb : Below w13.heap.size w13 w') => (cells8 (keepH YY_4.out hb)).1
          have iy1 := fun w' (hb : Below w13.heap.size w13 w') => (cells8 (keepH YY_4.out hb)).2.1
          have iy2 := fun w' (hb : Below w13.heap.size w13 w') => (cells8 (keepH YY_4.out hb)).2.2.1
          have iy3 := fun w' (hb : Below w13.heap.size w13 w') => (cells8 (keepH YY_4.out hb)).2.2.2.1
          have iy4 := fun w' (hb : Below w13.heap.size w13 w') => (cells8 (keepH YY_4.out hb)).2.2.2.2.1
          have iy5 := fun w' (hb : Below w13.heap.size w13 w') => (cells8 (keepH YY_4.out hb)).2.2.2.2.2.1
          have iy6 := fun w' (hb : Below w13.heap.size w13 w') => (cells8 (keepH YY_4.out hb)).2.2.2.2.2.2.1
          have iy7 := fun w' (hb : Below w13.heap.size w13 w') => (cells8 (keepH YY_4.out hb)).2.2.2.2.2.2.2
          have ip0 := fun w' (hb : Below w13.heap.size w13 w') => (cells8 (keepH YP_2.out hb)).1
          have ip1 := fun w' (hb : Below w13.heap.size w13 w') => (cells8 (keepH YP_2.out hb)).2.1
          have ip2 := fun w' (hb : Below w13.heap.size w13 w') => (cells8 (keepH YP_2.out hb)).2.2.1
          have ip3 := fun w' (hb : Below w13.heap.size w13 w') => (cells8 (keepH YP_2.out hb)).2.2.2.1
          have ip4 := fun w' (hb : Below w13.heap.size w13 w') => (cells8 (keepH YP_2.out hb)).2.2.2.2.1
          have ip5 := fun w' (hb : Below w13.heap.size w13 w') => (cells8 (keepH YP_2.out hb)).2.2.2.2.2.1
          have ip6 := fun w' (hb : Below w13.heap.size w13 w') => (cells8 (keepH YP_2.out hb)).2.2.2.2.2.2.1
          have ip7 := fun w' (hb : Below w13.heap.size w13 w') => (cells8 (keepH YP_2.out hb)).2.2.2.2.2.2.2
          have iq0 := fun w' (hb : Below w13.heap.size w13 w') => (cells8 (keepH YQ_0.out hb)).1
          have iq1 := fun w' (hb : Below w13.heap.size w13 w') => (cells8 (keepH YQ_0.out hb)).2.1
          have iq2 := fun w' (hb : Below w13.heap.size w13 w') => (cells8 (keepH YQ_0.out hb)).2.2.1
          have iq3 := fun w' (hb : Below w13.heap.size w13 w') => (cells8 (keepH YQ_0.out hb)).2.2.2.1
          have iq4 := fun w' (hb : Below w13.heap.size w13 w') => (cells8 (keepH YQ_0.out hb)).2.2.2.2.1
          have iq5 := fun w' (hb : Below w13.heap.size w13 w') => (cells8 (keepH YQ_0.out hb)).2.2.2.2.2.1
          have iq6 := fun w' (hb : Below w13.heap.size w13 w') => (cells8 (keepH YQ_0.out hb)).2.2.2.2.2.2.1
          have iq7 := fun w' (hb : Below w13.heap.size w13 w') => (cells8 (keepH YQ_0.out hb)).2.2.2.2.2.2.2
          go_wp2_with fail
          rw [Hw13.out]
          clear hgd
          go_region_held_law (fun w' => Below w13.heap.size w13 w')
            (first | exact (Below.refl _ _).drew | exact hc18 | exact hc17 | exact hc16 | exact hc15 | exact hc14 | exact hc13 | exact hc12 | exact hc11)
            (first
              | (go_at_call 22; ((with_reducible refine (D1.out _ (Below.refl _ _).drew).mono ?_); rintro e a11 ⟨rfl, hc11'⟩; have hc11 : Below w13.heap.size w13 a11 := undrew hc11'))
              | (go_at_call 23; ((with_reducible refine (D2.out a11 hc11).mono ?_); rintro e a12 ⟨rfl, hc12'⟩; have hc12 : Below w13.heap.size w13 a12 := bthen hc11 hc12'))
              | (go_at_call 15; ((with_reducible refine (D3.out a12 hc12).mono ?_); rintro e a13 ⟨rfl, hc13'⟩; have hc13 : Below w13.heap.size w13 a13 := bthen hc12 hc13'))
              | (go_at_call 24; ((with_reducible refine (D4.out a13 hc13).mono ?_); rintro e a14 ⟨rfl, hc14'⟩; have hc14 : Below w13.heap.size w13 a14 := bthen hc13 hc14'))
              | (go_at_call 24; ((with_reducible refine (D5.out a14 hc14).mono ?_); rintro e a15 ⟨rfl, hc15'⟩; have hc15 : Below w13.heap.size w13 a15 := bthen hc14 hc15'))
              | (go_at_call 25; ((with_reducible refine (D6.out a15 hc15).mono ?_); rintro e a16 ⟨vf, rfl, hkf, hc16'⟩; have hc16 : Below w13.heap.size w13 a16 := bthen hc15 hc16'))
              | (go_at_call 26; ((with_reducible refine (D7.out a16 hc16).mono ?_); rintro e a17 ⟨vr, rfl, hkr, hc17'⟩; have hc17 : Below w13.heap.size w13 a17 := bthen hc16 hc17'))
              | (go_at_call 15; ((with_reducible refine (rksame_is vf vr ⟨k.next, Keep.freed k.l spare⟩ ⟨k.next, Keep.freed k.l spare⟩ a17 (hkf.is.below hc17') hkr true (by simp)).mono ?_); rintro e a18 ⟨rfl, hc18'⟩; have hc18 : Below w13.heap.size w13 a18 := bthen hc17 hc18'))
              | fail)
          all_goals
            go_wp2
            go_ret
            exact ⟨rfl, bthen B_14.out hc18⟩
end Go.Proofs.Ytgnaecifinlnmaa
