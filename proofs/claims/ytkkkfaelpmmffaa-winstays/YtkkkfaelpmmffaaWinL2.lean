/- The law WinStays, walked. (Written by wip/gen/winstays.py.) -/
import Derived.Test.YtkkkfaelpmmffaaWShown
import Derived.Test.YtkkkfaelpmmffaaRWin1
set_option maxRecDepth 100000
namespace Go.Proofs.Ytkkkfaelpmmffaa
open Go.RowKit
set_option linter.unusedVariables false

theorem ins_at (l : List Item.It) (x : Item.It) : (Win.ins l x)[Win.at_ l x.q]? = some x := by
  have h := Win.at_le l x.q
  unfold Win.ins
  rw [List.getElem?_append_left (by simp; omega), List.getElem?_append_right (by simp; omega)]
  simp [Nat.min_eq_left h]
theorem ins_else {l : List Item.It} {x y : Item.It} {i : Nat} (hy : (Win.ins l x)[i]? = some y) (hi : i ≠ Win.at_ l x.q) : y ∈ l := by
  have h := Win.at_le l x.q
  unfold Win.ins at hy
  by_cases h1 : i < Win.at_ l x.q
  · rw [List.getElem?_append_left (by simp; omega), List.getElem?_append_left (by simp; omega)] at hy
    exact List.mem_of_mem_take (List.mem_of_getElem? hy)
  · rw [List.getElem?_append_right (by simp; omega)] at hy
    exact List.mem_of_mem_drop (List.mem_of_getElem? hy)
set_option maxRecDepth 100000 in
set_option maxHeartbeats 16000000 in
theorem wstays_any (A : Option Addr) (n c : Nat) (k : Keep.Kp) (LA : Option Addr) (ln lc : Nat) (BA : Option Addr) (bn bc : Nat) (x : Item.It) (last : Int) (w : World) (hX : RdX w A n c k.l) (hl : RdI w LA ln lc x.l) (hb : Rd w BA bn bc x.b) :
    Calls Try.prog 4 #[.agg #[.int .i64 k.next, .slice A n c], .agg #[.int .i64 x.k, .int .i64 x.q, .int .i64 x.e, .int .i64 x.i, .int .i64 x.t, .int .i64 x.c, .slice LA ln lc, .slice BA bn bc], .int .i64 last] w (Yes w) := by
  have hn := hX.le
  have hlen := hX.size
  have hit : IsItem w (.agg #[.int .i64 x.k, .int .i64 x.q, .int .i64 x.e, .int .i64 x.i, .int .i64 x.t, .int .i64 x.c, .slice LA ln lc, .slice BA bn bc]) x := ⟨LA, ln, lc, BA, bn, bc, rfl, hl, hb⟩
  obtain ⟨y0, y1, hb0⟩ := two_alloc w (.cells #[.int .i64 k.next, .slice A n c] 24) (.cells #[.int .i64 x.k, .int .i64 x.q, .int .i64 x.e, .int .i64 x.i, .int .i64 x.t, .int .i64 x.c, .slice LA ln lc, .slice BA bn bc] 28)
  obtain ⟨g, hg⟩ : ∃ g, w.heap.size = g := ⟨_, rfl⟩
  rw [hg] at y0 y1
  have K_0 := hidT (y0)
  have X_0 := hidT (y1)
  have B_0 := hidT (hb0)
  have HX := hidT hX
  have HIT := hidT hit
  have HLEN := hidT hlen
  clear y0 y1 hX hit hl hb hlen
  go_enter Try.func4, Try.ntmps4
  go_wp2_with fail
  with_reducible refine (wshown_any _).mono ?_
  rintro e w1 ⟨rfl, hb1⟩
  have K_1 := hidT (keepH K_0.out hb1)
  have X_1 := hidT (keepH X_0.out hb1)
  have B_1 := hidT (bthen B_0.out hb1)
  clear K_0 X_0 B_0
  clear hb1 hb0 hg
  obtain ⟨i0, i1⟩ := cells2 K_1.out
  have hf := fewK_is A n c k.l w1 (HX.out.below B_1.out)
  go_wp2_with fail
  cases hfew : fewK k.l with
  | false =>
    rw [hfew] at hf
    with_reducible refine hf.mono ?_
    rintro e w2 ⟨rfl, hbx⟩
    go_wp2
    go_ret
    exact ⟨rfl, bthen B_1.out hbx⟩
  | true =>
    rw [hfew] at hf
    clear hfew
    with_reducible refine hf.mono ?_
    rintro e w2 ⟨rfl, hb2⟩
    have K_2 := hidT (keepH K_1.out hb2)
    have X_2 := hidT (keepH X_1.out hb2)
    have B_2 := hidT (bthen B_1.out hb2)
    clear K_1 X_1 B_1
    clear hb2 hf i0 i1
    obtain ⟨l0, l1, l2, l3, l4, l5, l6, l7⟩ := cells8 X_2.out
    have hf : Calls Try.prog 10 #[.agg #[.int .i64 x.k, .int .i64 x.q, .int .i64 x.e, .int .i64 x.i, .int .i64 x.t, .int .i64 x.c, .slice LA ln lc, .slice BA bn bc]] w2 (BoolIs w2 (fewI x)) := few_is _ x w2 (HIT.out.below B_2.out)
    go_wp2_with fail
    cases hfi : fewI x with
    | false =>
      rw [hfi] at hf
      with_reducible refine hf.mono ?_
      rintro e w3 ⟨rfl, hbx⟩
      go_wp2
      go_ret
      exact ⟨rfl, bthen B_2.out hbx⟩
    | true =>
      rw [hfi] at hf
      have hsx : x.l.length ≤ 80 ∧ x.b.length ≤ 1100 := by simpa [fewI] using hfi
      have HSX := hidT hsx
      clear hfi hsx
      with_reducible refine hf.mono ?_
      rintro e w3 ⟨rfl, hb3⟩
      have K_3 := hidT (keepH K_2.out hb3)
      have X_3 := hidT (keepH X_2.out hb3)
      have B_3 := hidT (bthen B_2.out hb3)
      clear K_2 X_2 B_2
      clear hb3 hf l0 l1 l2 l3 l4 l5 l6 l7
      obtain ⟨i0, i1⟩ := cells2 K_3.out
      have hf := rwright_any (.agg #[.int .i64 k.next, .slice A n c]) k w3 ⟨A, n, c, rfl, HX.out.below B_3.out⟩
      go_wp2_with fail
      cases hri : Win.right k with
      | false =>
        rw [hri] at hf
        with_reducible refine hf.mono ?_
        rintro e w4 ⟨rfl, hbx⟩
        go_wp2
        go_ret
        exact ⟨rfl, bthen B_3.out hbx⟩
      | true =>
        rw [hri] at hf
        have HRR := hidT hri
        clear hri
        with_reducible refine hf.mono ?_
        rintro e w4 ⟨rfl, hb4⟩
        have K_4 := hidT (keepH K_3.out hb4)
        have X_4 := hidT (keepH X_3.out hb4)
        have B_4 := hidT (bthen B_3.out hb4)
        clear K_3 X_3 B_3
        clear hb4 hf i0 i1
        obtain ⟨⟨r1, r2, r3⟩, hmays, hris⟩ := Win.right_iff.1 HRR.out
        rw [HLEN.out] at r1
        have HRI := hidT hris
        clear hmays hris
        have HSM := hidT (right_small HRR.out)
        obtain ⟨L1, hL1⟩ : ∃ L1, (Win.put k x last).l = L1 := ⟨_, rfl⟩
        have hP : Win.put k x last = ⟨k.next, L1⟩ := by rw [← hL1, ← Win.put_next k x last]
        have HP := hidT hP
        have HRP : Hid (Win.right ⟨k.next, L1⟩ = true) := hidT (by rw [← hP]; exact Win.right_put x last HRR.out)
        obtain ⟨t1, ht1⟩ : ∃ t1, Win.takes k x last = t1 := ⟨_, rfl⟩
        have HT := hidT ht1
        obtain ⟨Q, hQ⟩ : ∃ Q, Win.peek k = Q := ⟨_, rfl⟩
        have HQ := hidT hQ
        obtain ⟨z, hz⟩ : ∃ z, Q.getD Item.It.zero = z := ⟨_, rfl⟩
        obtain ⟨s, hs⟩ : ∃ s, Q.isSome = s := ⟨_, rfl⟩
        have HZ := hidT hz
        have HS := hidT hs
        obtain ⟨R, hR⟩ : ∃ R, Win.take k = R := ⟨_, rfl⟩
        have HR := hidT hR
        have HRT : Hid (Win.right R = true) := hidT (by rw [← hR]; exact Win.right_take HRR.out)
        clear hP ht1 hQ hz hs hR hL1
        obtain ⟨i0, i1⟩ := cells2 K_4.out
        obtain ⟨l0, l1, l2, l3, l4, l5, l6, l7⟩ := cells8 X_4.out
        have hp := wput_right (.agg #[.int .i64 k.next, .slice A n c]) (.agg #[.int .i64 x.k, .int .i64 x.q, .int .i64 x.e, .int .i64 x.i, .int .i64 x.t, .int .i64 x.c, .slice LA ln lc, .slice BA bn bc]) k x last w4 ⟨A, n, c, rfl, HX.out.below B_4.out⟩ (HIT.out.below B_4.out) HRR.out (by have := HSX.out; omega)
        rw [HP.out, HT.out] at hp
        go_wp2_with fail
        with_reducible refine hp.mono ?_
        rintro e b1 ⟨v1, rfl, hK1, hb1⟩
        have K_5 := hidT (keepH K_4.out hb1)
        have X_5 := hidT (keepH X_4.out hb1)
        have B_5 := hidT (bthen B_4.out hb1)
        clear K_4 X_4 B_4
        clear hb1 hp i0 i1 l0 l1 l2 l3 l4 l5 l6 l7
        obtain ⟨A1, n1, c1, us1, ev1, hr1, ha1, hf1⟩ := id hK1
        clear hr1 ha1 hf1
        have ev1' : v1 = .agg #[.int .i64 k.next, .slice A1 n1 c1] := ev1
        clear ev1
        subst ev1'
        have hs1 := FrK.size (k := ⟨k.next, L1⟩) hK1
        have HS1 := hidT hs1
        clear hs1
        have t1 := alloc_at b1 (.cells #[.int .i64 k.next, .slice A1 n1 c1] 24) _ rfl
        have t3 := nkeep b1 (.cells #[.int .i64 k.next, .slice A1 n1 c1] 24)
        obtain ⟨Vb1, hVb1⟩ : ∃ W, b1.alloc (.cells #[.int .i64 k.next, .slice A1 n1 c1] 24) = W := ⟨_, rfl⟩
        rw [hVb1] at t1 t3
        have HVb1 := hidT hVb1
        have K_6 := hidT (keepH K_5.out t3)
        have X_6 := hidT (keepH X_5.out t3)
        have B_6 := hidT (bthen B_5.out t3)
        clear K_5 X_5 B_5
        have KA_0 := hidT (hK1.is.below t3)
        obtain ⟨gb1, hgb1⟩ : ∃ p, b1.heap.size = p := ⟨_, rfl⟩
        rw [hgb1] at t1
        have YA_0 := hidT (t1)
        clear t1 t3 hVb1
        clear hK1
        obtain ⟨i0, i1⟩ := cells2 K_6.out
        have hp := wtake_any (.agg #[.int .i64 k.next, .slice A n c]) k Vb1 ⟨A, n, c, rfl, HX.out.below B_6.out⟩ HRR.out HSM.out
        rw [HQ.out, HR.out] at hp
        unfold TakeIs at hp
        rw [HZ.out, HS.out] at hp
        rw [← HVb1.out] at i0 i1
        go_wp2_with fail
        rw [HVb1.out]
        clear hgb1
        with_reducible refine hp.mono ?_
        rintro e b2 ⟨u2, v2, rfl, hI2, hK2, hb2⟩
        have K_7 := hidT (keepH K_6.out hb2)
        have X_7 := hidT (keepH X_6.out hb2)
        have B_7 := hidT (bthen B_6.out hb2)
        have KA_1 := hidT (KA_0.out.below hb2)
        have YA_1 := hidT (keepH YA_0.out hb2)
        clear K_6 X_6 B_6 KA_0 YA_0
        clear hb2 hp i0 i1
        obtain ⟨LA2, ln2, lc2, BA2, bn2, bc2, eu2, hl2, hbb2, hla2, hba2⟩ := id hI2
        clear hl2 hbb2 hla2 hba2
        have eu2' : u2 = .agg #[.int .i64 z.k, .int .i64 z.q, .int .i64 z.e, .int .i64 z.i, .int .i64 z.t, .int .i64 z.c, .slice LA2 ln2 lc2, .slice BA2 bn2 bc2] := eu2
        clear eu2
        subst eu2'
        obtain ⟨A2b, n2b, c2b, us2b, ev2b, hr2b, ha2b, hf2b⟩ := id hK2
        clear hr2b ha2b hf2b
        have ev2b' : v2 = .agg #[.int .i64 R.next, .slice A2b n2b c2b] := ev2b
        clear ev2b
        subst ev2b'
        have hs2 := FrK.size (k := R) hK2
        have HS2 := hidT hs2
        clear hs2
        obtain ⟨t1, t2, t3⟩ := two_alloc b2 (.cells #[.int .i64 z.k, .int .i64 z.q, .int .i64 z.e, .int .i64 z.i, .int .i64 z.t, .int .i64 z.c, .slice LA2 ln2 lc2, .slice BA2 bn2 bc2] 28) (.cells #[.int .i64 R.next, .slice A2b n2b c2b] 24)
        obtain ⟨Vb2, hVb2⟩ : ∃ W, (b2.alloc (.cells #[.int .i64 z.k, .int .i64 z.q, .int .i64 z.e, .int .i64 z.i, .int .i64 z.t, .int .i64 z.c, .slice LA2 ln2 lc2, .slice BA2 bn2 bc2] 28)).alloc (.cells #[.int .i64 R.next, .slice A2b n2b c2b] 24) = W := ⟨_, rfl⟩
        rw [hVb2] at t1 t2 t3
        have HVb2 := hidT hVb2
        have K_8 := hidT (keepH K_7.out t3)
        have X_8 := hidT (keepH X_7.out t3)
        have B_8 := hidT (bthen B_7.out t3)
        have KA_2 := hidT (KA_1.out.below t3)
        have YA_2 := hidT (keepH YA_1.out t3)
        clear K_7 X_7 B_7 KA_1 YA_1
        have KB_0 := hidT (hK2.is.below t3)
        obtain ⟨gb2, hgb2⟩ : ∃ p, b2.heap.size = p := ⟨_, rfl⟩
        rw [hgb2] at t1 t2
        have YX_0 := hidT (t1)
        have YB_0 := hidT (t2)
        clear t1 t3 hVb2 t2
        clear hI2 hK2
        obtain ⟨i0, i1⟩ := cells2 YA_2.out
        have hp := rwright_any _ ⟨k.next, L1⟩ Vb2 KA_2.out
        rw [HRP.out] at hp
        rw [← HVb2.out] at i0 i1
        go_wp2_with fail
        rw [HVb2.out]
        clear hgb2
        with_reducible refine hp.mono ?_
        rintro e b3 ⟨rfl, hb3⟩
        have K_9 := hidT (keepH K_8.out hb3)
        have X_9 := hidT (keepH X_8.out hb3)
        have B_9 := hidT (bthen B_8.out hb3)
        have KA_3 := hidT (KA_2.out.below hb3)
        have YA_3 := hidT (keepH YA_2.out hb3)
        have KB_1 := hidT (KB_0.out.below hb3)
        have YX_1 := hidT (keepH YX_0.out hb3)
        have YB_1 := hidT (keepH YB_0.out hb3)
        clear K_8 X_8 B_8 KA_2 YA_2 KB_0 YX_0 YB_0
        clear hb3 hp i0 i1
        obtain ⟨i0, i1⟩ := cells2 YB_1.out
        have hp := rwright_any _ R b3 KB_1.out
        rw [HRT.out] at hp
        go_wp2_with fail
        with_reducible refine hp.mono ?_
        rintro e b4 ⟨rfl, hb4⟩
        have K_10 := hidT (keepH K_9.out hb4)
        have X_10 := hidT (keepH X_9.out hb4)
        have B_10 := hidT (bthen B_9.out hb4)
        have KA_4 := hidT (KA_3.out.below hb4)
        have YA_4 := hidT (keepH YA_3.out hb4)
        have KB_2 := hidT (KB_1.out.below hb4)
        have YX_2 := hidT (keepH YX_1.out hb4)
        have YB_2 := hidT (keepH YB_1.out hb4)
        clear K_9 X_9 B_9 KA_3 YA_3 KB_1 YX_1 YB_1
        clear hb4 hp i0 i1
        cases t1 with
        | false =>
          cases Q with
          | none =>
            have hs : false = s := HS.out
            subst hs
            obtain ⟨i0, i1⟩ := cells2 YA_4.out
            obtain ⟨m0, m1⟩ := cells2 K_10.out
            have hp := rwsame_is _ (.agg #[.int .i64 k.next, .slice A n c]) ⟨k.next, L1⟩ k b4 KA_4.out ⟨A, n, c, rfl, HX.out.below B_10.out⟩ true (by rw [show L1 = k.l from by have h1 := HP.out; rw [Win.put_no HT.out] at h1; exact (congrArg Keep.Kp.l h1).symm]; simp)
            go_wp2_with fail
            with_reducible refine hp.mono ?_
            rintro e b5 ⟨rfl, hb5⟩
            have K_11 := hidT (keepH K_10.out hb5)
            have X_11 := hidT (keepH X_10.out hb5)
            have B_11 := hidT (bthen B_10.out hb5)
            have KA_5 := hidT (KA_4.out.below hb5)
            have YA_5 := hidT (keepH YA_4.out hb5)
            have KB_3 := hidT (KB_2.out.below hb5)
            have YX_3 := hidT (keepH YX_2.out hb5)
            have YB_3 := hidT (keepH YB_2.out hb5)
            clear K_10 X_10 B_10 KA_4 YA_4 KB_2 YX_2 YB_2
            clear hb5 hp i0 i1 m0 m1
            obtain ⟨i0, i1⟩ := cells2 YB_3.out
            obtain ⟨m0, m1⟩ := cells2 K_11.out
            have hp := rwsame_is _ (.agg #[.int .i64 k.next, .slice A n c]) R k b5 KB_3.out ⟨A, n, c, rfl, HX.out.below B_11.out⟩ true (by rw [show R = k from by rw [← HR.out]; exact (Win.peek_none HQ.out).1]; simp)
            go_wp2_with fail
            with_reducible refine hp.mono ?_
            rintro e b6 ⟨rfl, hb6⟩
            have K_12 := hidT (keepH K_11.out hb6)
            have X_12 := hidT (keepH X_11.out hb6)
            have B_12 := hidT (bthen B_11.out hb6)
            have KA_6 := hidT (KA_5.out.below hb6)
            have YA_6 := hidT (keepH YA_5.out hb6)
            have KB_4 := hidT (KB_3.out.below hb6)
            have YX_4 := hidT (keepH YX_3.out hb6)
            have YB_4 := hidT (keepH YB_3.out hb6)
            clear K_11 X_11 B_11 KA_5 YA_5 KB_3 YX_3 YB_3
            clear hb6 hp i0 i1 m0 m1
            go_wp2
            go_ret
            exact ⟨rfl, B_12.out⟩
          | some y =>
            have hs : true = s := HS.out
            subst hs
            obtain ⟨i0, i1⟩ := cells2 YA_4.out
            obtain ⟨m0, m1⟩ := cells2 K_10.out
            have hp := rwsame_is _ (.agg #[.int .i64 k.next, .slice A n c]) ⟨k.next, L1⟩ k b4 KA_4.out ⟨A, n, c, rfl, HX.out.below B_10.out⟩ true (by rw [show L1 = k.l from by have h1 := HP.out; rw [Win.put_no HT.out] at h1; exact (congrArg Keep.Kp.l h1).symm]; simp)
            go_wp2_with fail
            with_reducible refine hp.mono ?_
            rintro e b5 ⟨rfl, hb5⟩
            have K_11 := hidT (keepH K_10.out hb5)
            have X_11 := hidT (keepH X_10.out hb5)
            have B_11 := hidT (bthen B_10.out hb5)
            have KA_5 := hidT (KA_4.out.below hb5)
            have YA_5 := hidT (keepH YA_4.out hb5)
            have KB_3 := hidT (KB_2.out.below hb5)
            have YX_3 := hidT (keepH YX_2.out hb5)
            have YB_3 := hidT (keepH YB_2.out hb5)
            clear K_10 X_10 B_10 KA_4 YA_4 KB_2 YX_2 YB_2
            clear hb5 hp i0 i1 m0 m1
            obtain ⟨r, el, eq, htk⟩ := Win.peek_some HQ.out
            have hz : z = y := HZ.out.symm
            rw [HR.out] at htk
            have v1 : (z.q != k.next) = false := by rw [hz, eq]; simp
            have v2 : (R.next != k.next + 1) = false := by rw [htk]; simp
            have hrl : n2b + 1 = n := by rw [← HS2.out, ← HLEN.out, htk, el]; simp
            have v3 : ((n2b : Int) != (n : Int) - 1) = false := by rw [← hrl]; simp
            have s1 : IntKind.i64.wrap (k.next + 1) = k.next + 1 := IntWalk.i64_in _ (by omega)
            have s2 : IntKind.i64.wrap ((n : Int) - 1) = (n : Int) - 1 := IntWalk.i64_in _ (by omega)
            have s3 : wrap64 (k.next + 1) = k.next + 1 := IntWalk.wrap64_in _ (by omega)
            have s4 : wrap64 ((n : Int) - 1) = (n : Int) - 1 := IntWalk.wrap64_in _ (by omega)
            clear el eq htk hz hrl
            obtain ⟨i0, i1⟩ := cells2 YB_3.out
            obtain ⟨m0, m1⟩ := cells2 K_11.out
            obtain ⟨l0, l1, l2, l3, l4, l5, l6, l7⟩ := cells8 YX_3.out
            go_wp2
            go_ret
            exact ⟨rfl, B_11.out⟩
        | true =>
          cases Q with
          | none =>
            have hs : false = s := HS.out
            subst hs
            obtain ⟨i0, i1⟩ := cells2 YB_2.out
            obtain ⟨m0, m1⟩ := cells2 K_10.out
            have hp := rwsame_is _ (.agg #[.int .i64 k.next, .slice A n c]) R k b4 KB_2.out ⟨A, n, c, rfl, HX.out.below B_10.out⟩ true (by rw [show R = k from by rw [← HR.out]; exact (Win.peek_none HQ.out).1]; simp)
            go_wp2_with fail
            with_reducible refine hp.mono ?_
            rintro e b6 ⟨rfl, hb6⟩
            have K_11 := hidT (keepH K_10.out hb6)
            have X_11 := hidT (keepH X_10.out hb6)
            have B_11 := hidT (bthen B_10.out hb6)
            have KA_5 := hidT (KA_4.out.below hb6)
            have YA_5 := hidT (keepH YA_4.out hb6)
            have KB_3 := hidT (KB_2.out.below hb6)
            have YX_3 := hidT (keepH YX_2.out hb6)
            have YB_3 := hidT (keepH YB_2.out hb6)
            clear K_10 X_10 B_10 KA_4 YA_4 KB_2 YX_2 YB_2
            clear hb6 hp i0 i1 m0 m1
            go_wp2_with fail
            have hL1 : L1 = Win.ins k.l x := by have h1 := HP.out; rw [Win.put_yes HT.out] at h1; injection h1 with _ h1; exact h1.symm
            have HL1 := hidT hL1
            have hn1 : n1 = n + 1 := by rw [← HS1.out, hL1, Win.ins_length, HLEN.out]
            subst hn1
            obtain ⟨pl, hpl⟩ : ∃ pl, Win.at_ k.l x.q = pl := ⟨_, rfl⟩
            have hpn : pl ≤ n := by have := Win.at_le k.l x.q; rw [hpl, HLEN.out] at this; exact this
            have HPL := hidT hpl
            have HNW := hidT (Win.waits_not.1 (Win.takes_iff.1 HT.out).2.2)
            clear hL1 hpl
            have hWR : RdX b6 A1 (n + 1) c1 L1 := by
              obtain ⟨A9, n9, c9, e9, h9⟩ := KA_5.out
              injection e9 with e9
              have e9' : (#[.int .i64 k.next, .slice A1 (n + 1) c1] : Array Value) = #[.int .i64 k.next, .slice A9 n9 c9] := e9
              injection e9' with e9'
              injection e9' with _ e9'
              injection e9' with e9' _
              injection e9' with f1 f2 f3
              subst f1 f2 f3
              exact h9
            have HWR := hidT hWR
            clear hWR
            go_loopw [13, 14] (fun cn i wr => ∃ j : Nat, j ≤ n + 1 ∧ i = .int .i64 j ∧ cn = .int .i64 (if pl < j then 1 else 0) ∧ Hid (Below b6.heap.size b6 wr)) (fun _ i _ => n + 1 - (intOf i).toNat)
            case atStart => exact ⟨0, Nat.zero_le _, rfl, rfl, hidT (Below.refl _ _)⟩
            case round =>
              obtain ⟨j, hj, rfl, rfl, HBr⟩ := hrel
              obtain ⟨i0, i1⟩ := cells2 (keepH YA_5.out HBr.out)
              by_cases hjn : j < n + 1
              · obtain ⟨b, o, y, LAy, lny, lcy, BAy, bny, bcy, e, hy, hi, hcs⟩ := HWR.out.told hjn
                subst e
                obtain ⟨c0, c1', c2, c3, c4, c5, c6, c7⟩ := hcs wr HBr.out
                obtain ⟨l0, l1, l2, l3, l4, l5, l6, l7⟩ := cells8 (keepH X_11.out HBr.out)
                have x1 : (0 : Int) ≤ (j : Int) := by omega
                have x2 : (j : Int) < (n : Int) + 1 := by omega
                by_cases hjp : j = pl
                · subst hjp
                  have hyx : y = x := by
                    rw [HL1.out] at hy
                    have h1 := ins_at k.l x
                    rw [HPL.out, hy] at h1
                    injection h1
                  subst hyx
                  have q1 : (y.q == y.q) = true := by simp
                  have hsa := rsameI_is _ _ y y wr.drew (hi.below HBr.out.drew) (HIT.out.below (bthen B_11.out HBr.out).drew) true (by simp)
                  have HSA := hidT hsa
                  have e1 : (if j < j then (1 : Int) else 0) = 0 := if_neg (by omega)
                  have e2 : (if j < j + 1 then (1 : Int) else 0) = 1 := if_pos (by omega)
                  rw [e1]
                  clear hcs hi hy hsa e1
                  go_wp2_with fail
                  go_region_law
                    (first
                      | (go_simp
                         go_at_call 25
                         with_reducible refine HSA.out.mono ?_
                         rintro e w5 ⟨rfl, hb5⟩)
                      | fail)
                  all_goals
                    have HB5 := hidT (bthen HBr.out (undrew hb5))
                    clear hb5 c0 c1' c2 c3 c4 c5 c6 c7 l0 l1 l2 l3 l4 l5 l6 l7
                    go_wp2
                    exact ⟨⟨j + 1, by omega, by go_num, by rw [e2], HB5⟩, by simp [intOf]; omega⟩
                · have hyl : y ∈ k.l := by
                    rw [HL1.out] at hy
                    exact ins_else hy (by rw [HPL.out]; exact hjp)
                  have hyq := HNW.out y hyl
                  have q1 : (y.q == x.q) = false := by simpa using hyq
                  have e2 : (if pl < j + 1 then (1 : Int) else 0) = if pl < j then 1 else 0 := by
                    by_cases h : pl < j
                    · rw [if_pos h, if_pos (by omega)]
                    · rw [if_neg h, if_neg (by omega)]
                  obtain ⟨cc, hcc⟩ : ∃ cc : Int, (if pl < j then (1 : Int) else 0) = cc := ⟨_, rfl⟩
                  rw [hcc] at e2
                  rw [hcc]
                  clear hcs hi hy hyl hyq hcc
                  go_wp2_with fail
                  go_quiet (fail)
                  go_wp2
                  exact ⟨⟨j + 1, by omega, by go_num, by rw [e2], hidT (bthen HBr.out (drawn_below _ _))⟩, by simp [intOf]; omega⟩
              · have hje : j = n + 1 := by omega
                subst hje
                rw [if_pos (show pl < n + 1 by omega)]
                have x1 : (0 : Int) ≤ (n : Int) := by omega
                obtain ⟨l0, l1, l2, l3, l4, l5, l6, l7⟩ := cells8 (keepH X_11.out HBr.out)
                have hwt : Win.takes ⟨k.next, L1⟩ x last = false := by
                  rw [Bool.eq_false_iff]; intro h
                  have := (Win.takes_iff.1 h).2.2
                  simp only at this
                  rw [HL1.out, Win.waits_ins] at this
                  simp at this
                have hp := wput_right (.agg #[.int .i64 k.next, .slice A1 (n + 1) c1]) (.agg #[.int .i64 x.k, .int .i64 x.q, .int .i64 x.e, .int .i64 x.i, .int .i64 x.t, .int .i64 x.c, .slice LA ln lc, .slice BA bn bc]) ⟨k.next, L1⟩ x last wr (KA_5.out.below HBr.out) (HIT.out.below (bthen B_11.out HBr.out)) HRP.out (by have := HSX.out; omega)
                rw [hwt] at hp
                clear hwt
                go_wp2_with fail
                with_reducible refine hp.mono ?_
                rintro e w6 ⟨v6, rfl, hK6, hb6⟩
                obtain ⟨A6, n6, c6, us6, ev6, hr6, ha6, hf6⟩ := id hK6
                rw [Win.put_next] at ev6
                clear hr6 ha6 hf6 hK6
                subst ev6
                have t3 := nkeep w6 (.cells #[.int .i64 k.next, .slice A6 n6 c6] 24)
                obtain ⟨V6, hV6⟩ : ∃ V, w6.alloc (.cells #[.int .i64 k.next, .slice A6 n6 c6] 24) = V := ⟨_, rfl⟩
                rw [hV6] at t3
                have HV6 := hidT hV6
                have hbz := bthen HBr.out (bthen hb6 t3)
                have HBZ := hidT hbz
                clear i0 i1 l0 l1 l2 l3 l4 l5 l6 l7 hp hb6 t3 hV6 hbz
                obtain ⟨i0, i1⟩ := cells2 (keepH YA_5.out HBZ.out)
                obtain ⟨m0, m1⟩ := cells2 (keepH K_11.out HBZ.out)
                rw [← HV6.out] at i0 i1 m0 m1
                have v1 : ((n : Int) + 1 == (n : Int) + 1) = true := by simp
                have v2 : (k.next == k.next) = true := by simp
                have v3 : (n + 1 == n + 1) = true := by simp
                go_wp2_with fail
                rw [HV6.out]
                go_ret
                exact ⟨rfl, bthen B_11.out HBZ.out⟩
          | some y =>
            have hs : true = s := HS.out
            subst hs
            obtain ⟨r, el, eq, htk⟩ := Win.peek_some HQ.out
            have hz : z = y := HZ.out.symm
            rw [HR.out] at htk
            have v1 : (z.q != k.next) = false := by rw [hz, eq]; simp
            have v2 : (R.next != k.next + 1) = false := by rw [htk]; simp
            have hrl : n2b + 1 = n := by rw [← HS2.out, ← HLEN.out, htk, el]; simp
            have v3 : ((n2b : Int) != (n : Int) - 1) = false := by rw [← hrl]; simp
            have s1 : IntKind.i64.wrap (k.next + 1) = k.next + 1 := IntWalk.i64_in _ (by omega)
            have s2 : IntKind.i64.wrap ((n : Int) - 1) = (n : Int) - 1 := IntWalk.i64_in _ (by omega)
            have s3 : wrap64 (k.next + 1) = k.next + 1 := IntWalk.wrap64_in _ (by omega)
            have s4 : wrap64 ((n : Int) - 1) = (n : Int) - 1 := IntWalk.wrap64_in _ (by omega)
            clear el eq htk hz hrl
            obtain ⟨i0, i1⟩ := cells2 YB_2.out
            obtain ⟨m0, m1⟩ := cells2 K_10.out
            obtain ⟨l0, l1, l2, l3, l4, l5, l6, l7⟩ := cells8 YX_2.out
            go_wp2_with fail
            clear i0 i1 m0 m1 l0 l1 l2 l3 l4 l5 l6 l7 v1 v2 v3 s1 s2 s3 s4
            have hL1 : L1 = Win.ins k.l x := by have h1 := HP.out; rw [Win.put_yes HT.out] at h1; injection h1 with _ h1; exact h1.symm
            have HL1 := hidT hL1
            have hn1 : n1 = n + 1 := by rw [← HS1.out, hL1, Win.ins_length, HLEN.out]
            subst hn1
            obtain ⟨pl, hpl⟩ : ∃ pl, Win.at_ k.l x.q = pl := ⟨_, rfl⟩
            have hpn : pl ≤ n := by have := Win.at_le k.l x.q; rw [hpl, HLEN.out] at this; exact this
            have HPL := hidT hpl
            have HNW := hidT (Win.waits_not.1 (Win.takes_iff.1 HT.out).2.2)
            clear hL1 hpl
            have hWR : RdX b4 A1 (n + 1) c1 L1 := by
              obtain ⟨A9, n9, c9, e9, h9⟩ := KA_4.out
              injection e9 with e9
              have e9' : (#[.int .i64 k.next, .slice A1 (n + 1) c1] : Array Value) = #[.int .i64 k.next, .slice A9 n9 c9] := e9
              injection e9' with e9'
              injection e9' with _ e9'
              injection e9' with e9' _
              injection e9' with f1 f2 f3
              subst f1 f2 f3
              exact h9
            have HWR := hidT hWR
            clear hWR
            go_loopw [13, 14] (fun cn i wr => ∃ j : Nat, j ≤ n + 1 ∧ i = .int .i64 j ∧ cn = .int .i64 (if pl < j then 1 else 0) ∧ Hid (Below b4.heap.size b4 wr)) (fun _ i _ => n + 1 - (intOf i).toNat)
            case atStart => exact ⟨0, Nat.zero_le _, rfl, rfl, hidT (Below.refl _ _)⟩
            case round =>
              obtain ⟨j, hj, rfl, rfl, HBr⟩ := hrel
              obtain ⟨i0, i1⟩ := cells2 (keepH YA_4.out HBr.out)
              by_cases hjn : j < n + 1
              · obtain ⟨b, o, y, LAy, lny, lcy, BAy, bny, bcy, e, hy, hi, hcs⟩ := HWR.out.told hjn
                subst e
                obtain ⟨c0, c1', c2, c3, c4, c5, c6, c7⟩ := hcs wr HBr.out
                obtain ⟨l0, l1, l2, l3, l4, l5, l6, l7⟩ := cells8 (keepH X_10.out HBr.out)
                have x1 : (0 : Int) ≤ (j : Int) := by omega
                have x2 : (j : Int) < (n : Int) + 1 := by omega
                by_cases hjp : j = pl
                · subst hjp
                  have hyx : y = x := by
                    rw [HL1.out] at hy
                    have h1 := ins_at k.l x
                    rw [HPL.out, hy] at h1
                    injection h1
                  subst hyx
                  have q1 : (y.q == y.q) = true := by simp
                  have hsa := rsameI_is _ _ y y wr.drew (hi.below HBr.out.drew) (HIT.out.below (bthen B_10.out HBr.out).drew) true (by simp)
                  have HSA := hidT hsa
                  have e1 : (if j < j then (1 : Int) else 0) = 0 := if_neg (by omega)
                  have e2 : (if j < j + 1 then (1 : Int) else 0) = 1 := if_pos (by omega)
                  rw [e1]
                  clear hcs hi hy hsa e1
                  go_wp2_with fail
                  go_region_law
                    (first
                      | (go_simp
                         go_at_call 25
                         with_reducible refine HSA.out.mono ?_
                         rintro e w5 ⟨rfl, hb5⟩)
                      | fail)
                  all_goals
                    have HB5 := hidT (bthen HBr.out (undrew hb5))
                    clear hb5 c0 c1' c2 c3 c4 c5 c6 c7 l0 l1 l2 l3 l4 l5 l6 l7
                    go_wp2
                    exact ⟨⟨j + 1, by omega, by go_num, by rw [e2], HB5⟩, by simp [intOf]; omega⟩
                · have hyl : y ∈ k.l := by
                    rw [HL1.out] at hy
                    exact ins_else hy (by rw [HPL.out]; exact hjp)
                  have hyq := HNW.out y hyl
                  have q1 : (y.q == x.q) = false := by simpa using hyq
                  have e2 : (if pl < j + 1 then (1 : Int) else 0) = if pl < j then 1 else 0 := by
                    by_cases h : pl < j
                    · rw [if_pos h, if_pos (by omega)]
                    · rw [if_neg h, if_neg (by omega)]
                  obtain ⟨cc, hcc⟩ : ∃ cc : Int, (if pl < j then (1 : Int) else 0) = cc := ⟨_, rfl⟩
                  rw [hcc] at e2
                  rw [hcc]
                  clear hcs hi hy hyl hyq hcc
                  go_wp2_with fail
                  go_quiet (fail)
                  go_wp2
                  exact ⟨⟨j + 1, by omega, by go_num, by rw [e2], hidT (bthen HBr.out (drawn_below _ _))⟩, by simp [intOf]; omega⟩
              · have hje : j = n + 1 := by omega
                subst hje
                rw [if_pos (show pl < n + 1 by omega)]
                have x1 : (0 : Int) ≤ (n : Int) := by omega
                obtain ⟨l0, l1, l2, l3, l4, l5, l6, l7⟩ := cells8 (keepH X_10.out HBr.out)
                have hwt : Win.takes ⟨k.next, L1⟩ x last = false := by
                  rw [Bool.eq_false_iff]; intro h
                  have := (Win.takes_iff.1 h).2.2
                  simp only at this
                  rw [HL1.out, Win.waits_ins] at this
                  simp at this
                have hp := wput_right (.agg #[.int .i64 k.next, .slice A1 (n + 1) c1]) (.agg #[.int .i64 x.k, .int .i64 x.q, .int .i64 x.e, .int .i64 x.i, .int .i64 x.t, .int .i64 x.c, .slice LA ln lc, .slice BA bn bc]) ⟨k.next, L1⟩ x last wr (KA_4.out.below HBr.out) (HIT.out.below (bthen B_10.out HBr.out)) HRP.out (by have := HSX.out; omega)
                rw [hwt] at hp
                clear hwt
                go_wp2_with fail
                with_reducible refine hp.mono ?_
                rintro e w6 ⟨v6, rfl, hK6, hb6⟩
                obtain ⟨A6, n6, c6, us6, ev6, hr6, ha6, hf6⟩ := id hK6
                rw [Win.put_next] at ev6
                clear hr6 ha6 hf6 hK6
                subst ev6
                have t3 := nkeep w6 (.cells #[.int .i64 k.next, .slice A6 n6 c6] 24)
                obtain ⟨V6, hV6⟩ : ∃ V, w6.alloc (.cells #[.int .i64 k.next, .slice A6 n6 c6] 24) = V := ⟨_, rfl⟩
                rw [hV6] at t3
                have HV6 := hidT hV6
                have hbz := bthen HBr.out (bthen hb6 t3)
                have HBZ := hidT hbz
                clear i0 i1 l0 l1 l2 l3 l4 l5 l6 l7 hp hb6 t3 hV6 hbz
                obtain ⟨i0, i1⟩ := cells2 (keepH YA_4.out HBZ.out)
                obtain ⟨m0, m1⟩ := cells2 (keepH K_10.out HBZ.out)
                rw [← HV6.out] at i0 i1 m0 m1
                have v1 : ((n : Int) + 1 == (n : Int) + 1) = true := by simp
                have v2 : (k.next == k.next) = true := by simp
                have v3 : (n + 1 == n + 1) = true := by simp
                go_wp2_with fail
                rw [HV6.out]
                go_ret
                exact ⟨rfl, bthen B_10.out HBZ.out⟩
end Go.Proofs.Ytkkkfaelpmmffaa
