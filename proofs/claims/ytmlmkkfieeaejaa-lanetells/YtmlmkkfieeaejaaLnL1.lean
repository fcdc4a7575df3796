/- The law LaneTells, walked. (Written by wip/gen/lntells.py.) -/
import Derived.Test.YtmlmkkfieeaejaaLnW
import Derived.Test.YtmlmkkfieeaejaaLnOpen
import Derived.Test.YtmlmkkfieeaejaaRLn3
import Derived.Test.YtmlmkkfieeaejaaRLn4
import Derived.Test.YtmlmkkfieeaejaaRLn4b
set_option maxRecDepth 100000
namespace Go.Proofs.Ytmlmkkfieeaejaa
open Go.RowKit
set_option linter.unusedVariables false

theorem allK3 {k : Nat} {a b c : Array Value} (ha : a.size = k) (ha2 : a.all (·.oneCell') = true) (hb : b.size = k) (hb2 : b.all (·.oneCell') = true) (hc : c.size = k) (hc2 : c.all (·.oneCell') = true) : AllK k [a, b, c] :=
  (AllK.one ha ha2).app ((AllK.one hb hb2).app (AllK.one hc hc2))
theorem are3 {S : Nat → Prop} {w : World} {a b c : Array Value} {x y z : Lane.En} (ha : IsEn S w (.agg a) x) (hb : IsEn S w (.agg b) y) (hc : IsEn S w (.agg c) z) : AreE S w [a, b, c] [x, y, z] :=
  (AreE.one ha).app ((AreE.one hb).app (AreE.one hc))
set_option maxHeartbeats 8000000 in
theorem tells_any (v v' : Value) (l o : Lane.Ln) (r : Int) (w : World) (h : IsLane Any w v l) (h' : IsLane Any w v' o) (hok : LnOk l) : Calls Try.prog 3 #[v, v', .int .i64 r] w (Yes w) := by
  have B_0 := hidT (Below.refl w.heap.size w)
  have L_0 := hidT (h)
  have O_0 := hidT (h')
  obtain ⟨A, n, c, B, m, d, ev, -, -, -⟩ := id h
  obtain ⟨A2, n2, c2, B2, m2, d2, ev2, -, -, -⟩ := id h'
  subst ev ev2
  have HOK := hidT hok
  clear h h' hok
  obtain ⟨t1, t2, t3⟩ := two_alloc w (.cells #[.slice A n c, .int .i64 l.p.seq, .int .i64 l.p.total, .int .i64 l.p.got, .slice B m d] 27) (.cells #[.slice A2 n2 c2, .int .i64 o.p.seq, .int .i64 o.p.total, .int .i64 o.p.got, .slice B2 m2 d2] 27)
  obtain ⟨Vw, hVw⟩ : ∃ W, (w.alloc (.cells #[.slice A n c, .int .i64 l.p.seq, .int .i64 l.p.total, .int .i64 l.p.got, .slice B m d] 27)).alloc (.cells #[.slice A2 n2 c2, .int .i64 o.p.seq, .int .i64 o.p.total, .int .i64 o.p.got, .slice B2 m2 d2] 27) = W := ⟨_, rfl⟩
  rw [hVw] at t1 t2 t3
  have HVw := hidT hVw
  have B_1 := hidT (bthen B_0.out t3)
  have L_1 := hidT (L_0.out.below t3)
  have O_1 := hidT (O_0.out.below t3)
  clear B_0 L_0 O_0
  obtain ⟨gw, hgw⟩ : ∃ p, w.heap.size = p := ⟨_, rfl⟩
  rw [hgw] at t1 t2
  have X_0 := hidT (t1)
  have Y_0 := hidT (t2)
  clear t1 t3 hVw t2
  go_enter Try.func3, Try.ntmps3
  go_wp2_with fail
  rw [HVw.out]
  clear hgw
  with_reducible refine (shown_any _).mono ?_
  rintro e y0 ⟨rfl, hb⟩
  have B_2 := hidT (bthen B_1.out hb)
  have L_2 := hidT (L_1.out.below hb)
  have O_2 := hidT (O_1.out.below hb)
  have X_1 := hidT (keepH X_0.out hb)
  have Y_1 := hidT (keepH Y_0.out hb)
  clear B_1 L_1 O_1 X_0 Y_0
  clear hb
  obtain ⟨i0, i1, i2, i3, i4⟩ := cells5 X_1.out
  go_wp2_with fail
  cases hfew : fewL l with
  | false =>
    with_reducible refine (few_any _ l y0 L_2.out false hfew).mono ?_
    rintro e y1 ⟨rfl, hb⟩
    go_wp2
    go_ret
    exact ⟨rfl, bthen B_2.out hb⟩
  | true =>
    with_reducible refine (few_any _ l y0 L_2.out true hfew).mono ?_
    rintro e y1 ⟨rfl, hb⟩
    have B_3 := hidT (bthen B_2.out hb)
    have L_3 := hidT (L_2.out.below hb)
    have O_3 := hidT (O_2.out.below hb)
    have X_2 := hidT (keepH X_1.out hb)
    have Y_2 := hidT (keepH Y_1.out hb)
    clear B_2 L_2 O_2 X_1 Y_1
    clear hb i0 i1 i2 i3 i4
    obtain ⟨i0, i1, i2, i3, i4⟩ := cells5 Y_2.out
    go_wp2_with fail
    cases hfew2 : fewL o with
    | false =>
      with_reducible refine (few_any _ o y1 O_3.out false hfew2).mono ?_
      rintro e y2 ⟨rfl, hb⟩
      go_wp2
      go_ret
      exact ⟨rfl, bthen B_3.out hb⟩
    | true =>
      with_reducible refine (few_any _ o y1 O_3.out true hfew2).mono ?_
      rintro e y2 ⟨rfl, hb⟩
      have B_4 := hidT (bthen B_3.out hb)
      have L_4 := hidT (L_3.out.below hb)
      have O_4 := hidT (O_3.out.below hb)
      have X_3 := hidT (keepH X_2.out hb)
      have Y_3 := hidT (keepH Y_2.out hb)
      clear B_3 L_3 O_3 X_2 Y_2
      clear hb i0 i1 i2 i3 i4
      have HS := hidT (fewL_small hfew).1
      clear hfew hfew2
      obtain ⟨t, ht⟩ : ∃ t, Lane.right l = t := ⟨_, rfl⟩
      have HT := hidT ht
      clear ht
      obtain ⟨i0, i1, i2, i3, i4⟩ := cells5 X_3.out
      go_wp2_with fail
      with_reducible refine (rright_any _ l y2 L_4.out t HT.out).mono ?_
      rintro e y3 ⟨rfl, hb⟩
      have B_5 := hidT (bthen B_4.out hb)
      have L_5 := hidT (L_4.out.below hb)
      have O_5 := hidT (O_4.out.below hb)
      have X_4 := hidT (keepH X_3.out hb)
      have Y_4 := hidT (keepH Y_3.out hb)
      clear B_4 L_4 O_4 X_3 Y_3
      clear hb i0 i1 i2 i3 i4
      obtain ⟨u, hu⟩ : ∃ u, decide (l = o) = u := ⟨_, rfl⟩
      have HU := hidT hu
      clear hu
      go_wp2_with fail
      have kx0 := fun w' (hb : Below y3.heap.size y3 w') => (cells5 (keepH X_4.out hb)).1
      have kx1 := fun w' (hb : Below y3.heap.size y3 w') => (cells5 (keepH X_4.out hb)).2.1
      have kx2 := fun w' (hb : Below y3.heap.size y3 w') => (cells5 (keepH X_4.out hb)).2.2.1
      have kx3 := fun w' (hb : Below y3.heap.size y3 w') => (cells5 (keepH X_4.out hb)).2.2.2.1
      have kx4 := fun w' (hb : Below y3.heap.size y3 w') => (cells5 (keepH X_4.out hb)).2.2.2.2
      have ky0 := fun w' (hb : Below y3.heap.size y3 w') => (cells5 (keepH Y_4.out hb)).1
      have ky1 := fun w' (hb : Below y3.heap.size y3 w') => (cells5 (keepH Y_4.out hb)).2.1
      have ky2 := fun w' (hb : Below y3.heap.size y3 w') => (cells5 (keepH Y_4.out hb)).2.2.1
      have ky3 := fun w' (hb : Below y3.heap.size y3 w') => (cells5 (keepH Y_4.out hb)).2.2.2.1
      have ky4 := fun w' (hb : Below y3.heap.size y3 w') => (cells5 (keepH Y_4.out hb)).2.2.2.2
      have C1 := hidT fun w' (hb : Below y3.heap.size y3 w') => right_any _ l w' (L_5.out.below hb) t HT.out
      have C2 := hidT fun w' (hb : Below y3.heap.size y3 w') => same_any _ _ l o w' (L_5.out.below hb) (O_5.out.below hb) u HU.out
      have C3 := hidT fun w' (hb : Below y3.heap.size y3 w') => rlsame_any _ _ l o w' (L_5.out.below hb) (O_5.out.below hb) u HU.out
      have e1 : (t != t) = false := by simp
      have e2 : (u != u) = false := by simp
      go_region_held_law (fun w' => Below y3.heap.size y3 w')
        (first | exact (Below.refl _ _).drew | exact hc3 | exact hc2 | exact hc1)
        (first
          | (go_at_call 12; ((with_reducible refine (C1.out _ (Below.refl _ _).drew).mono ?_); rintro e a1 ⟨rfl, hc1'⟩; have hc1 : Below y3.heap.size y3 a1 := undrew hc1'))
          | (go_at_call 13; ((with_reducible refine (C2.out a1 hc1).mono ?_); rintro e a2 ⟨rfl, hc2'⟩; have hc2 : Below y3.heap.size y3 a2 := bthen hc1 hc2'))
          | (go_at_call 14; ((with_reducible refine (C3.out a2 hc2).mono ?_); rintro e a3 ⟨rfl, hc3'⟩; have hc3 : Below y3.heap.size y3 a3 := bthen hc2 hc3'))
          | fail)
      have B_6 := hidT (bthen B_5.out hc3)
      have L_6 := hidT (L_5.out.below hc3)
      have O_6 := hidT (O_5.out.below hc3)
      have X_5 := hidT (keepH X_4.out hc3)
      have Y_5 := hidT (keepH Y_4.out hc3)
      clear B_5 L_5 O_5 X_4 Y_4
      clear C1 C2 C3 e1 e2 hc1' hc2' hc3' hc1 hc2 hc3 kx0 kx1 kx2 kx3 kx4 ky0 ky1 ky2 ky3 ky4
      cases t with
      | false =>
        go_wp2
        go_ret
        exact ⟨rfl, B_6.out⟩
      | true =>
        clear Y_5
        clear O_6
        obtain ⟨hr0, hpt⟩ := Lane.right_iff.1 HT.out
        have HR0 := hidT hr0
        have HPT := hidT hpt
        clear hr0 hpt
        obtain ⟨o_, ho_⟩ : ∃ o_, Lane.first l = o_ := ⟨_, rfl⟩
        obtain ⟨z1, hz1⟩ : ∃ z, o_.getD Lane.En.zero = z := ⟨_, rfl⟩
        obtain ⟨s1, hs1⟩ : ∃ s, o_.isSome = s := ⟨_, rfl⟩
        have C1 : Hid (∀ w', IsLane Any w' (.agg #[.slice A n c, .int .i64 l.p.seq, .int .i64 l.p.total, .int .i64 l.p.got, .slice B m d]) l → Calls Try.prog 15 #[.agg #[.slice A n c, .int .i64 l.p.seq, .int .i64 l.p.total, .int .i64 l.p.got, .slice B m d]] w' fun e w2 => ∃ v, e = .returned (.tuple #[v, .bool s1]) ∧ IsEn (Hi w'.heap.size) w2 v z1 ∧ Below w'.heap.size w' w2) := hidT fun w' hl => by
          have hc := first_any _ l w' hl HS.out
          rw [ho_] at hc
          unfold GetE at hc
          rw [hz1, hs1] at hc
          exact hc
        have C2 : Hid (∀ w', IsLane Any w' (.agg #[.slice A n c, .int .i64 l.p.seq, .int .i64 l.p.total, .int .i64 l.p.got, .slice B m d]) l → Calls Try.prog 16 #[.agg #[.slice A n c, .int .i64 l.p.seq, .int .i64 l.p.total, .int .i64 l.p.got, .slice B m d]] w' fun e w2 => ∃ v, e = .returned (.tuple #[v, .bool s1]) ∧ IsEn Any w2 v z1 ∧ Below w'.heap.size w' w2) := hidT fun w' hl => by
          have hc := rfirst_any _ l w' hl
          rw [ho_] at hc
          unfold GetR at hc
          rw [hz1, hs1] at hc
          exact hc
        clear ho_ hz1 hs1 o_
        obtain ⟨i0, i1, i2, i3, i4⟩ := cells5 X_5.out
        go_wp2_with fail
        with_reducible refine (C1.out _ L_6.out).mono ?_
        rintro e xa ⟨v, rfl, hl, hb⟩
        have B_7 := hidT (bthen B_6.out hb)
        have L_7 := hidT (L_6.out.below hb)
        have X_6 := hidT (keepH X_5.out hb)
        clear B_6 L_6 X_5
        clear hb i0 i1 i2 i3 i4
        obtain ⟨BAa, bna, bca, LAa, lna, lca, eva, -, -, -, -⟩ := id hl
        have eva' : v = .agg #[.int .i64 z1.k, .int .i64 z1.q, .slice BAa bna bca, .slice LAa lna lca, .bool z1.h] := eva
        clear eva
        subst eva'
        have t1 := alloc_at xa (.cells #[.int .i64 z1.k, .int .i64 z1.q, .slice BAa bna bca, .slice LAa lna lca, .bool z1.h] 33) _ rfl
        have t3 := nkeep xa (.cells #[.int .i64 z1.k, .int .i64 z1.q, .slice BAa bna bca, .slice LAa lna lca, .bool z1.h] 33)
        obtain ⟨Vxa, hVxa⟩ : ∃ W, xa.alloc (.cells #[.int .i64 z1.k, .int .i64 z1.q, .slice BAa bna bca, .slice LAa lna lca, .bool z1.h] 33) = W := ⟨_, rfl⟩
        rw [hVxa] at t1 t3
        have HVxa := hidT hVxa
        have B_8 := hidT (bthen B_7.out t3)
        have L_8 := hidT (L_7.out.below t3)
        have X_7 := hidT (keepH X_6.out t3)
        clear B_7 L_7 X_6
        have Ia_0 := hidT (hl.below t3)
        obtain ⟨gxa, hgxa⟩ : ∃ p, xa.heap.size = p := ⟨_, rfl⟩
        rw [hgxa] at t1
        have Ea_0 := hidT (t1)
        clear t1 t3 hVxa
        clear hl
        obtain ⟨i0, i1, i2, i3, i4⟩ := cells5 X_7.out
        rw [← HVxa.out] at i0 i1 i2 i3 i4
        go_wp2_with fail
        rw [HVxa.out]
        clear hgxa
        with_reducible refine (C2.out _ L_8.out).mono ?_
        rintro e xb ⟨v, rfl, hl, hb⟩
        have B_9 := hidT (bthen B_8.out hb)
        have L_9 := hidT (L_8.out.below hb)
        have X_8 := hidT (keepH X_7.out hb)
        have Ia_1 := hidT (Ia_0.out.below hb)
        have Ea_1 := hidT (keepH Ea_0.out hb)
        clear B_8 L_8 X_7 Ia_0 Ea_0
        clear hb i0 i1 i2 i3 i4
        obtain ⟨BAb, bnb, bcb, LAb, lnb, lcb, evb, -, -, -, -⟩ := id hl
        have evb' : v = .agg #[.int .i64 z1.k, .int .i64 z1.q, .slice BAb bnb bcb, .slice LAb lnb lcb, .bool z1.h] := evb
        clear evb
        subst evb'
        have t1 := alloc_at xb (.cells #[.int .i64 z1.k, .int .i64 z1.q, .slice BAb bnb bcb, .slice LAb lnb lcb, .bool z1.h] 33) _ rfl
        have t3 := nkeep xb (.cells #[.int .i64 z1.k, .int .i64 z1.q, .slice BAb bnb bcb, .slice LAb lnb lcb, .bool z1.h] 33)
        obtain ⟨Vxb, hVxb⟩ : ∃ W, xb.alloc (.cells #[.int .i64 z1.k, .int .i64 z1.q, .slice BAb bnb bcb, .slice LAb lnb lcb, .bool z1.h] 33) = W := ⟨_, rfl⟩
        rw [hVxb] at t1 t3
        have HVxb := hidT hVxb
        have B_10 := hidT (bthen B_9.out t3)
        have L_10 := hidT (L_9.out.below t3)
        have X_9 := hidT (keepH X_8.out t3)
        have Ia_2 := hidT (Ia_1.out.below t3)
        have Ea_2 := hidT (keepH Ea_1.out t3)
        clear B_9 L_9 X_8 Ia_1 Ea_1
        have Ib_0 := hidT (hl.below t3)
        obtain ⟨gxb, hgxb⟩ : ∃ p, xb.heap.size = p := ⟨_, rfl⟩
        rw [hgxb] at t1
        have Eb_0 := hidT (t1)
        clear t1 t3 hVxb
        clear hl
        clear C1 C2
        obtain ⟨o_, ho_⟩ : ∃ o_, Lane.message l = o_ := ⟨_, rfl⟩
        obtain ⟨z2, hz2⟩ : ∃ z, o_.getD Lane.En.zero = z := ⟨_, rfl⟩
        obtain ⟨s2, hs2⟩ : ∃ s, o_.isSome = s := ⟨_, rfl⟩
        have C1 : Hid (∀ w', IsLane Any w' (.agg #[.slice A n c, .int .i64 l.p.seq, .int .i64 l.p.total, .int .i64 l.p.got, .slice B m d]) l → Calls Try.prog 17 #[.agg #[.slice A n c, .int .i64 l.p.seq, .int .i64 l.p.total, .int .i64 l.p.got, .slice B m d]] w' fun e w2 => ∃ v, e = .returned (.tuple #[v, .bool s2]) ∧ IsEn (Hi w'.heap.size) w2 v z2 ∧ Below w'.heap.size w' w2) := hidT fun w' hl => by
          have hc := message_any _ l w' hl HS.out
          rw [ho_] at hc
          unfold GetE at hc
          rw [hz2, hs2] at hc
          exact hc
        have C2 : Hid (∀ w', IsLane Any w' (.agg #[.slice A n c, .int .i64 l.p.seq, .int .i64 l.p.total, .int .i64 l.p.got, .slice B m d]) l → Calls Try.prog 18 #[.agg #[.slice A n c, .int .i64 l.p.seq, .int .i64 l.p.total, .int .i64 l.p.got, .slice B m d]] w' fun e w2 => ∃ v, e = .returned (.tuple #[v, .bool s2]) ∧ IsEn Any w2 v z2 ∧ Below w'.heap.size w' w2) := hidT fun w' hl => by
          have hc := rmessage_any _ l w' hl
          rw [ho_] at hc
          unfold GetR at hc
          rw [hz2, hs2] at hc
          exact hc
        clear ho_ hz2 hs2 o_
        obtain ⟨i0, i1, i2, i3, i4⟩ := cells5 X_9.out
        rw [← HVxb.out] at i0 i1 i2 i3 i4
        go_wp2_with fail
        rw [HVxb.out]
        clear hgxb
        with_reducible refine (C1.out _ L_10.out).mono ?_
        rintro e xc ⟨v, rfl, hl, hb⟩
        have B_11 := hidT (bthen B_10.out hb)
        have L_11 := hidT (L_10.out.below hb)
        have X_10 := hidT (keepH X_9.out hb)
        have Ia_3 := hidT (Ia_2.out.below hb)
        have Ea_3 := hidT (keepH Ea_2.out hb)
        have Ib_1 := hidT (Ib_0.out.below hb)
        have Eb_1 := hidT (keepH Eb_0.out hb)
        clear B_10 L_10 X_9 Ia_2 Ea_2 Ib_0 Eb_0
        clear hb i0 i1 i2 i3 i4
        obtain ⟨BAc, bnc, bcc, LAc, lnc, lcc, evc, -, -, -, -⟩ := id hl
        have evc' : v = .agg #[.int .i64 z2.k, .int .i64 z2.q, .slice BAc bnc bcc, .slice LAc lnc lcc, .bool z2.h] := evc
        clear evc
        subst evc'
        have t1 := alloc_at xc (.cells #[.int .i64 z2.k, .int .i64 z2.q, .slice BAc bnc bcc, .slice LAc lnc lcc, .bool z2.h] 33) _ rfl
        have t3 := nkeep xc (.cells #[.int .i64 z2.k, .int .i64 z2.q, .slice BAc bnc bcc, .slice LAc lnc lcc, .bool z2.h] 33)
        obtain ⟨Vxc, hVxc⟩ : ∃ W, xc.alloc (.cells #[.int .i64 z2.k, .int .i64 z2.q, .slice BAc bnc bcc, .slice LAc lnc lcc, .bool z2.h] 33) = W := ⟨_, rfl⟩
        rw [hVxc] at t1 t3
        have HVxc := hidT hVxc
        have B_12 := hidT (bthen B_11.out t3)
        have L_12 := hidT (L_11.out.below t3)
        have X_11 := hidT (keepH X_10.out t3)
        have Ia_4 := hidT (Ia_3.out.below t3)
        have Ea_4 := hidT (keepH Ea_3.out t3)
        have Ib_2 := hidT (Ib_1.out.below t3)
        have Eb_2 := hidT (keepH Eb_1.out t3)
        clear B_11 L_11 X_10 Ia_3 Ea_3 Ib_1 Eb_1
        have Ic_0 := hidT (hl.below t3)
        obtain ⟨gxc, hgxc⟩ : ∃ p, xc.heap.size = p := ⟨_, rfl⟩
        rw [hgxc] at t1
        have Ec_0 := hidT (t1)
        clear t1 t3 hVxc
        clear hl
        obtain ⟨i0, i1, i2, i3, i4⟩ := cells5 X_11.out
        rw [← HVxc.out] at i0 i1 i2 i3 i4
        go_wp2_with fail
        rw [HVxc.out]
        clear hgxc
        with_reducible refine (C2.out _ L_12.out).mono ?_
        rintro e xd ⟨v, rfl, hl, hb⟩
        have B_13 := hidT (bthen B_12.out hb)
        have L_13 := hidT (L_12.out.below hb)
        have X_12 := hidT (keepH X_11.out hb)
        have Ia_5 := hidT (Ia_4.out.below hb)
        have Ea_5 := hidT (keepH Ea_4.out hb)
        have Ib_3 := hidT (Ib_2.out.below hb)
        have Eb_3 := hidT (keepH Eb_2.out hb)
        have Ic_1 := hidT (Ic_0.out.below hb)
        have Ec_1 := hidT (keepH Ec_0.out hb)
        clear B_12 L_12 X_11 Ia_4 Ea_4 Ib_2 Eb_2 Ic_0 Ec_0
        clear hb i0 i1 i2 i3 i4
        obtain ⟨BAd, bnd, bcd, LAd, lnd, lcd, evd, -, -, -, -⟩ := id hl
        have evd' : v = .agg #[.int .i64 z2.k, .int .i64 z2.q, .slice BAd bnd bcd, .slice LAd lnd lcd, .bool z2.h] := evd
        clear evd
        subst evd'
        have t1 := alloc_at xd (.cells #[.int .i64 z2.k, .int .i64 z2.q, .slice BAd bnd bcd, .slice LAd lnd lcd, .bool z2.h] 33) _ rfl
        have t3 := nkeep xd (.cells #[.int .i64 z2.k, .int .i64 z2.q, .slice BAd bnd bcd, .slice LAd lnd lcd, .bool z2.h] 33)
        obtain ⟨Vxd, hVxd⟩ : ∃ W, xd.alloc (.cells #[.int .i64 z2.k, .int .i64 z2.q, .slice BAd bnd bcd, .slice LAd lnd lcd, .bool z2.h] 33) = W := ⟨_, rfl⟩
        rw [hVxd] at t1 t3
        have HVxd := hidT hVxd
        have B_14 := hidT (bthen B_13.out t3)
        have L_14 := hidT (L_13.out.below t3)
        have X_13 := hidT (keepH X_12.out t3)
        have Ia_6 := hidT (Ia_5.out.below t3)
        have Ea_6 := hidT (keepH Ea_5.out t3)
        have Ib_4 := hidT (Ib_3.out.below t3)
        have Eb_4 := hidT (keepH Eb_3.out t3)
        have Ic_2 := hidT (Ic_1.out.below t3)
        have Ec_2 := hidT (keepH Ec_1.out t3)
        clear B_13 L_13 X_12 Ia_5 Ea_5 Ib_3 Eb_3 Ic_1 Ec_1
        have Id_0 := hidT (hl.below t3)
        obtain ⟨gxd, hgxd⟩ : ∃ p, xd.heap.size = p := ⟨_, rfl⟩
        rw [hgxd] at t1
        have Ed_0 := hidT (t1)
        clear t1 t3 hVxd
        clear hl
        clear C1 C2
        obtain ⟨o_, ho_⟩ : ∃ o_, Lane.control l = o_ := ⟨_, rfl⟩
        obtain ⟨z3, hz3⟩ : ∃ z, o_.getD Lane.En.zero = z := ⟨_, rfl⟩
        obtain ⟨s3, hs3⟩ : ∃ s, o_.isSome = s := ⟨_, rfl⟩
        have C1 : Hid (∀ w', IsLane Any w' (.agg #[.slice A n c, .int .i64 l.p.seq, .int .i64 l.p.total, .int .i64 l.p.got, .slice B m d]) l → Calls Try.prog 19 #[.agg #[.slice A n c, .int .i64 l.p.seq, .int .i64 l.p.total, .int .i64 l.p.got, .slice B m d]] w' fun e w2 => ∃ v, e = .returned (.tuple #[v, .bool s3]) ∧ IsEn (Hi w'.heap.size) w2 v z3 ∧ Below w'.heap.size w' w2) := hidT fun w' hl => by
          have hc := control_any _ l w' hl HS.out
          rw [ho_] at hc
          unfold GetE at hc
          rw [hz3, hs3] at hc
          exact hc
        have C2 : Hid (∀ w', IsLane Any w' (.agg #[.slice A n c, .int .i64 l.p.seq, .int .i64 l.p.total, .int .i64 l.p.got, .slice B m d]) l → Calls Try.prog 20 #[.agg #[.slice A n c, .int .i64 l.p.seq, .int .i64 l.p.total, .int .i64 l.p.got, .slice B m d]] w' fun e w2 => ∃ v, e = .returned (.tuple #[v, .bool s3]) ∧ IsEn Any w2 v z3 ∧ Below w'.heap.size w' w2) := hidT fun w' hl => by
          have hc := rcontrol_any _ l w' hl
          rw [ho_] at hc
          unfold GetR at hc
          rw [hz3, hs3] at hc
          exact hc
        clear ho_ hz3 hs3 o_
        obtain ⟨i0, i1, i2, i3, i4⟩ := cells5 X_13.out
        rw [← HVxd.out] at i0 i1 i2 i3 i4
        go_wp2_with fail
        rw [HVxd.out]
        clear hgxd
        with_reducible refine (C1.out _ L_14.out).mono ?_
        rintro e xe ⟨v, rfl, hl, hb⟩
        have B_15 := hidT (bthen B_14.out hb)
        have L_15 := hidT (L_14.out.below hb)
        have X_14 := hidT (keepH X_13.out hb)
        have Ia_7 := hidT (Ia_6.out.below hb)
        have Ea_7 := hidT (keepH Ea_6.out hb)
        have Ib_5 := hidT (Ib_4.out.below hb)
        have Eb_5 := hidT (keepH Eb_4.out hb)
        have Ic_3 := hidT (Ic_2.out.below hb)
        have Ec_3 := hidT (keepH Ec_2.out hb)
        have Id_1 := hidT (Id_0.out.below hb)
        have Ed_1 := hidT (keepH Ed_0.out hb)
        clear B_14 L_14 X_13 Ia_6 Ea_6 Ib_4 Eb_4 Ic_2 Ec_2 Id_0 Ed_0
        clear hb i0 i1 i2 i3 i4
        obtain ⟨BAe, bne, bce, LAe, lne, lce, eve, -, -, -, -⟩ := id hl
        have eve' : v = .agg #[.int .i64 z3.k, .int .i64 z3.q, .slice BAe bne bce, .slice LAe lne lce, .bool z3.h] := eve
        clear eve
        subst eve'
        have t1 := alloc_at xe (.cells #[.int .i64 z3.k, .int .i64 z3.q, .slice BAe bne bce, .slice LAe lne lce, .bool z3.h] 33) _ rfl
        have t3 := nkeep xe (.cells #[.int .i64 z3.k, .int .i64 z3.q, .slice BAe bne bce, .slice LAe lne lce, .bool z3.h] 33)
        obtain ⟨Vxe, hVxe⟩ : ∃ W, xe.alloc (.cells #[.int .i64 z3.k, .int .i64 z3.q, .slice BAe bne bce, .slice LAe lne lce, .bool z3.h] 33) = W := ⟨_, rfl⟩
        rw [hVxe] at t1 t3
        have HVxe := hidT hVxe
        have B_16 := hidT (bthen B_15.out t3)
        have L_16 := hidT (L_15.out.below t3)
        have X_15 := hidT (keepH X_14.out t3)
        have Ia_8 := hidT (Ia_7.out.below t3)
        have Ea_8 := hidT (keepH Ea_7.out t3)
        have Ib_6 := hidT (Ib_5.out.below t3)
        have Eb_6 := hidT (keepH Eb_5.out t3)
        have Ic_4 := hidT (Ic_3.out.below t3)
        have Ec_4 := hidT (keepH Ec_3.out t3)
        have Id_2 := hidT (Id_1.out.below t3)
        have Ed_2 := hidT (keepH Ed_1.out t3)
        clear B_15 L_15 X_14 Ia_7 Ea_7 Ib_5 Eb_5 Ic_3 Ec_3 Id_1 Ed_1
        have Ie_0 := hidT (hl.below t3)
        obtain ⟨gxe, hgxe⟩ : ∃ p, xe.heap.size = p := ⟨_, rfl⟩
        rw [hgxe] at t1
        have Ee_0 := hidT (t1)
        clear t1 t3 hVxe
        clear hl
        obtain ⟨i0, i1, i2, i3, i4⟩ := cells5 X_15.out
        rw [← HVxe.out] at i0 i1 i2 i3 i4
        go_wp2_with fail
        rw [HVxe.out]
        clear hgxe
        with_reducible refine (C2.out _ L_16.out).mono ?_
        rintro e xf ⟨v, rfl, hl, hb⟩
        have B_17 := hidT (bthen B_16.out hb)
        have L_17 := hidT (L_16.out.below hb)
        have X_16 := hidT (keepH X_15.out hb)
        have Ia_9 := hidT (Ia_8.out.below hb)
        have Ea_9 := hidT (keepH Ea_8.out hb)
        have Ib_7 := hidT (Ib_6.out.below hb)
        have Eb_7 := hidT (keepH Eb_6.out hb)
        have Ic_5 := hidT (Ic_4.out.below hb)
        have Ec_5 := hidT (keepH Ec_4.out hb)
        have Id_3 := hidT (Id_2.out.below hb)
        have Ed_3 := hidT (keepH Ed_2.out hb)
        have Ie_1 := hidT (Ie_0.out.below hb)
        have Ee_1 := hidT (keepH Ee_0.out hb)
        clear B_16 L_16 X_15 Ia_8 Ea_8 Ib_6 Eb_6 Ic_4 Ec_4 Id_2 Ed_2 Ie_0 Ee_0
        clear hb i0 i1 i2 i3 i4
        obtain ⟨BAf, bnf, bcf, LAf, lnf, lcf, evf, -, -, -, -⟩ := id hl
        have evf' : v = .agg #[.int .i64 z3.k, .int .i64 z3.q, .slice BAf bnf bcf, .slice LAf lnf lcf, .bool z3.h] := evf
        clear evf
        subst evf'
        have t1 := alloc_at xf (.cells #[.int .i64 z3.k, .int .i64 z3.q, .slice BAf bnf bcf, .slice LAf lnf lcf, .bool z3.h] 33) _ rfl
        have t3 := nkeep xf (.cells #[.int .i64 z3.k, .int .i64 z3.q, .slice BAf bnf bcf, .slice LAf lnf lcf, .bool z3.h] 33)
        obtain ⟨Vxf, hVxf⟩ : ∃ W, xf.alloc (.cells #[.int .i64 z3.k, .int .i64 z3.q, .slice BAf bnf bcf, .slice LAf lnf lcf, .bool z3.h] 33) = W := ⟨_, rfl⟩
        rw [hVxf] at t1 t3
        have HVxf := hidT hVxf
        have B_18 := hidT (bthen B_17.out t3)
        have L_18 := hidT (L_17.out.below t3)
        have X_17 := hidT (keepH X_16.out t3)
        have Ia_10 := hidT (Ia_9.out.below t3)
        have Ea_10 := hidT (keepH Ea_9.out t3)
        have Ib_8 := hidT (Ib_7.out.below t3)
        have Eb_8 := hidT (keepH Eb_7.out t3)
        have Ic_6 := hidT (Ic_5.out.below t3)
        have Ec_6 := hidT (keepH Ec_5.out t3)
        have Id_4 := hidT (Id_3.out.below t3)
        have Ed_4 := hidT (keepH Ed_3.out t3)
        have Ie_2 := hidT (Ie_1.out.below t3)
        have Ee_2 := hidT (keepH Ee_1.out t3)
        clear B_17 L_17 X_16 Ia_9 Ea_9 Ib_7 Eb_7 Ic_5 Ec_5 Id_3 Ed_3 Ie_1 Ee_1
        have If_0 := hidT (hl.below t3)
        obtain ⟨gxf, hgxf⟩ : ∃ p, xf.heap.size = p := ⟨_, rfl⟩
        rw [hgxf] at t1
        have Ef_0 := hidT (t1)
        clear t1 t3 hVxf
        clear hl
        clear C1 C2
        have hgr : Vxf.heap.size = gxf + 1 := by rw [← HVxf.out, size_alloc, hgxf]
        have HGR := hidT hgr
        clear hgr
        have hra : RdE Any (Vxf.alloc (.cells #[.int .i64 z1.k, .int .i64 z1.q, .slice BAa bna bca, .slice LAa lna lca, .bool z1.h, .int .i64 z2.k, .int .i64 z2.q, .slice BAc bnc bcc, .slice LAc lnc lcc, .bool z2.h, .int .i64 z3.k, .int .i64 z3.q, .slice BAe bne bce, .slice LAe lne lce, .bool z3.h] 33)) (some ⟨gxf + 1, 0, none⟩) 3 3 [z1, z2, z3] := ⟨[#[.int .i64 z1.k, .int .i64 z1.q, .slice BAa bna bca, .slice LAa lna lca, .bool z1.h], #[.int .i64 z2.k, .int .i64 z2.q, .slice BAc bnc bcc, .slice LAc lnc lcc, .bool z2.h], #[.int .i64 z3.k, .int .i64 z3.q, .slice BAe bne bce, .slice LAe lne lce, .bool z3.h]], RdK.lit (k := 5) Vxf 33 (0, 0) #[.int .i64 z1.k, .int .i64 z1.q, .slice BAa bna bca, .slice LAa lna lca, .bool z1.h, .int .i64 z2.k, .int .i64 z2.q, .slice BAc bnc bcc, .slice LAc lnc lcc, .bool z2.h, .int .i64 z3.k, .int .i64 z3.q, .slice BAe bne bce, .slice LAe lne lce, .bool z3.h] _ (allK3 rfl (by kernel_rfl) rfl (by kernel_rfl) rfl (by kernel_rfl)) rfl 3 rfl (by simp only [maxLen]; omega) (gxf + 1) HGR.out, are3 ((Ia_10.out).below (nkeep Vxf (.cells #[.int .i64 z1.k, .int .i64 z1.q, .slice BAa bna bca, .slice LAa lna lca, .bool z1.h, .int .i64 z2.k, .int .i64 z2.q, .slice BAc bnc bcc, .slice LAc lnc lcc, .bool z2.h, .int .i64 z3.k, .int .i64 z3.q, .slice BAe bne bce, .slice LAe lne lce, .bool z3.h] 33)) |>.mono fun _ _ => trivial) ((Ic_6.out).below (nkeep Vxf (.cells #[.int .i64 z1.k, .int .i64 z1.q, .slice BAa bna bca, .slice LAa lna lca, .bool z1.h, .int .i64 z2.k, .int .i64 z2.q, .slice BAc bnc bcc, .slice LAc lnc lcc, .bool z2.h, .int .i64 z3.k, .int .i64 z3.q, .slice BAe bne bce, .slice LAe lne lce, .bool z3.h] 33)) |>.mono fun _ _ => trivial) ((Ie_2.out).below (nkeep Vxf (.cells #[.int .i64 z1.k, .int .i64 z1.q, .slice BAa bna bca, .slice LAa lna lca, .bool z1.h, .int .i64 z2.k, .int .i64 z2.q, .slice BAc bnc bcc, .slice LAc lnc lcc, .bool z2.h, .int .i64 z3.k, .int .i64 z3.q, .slice BAe bne bce, .slice LAe lne lce, .bool z3.h] 33)) |>.mono fun _ _ => trivial), Within.any _ _⟩
        have hrb : RdE Any ((Vxf.alloc (.cells #[.int .i64 z1.k, .int .i64 z1.q, .slice BAa bna bca, .slice LAa lna lca, .bool z1.h, .int .i64 z2.k, .int .i64 z2.q, .slice BAc bnc bcc, .slice LAc lnc lcc, .bool z2.h, .int .i64 z3.k, .int .i64 z3.q, .slice BAe bne bce, .slice LAe lne lce, .bool z3.h] 33)).alloc (.cells #[.int .i64 z1.k, .int .i64 z1.q, .slice BAb bnb bcb, .slice LAb lnb lcb, .bool z1.h, .int .i64 z2.k, .int .i64 z2.q, .slice BAd bnd bcd, .slice LAd lnd lcd, .bool z2.h, .int .i64 z3.k, .int .i64 z3.q, .slice BAf bnf bcf, .slice LAf lnf lcf, .bool z3.h] 33)) (some ⟨gxf + 1 + 1, 0, none⟩) 3 3 [z1, z2, z3] := ⟨[#[.int .i64 z1.k, .int .i64 z1.q, .slice BAb bnb bcb, .slice LAb lnb lcb, .bool z1.h], #[.int .i64 z2.k, .int .i64 z2.q, .slice BAd bnd bcd, .slice LAd lnd lcd, .bool z2.h], #[.int .i64 z3.k, .int .i64 z3.q, .slice BAf bnf bcf, .slice LAf lnf lcf, .bool z3.h]], RdK.lit (k := 5) (Vxf.alloc (.cells #[.int .i64 z1.k, .int .i64 z1.q, .slice BAa bna bca, .slice LAa lna lca, .bool z1.h, .int .i64 z2.k, .int .i64 z2.q, .slice BAc bnc bcc, .slice LAc lnc lcc, .bool z2.h, .int .i64 z3.k, .int .i64 z3.q, .slice BAe bne bce, .slice LAe lne lce, .bool z3.h] 33)) 33 (0, 0) #[.int .i64 z1.k, .int .i64 z1.q, .slice BAb bnb bcb, .slice LAb lnb lcb, .bool z1.h, .int .i64 z2.k, .int .i64 z2.q, .slice BAd bnd bcd, .slice LAd lnd lcd, .bool z2.h, .int .i64 z3.k, .int .i64 z3.q, .slice BAf bnf bcf, .slice LAf lnf lcf, .bool z3.h] _ (allK3 rfl (by kernel_rfl) rfl (by kernel_rfl) rfl (by kernel_rfl)) rfl 3 rfl (by simp only [maxLen]; omega) (gxf + 1 + 1) (by rw [size_alloc, HGR.out]), are3 ((Ib_8.out).below (bthen (nkeep Vxf (.cells #[.int .i64 z1.k, .int .i64 z1.q, .slice BAa bna bca, .slice LAa lna lca, .bool z1.h, .int .i64 z2.k, .int .i64 z2.q, .slice BAc bnc bcc, .slice LAc lnc lcc, .bool z2.h, .int .i64 z3.k, .int .i64 z3.q, .slice BAe bne bce, .slice LAe lne lce, .bool z3.h] 33)) (nkeep (Vxf.alloc (.cells #[.int .i64 z1.k, .int .i64 z1.q, .slice BAa bna bca, .slice LAa lna lca, .bool z1.h, .int .i64 z2.k, .int .i64 z2.q, .slice BAc bnc bcc, .slice LAc lnc lcc, .bool z2.h, .int .i64 z3.k, .int .i64 z3.q, .slice BAe bne bce, .slice LAe lne lce, .bool z3.h] 33)) (.cells #[.int .i64 z1.k, .int .i64 z1.q, .slice BAb bnb bcb, .slice LAb lnb lcb, .bool z1.h, .int .i64 z2.k, .int .i64 z2.q, .slice BAd bnd bcd, .slice LAd lnd lcd, .bool z2.h, .int .i64 z3.k, .int .i64 z3.q, .slice BAf bnf bcf, .slice LAf lnf lcf, .bool z3.h] 33))) |>.mono fun _ _ => trivial) ((Id_4.out).below (bthen (nkeep Vxf (.cells #[.int .i64 z1.k, .int .i64 z1.q, .slice BAa bna bca, .slice LAa lna lca, .bool z1.h, .int .i64 z2.k, .int .i64 z2.q, .slice BAc bnc bcc, .slice LAc lnc lcc, .bool z2.h, .int .i64 z3.k, .int .i64 z3.q, .slice BAe bne bce, .slice LAe lne lce, .bool z3.h] 33)) (nkeep (Vxf.alloc (.cells #[.int .i64 z1.k, .int .i64 z1.q, .slice BAa bna bca, .slice LAa lna lca, .bool z1.h, .int .i64 z2.k, .int .i64 z2.q, .slice BAc bnc bcc, .slice LAc lnc lcc, .bool z2.h, .int .i64 z3.k, .int .i64 z3.q, .slice BAe bne bce, .slice LAe lne lce, .bool z3.h] 33)) (.cells #[.int .i64 z1.k, .int .i64 z1.q, .slice BAb bnb bcb, .slice LAb lnb lcb, .bool z1.h, .int .i64 z2.k, .int .i64 z2.q, .slice BAd bnd bcd, .slice LAd lnd lcd, .bool z2.h, .int .i64 z3.k, .int .i64 z3.q, .slice BAf bnf bcf, .slice LAf lnf lcf, .bool z3.h] 33))) |>.mono fun _ _ => trivial) ((If_0.out).below (bthen (nkeep Vxf (.cells #[.int .i64 z1.k, .int .i64 z1.q, .slice BAa bna bca, .slice LAa lna lca, .bool z1.h, .int .i64 z2.k, .int .i64 z2.q, .slice BAc bnc bcc, .slice LAc lnc lcc, .bool z2.h, .int .i64 z3.k, .int .i64 z3.q, .slice BAe bne bce, .slice LAe lne lce, .bool z3.h] 33)) (nkeep (Vxf.alloc (.cells #[.int .i64 z1.k, .int .i64 z1.q, .slice BAa bna bca, .slice LAa lna lca, .bool z1.h, .int .i64 z2.k, .int .i64 z2.q, .slice BAc bnc bcc, .slice LAc lnc lcc, .bool z2.h, .int .i64 z3.k, .int .i64 z3.q, .slice BAe bne bce, .slice LAe lne lce, .bool z3.h] 33)) (.cells #[.int .i64 z1.k, .int .i64 z1.q, .slice BAb bnb bcb, .slice LAb lnb lcb, .bool z1.h, .int .i64 z2.k, .int .i64 z2.q, .slice BAd bnd bcd, .slice LAd lnd lcd, .bool z2.h, .int .i64 z3.k, .int .i64 z3.q, .slice BAf bnf bcf, .slice LAf lnf lcf, .bool z3.h] 33))) |>.mono fun _ _ => trivial), Within.any _ _⟩
        have hc := rentries_any _ _ _ [z1, z2, z3] _ _ _ [z1, z2, z3] _ (hra.below (nkeep (Vxf.alloc (.cells #[.int .i64 z1.k, .int .i64 z1.q, .slice BAa bna bca, .slice LAa lna lca, .bool z1.h, .int .i64 z2.k, .int .i64 z2.q, .slice BAc bnc bcc, .slice LAc lnc lcc, .bool z2.h, .int .i64 z3.k, .int .i64 z3.q, .slice BAe bne bce, .slice LAe lne lce, .bool z3.h] 33)) (.cells #[.int .i64 z1.k, .int .i64 z1.q, .slice BAb bnb bcb, .slice LAb lnb lcb, .bool z1.h, .int .i64 z2.k, .int .i64 z2.q, .slice BAd bnd bcd, .slice LAd lnd lcd, .bool z2.h, .int .i64 z3.k, .int .i64 z3.q, .slice BAf bnf bcf, .slice LAf lnf lcf, .bool z3.h] 33))) hrb true (by simp)
        have HEC := hidT hc
        have hbb := bthen (nkeep Vxf (.cells #[.int .i64 z1.k, .int .i64 z1.q, .slice BAa bna bca, .slice LAa lna lca, .bool z1.h, .int .i64 z2.k, .int .i64 z2.q, .slice BAc bnc bcc, .slice LAc lnc lcc, .bool z2.h, .int .i64 z3.k, .int .i64 z3.q, .slice BAe bne bce, .slice LAe lne lce, .bool z3.h] 33)) (nkeep (Vxf.alloc (.cells #[.int .i64 z1.k, .int .i64 z1.q, .slice BAa bna bca, .slice LAa lna lca, .bool z1.h, .int .i64 z2.k, .int .i64 z2.q, .slice BAc bnc bcc, .slice LAc lnc lcc, .bool z2.h, .int .i64 z3.k, .int .i64 z3.q, .slice BAe bne bce, .slice LAe lne lce, .bool z3.h] 33)) (.cells #[.int .i64 z1.k, .int .i64 z1.q, .slice BAb bnb bcb, .slice LAb lnb lcb, .bool z1.h, .int .i64 z2.k, .int .i64 z2.q, .slice BAd bnd bcd, .slice LAd lnd lcd, .bool z2.h, .int .i64 z3.k, .int .i64 z3.q, .slice BAf bnf bcf, .slice LAf lnf lcf, .bool z3.h] 33))
        have HBB := hidT hbb
        clear hc hra hrb hbb
        obtain ⟨ca0, ca1, ca2, ca3, ca4⟩ := cells5 Ea_10.out
        obtain ⟨cc0, cc1, cc2, cc3, cc4⟩ := cells5 Ec_6.out
        obtain ⟨ce0, ce1, ce2, ce3, ce4⟩ := cells5 Ee_2.out
        have kb := keepH Eb_8.out (nkeep Vxf (.cells #[.int .i64 z1.k, .int .i64 z1.q, .slice BAa bna bca, .slice LAa lna lca, .bool z1.h, .int .i64 z2.k, .int .i64 z2.q, .slice BAc bnc bcc, .slice LAc lnc lcc, .bool z2.h, .int .i64 z3.k, .int .i64 z3.q, .slice BAe bne bce, .slice LAe lne lce, .bool z3.h] 33))
        obtain ⟨cb0, cb1, cb2, cb3, cb4⟩ := cells5 kb
        clear kb
        have kd := keepH Ed_4.out (nkeep Vxf (.cells #[.int .i64 z1.k, .int .i64 z1.q, .slice BAa bna bca, .slice LAa lna lca, .bool z1.h, .int .i64 z2.k, .int .i64 z2.q, .slice BAc bnc bcc, .slice LAc lnc lcc, .bool z2.h, .int .i64 z3.k, .int .i64 z3.q, .slice BAe bne bce, .slice LAe lne lce, .bool z3.h] 33))
        obtain ⟨cd0, cd1, cd2, cd3, cd4⟩ := cells5 kd
        clear kd
        have kf := keepH Ef_0.out (nkeep Vxf (.cells #[.int .i64 z1.k, .int .i64 z1.q, .slice BAa bna bca, .slice LAa lna lca, .bool z1.h, .int .i64 z2.k, .int .i64 z2.q, .slice BAc bnc bcc, .slice LAc lnc lcc, .bool z2.h, .int .i64 z3.k, .int .i64 z3.q, .slice BAe bne bce, .slice LAe lne lce, .bool z3.h] 33))
        obtain ⟨cf0, cf1, cf2, cf3, cf4⟩ := cells5 kf
        clear kf
        rw [← HVxf.out] at ca0 ca1 ca2 ca3 ca4 cc0 cc1 cc2 cc3 cc4 ce0 ce1 ce2 ce3 ce4 cb0 cb1 cb2 cb3 cb4 cd0 cd1 cd2 cd3 cd4 cf0 cf1 cf2 cf3 cf4
        go_wp2_with fail
        rw [HVxf.out]
        clear hgxf
        with_reducible refine HEC.out.mono ?_
        rintro e x1 ⟨rfl, hb0⟩
        have hb := bthen HBB.out hb0
        have B_19 := hidT (bthen B_18.out hb)
        have L_19 := hidT (L_18.out.below hb)
        have X_18 := hidT (keepH X_17.out hb)
        clear B_18 L_18 X_17
        clear hb hb0 HBB HEC HGR ca0 ca1 ca2 ca3 ca4 cc0 cc1 cc2 cc3 cc4 ce0 ce1 ce2 ce3 ce4 cb0 cb1 cb2 cb3 cb4 cd0 cd1 cd2 cd3 cd4 cf0 cf1 cf2 cf3 cf4
        obtain ⟨M, hM⟩ : ∃ M, Lane.many l = M := ⟨_, rfl⟩
        obtain ⟨D, hD⟩ : ∃ D, Lane.done l r = D := ⟨_, rfl⟩
        have HM := hidT hM
        have HD := hidT hD
        clear hM hD
        have e1 : (s1 == s1) = true := by simp
        have e2 : (s2 == s2) = true := by simp
        have e3 : (s3 == s3) = true := by simp
        have e4 : ((M : Int) == (M : Int)) = true := by simp
        have e5 : (D == D) = true := by simp
        have hq : ∀ x ∈ l.es, 1 ≤ x.q ∧ x.q ≤ 9223372036854775807 := fun x hx => ⟨by have := (Lane.rises_mem HR0.out hx).2.1; omega, (HOK.out.1 x hx).2.2⟩
        have HQ := hidT hq
        clear hq
        have hp : l.p.got ≠ 0 → 1 ≤ l.p.seq ∧ l.p.seq ≤ 9223372036854775807 := fun h0 => ⟨(Lane.part_got HPT.out h0).2.2.2.1, HOK.out.2.1.2⟩
        have HP := hidT hp
        clear hp
        go_wp2_with fail
        have kx0 := fun w' (hb : Below x1.heap.size x1 w') => (cells5 (keepH X_18.out hb)).1
        have kx1 := fun w' (hb : Below x1.heap.size x1 w') => (cells5 (keepH X_18.out hb)).2.1
        have kx2 := fun w' (hb : Below x1.heap.size x1 w') => (cells5 (keepH X_18.out hb)).2.2.1
        have kx3 := fun w' (hb : Below x1.heap.size x1 w') => (cells5 (keepH X_18.out hb)).2.2.2.1
        have kx4 := fun w' (hb : Below x1.heap.size x1 w') => (cells5 (keepH X_18.out hb)).2.2.2.2
        have C1 := hidT fun w' (hb : Below x1.heap.size x1 w') => many_any _ l w' (L_19.out.below hb)
        rw [HM.out] at C1
        have C2 := hidT fun w' (hb : Below x1.heap.size x1 w') => rmany_any _ l w' (L_19.out.below hb)
        rw [HM.out] at C2
        have C3 := hidT fun w' (hb : Below x1.heap.size x1 w') => done_any _ l r w' (L_19.out.below hb) (Lane.part_nonneg HPT.out) HQ.out HP.out D HD.out
        have C4 := hidT fun w' (hb : Below x1.heap.size x1 w') => rdone_any _ l r w' (L_19.out.below hb) HQ.out (fun h0 => HP.out (by omega)) D HD.out
        go_region_held_law (fun w' => Below x1.heap.size x1 w')
          (first | exact (Below.refl _ _).drew | exact hc4 | exact hc3 | exact hc2 | exact hc1)
          (first
            | (go_at_call 22; ((with_reducible refine (C1.out _ (Below.refl _ _).drew).mono ?_); rintro e a1 ⟨rfl, hc1'⟩; have hc1 : Below x1.heap.size x1 a1 := undrew hc1'))
            | (go_at_call 23; ((with_reducible refine (C2.out a1 hc1).mono ?_); rintro e a2 ⟨rfl, hc2'⟩; have hc2 : Below x1.heap.size x1 a2 := bthen hc1 hc2'))
            | (go_at_call 24; ((with_reducible refine (C3.out a2 hc2).mono ?_); rintro e a3_ ⟨rfl, hc3'⟩; have hc3 : Below x1.heap.size x1 a3_ := bthen hc2 hc3'))
            | (go_at_call 25; ((with_reducible refine (C4.out a3_ hc3).mono ?_); rintro e a4 ⟨rfl, hc4'⟩; have hc4 : Below x1.heap.size x1 a4 := bthen hc3 hc4'))
            | fail)
        go_wp2
        go_ret
        exact ⟨rfl, bthen B_19.out hc4⟩
end Go.Proofs.Ytmlmkkfieeaejaa
