/- The law LaneDoes, walked. (Written by wip/gen/lndoes.py.) -/
import Derived.Test.YtmlmkkfieeaejaaLnV
import Derived.Test.YtmlmkkfieeaejaaLnOpen
import Derived.Test.YtmlmkkfieeaejaaRLn3
import Derived.Test.YtmlmkkfieeaejaaRLn5
import Derived.Test.YtmlmkkfieeaejaaRLn5b
import Derived.Test.YtmlmkkfieeaejaaRLn5c
import Derived.Test.YtmlmkkfieeaejaaRLnRead
set_option maxRecDepth 100000
namespace Go.Proofs.Ytmlmkkfieeaejaa
open Go.RowKit
set_option linter.unusedVariables false

set_option maxHeartbeats 8000000 in
theorem does_any (A : Option Addr) (n c : Nat) (B : Option Addr) (m d : Nat) (l : Lane.Ln) (LAi : Option Addr) (lni lci : Nat) (BAi : Option Addr) (bni bci : Nat) (it : Item.It) (s : Int) (BE : Option Addr) (be ce : Nat) (LE : Option Addr) (le ke : Nat) (e : Lane.En) (w : World) (hl : IsLane Any w (.agg #[.slice A n c, .int .i64 l.p.seq, .int .i64 l.p.total, .int .i64 l.p.got, .slice B m d]) l) (hok : LnOk l) (hi : IsItem w (.agg #[.int .i64 it.k, .int .i64 it.q, .int .i64 it.e, .int .i64 it.i, .int .i64 it.t, .int .i64 it.c, .slice LAi lni lci, .slice BAi bni bci]) it) (he : IsEn Any w (.agg #[.int .i64 e.k, .int .i64 e.q, .slice BE be ce, .slice LE le ke, .bool e.h]) e) : Calls Try.prog 4 #[.agg #[.slice A n c, .int .i64 l.p.seq, .int .i64 l.p.total, .int .i64 l.p.got, .slice B m d, .int .i64 it.k, .int .i64 it.q, .int .i64 it.e, .int .i64 it.i, .int .i64 it.t, .int .i64 it.c, .slice LAi lni lci, .slice BAi bni bci, .int .i64 s, .int .i64 e.k, .int .i64 e.q, .slice BE be ce, .slice LE le ke, .bool e.h]] w (Yes w) := by
  have hle := hl.parts.le
  have hlen := hl.parts.size
  have hbl := he.parts.1.1
  have hll := RdI.size he.parts.2
  have hlb := he.parts.1.le
  have hli := RdV.le he.parts.2
  have HLEN := hidT hlen
  have HBL := hidT hbl
  have HLL := hidT hll
  have HL0 := hidT hl
  have HI0 := hidT hi
  have HE0 := hidT he
  have HOK := hidT hok
  clear hlen hbl hll hl hi he hok
  have t0 := alloc_at w (.cells #[.slice A n c, .int .i64 l.p.seq, .int .i64 l.p.total, .int .i64 l.p.got, .slice B m d, .int .i64 it.k, .int .i64 it.q, .int .i64 it.e, .int .i64 it.i, .int .i64 it.t, .int .i64 it.c, .slice LAi lni lci, .slice BAi bni bci, .int .i64 s, .int .i64 e.k, .int .i64 e.q, .slice BE be ce, .slice LE le ke, .bool e.h] 43) _ rfl
  have n1 := nkeep (w.alloc (.cells #[.slice A n c, .int .i64 l.p.seq, .int .i64 l.p.total, .int .i64 l.p.got, .slice B m d, .int .i64 it.k, .int .i64 it.q, .int .i64 it.e, .int .i64 it.i, .int .i64 it.t, .int .i64 it.c, .slice LAi lni lci, .slice BAi bni bci, .int .i64 s, .int .i64 e.k, .int .i64 e.q, .slice BE be ce, .slice LE le ke, .bool e.h] 43)) (.cells #[.slice A n c, .int .i64 l.p.seq, .int .i64 l.p.total, .int .i64 l.p.got, .slice B m d] 27)
  have n2 := nkeep ((w.alloc (.cells #[.slice A n c, .int .i64 l.p.seq, .int .i64 l.p.total, .int .i64 l.p.got, .slice B m d, .int .i64 it.k, .int .i64 it.q, .int .i64 it.e, .int .i64 it.i, .int .i64 it.t, .int .i64 it.c, .slice LAi lni lci, .slice BAi bni bci, .int .i64 s, .int .i64 e.k, .int .i64 e.q, .slice BE be ce, .slice LE le ke, .bool e.h] 43)).alloc (.cells #[.slice A n c, .int .i64 l.p.seq, .int .i64 l.p.total, .int .i64 l.p.got, .slice B m d] 27)) (.cells #[.int .i64 it.k, .int .i64 it.q, .int .i64 it.e, .int .i64 it.i, .int .i64 it.t, .int .i64 it.c, .slice LAi lni lci, .slice BAi bni bci] 41)
  have n3 := nkeep (((w.alloc (.cells #[.slice A n c, .int .i64 l.p.seq, .int .i64 l.p.total, .int .i64 l.p.got, .slice B m d, .int .i64 it.k, .int .i64 it.q, .int .i64 it.e, .int .i64 it.i, .int .i64 it.t, .int .i64 it.c, .slice LAi lni lci, .slice BAi bni bci, .int .i64 s, .int .i64 e.k, .int .i64 e.q, .slice BE be ce, .slice LE le ke, .bool e.h] 43)).alloc (.cells #[.slice A n c, .int .i64 l.p.seq, .int .i64 l.p.total, .int .i64 l.p.got, .slice B m d] 27)).alloc (.cells #[.int .i64 it.k, .int .i64 it.q, .int .i64 it.e, .int .i64 it.i, .int .i64 it.t, .int .i64 it.c, .slice LAi lni lci, .slice BAi bni bci] 41)) (.cells #[.int .i64 e.k, .int .i64 e.q, .slice BE be ce, .slice LE le ke, .bool e.h] 33)
  have u1 := alloc_at (w.alloc (.cells #[.slice A n c, .int .i64 l.p.seq, .int .i64 l.p.total, .int .i64 l.p.got, .slice B m d, .int .i64 it.k, .int .i64 it.q, .int .i64 it.e, .int .i64 it.i, .int .i64 it.t, .int .i64 it.c, .slice LAi lni lci, .slice BAi bni bci, .int .i64 s, .int .i64 e.k, .int .i64 e.q, .slice BE be ce, .slice LE le ke, .bool e.h] 43)) (.cells #[.slice A n c, .int .i64 l.p.seq, .int .i64 l.p.total, .int .i64 l.p.got, .slice B m d] 27) _ rfl
  have u2 := alloc_at ((w.alloc (.cells #[.slice A n c, .int .i64 l.p.seq, .int .i64 l.p.total, .int .i64 l.p.got, .slice B m d, .int .i64 it.k, .int .i64 it.q, .int .i64 it.e, .int .i64 it.i, .int .i64 it.t, .int .i64 it.c, .slice LAi lni lci, .slice BAi bni bci, .int .i64 s, .int .i64 e.k, .int .i64 e.q, .slice BE be ce, .slice LE le ke, .bool e.h] 43)).alloc (.cells #[.slice A n c, .int .i64 l.p.seq, .int .i64 l.p.total, .int .i64 l.p.got, .slice B m d] 27)) (.cells #[.int .i64 it.k, .int .i64 it.q, .int .i64 it.e, .int .i64 it.i, .int .i64 it.t, .int .i64 it.c, .slice LAi lni lci, .slice BAi bni bci] 41) _ rfl
  have u3 := alloc_at (((w.alloc (.cells #[.slice A n c, .int .i64 l.p.seq, .int .i64 l.p.total, .int .i64 l.p.got, .slice B m d, .int .i64 it.k, .int .i64 it.q, .int .i64 it.e, .int .i64 it.i, .int .i64 it.t, .int .i64 it.c, .slice LAi lni lci, .slice BAi bni bci, .int .i64 s, .int .i64 e.k, .int .i64 e.q, .slice BE be ce, .slice LE le ke, .bool e.h] 43)).alloc (.cells #[.slice A n c, .int .i64 l.p.seq, .int .i64 l.p.total, .int .i64 l.p.got, .slice B m d] 27)).alloc (.cells #[.int .i64 it.k, .int .i64 it.q, .int .i64 it.e, .int .i64 it.i, .int .i64 it.t, .int .i64 it.c, .slice LAi lni lci, .slice BAi bni bci] 41)) (.cells #[.int .i64 e.k, .int .i64 e.q, .slice BE be ce, .slice LE le ke, .bool e.h] 33) _ rfl
  have v1 := keepH u1 (bthen n2 n3)
  have v2 := keepH u2 n3
  have hbw := bthen (bthen (nkeep w (.cells #[.slice A n c, .int .i64 l.p.seq, .int .i64 l.p.total, .int .i64 l.p.got, .slice B m d, .int .i64 it.k, .int .i64 it.q, .int .i64 it.e, .int .i64 it.i, .int .i64 it.t, .int .i64 it.c, .slice LAi lni lci, .slice BAi bni bci, .int .i64 s, .int .i64 e.k, .int .i64 e.q, .slice BE be ce, .slice LE le ke, .bool e.h] 43)) n1) (bthen n2 n3)
  have k0 := cell_at t0 0 rfl
  have k1 := cell_at t0 1 rfl
  have k2 := cell_at t0 2 rfl
  have k3 := cell_at t0 3 rfl
  have k4 := cell_at t0 4 rfl
  have k5 := cell_at (keepH t0 n1) 5 rfl
  have k6 := cell_at (keepH t0 n1) 6 rfl
  have k7 := cell_at (keepH t0 n1) 7 rfl
  have k8 := cell_at (keepH t0 n1) 8 rfl
  have k9 := cell_at (keepH t0 n1) 9 rfl
  have k10 := cell_at (keepH t0 n1) 10 rfl
  have k11 := cell_at (keepH t0 n1) 11 rfl
  have k12 := cell_at (keepH t0 n1) 12 rfl
  have k13 := cell_at (keepH t0 (bthen n1 n2)) 13 rfl
  have k14 := cell_at (keepH t0 (bthen n1 n2)) 14 rfl
  have k15 := cell_at (keepH t0 (bthen n1 n2)) 15 rfl
  have k16 := cell_at (keepH t0 (bthen n1 n2)) 16 rfl
  have k17 := cell_at (keepH t0 (bthen n1 n2)) 17 rfl
  have k18 := cell_at (keepH t0 (bthen n1 n2)) 18 rfl
  clear t0 n1 n2 n3 u1 u2
  obtain ⟨g, hg⟩ : ∃ g, w.heap.size = g := ⟨_, rfl⟩
  simp only [size_alloc, hg] at v1 v2 u3
  rw [hg] at k0 k1 k2 k3 k4 k5 k6 k7 k8 k9 k10 k11 k12 k13 k14 k15 k16 k17 k18
  obtain ⟨V, hV⟩ : ∃ V, ((((w.alloc (.cells #[.slice A n c, .int .i64 l.p.seq, .int .i64 l.p.total, .int .i64 l.p.got, .slice B m d, .int .i64 it.k, .int .i64 it.q, .int .i64 it.e, .int .i64 it.i, .int .i64 it.t, .int .i64 it.c, .slice LAi lni lci, .slice BAi bni bci, .int .i64 s, .int .i64 e.k, .int .i64 e.q, .slice BE be ce, .slice LE le ke, .bool e.h] 43)).alloc (.cells #[.slice A n c, .int .i64 l.p.seq, .int .i64 l.p.total, .int .i64 l.p.got, .slice B m d] 27)).alloc (.cells #[.int .i64 it.k, .int .i64 it.q, .int .i64 it.e, .int .i64 it.i, .int .i64 it.t, .int .i64 it.c, .slice LAi lni lci, .slice BAi bni bci] 41)).alloc (.cells #[.int .i64 e.k, .int .i64 e.q, .slice BE be ce, .slice LE le ke, .bool e.h] 33)) = V := ⟨_, rfl⟩
  rw [hV] at v1 v2 u3 hbw
  have HV := hidT hV
  clear hV
  have B_0 := hidT (hbw)
  have Lb_0 := hidT (v1)
  have Ib_0 := hidT (v2)
  have Eb_0 := hidT (u3)
  have L_0 := hidT (HL0.out.below hbw)
  have I_0 := hidT (HI0.out.below hbw)
  have E_0 := hidT (HE0.out.below hbw)
  clear v1 v2 u3 hbw
  go_enter Try.func4, Try.ntmps4
  go_wp2_with fail
  rw [HV.out]
  clear hg k0 k1 k2 k3 k4 k5 k6 k7 k8 k9 k10 k11 k12 k13 k14 k15 k16 k17 k18
  with_reducible refine (shown_any _).mono ?_
  rintro e_ y0 ⟨rfl, hb⟩
  have B_1 := hidT (bthen B_0.out hb)
  have Lb_1 := hidT (keepH Lb_0.out hb)
  have Ib_1 := hidT (keepH Ib_0.out hb)
  have Eb_1 := hidT (keepH Eb_0.out hb)
  have L_1 := hidT (L_0.out.below hb)
  have I_1 := hidT (I_0.out.below hb)
  have E_1 := hidT (E_0.out.below hb)
  clear B_0 Lb_0 Ib_0 Eb_0 L_0 I_0 E_0
  clear hb
  obtain ⟨i0, i1, i2, i3, i4⟩ := cells5 Lb_1.out
  go_wp2_with fail
  cases hfew : fewL l with
  | false =>
    with_reducible refine (few_any _ l y0 L_1.out false hfew).mono ?_
    rintro e y1 ⟨rfl, hb⟩
    go_wp2
    go_ret
    exact ⟨rfl, bthen B_1.out hb⟩
  | true =>
    with_reducible refine (few_any _ l y0 L_1.out true hfew).mono ?_
    rintro e y1 ⟨rfl, hb⟩
    have B_2 := hidT (bthen B_1.out hb)
    have Lb_2 := hidT (keepH Lb_1.out hb)
    have Ib_2 := hidT (keepH Ib_1.out hb)
    have Eb_2 := hidT (keepH Eb_1.out hb)
    have L_2 := hidT (L_1.out.below hb)
    have I_2 := hidT (I_1.out.below hb)
    have E_2 := hidT (E_1.out.below hb)
    clear B_1 Lb_1 Ib_1 Eb_1 L_1 I_1 E_1
    clear hb i0 i1 i2 i3 i4
    obtain ⟨i0, i1, i2, i3, i4⟩ := cells5 Lb_2.out
    go_wp2_with fail
    cases hri : Lane.right l with
    | false =>
      with_reducible refine (rright_any _ l y1 L_2.out false hri).mono ?_
      rintro e y2 ⟨rfl, hb⟩
      go_wp2
      go_ret
      exact ⟨rfl, bthen B_2.out hb⟩
    | true =>
      with_reducible refine (rright_any _ l y1 L_2.out true hri).mono ?_
      rintro e y2 ⟨rfl, hb⟩
      have B_3 := hidT (bthen B_2.out hb)
      have Lb_3 := hidT (keepH Lb_2.out hb)
      have Ib_3 := hidT (keepH Ib_2.out hb)
      have Eb_3 := hidT (keepH Eb_2.out hb)
      have L_3 := hidT (L_2.out.below hb)
      have I_3 := hidT (I_2.out.below hb)
      have E_3 := hidT (E_2.out.below hb)
      clear B_2 Lb_2 Ib_2 Eb_2 L_2 I_2 E_2
      clear hb i0 i1 i2 i3 i4
      obtain ⟨t0, t1, t2, t3, t4, t5, t6, t7⟩ := cells8 Ib_3.out
      go_wp2_with fail
      cases hmay : Item.may it with
      | false =>
        have hc := rmay_any _ it y2 I_3.out
        rw [hmay] at hc
        with_reducible refine hc.mono ?_
        rintro e_ y3 ⟨rfl, hb⟩
        go_wp2
        go_ret
        exact ⟨rfl, bthen B_3.out hb⟩
      | true =>
        have hc := rmay_any _ it y2 I_3.out
        rw [hmay] at hc
        with_reducible refine hc.mono ?_
        rintro e_ y3 ⟨rfl, hb⟩
        have B_4 := hidT (bthen B_3.out hb)
        have Lb_4 := hidT (keepH Lb_3.out hb)
        have Ib_4 := hidT (keepH Ib_3.out hb)
        have Eb_4 := hidT (keepH Eb_3.out hb)
        have L_4 := hidT (L_3.out.below hb)
        have I_4 := hidT (I_3.out.below hb)
        have E_4 := hidT (E_3.out.below hb)
        clear B_3 Lb_3 Ib_3 Eb_3 L_3 I_3 E_3
        clear hb hc t0 t1 t2 t3 t4 t5 t6 t7
        obtain ⟨f0, f1, f2, f3, f4⟩ := cells5 Eb_4.out
        by_cases ha : le ≤ 80
        rotate_left
        · have t1 : decide (80 < le) = true := by simpa using ha
          have t2 : decide ((80 : Int) < (le : Int)) = true := by simp; omega
          go_wp2
          go_ret
          exact ⟨rfl, B_4.out⟩
        have t1a : decide (80 < le) = false := by simpa using ha
        have t2a : decide ((80 : Int) < (le : Int)) = false := by simp; omega
        by_cases hb : be ≤ 2000
        rotate_left
        · have t1 : decide (2000 < be) = true := by simpa using hb
          have t2 : decide ((2000 : Int) < (be : Int)) = true := by simp; omega
          go_wp2
          go_ret
          exact ⟨rfl, B_4.out⟩
        have t1b : decide (2000 < be) = false := by simpa using hb
        have t2b : decide ((2000 : Int) < (be : Int)) = false := by simp; omega
        have HS := hidT (fewL_small hfew).1
        have HR := hidT hri
        have HR0 := hidT (Lane.right_iff.1 hri).1
        have hn80 : n ≤ 80 := by have := (fewL_small hfew).2.1; rw [HLEN.out] at this; exact this
        have HMAY := hidT hmay
        have hms := may_small hmay
        have HMS := hidT hms
        have HSE : Hid (SmallE e) := hidT ⟨by rw [HLL.out]; omega, by rw [HBL.out]; omega⟩
        have HG0 := hidT (Lane.part_nonneg (Lane.right_iff.1 hri).2)
        clear hfew hri hmay hms
        obtain ⟨R, k, hR⟩ : ∃ R k, Lane.read l it = (R, k) := ⟨_, _, rfl⟩
        have HR1 := hidT hR
        clear hR
        obtain ⟨P, hP⟩ : ∃ P, Lane.pop l s = P := ⟨_, rfl⟩
        obtain ⟨N, hN⟩ : ∃ N, Lane.set l e = N := ⟨_, rfl⟩
        have HP := hidT hP
        have HN := hidT hN
        clear hP hN
        obtain ⟨i0, i1, i2, i3, i4⟩ := cells5 Lb_4.out
        obtain ⟨t0, t1, t2, t3, t4, t5, t6, t7⟩ := cells8 Ib_4.out
        have hc := read_any _ _ l it y3 L_4.out I_4.out HS.out HG0.out (by have := HMS.out; omega) (by have := HMS.out; omega)
        rw [HR1.out] at hc
        have HCR := hidT hc
        clear hc
        go_wp2_with fail
        clear t1a t2a t1b t2b f0 f1 f2 f3 f4
        with_reducible refine HCR.out.mono ?_
        rintro e_ x7 ⟨v, rfl, hl, hb⟩
        have B_5 := hidT (bthen B_4.out hb)
        have Lb_5 := hidT (keepH Lb_4.out hb)
        have Ib_5 := hidT (keepH Ib_4.out hb)
        have Eb_5 := hidT (keepH Eb_4.out hb)
        have L_5 := hidT (L_4.out.below hb)
        have I_5 := hidT (I_4.out.below hb)
        have E_5 := hidT (E_4.out.below hb)
        clear B_4 Lb_4 Ib_4 Eb_4 L_4 I_4 E_4
        clear hb HCR i0 i1 i2 i3 i4 t0 t1 t2 t3 t4 t5 t6 t7
        obtain ⟨A7, n7, c7, B7, m7, d7, ev7, -, -, -⟩ := id hl
        have ev7' : v = .agg #[.slice A7 n7 c7, .int .i64 R.p.seq, .int .i64 R.p.total, .int .i64 R.p.got, .slice B7 m7 d7] := ev7
        clear ev7
        subst ev7'
        have t1 := alloc_at x7 (.cells #[.slice A7 n7 c7, .int .i64 R.p.seq, .int .i64 R.p.total, .int .i64 R.p.got, .slice B7 m7 d7] 27) _ rfl
        have t3 := nkeep x7 (.cells #[.slice A7 n7 c7, .int .i64 R.p.seq, .int .i64 R.p.total, .int .i64 R.p.got, .slice B7 m7 d7] 27)
        obtain ⟨Vx7, hVx7⟩ : ∃ W, x7.alloc (.cells #[.slice A7 n7 c7, .int .i64 R.p.seq, .int .i64 R.p.total, .int .i64 R.p.got, .slice B7 m7 d7] 27) = W := ⟨_, rfl⟩
        rw [hVx7] at t1 t3
        have HVx7 := hidT hVx7
        have B_6 := hidT (bthen B_5.out t3)
        have Lb_6 := hidT (keepH Lb_5.out t3)
        have Ib_6 := hidT (keepH Ib_5.out t3)
        have Eb_6 := hidT (keepH Eb_5.out t3)
        have L_6 := hidT (L_5.out.below t3)
        have I_6 := hidT (I_5.out.below t3)
        have E_6 := hidT (E_5.out.below t3)
        clear B_5 Lb_5 Ib_5 Eb_5 L_5 I_5 E_5
        have R7_0 := hidT (hl.below t3)
        obtain ⟨gx7, hgx7⟩ : ∃ p, x7.heap.size = p := ⟨_, rfl⟩
        rw [hgx7] at t1
        have L7_0 := hidT (t1)
        clear t1 t3 hVx7
        clear hl
        obtain ⟨i0, i1, i2, i3, i4⟩ := cells5 Lb_6.out
        obtain ⟨t0, t1, t2, t3, t4, t5, t6, t7⟩ := cells8 Ib_6.out
        have hc := rread_any _ _ l it Vx7 L_6.out I_6.out HS.out (by have := HMS.out; omega) (by have := HMS.out; omega)
        rw [HR1.out] at hc
        have HCR := hidT hc
        clear hc
        rw [← HVx7.out] at i0 i1 i2 i3 i4 t0 t1 t2 t3 t4 t5 t6 t7
        go_wp2_with fail
        rw [HVx7.out]
        clear hgx7
        with_reducible refine HCR.out.mono ?_
        rintro e_ x8 ⟨v, rfl, hl, hb⟩
        have B_7 := hidT (bthen B_6.out hb)
        have Lb_7 := hidT (keepH Lb_6.out hb)
        have Ib_7 := hidT (keepH Ib_6.out hb)
        have Eb_7 := hidT (keepH Eb_6.out hb)
        have L_7 := hidT (L_6.out.below hb)
        have I_7 := hidT (I_6.out.below hb)
        have E_7 := hidT (E_6.out.below hb)
        have R7_1 := hidT (R7_0.out.below hb)
        have L7_1 := hidT (keepH L7_0.out hb)
        clear B_6 Lb_6 Ib_6 Eb_6 L_6 I_6 E_6 R7_0 L7_0
        clear hb HCR i0 i1 i2 i3 i4 t0 t1 t2 t3 t4 t5 t6 t7
        obtain ⟨A8, n8, c8, B8, m8, d8, ev8, -, -, -⟩ := id hl
        have ev8' : v = .agg #[.slice A8 n8 c8, .int .i64 R.p.seq, .int .i64 R.p.total, .int .i64 R.p.got, .slice B8 m8 d8] := ev8
        clear ev8
        subst ev8'
        have t1 := alloc_at x8 (.cells #[.slice A8 n8 c8, .int .i64 R.p.seq, .int .i64 R.p.total, .int .i64 R.p.got, .slice B8 m8 d8] 27) _ rfl
        have t3 := nkeep x8 (.cells #[.slice A8 n8 c8, .int .i64 R.p.seq, .int .i64 R.p.total, .int .i64 R.p.got, .slice B8 m8 d8] 27)
        obtain ⟨Vx8, hVx8⟩ : ∃ W, x8.alloc (.cells #[.slice A8 n8 c8, .int .i64 R.p.seq, .int .i64 R.p.total, .int .i64 R.p.got, .slice B8 m8 d8] 27) = W := ⟨_, rfl⟩
        rw [hVx8] at t1 t3
        have HVx8 := hidT hVx8
        have B_8 := hidT (bthen B_7.out t3)
        have Lb_8 := hidT (keepH Lb_7.out t3)
        have Ib_8 := hidT (keepH Ib_7.out t3)
        have Eb_8 := hidT (keepH Eb_7.out t3)
        have L_8 := hidT (L_7.out.below t3)
        have I_8 := hidT (I_7.out.below t3)
        have E_8 := hidT (E_7.out.below t3)
        have R7_2 := hidT (R7_1.out.below t3)
        have L7_2 := hidT (keepH L7_1.out t3)
        clear B_7 Lb_7 Ib_7 Eb_7 L_7 I_7 E_7 R7_1 L7_1
        have R8_0 := hidT (hl.below t3)
        obtain ⟨gx8, hgx8⟩ : ∃ p, x8.heap.size = p := ⟨_, rfl⟩
        rw [hgx8] at t1
        have L8_0 := hidT (t1)
        clear t1 t3 hVx8
        clear hl
        have e1 : (k == k) = true := by simp
        go_wp2_with fail
        rw [HVx8.out]
        clear hgx8
        have kx0 := fun w' (hb : Below Vx8.heap.size Vx8 w') => (cells5 (keepH Lb_8.out hb)).1
        have kx1 := fun w' (hb : Below Vx8.heap.size Vx8 w') => (cells5 (keepH Lb_8.out hb)).2.1
        have kx2 := fun w' (hb : Below Vx8.heap.size Vx8 w') => (cells5 (keepH Lb_8.out hb)).2.2.1
        have kx3 := fun w' (hb : Below Vx8.heap.size Vx8 w') => (cells5 (keepH Lb_8.out hb)).2.2.2.1
        have kx4 := fun w' (hb : Below Vx8.heap.size Vx8 w') => (cells5 (keepH Lb_8.out hb)).2.2.2.2
        have ke0 := fun w' (hb : Below Vx8.heap.size Vx8 w') => (cells5 (keepH Eb_8.out hb)).1
        have ke1 := fun w' (hb : Below Vx8.heap.size Vx8 w') => (cells5 (keepH Eb_8.out hb)).2.1
        have ke2 := fun w' (hb : Below Vx8.heap.size Vx8 w') => (cells5 (keepH Eb_8.out hb)).2.2.1
        have ke3 := fun w' (hb : Below Vx8.heap.size Vx8 w') => (cells5 (keepH Eb_8.out hb)).2.2.2.1
        have ke4 := fun w' (hb : Below Vx8.heap.size Vx8 w') => (cells5 (keepH Eb_8.out hb)).2.2.2.2
        have kp0 := fun w' (hb : Below Vx8.heap.size Vx8 w') => (cells5 (keepH L7_2.out hb)).1
        have kp1 := fun w' (hb : Below Vx8.heap.size Vx8 w') => (cells5 (keepH L7_2.out hb)).2.1
        have kp2 := fun w' (hb : Below Vx8.heap.size Vx8 w') => (cells5 (keepH L7_2.out hb)).2.2.1
        have kp3 := fun w' (hb : Below Vx8.heap.size Vx8 w') => (cells5 (keepH L7_2.out hb)).2.2.2.1
        have kp4 := fun w' (hb : Below Vx8.heap.size Vx8 w') => (cells5 (keepH L7_2.out hb)).2.2.2.2
        have kq0 := fun w' (hb : Below Vx8.heap.size Vx8 w') => (cells5 (keepH L8_0.out hb)).1
        have kq1 := fun w' (hb : Below Vx8.heap.size Vx8 w') => (cells5 (keepH L8_0.out hb)).2.1
        have kq2 := fun w' (hb : Below Vx8.heap.size Vx8 w') => (cells5 (keepH L8_0.out hb)).2.2.1
        have kq3 := fun w' (hb : Below Vx8.heap.size Vx8 w') => (cells5 (keepH L8_0.out hb)).2.2.2.1
        have kq4 := fun w' (hb : Below Vx8.heap.size Vx8 w') => (cells5 (keepH L8_0.out hb)).2.2.2.2
        have C1 := hidT fun w' (hb : Below Vx8.heap.size Vx8 w') => rlsame_any _ _ R R w' (R7_2.out.below hb) (R8_0.out.below hb) true (by simp)
        have C2 := hidT fun w' (hb : Below Vx8.heap.size Vx8 w') => pop_any _ l s w' (L_8.out.below hb) HS.out HR0.out
        rw [HP.out] at C2
        have C3 := hidT fun w' (hb : Below Vx8.heap.size Vx8 w') => rpop_any _ l s w' (L_8.out.below hb) HS.out.1
        rw [HP.out] at C3
        have C4 := hidT fun u v w' (hu : IsLane (Hi 0) w' u P) (hv : IsLane Any w' v P) => rlsame_any u v P P w' hu hv true (by simp)
        have C7 := hidT fun u v w' (hu : IsLane (Hi 0) w' u N) (hv : IsLane Any w' v N) => rlsame_any u v N N w' hu hv true (by simp)
        have C5 := hidT fun w' (hb : Below Vx8.heap.size Vx8 w') => set_any _ _ l e w' (L_8.out.below hb) (E_8.out.below hb) HS.out HSE.out HR0.out
        rw [HN.out] at C5
        have C6 := hidT fun w' (hb : Below Vx8.heap.size Vx8 w') => rset_any _ _ l e w' (L_8.out.below hb) (E_8.out.below hb) HS.out.1
        rw [HN.out] at C6
        go_region_held_law (fun w' => Below Vx8.heap.size Vx8 w')
          (first | exact (Below.refl _ _).drew | exact hc7 | exact hc6 | exact hc5 | exact hc4 | exact hc3 | exact hc2 | exact hc1)
          (first
            | (go_at_call 14; ((with_reducible refine (C1.out _ (Below.refl _ _).drew).mono ?_); rintro e a1 ⟨rfl, hc1'⟩; have hc1 : Below Vx8.heap.size Vx8 a1 := undrew hc1'))
            | (go_at_call 29; ((with_reducible refine (C2.out a1 hc1).mono ?_); rintro e a2 ⟨v2, rfl, hl2, hc2'⟩; have hc2 : Below Vx8.heap.size Vx8 a2 := bthen hc1 hc2'))
            | (go_at_call 30; ((with_reducible refine (C3.out a2 hc2).mono ?_); rintro e a3 ⟨v3, rfl, hl3, hc3'⟩; have hc3 : Below Vx8.heap.size Vx8 a3 := bthen hc2 hc3'))
            | (go_at_call 14; ((with_reducible refine (C4.out v2 v3 a3 ((hl2.hi (Nat.zero_le _)).below hc3') hl3).mono ?_); rintro e a4 ⟨rfl, hc4'⟩; have hc4 : Below Vx8.heap.size Vx8 a4 := bthen hc3 hc4'))
            | (go_at_call 31; ((with_reducible refine (C5.out a4 hc4).mono ?_); rintro e a5 ⟨v5, rfl, hl5, hc5'⟩; have hc5 : Below Vx8.heap.size Vx8 a5 := bthen hc4 hc5'))
            | (go_at_call 32; ((with_reducible refine (C6.out a5 hc5).mono ?_); rintro e a6 ⟨v6, rfl, hl6, hc6'⟩; have hc6 : Below Vx8.heap.size Vx8 a6 := bthen hc5 hc6'))
            | (go_at_call 14; ((with_reducible refine (C7.out v5 v6 a6 ((hl5.hi (Nat.zero_le _)).below hc6') hl6).mono ?_); rintro e a7 ⟨rfl, hc7'⟩; have hc7 : Below Vx8.heap.size Vx8 a7 := bthen hc6 hc7'))
            | fail)
        go_wp2
        go_ret
        exact ⟨rfl, bthen B_8.out hc7⟩
end Go.Proofs.Ytmlmkkfieeaejaa
