/- The law LaneStays, walked. (Written by wip/gen/lnstays.py.) -/
import Derived.Test.YtmlmkkfieeaejaaLnV
import Derived.Test.YtmlmkkfieeaejaaLnOpen
import Derived.Test.YtmlmkkfieeaejaaRLn3
set_option maxRecDepth 100000
namespace Go.Proofs.Ytmlmkkfieeaejaa
open Go.RowKit
set_option linter.unusedVariables false

theorem RdE.one {S : Nat → Prop} {w : World} {b o n c : Nat} {xs : List Lane.En} (h : RdE S w (some ⟨b, o, none⟩) n c xs) {i : Nat} {x : Lane.En} (hx : xs[i]? = some x) : RdE S w (some ⟨b, o + i * 5, none⟩) 1 (c - i) [x] := by
  have hi := (List.getElem?_eq_some_iff.1 hx).1
  have hs := h.size
  have h2 := (h.drop (k := i) (by omega)).take (k := 1) (by omega)
  have e : (xs.drop i).take 1 = [x] := by
    rw [List.drop_eq_getElem_cons hi, (List.getElem?_eq_some_iff.1 hx).2]
    rfl
  rw [e] at h2
  exact h2
theorem set_len (l : Lane.Ln) (e : Lane.En) : (Lane.set l e).es.length = l.es.length := by
  unfold Lane.set
  split
  · simp
  · rfl
theorem set_else {l : Lane.Ln} {e x : Lane.En} {j : Nat} (hx : l.es[j]? = some x) (hq : x.q ≠ e.q) : (Lane.set l e).es[j]? = some x := by
  unfold Lane.set
  split
  · show (l.es.map (Lane.put e))[j]? = some x
    rw [List.getElem?_map, hx]
    show some (Lane.put e x) = some x
    unfold Lane.put
    rw [if_neg hq]
  · exact hx
theorem read_take (l : Lane.Ln) (it : Item.It) : (Lane.read l it).1.es.take l.es.length = l.es ∧ ((Lane.read l it).1.es.length = l.es.length ∨ (Lane.read l it).1.es.length = l.es.length + 1) := by
  rcases (Lane.read_stays l it).2 with h | ⟨e, h⟩
  · rw [h]; simp
  · rw [h]; simp
abbrev keepsQ (s : Int) : Lane.En → Bool := fun x => decide (x.q ≠ s)
set_option maxHeartbeats 8000000 in
theorem stays_any (A : Option Addr) (n c : Nat) (B : Option Addr) (m d : Nat) (l : Lane.Ln) (LAi : Option Addr) (lni lci : Nat) (BAi : Option Addr) (bni bci : Nat) (it : Item.It) (s : Int) (BE : Option Addr) (be ce : Nat) (LE : Option Addr) (le ke : Nat) (e : Lane.En) (w : World) (hl : IsLane Any w (.agg #[.slice A n c, .int .i64 l.p.seq, .int .i64 l.p.total, .int .i64 l.p.got, .slice B m d]) l) (hok : LnOk l) (hi : IsItem w (.agg #[.int .i64 it.k, .int .i64 it.q, .int .i64 it.e, .int .i64 it.i, .int .i64 it.t, .int .i64 it.c, .slice LAi lni lci, .slice BAi bni bci]) it) (he : IsEn Any w (.agg #[.int .i64 e.k, .int .i64 e.q, .slice BE be ce, .slice LE le ke, .bool e.h]) e) : Calls Try.prog 5 #[.agg #[.slice A n c, .int .i64 l.p.seq, .int .i64 l.p.total, .int .i64 l.p.got, .slice B m d, .int .i64 it.k, .int .i64 it.q, .int .i64 it.e, .int .i64 it.i, .int .i64 it.t, .int .i64 it.c, .slice LAi lni lci, .slice BAi bni bci, .int .i64 s, .int .i64 e.k, .int .i64 e.q, .slice BE be ce, .slice LE le ke, .bool e.h]] w (Yes w) := by
  have hle := hl.parts.le
  have hlen := hl.parts.size
  have hbl := he.parts.1.1
  have hll := RdI.size he.parts.2
  have hlb := he.parts.1.le
  have hli := RdV.le he.parts.2
  have HLEN := hidT hlen
  have HBL := hidT hbl
  have HLL := hidT hll
  have HL0 := hidT hl
  have HI0 := hidT hi
  have HE0 := hidT he
  have HOK := hidT hok
  clear hlen hbl hll hl hi he hok
  have t0 := alloc_at w (.cells #[.slice A n c, .int .i64 l.p.seq, .int .i64 l.p.total, .int .i64 l.p.got, .slice B m d, .int .i64 it.k, .int .i64 it.q, .int .i64 it.e, .int .i64 it.i, .int .i64 it.t, .int .i64 it.c, .slice LAi lni lci, .slice BAi bni bci, .int .i64 s, .int .i64 e.k, .int .i64 e.q, .slice BE be ce, .slice LE le ke, .bool e.h] 53) _ rfl
  have n1 := nkeep (w.alloc (.cells #[.slice A n c, .int .i64 l.p.seq, .int .i64 l.p.total, .int .i64 l.p.got, .slice B m d, .int .i64 it.k, .int .i64 it.q, .int .i64 it.e, .int .i64 it.i, .int .i64 it.t, .int .i64 it.c, .slice LAi lni lci, .slice BAi bni bci, .int .i64 s, .int .i64 e.k, .int .i64 e.q, .slice BE be ce, .slice LE le ke, .bool e.h] 53)) (.cells #[.slice A n c, .int .i64 l.p.seq, .int .i64 l.p.total, .int .i64 l.p.got, .slice B m d] 27)
  have n2 := nkeep ((w.alloc (.cells #[.slice A n c, .int .i64 l.p.seq, .int .i64 l.p.total, .int .i64 l.p.got, .slice B m d, .int .i64 it.k, .int .i64 it.q, .int .i64 it.e, .int .i64 it.i, .int .i64 it.t, .int .i64 it.c, .slice LAi lni lci, .slice BAi bni bci, .int .i64 s, .int .i64 e.k, .int .i64 e.q, .slice BE be ce, .slice LE le ke, .bool e.h] 53)).alloc (.cells #[.slice A n c, .int .i64 l.p.seq, .int .i64 l.p.total, .int .i64 l.p.got, .slice B m d] 27)) (.cells #[.int .i64 it.k, .int .i64 it.q, .int .i64 it.e, .int .i64 it.i, .int .i64 it.t, .int .i64 it.c, .slice LAi lni lci, .slice BAi bni bci] 41)
  have n3 := nkeep (((w.alloc (.cells #[.slice A n c, .int .i64 l.p.seq, .int .i64 l.p.total, .int .i64 l.p.got, .slice B m d, .int .i64 it.k, .int .i64 it.q, .int .i64 it.e, .int .i64 it.i, .int .i64 it.t, .int .i64 it.c, .slice LAi lni lci, .slice BAi bni bci, .int .i64 s, .int .i64 e.k, .int .i64 e.q, .slice BE be ce, .slice LE le ke, .bool e.h] 53)).alloc (.cells #[.slice A n c, .int .i64 l.p.seq, .int .i64 l.p.total, .int .i64 l.p.got, .slice B m d] 27)).alloc (.cells #[.int .i64 it.k, .int .i64 it.q, .int .i64 it.e, .int .i64 it.i, .int .i64 it.t, .int .i64 it.c, .slice LAi lni lci, .slice BAi bni bci] 41)) (.cells #[.int .i64 e.k, .int .i64 e.q, .slice BE be ce, .slice LE le ke, .bool e.h] 33)
  have u1 := alloc_at (w.alloc (.cells #[.slice A n c, .int .i64 l.p.seq, .int .i64 l.p.total, .int .i64 l.p.got, .slice B m d, .int .i64 it.k, .int .i64 it.q, .int .i64 it.e, .int .i64 it.i, .int .i64 it.t, .int .i64 it.c, .slice LAi lni lci, .slice BAi bni bci, .int .i64 s, .int .i64 e.k, .int .i64 e.q, .slice BE be ce, .slice LE le ke, .bool e.h] 53)) (.cells #[.slice A n c, .int .i64 l.p.seq, .int .i64 l.p.total, .int .i64 l.p.got, .slice B m d] 27) _ rfl
  have u2 := alloc_at ((w.alloc (.cells #[.slice A n c, .int .i64 l.p.seq, .int .i64 l.p.total, .int .i64 l.p.got, .slice B m d, .int .i64 it.k, .int .i64 it.q, .int .i64 it.e, .int .i64 it.i, .int .i64 it.t, .int .i64 it.c, .slice LAi lni lci, .slice BAi bni bci, .int .i64 s, .int .i64 e.k, .int .i64 e.q, .slice BE be ce, .slice LE le ke, .bool e.h] 53)).alloc (.cells #[.slice A n c, .int .i64 l.p.seq, .int .i64 l.p.total, .int .i64 l.p.got, .slice B m d] 27)) (.cells #[.int .i64 it.k, .int .i64 it.q, .int .i64 it.e, .int .i64 it.i, .int .i64 it.t, .int .i64 it.c, .slice LAi lni lci, .slice BAi bni bci] 41) _ rfl
  have u3 := alloc_at (((w.alloc (.cells #[.slice A n c, .int .i64 l.p.seq, .int .i64 l.p.total, .int .i64 l.p.got, .slice B m d, .int .i64 it.k, .int .i64 it.q, .int .i64 it.e, .int .i64 it.i, .int .i64 it.t, .int .i64 it.c, .slice LAi lni lci, .slice BAi bni bci, .int .i64 s, .int .i64 e.k, .int .i64 e.q, .slice BE be ce, .slice LE le ke, .bool e.h] 53)).alloc (.cells #[.slice A n c, .int .i64 l.p.seq, .int .i64 l.p.total, .int .i64 l.p.got, .slice B m d] 27)).alloc (.cells #[.int .i64 it.k, .int .i64 it.q, .int .i64 it.e, .int .i64 it.i, .int .i64 it.t, .int .i64 it.c, .slice LAi lni lci, .slice BAi bni bci] 41)) (.cells #[.int .i64 e.k, .int .i64 e.q, .slice BE be ce, .slice LE le ke, .bool e.h] 33) _ rfl
  have v1 := keepH u1 (bthen n2 n3)
  have v2 := keepH u2 n3
  have hbw := bthen (bthen (nkeep w (.cells #[.slice A n c, .int .i64 l.p.seq, .int .i64 l.p.total, .int .i64 l.p.got, .slice B m d, .int .i64 it.k, .int .i64 it.q, .int .i64 it.e, .int .i64 it.i, .int .i64 it.t, .int .i64 it.c, .slice LAi lni lci, .slice BAi bni bci, .int .i64 s, .int .i64 e.k, .int .i64 e.q, .slice BE be ce, .slice LE le ke, .bool e.h] 53)) n1) (bthen n2 n3)
  have k0 := cell_at t0 0 rfl
  have k1 := cell_at t0 1 rfl
  have k2 := cell_at t0 2 rfl
  have k3 := cell_at t0 3 rfl
  have k4 := cell_at t0 4 rfl
  have k5 := cell_at (keepH t0 n1) 5 rfl
  have k6 := cell_at (keepH t0 n1) 6 rfl
  have k7 := cell_at (keepH t0 n1) 7 rfl
  have k8 := cell_at (keepH t0 n1) 8 rfl
  have k9 := cell_at (keepH t0 n1) 9 rfl
  have k10 := cell_at (keepH t0 n1) 10 rfl
  have k11 := cell_at (keepH t0 n1) 11 rfl
  have k12 := cell_at (keepH t0 n1) 12 rfl
  have k13 := cell_at (keepH t0 (bthen n1 n2)) 13 rfl
  have k14 := cell_at (keepH t0 (bthen n1 n2)) 14 rfl
  have k15 := cell_at (keepH t0 (bthen n1 n2)) 15 rfl
  have k16 := cell_at (keepH t0 (bthen n1 n2)) 16 rfl
  have k17 := cell_at (keepH t0 (bthen n1 n2)) 17 rfl
  have k18 := cell_at (keepH t0 (bthen n1 n2)) 18 rfl
  clear t0 n1 n2 n3 u1 u2
  obtain ⟨g, hg⟩ : ∃ g, w.heap.size = g := ⟨_, rfl⟩
  simp only [size_alloc, hg] at v1 v2 u3
  rw [hg] at k0 k1 k2 k3 k4 k5 k6 k7 k8 k9 k10 k11 k12 k13 k14 k15 k16 k17 k18
  obtain ⟨V, hV⟩ : ∃ V, ((((w.alloc (.cells #[.slice A n c, .int .i64 l.p.seq, .int .i64 l.p.total, .int .i64 l.p.got, .slice B m d, .int .i64 it.k, .int .i64 it.q, .int .i64 it.e, .int .i64 it.i, .int .i64 it.t, .int .i64 it.c, .slice LAi lni lci, .slice BAi bni bci, .int .i64 s, .int .i64 e.k, .int .i64 e.q, .slice BE be ce, .slice LE le ke, .bool e.h] 53)).alloc (.cells #[.slice A n c, .int .i64 l.p.seq, .int .i64 l.p.total, .int .i64 l.p.got, .slice B m d] 27)).alloc (.cells #[.int .i64 it.k, .int .i64 it.q, .int .i64 it.e, .int .i64 it.i, .int .i64 it.t, .int .i64 it.c, .slice LAi lni lci, .slice BAi bni bci] 41)).alloc (.cells #[.int .i64 e.k, .int .i64 e.q, .slice BE be ce, .slice LE le ke, .bool e.h] 33)) = V := ⟨_, rfl⟩
  rw [hV] at v1 v2 u3 hbw
  have HV := hidT hV
  clear hV
  have B_0 := hidT (hbw)
  have Lb_0 := hidT (v1)
  have Ib_0 := hidT (v2)
  have Eb_0 := hidT (u3)
  have L_0 := hidT (HL0.out.below hbw)
  have I_0 := hidT (HI0.out.below hbw)
  have E_0 := hidT (HE0.out.below hbw)
  clear v1 v2 u3 hbw
  go_enter Try.func5, Try.ntmps5
  go_wp2_with fail
  rw [HV.out]
  clear hg k0 k1 k2 k3 k4 k5 k6 k7 k8 k9 k10 k11 k12 k13 k14 k15 k16 k17 k18
  with_reducible refine (shown_any _).mono ?_
  rintro e_ y0 ⟨rfl, hb⟩
  have B_1 := hidT (bthen B_0.out hb)
  have Lb_1 := hidT (keepH Lb_0.out hb)
  have Ib_1 := hidT (keepH Ib_0.out hb)
  have Eb_1 := hidT (keepH Eb_0.out hb)
  have L_1 := hidT (L_0.out.below hb)
  have I_1 := hidT (I_0.out.below hb)
  have E_1 := hidT (E_0.out.below hb)
  clear B_0 Lb_0 Ib_0 Eb_0 L_0 I_0 E_0
  clear hb
  obtain ⟨i0, i1, i2, i3, i4⟩ := cells5 Lb_1.out
  go_wp2_with fail
  cases hfew : fewL l with
  | false =>
    with_reducible refine (few_any _ l y0 L_1.out false hfew).mono ?_
    rintro e y1 ⟨rfl, hb⟩
    go_wp2
    go_ret
    exact ⟨rfl, bthen B_1.out hb⟩
  | true =>
    with_reducible refine (few_any _ l y0 L_1.out true hfew).mono ?_
    rintro e y1 ⟨rfl, hb⟩
    have B_2 := hidT (bthen B_1.out hb)
    have Lb_2 := hidT (keepH Lb_1.out hb)
    have Ib_2 := hidT (keepH Ib_1.out hb)
    have Eb_2 := hidT (keepH Eb_1.out hb)
    have L_2 := hidT (L_1.out.below hb)
    have I_2 := hidT (I_1.out.below hb)
    have E_2 := hidT (E_1.out.below hb)
    clear B_1 Lb_1 Ib_1 Eb_1 L_1 I_1 E_1
    clear hb i0 i1 i2 i3 i4
    obtain ⟨i0, i1, i2, i3, i4⟩ := cells5 Lb_2.out
    go_wp2_with fail
    cases hri : Lane.right l with
    | false =>
      with_reducible refine (rright_any _ l y1 L_2.out false hri).mono ?_
      rintro e y2 ⟨rfl, hb⟩
      go_wp2
      go_ret
      exact ⟨rfl, bthen B_2.out hb⟩
    | true =>
      with_reducible refine (rright_any _ l y1 L_2.out true hri).mono ?_
      rintro e y2 ⟨rfl, hb⟩
      have B_3 := hidT (bthen B_2.out hb)
      have Lb_3 := hidT (keepH Lb_2.out hb)
      have Ib_3 := hidT (keepH Ib_2.out hb)
      have Eb_3 := hidT (keepH Eb_2.out hb)
      have L_3 := hidT (L_2.out.below hb)
      have I_3 := hidT (I_2.out.below hb)
      have E_3 := hidT (E_2.out.below hb)
      clear B_2 Lb_2 Ib_2 Eb_2 L_2 I_2 E_2
      clear hb i0 i1 i2 i3 i4
      obtain ⟨t0, t1, t2, t3, t4, t5, t6, t7⟩ := cells8 Ib_3.out
      go_wp2_with fail
      cases hmay : Item.may it with
      | false =>
        have hc := rmay_any _ it y2 I_3.out
        rw [hmay] at hc
        with_reducible refine hc.mono ?_
        rintro e_ y3 ⟨rfl, hb⟩
        go_wp2
        go_ret
        exact ⟨rfl, bthen B_3.out hb⟩
      | true =>
        have hc := rmay_any _ it y2 I_3.out
        rw [hmay] at hc
        with_reducible refine hc.mono ?_
        rintro e_ y3 ⟨rfl, hb⟩
        have B_4 := hidT (bthen B_3.out hb)
        have Lb_4 := hidT (keepH Lb_3.out hb)
        have Ib_4 := hidT (keepH Ib_3.out hb)
        have Eb_4 := hidT (keepH Eb_3.out hb)
        have L_4 := hidT (L_3.out.below hb)
        have I_4 := hidT (I_3.out.below hb)
        have E_4 := hidT (E_3.out.below hb)
        clear B_3 Lb_3 Ib_3 Eb_3 L_3 I_3 E_3
        clear hb hc t0 t1 t2 t3 t4 t5 t6 t7
        obtain ⟨f0, f1, f2, f3, f4⟩ := cells5 Eb_4.out
        by_cases ha : le ≤ 80
        rotate_left
        · have t1 : decide (80 < le) = true := by simpa using ha
          have t2 : decide ((80 : Int) < (le : Int)) = true := by simp; omega
          go_wp2
          go_ret
          exact ⟨rfl, B_4.out⟩
        have t1a : decide (80 < le) = false := by simpa using ha
        have t2a : decide ((80 : Int) < (le : Int)) = false := by simp; omega
        by_cases hb : be ≤ 2000
        rotate_left
        · have t1 : decide (2000 < be) = true := by simpa using hb
          have t2 : decide ((2000 : Int) < (be : Int)) = true := by simp; omega
          go_wp2
          go_ret
          exact ⟨rfl, B_4.out⟩
        have t1b : decide (2000 < be) = false := by simpa using hb
        have t2b : decide ((2000 : Int) < (be : Int)) = false := by simp; omega
        have HS := hidT (fewL_small hfew).1
        have HR := hidT hri
        have HR0 := hidT (Lane.right_iff.1 hri).1
        have hn80 : n ≤ 80 := by have := (fewL_small hfew).2.1; rw [HLEN.out] at this; exact this
        have HMAY := hidT hmay
        have hms := may_small hmay
        have HMS := hidT hms
        have HSE : Hid (SmallE e) := hidT ⟨by rw [HLL.out]; omega, by rw [HBL.out]; omega⟩
        have HG0 := hidT (Lane.part_nonneg (Lane.right_iff.1 hri).2)
        clear hfew hri hmay hms
        obtain ⟨R, k, hR⟩ : ∃ R k, Lane.read l it = (R, k) := ⟨_, _, rfl⟩
        obtain ⟨P, hP⟩ : ∃ P, Lane.pop l s = P := ⟨_, rfl⟩
        obtain ⟨N, hN⟩ : ∃ N, Lane.set l e = N := ⟨_, rfl⟩
        have hr1 : R = (Lane.read l it).1 := by rw [hR]
        have hr2 : k = (Lane.read l it).2 := by rw [hR]
        have h1 : Lane.right R = true := by rw [hr1]; exact Lane.right_read HR.out HMAY.out
        have h2 : Lane.right P = true := by rw [← hP]; exact Lane.right_pop HR.out s
        have h3 : Lane.right N = true := by rw [← hN]; exact Lane.right_set HR.out e
        have h4 : k ≠ 0 → R = l := by rw [hr1, hr2]; exact (Lane.read_stays l it).1
        have h5 : R.es.take l.es.length = l.es ∧ (R.es.length = l.es.length ∨ R.es.length = l.es.length + 1) := by rw [hr1]; exact read_take l it
        have h6 : N.es.length = l.es.length := by rw [← hN]; exact set_len l e
        rw [HLEN.out] at h5 h6
        have h7 : P.es = l.es.filter (keepsQ s) := by rw [← hP]; rfl
        have h8 : ∀ (j : Nat) (x : Lane.En), l.es[j]? = some x → x.q ≠ e.q → N.es[j]? = some x := fun j x hx hq => by rw [← hN]; exact set_else hx hq
        have HR1 := hidT hR
        have HP := hidT hP
        have HN := hidT hN
        have H1 := hidT h1
        have H2 := hidT h2
        have H3 := hidT h3
        have H4 := hidT h4
        have H5 := hidT h5
        have H6 := hidT h6
        have H7 := hidT h7
        have H8 := hidT h8
        clear hr1 hr2 h1 h2 h3 h4 h5 h6 h7 h8 hR hP hN
        obtain ⟨i0, i1, i2, i3, i4⟩ := cells5 Lb_4.out
        obtain ⟨t0, t1, t2, t3, t4, t5, t6, t7⟩ := cells8 Ib_4.out
        have hc := read_any _ _ l it y3 L_4.out I_4.out HS.out HG0.out (by have := HMS.out; omega) (by have := HMS.out; omega)
        rw [HR1.out] at hc
        have HCR := hidT hc
        clear hc
        go_wp2_with fail
        clear t1a t2a t1b t2b f0 f1 f2 f3 f4
        with_reducible refine HCR.out.mono ?_
        rintro e_ x7 ⟨v, rfl, hl, hb⟩
        have B_5 := hidT (bthen B_4.out hb)
        have Lb_5 := hidT (keepH Lb_4.out hb)
        have Ib_5 := hidT (keepH Ib_4.out hb)
        have Eb_5 := hidT (keepH Eb_4.out hb)
        have L_5 := hidT (L_4.out.below hb)
        have I_5 := hidT (I_4.out.below hb)
        have E_5 := hidT (E_4.out.below hb)
        clear B_4 Lb_4 Ib_4 Eb_4 L_4 I_4 E_4
        clear hb HCR i0 i1 i2 i3 i4 t0 t1 t2 t3 t4 t5 t6 t7
        obtain ⟨A7, n7, c7, B7, m7, d7, ev7, -, -, -⟩ := id hl
        have ev7' : v = .agg #[.slice A7 n7 c7, .int .i64 R.p.seq, .int .i64 R.p.total, .int .i64 R.p.got, .slice B7 m7 d7] := ev7
        clear ev7
        subst ev7'
        have t1 := alloc_at x7 (.cells #[.slice A7 n7 c7, .int .i64 R.p.seq, .int .i64 R.p.total, .int .i64 R.p.got, .slice B7 m7 d7] 27) _ rfl
        have t3 := nkeep x7 (.cells #[.slice A7 n7 c7, .int .i64 R.p.seq, .int .i64 R.p.total, .int .i64 R.p.got, .slice B7 m7 d7] 27)
        obtain ⟨Vx7, hVx7⟩ : ∃ W, x7.alloc (.cells #[.slice A7 n7 c7, .int .i64 R.p.seq, .int .i64 R.p.total, .int .i64 R.p.got, .slice B7 m7 d7] 27) = W := ⟨_, rfl⟩
        rw [hVx7] at t1 t3
        have HVx7 := hidT hVx7
        have B_6 := hidT (bthen B_5.out t3)
        have Lb_6 := hidT (keepH Lb_5.out t3)
        have Ib_6 := hidT (keepH Ib_5.out t3)
        have Eb_6 := hidT (keepH Eb_5.out t3)
        have L_6 := hidT (L_5.out.below t3)
        have I_6 := hidT (I_5.out.below t3)
        have E_6 := hidT (E_5.out.below t3)
        clear B_5 Lb_5 Ib_5 Eb_5 L_5 I_5 E_5
        have R7_0 := hidT (hl.below t3)
        obtain ⟨gx7, hgx7⟩ : ∃ p, x7.heap.size = p := ⟨_, rfl⟩
        rw [hgx7] at t1
        have L7_0 := hidT (t1)
        clear t1 t3 hVx7
        clear hl
        obtain ⟨i0, i1, i2, i3, i4⟩ := cells5 Lb_6.out
        have hc := (by have h := pop_any _ l s Vx7 L_6.out HS.out HR0.out; rw [HP.out] at h; exact h : Calls Try.prog 29 #[.agg #[.slice A n c, .int .i64 l.p.seq, .int .i64 l.p.total, .int .i64 l.p.got, .slice B m d], .int .i64 s] Vx7 (LaneOwn Vx7 P))
        have HCR := hidT hc
        clear hc
        rw [← HVx7.out] at i0 i1 i2 i3 i4
        go_wp2_with fail
        rw [HVx7.out]
        clear hgx7
        with_reducible refine HCR.out.mono ?_
        rintro e_ x8 ⟨v, rfl, hl, hb⟩
        have B_7 := hidT (bthen B_6.out hb)
        have Lb_7 := hidT (keepH Lb_6.out hb)
        have Ib_7 := hidT (keepH Ib_6.out hb)
        have Eb_7 := hidT (keepH Eb_6.out hb)
        have L_7 := hidT (L_6.out.below hb)
        have I_7 := hidT (I_6.out.below hb)
        have E_7 := hidT (E_6.out.below hb)
        have R7_1 := hidT (R7_0.out.below hb)
        have L7_1 := hidT (keepH L7_0.out hb)
        clear B_6 Lb_6 Ib_6 Eb_6 L_6 I_6 E_6 R7_0 L7_0
        clear hb HCR i0 i1 i2 i3 i4
        obtain ⟨A8, n8, c8, B8, m8, d8, ev8, -, -, -⟩ := id hl
        have ev8' : v = .agg #[.slice A8 n8 c8, .int .i64 P.p.seq, .int .i64 P.p.total, .int .i64 P.p.got, .slice B8 m8 d8] := ev8
        clear ev8
        subst ev8'
        have t1 := alloc_at x8 (.cells #[.slice A8 n8 c8, .int .i64 P.p.seq, .int .i64 P.p.total, .int .i64 P.p.got, .slice B8 m8 d8] 27) _ rfl
        have t3 := nkeep x8 (.cells #[.slice A8 n8 c8, .int .i64 P.p.seq, .int .i64 P.p.total, .int .i64 P.p.got, .slice B8 m8 d8] 27)
        obtain ⟨Vx8, hVx8⟩ : ∃ W, x8.alloc (.cells #[.slice A8 n8 c8, .int .i64 P.p.seq, .int .i64 P.p.total, .int .i64 P.p.got, .slice B8 m8 d8] 27) = W := ⟨_, rfl⟩
        rw [hVx8] at t1 t3
        have HVx8 := hidT hVx8
        have B_8 := hidT (bthen B_7.out t3)
        have Lb_8 := hidT (keepH Lb_7.out t3)
        have Ib_8 := hidT (keepH Ib_7.out t3)
        have Eb_8 := hidT (keepH Eb_7.out t3)
        have L_8 := hidT (L_7.out.below t3)
        have I_8 := hidT (I_7.out.below t3)
        have E_8 := hidT (E_7.out.below t3)
        have R7_2 := hidT (R7_1.out.below t3)
        have L7_2 := hidT (keepH L7_1.out t3)
        clear B_7 Lb_7 Ib_7 Eb_7 L_7 I_7 E_7 R7_1 L7_1
        have R8_0 := hidT (hl.below t3)
        obtain ⟨gx8, hgx8⟩ : ∃ p, x8.heap.size = p := ⟨_, rfl⟩
        rw [hgx8] at t1
        have L8_0 := hidT (t1)
        clear t1 t3 hVx8
        clear hl
        obtain ⟨i0, i1, i2, i3, i4⟩ := cells5 Lb_8.out
        obtain ⟨f0, f1, f2, f3, f4⟩ := cells5 Eb_8.out
        have hc := (by have h := set_any _ _ l e Vx8 L_8.out E_8.out HS.out HSE.out HR0.out; rw [HN.out] at h; exact h : Calls Try.prog 31 #[.agg #[.slice A n c, .int .i64 l.p.seq, .int .i64 l.p.total, .int .i64 l.p.got, .slice B m d], .agg #[.int .i64 e.k, .int .i64 e.q, .slice BE be ce, .slice LE le ke, .bool e.h]] Vx8 (LaneOwn Vx8 N))
        have HCR := hidT hc
        clear hc
        rw [← HVx8.out] at i0 i1 i2 i3 i4 f0 f1 f2 f3 f4
        go_wp2_with fail
        rw [HVx8.out]
        clear hgx8
        with_reducible refine HCR.out.mono ?_
        rintro e_ x9 ⟨v, rfl, hl, hb⟩
        have B_9 := hidT (bthen B_8.out hb)
        have Lb_9 := hidT (keepH Lb_8.out hb)
        have Ib_9 := hidT (keepH Ib_8.out hb)
        have Eb_9 := hidT (keepH Eb_8.out hb)
        have L_9 := hidT (L_8.out.below hb)
        have I_9 := hidT (I_8.out.below hb)
        have E_9 := hidT (E_8.out.below hb)
        have R7_3 := hidT (R7_2.out.below hb)
        have L7_3 := hidT (keepH L7_2.out hb)
        have R8_1 := hidT (R8_0.out.below hb)
        have L8_1 := hidT (keepH L8_0.out hb)
        clear B_8 Lb_8 Ib_8 Eb_8 L_8 I_8 E_8 R7_2 L7_2 R8_0 L8_0
        clear hb HCR i0 i1 i2 i3 i4 f0 f1 f2 f3 f4
        obtain ⟨A9, n9, c9, B9, m9, d9, ev9, -, -, -⟩ := id hl
        have ev9' : v = .agg #[.slice A9 n9 c9, .int .i64 N.p.seq, .int .i64 N.p.total, .int .i64 N.p.got, .slice B9 m9 d9] := ev9
        clear ev9
        subst ev9'
        have t1 := alloc_at x9 (.cells #[.slice A9 n9 c9, .int .i64 N.p.seq, .int .i64 N.p.total, .int .i64 N.p.got, .slice B9 m9 d9] 27) _ rfl
        have t3 := nkeep x9 (.cells #[.slice A9 n9 c9, .int .i64 N.p.seq, .int .i64 N.p.total, .int .i64 N.p.got, .slice B9 m9 d9] 27)
        obtain ⟨Vx9, hVx9⟩ : ∃ W, x9.alloc (.cells #[.slice A9 n9 c9, .int .i64 N.p.seq, .int .i64 N.p.total, .int .i64 N.p.got, .slice B9 m9 d9] 27) = W := ⟨_, rfl⟩
        rw [hVx9] at t1 t3
        have HVx9 := hidT hVx9
        have B_10 := hidT (bthen B_9.out t3)
        have Lb_10 := hidT (keepH Lb_9.out t3)
        have Ib_10 := hidT (keepH Ib_9.out t3)
        have Eb_10 := hidT (keepH Eb_9.out t3)
        have L_10 := hidT (L_9.out.below t3)
        have I_10 := hidT (I_9.out.below t3)
        have E_10 := hidT (E_9.out.below t3)
        have R7_4 := hidT (R7_3.out.below t3)
        have L7_4 := hidT (keepH L7_3.out t3)
        have R8_2 := hidT (R8_1.out.below t3)
        have L8_2 := hidT (keepH L8_1.out t3)
        clear B_9 Lb_9 Ib_9 Eb_9 L_9 I_9 E_9 R7_3 L7_3 R8_1 L8_1
        have R9_0 := hidT (hl.below t3)
        obtain ⟨gx9, hgx9⟩ : ∃ p, x9.heap.size = p := ⟨_, rfl⟩
        rw [hgx9] at t1
        have L9_0 := hidT (t1)
        clear t1 t3 hVx9
        clear hl
        clear I_10
        go_wp2_with fail
        rw [HVx9.out]
        clear hgx9
        have s7 : R.es.length = n7 := R7_4.out.parts.size
        have s8 : P.es.length = n8 := R8_2.out.parts.size
        have s9 : N.es.length = n9 := R9_0.out.parts.size
        have hc7 := R7_4.out.parts.cap
        have hc8 := R8_2.out.parts.cap
        have hc9 := R9_0.out.parts.cap
        have hm7 := R7_4.out.parts.cmax
        have hm8 := R8_2.out.parts.cmax
        have hm9 := R9_0.out.parts.cmax
        have hcl := L_10.out.parts.cap
        have hml := L_10.out.parts.cmax
        have h57 := H5.out.2
        rw [s7] at h57
        have h69 := H6.out
        rw [s9] at h69
        subst h69
        have HP8 := hidT s8
        have HN9 := hidT s9
        clear s7 s8 s9
        have NE := Later.ne Vx9
        obtain ⟨z0, z1, z2, z3, z4⟩ := cells5 Lb_10.out
        have kx0 := Later.cell z0
        have kx1 := Later.cell z1
        have kx2 := Later.cell z2
        have kx3 := Later.cell z3
        have kx4 := Later.cell z4
        clear z0 z1 z2 z3 z4
        obtain ⟨z0, z1, z2, z3, z4⟩ := cells5 L7_4.out
        have kp0 := Later.cell z0
        have kp1 := Later.cell z1
        have kp2 := Later.cell z2
        have kp3 := Later.cell z3
        have kp4 := Later.cell z4
        clear z0 z1 z2 z3 z4
        obtain ⟨z0, z1, z2, z3, z4⟩ := cells5 L8_2.out
        have kq0 := Later.cell z0
        have kq1 := Later.cell z1
        have kq2 := Later.cell z2
        have kq3 := Later.cell z3
        have kq4 := Later.cell z4
        clear z0 z1 z2 z3 z4
        obtain ⟨z0, z1, z2, z3, z4⟩ := cells5 L9_0.out
        have kr0 := Later.cell z0
        have kr1 := Later.cell z1
        have kr2 := Later.cell z2
        have kr3 := Later.cell z3
        have kr4 := Later.cell z4
        clear z0 z1 z2 z3 z4
        have C1 := hidT fun m : Later Vx9 => rright_any _ R m.w (R7_4.out.below m.h) true H1.out
        have C2 := hidT fun m : Later Vx9 => rright_any _ P m.w (R8_2.out.below m.h) true H2.out
        have C3 := hidT fun m : Later Vx9 => rright_any _ N m.w (R9_0.out.below m.h) true H3.out
        have C5 := hidT fun m : Later Vx9 => rentries_any A7 n9 c7 (R.es.take n9) A n9 c l.es m.w ((R7_4.out.parts.below m.h).take (by omega)) (L_10.out.parts.below m.h) true (by rw [H5.out.1]; simp)
        have b1 : decide ((n7 : Int) < (n9 : Int)) = false := by simp; omega
        have b2 : decide (n7 < n9) = false := by simp; omega
        have b3 : decide ((n9 : Int) + 1 < (n7 : Int)) = false := by simp; omega
        have b4 : decide (n9 + 1 < n7) = false := by simp; omega
        have b5 : ((n9 : Int) != (n9 : Int)) = false := by simp
        have y1 : (0 : Int) ≤ (n9 : Int) := by omega
        have y2 : (n9 : Int) ≤ (c7 : Int) := by omega
        have y3 : n9 ≤ c7 := by omega
        have w1 : IntKind.i64.wrap ((n9 : Int) + 1) = (n9 : Int) + 1 := IntWalk.i64_in _ (by omega)
        have w2 : wrap64 ((n9 : Int) + 1) = (n9 : Int) + 1 := IntWalk.wrap64_in _ (by omega)
        by_cases hk : k = 0
        · have b0 : (k != 0) = false := by simpa using hk
          clear hk
          refine wp_later (by kernel_rfl) (by kernel_rfl) ?_
          repeat (go_big_quiet_step ((first | (go_at_call 11; first | with_reducible exact Later.bool (C1.out _) | with_reducible exact Later.bool (C2.out _) | with_reducible exact Later.bool (C3.out _)) | (go_at_call 21; with_reducible exact Later.bool (C5.out _)) | fail)))
          refine wpQuiet_nil ?_
          intro w9 hw9
          obtain ⟨⟨_, hb9⟩, rfl⟩ := hw9
          have B_11 := hidT (bthen B_10.out hb9)
          have Lb_11 := hidT (keepH Lb_10.out hb9)
          have Ib_11 := hidT (keepH Ib_10.out hb9)
          have Eb_11 := hidT (keepH Eb_10.out hb9)
          have L_11 := hidT (L_10.out.below hb9)
          have E_11 := hidT (E_10.out.below hb9)
          have R7_5 := hidT (R7_4.out.below hb9)
          have L7_5 := hidT (keepH L7_4.out hb9)
          have R8_3 := hidT (R8_2.out.below hb9)
          have L8_3 := hidT (keepH L8_2.out hb9)
          have R9_1 := hidT (R9_0.out.below hb9)
          have L9_1 := hidT (keepH L9_0.out hb9)
          clear B_10 Lb_10 Ib_10 Eb_10 L_10 E_10 R7_4 L7_4 R8_2 L8_2 R9_0 L9_0
          clear hb9 NE C1 C2 C3 C5 b0 b1 b2 b3 b4 b5 w1 w2 y1 y2 y3 kx0 kx1 kx2 kx3 kx4 kp0 kp1 kp2 kp3 kp4 kq0 kq1 kq2 kq3 kq4 kr0 kr1 kr2 kr3 kr4
          clear L7_5
          clear R7_5
          go_wp2_with fail
          go_loopw [12, 13] (fun z i wr => ∃ j k2 : Nat, j ≤ n9 ∧ i = .int .i64 j ∧ z = .int .i64 k2 ∧ Hid (((l.es.take j).filter (keepsQ s)).length = k2) ∧ Hid (Below w9.heap.size w9 wr)) (fun _ i _ => n9 - (intOf i).toNat)
          case atStart => exact ⟨0, 0, Nat.zero_le _, rfl, rfl, hidT rfl, hidT (Below.refl _ _)⟩
          case round =>
            obtain ⟨j, k2, hj, rfl, rfl, HK, HB⟩ := hrel
            have B_12 := hidT (bthen B_11.out HB.out)
            have Lb_12 := hidT (keepH Lb_11.out HB.out)
            have Ib_12 := hidT (keepH Ib_11.out HB.out)
            have Eb_12 := hidT (keepH Eb_11.out HB.out)
            have L_12 := hidT (L_11.out.below HB.out)
            have E_12 := hidT (E_11.out.below HB.out)
            have R8_4 := hidT (R8_3.out.below HB.out)
            have L8_4 := hidT (keepH L8_3.out HB.out)
            have R9_2 := hidT (R9_1.out.below HB.out)
            have L9_2 := hidT (keepH L9_1.out HB.out)
            clear B_11 Lb_11 Ib_11 Eb_11 L_11 E_11 R8_3 L8_3 R9_1 L9_1
            have hnp : n9 ≤ 80 := hn80
            by_cases hjn : j < n9
            · skip
              obtain ⟨b, o, x, BA, bn, bc, LA, ln, lc, rfl, hx, _, _, _, _, hcs⟩ := (L_12.out.parts).told hjn
              have HCS := hidT hcs
              have d1 := (hcs wr (Below.refl _ _)).2.1
              have HX := hidT hx
              have x1 : (0 : Int) ≤ (j : Int) := by omega
              have x2 : (j : Int) < (n9 : Int) := by omega
              have x3 : (j : Int) + 1 ≤ (c : Int) := by omega
              have x4 : j + 1 ≤ c := by omega
              have x5 : ¬ c = j := by omega
              have x6 : ((j : Int) + 1).toNat = j + 1 := by omega
              have x7 : (j : Int) ≤ (j : Int) + 1 := by omega
              have E1 := hidT ((L_12.out.parts).one hx)
              clear hcs hx
              obtain ⟨i0, i1, i2, i3, i4⟩ := cells5 Lb_12.out
              by_cases hs : x.q = s
              · have v1 : (x.q != s) = false := by simpa using hs
                have HF : Hid (keepsQ s x = false) := hidT (by simp [keepsQ, hs])
                clear hs
                go_wp2_with fail
                clear d1 v1 i0 i1 i2 i3 i4
                have HW9 := hidT (Below.refl wr.heap.size wr)
                have HR9 := HW9
                by_cases he : x.q = e.q
                · have v2 : (x.q != e.q) = false := by simpa using he
                  have NE := Later.ne wr
                  obtain ⟨z0, z1, z2, z3, z4⟩ := cells5 Lb_12.out
                  have kx0 := Later.cell z0
                  have kx1 := Later.cell z1
                  have kx2 := Later.cell z2
                  have kx3 := Later.cell z3
                  have kx4 := Later.cell z4
                  clear z0 z1 z2 z3 z4
                  obtain ⟨z0, z1, z2, z3, z4⟩ := cells5 L9_2.out
                  have kr0 := Later.cell z0
                  have kr1 := Later.cell z1
                  have kr2 := Later.cell z2
                  have kr3 := Later.cell z3
                  have kr4 := Later.cell z4
                  clear z0 z1 z2 z3 z4
                  obtain ⟨z0, z1, z2, z3, z4⟩ := cells5 Eb_12.out
                  have ke0 := Later.cell z0
                  have ke1 := Later.cell z1
                  have ke2 := Later.cell z2
                  have ke3 := Later.cell z3
                  have ke4 := Later.cell z4
                  clear z0 z1 z2 z3 z4
                  have kd := fun m : Later wr => (HCS.out m.w (bthen HW9.out m.h)).2.1
                  refine wp_later (by kernel_rfl) (by kernel_rfl) ?_
                  repeat (go_big_quiet_step ((fail)))
                  refine wpQuiet_nil ?_
                  intro w9 hw9
                  obtain ⟨⟨_, hb9⟩, rfl⟩ := hw9
                  have HBN := hidT (bthen HB.out (bthen HW9.out hb9))
                  clear hb9 NE kd v2 he kx0 kx1 kx2 kx3 kx4 kr0 kr1 kr2 kr3 kr4 ke0 ke1 ke2 ke3 ke4
                  go_wp2
                  exact ⟨⟨j + 1, k2, by omega, by go_num, by go_num, hidT (by have h := Lane.filter_step (keepsQ s) l.es j x HX.out; rw [HK.out, HF.out] at h; exact h), HBN⟩, by simp [intOf]; omega⟩
                · have v2 : (x.q != e.q) = true := by simpa using he
                  have NE := Later.ne wr
                  obtain ⟨z0, z1, z2, z3, z4⟩ := cells5 Lb_12.out
                  have kx0 := Later.cell z0
                  have kx1 := Later.cell z1
                  have kx2 := Later.cell z2
                  have kx3 := Later.cell z3
                  have kx4 := Later.cell z4
                  clear z0 z1 z2 z3 z4
                  obtain ⟨z0, z1, z2, z3, z4⟩ := cells5 L9_2.out
                  have kr0 := Later.cell z0
                  have kr1 := Later.cell z1
                  have kr2 := Later.cell z2
                  have kr3 := Later.cell z3
                  have kr4 := Later.cell z4
                  clear z0 z1 z2 z3 z4
                  obtain ⟨z0, z1, z2, z3, z4⟩ := cells5 Eb_12.out
                  have ke0 := Later.cell z0
                  have ke1 := Later.cell z1
                  have ke2 := Later.cell z2
                  have ke3 := Later.cell z3
                  have ke4 := Later.cell z4
                  clear z0 z1 z2 z3 z4
                  have kd := fun m : Later wr => (HCS.out m.w (bthen HW9.out m.h)).2.1
                  have hN9 := H8.out j x HX.out he
                  have hj9 : j < n9 := hjn
                  obtain ⟨b9, o9, rfl⟩ := (R9_2.out.parts).addr (by omega)
                  have E9 := hidT ((R9_2.out.parts).one hN9)
                  have y3 : (j : Int) + 1 ≤ (c9 : Int) := by omega
                  have y4 : j + 1 ≤ c9 := by omega
                  have y5 : ¬ c9 = j := by omega
                  have CE := hidT fun m : Later wr => rentries_any _ _ _ [x] _ _ _ [x] m.w (E9.out.below (bthen HR9.out m.h)) (E1.out.below (bthen HW9.out m.h)) true (by simp)
                  clear hN9
                  have w1 : IntKind.i64.wrap ((j : Int) + 1) = (j : Int) + 1 := IntWalk.i64_in _ (by omega)
                  have w2 : wrap64 ((j : Int) + 1) = (j : Int) + 1 := IntWalk.wrap64_in _ (by omega)
                  refine wp_later (by kernel_rfl) (by kernel_rfl) ?_
                  repeat (go_big_quiet_step ((first | (go_at_call 21; with_reducible exact Later.bool (CE.out _)) | fail)))
                  refine wpQuiet_nil ?_
                  intro w9 hw9
                  obtain ⟨⟨_, hb9⟩, rfl⟩ := hw9
                  clear w1 w2
                  have HBN := hidT (bthen HB.out (bthen HW9.out hb9))
                  clear hb9 NE kd v2 he kx0 kx1 kx2 kx3 kx4 kr0 kr1 kr2 kr3 kr4 ke0 ke1 ke2 ke3 ke4 y3 y4 y5
                  go_wp2
                  exact ⟨⟨j + 1, k2, by omega, by go_num, by go_num, hidT (by have h := Lane.filter_step (keepsQ s) l.es j x HX.out; rw [HK.out, HF.out] at h; exact h), HBN⟩, by simp [intOf]; omega⟩
              · have v1 : (x.q != s) = true := by simpa using hs
                have HF : Hid (keepsQ s x = true) := hidT (by simp [keepsQ, hs])
                have hP8 : P.es[k2]? = some x := by have h := Lane.filter_at (keepsQ s) l.es j x HX.out HF.out; rw [HK.out, ← H7.out] at h; exact h
                clear hs
                go_wp2_with fail
                clear d1 v1 i0 i1 i2 i3 i4
                have hk8 : k2 < n8 := by have := (List.getElem?_eq_some_iff.1 hP8).1; have := HP8.out; omega
                have hkj : k2 ≤ 80 := by have h1 := HK.out; have h2 := List.length_filter_le (keepsQ s) (l.es.take j); have h3 := List.length_take_le j l.es; omega
                have g1 : decide ((n8 : Int) ≤ (k2 : Int)) = false := by simp; omega
                have g2 : decide (n8 ≤ k2) = false := by simp; omega
                have g3 : (0 : Int) ≤ (k2 : Int) := by omega
                have g4 : (k2 : Int) + 1 ≤ (c8 : Int) := by omega
                have g5 : k2 + 1 ≤ c8 := by omega
                have g6 : ¬ c8 = k2 := by omega
                have g7 : ((k2 : Int) + 1).toNat = k2 + 1 := by omega
                have g8 : (k2 : Int) ≤ (k2 : Int) + 1 := by omega
                obtain ⟨b8, o8, rfl⟩ := (R8_4.out.parts).addr (by omega)
                have E8 := hidT ((R8_4.out.parts).one hP8)
                have CE := hidT fun m : Later wr => rentries_any _ _ _ [x] _ _ _ [x] m.w (E8.out.below m.h) (E1.out.below m.h) true (by simp)
                have NE := Later.ne wr
                clear hP8
                obtain ⟨z0, z1, z2, z3, z4⟩ := cells5 Lb_12.out
                have kx0 := Later.cell z0
                have kx1 := Later.cell z1
                have kx2 := Later.cell z2
                have kx3 := Later.cell z3
                have kx4 := Later.cell z4
                clear z0 z1 z2 z3 z4
                obtain ⟨z0, z1, z2, z3, z4⟩ := cells5 L8_4.out
                have kq0 := Later.cell z0
                have kq1 := Later.cell z1
                have kq2 := Later.cell z2
                have kq3 := Later.cell z3
                have kq4 := Later.cell z4
                clear z0 z1 z2 z3 z4
                have w1 : IntKind.i64.wrap ((j : Int) + 1) = (j : Int) + 1 := IntWalk.i64_in _ (by omega)
                have w3 : IntKind.i64.wrap ((k2 : Int) + 1) = (k2 : Int) + 1 := IntWalk.i64_in _ (by omega)
                have w2 : wrap64 ((j : Int) + 1) = (j : Int) + 1 := IntWalk.wrap64_in _ (by omega)
                have w4 : wrap64 ((k2 : Int) + 1) = (k2 : Int) + 1 := IntWalk.wrap64_in _ (by omega)
                refine wp_later (by kernel_rfl) (by kernel_rfl) ?_
                repeat (go_big_quiet_step ((first | (go_at_call 21; with_reducible exact Later.bool (CE.out _)) | fail)))
                refine wpQuiet_nil ?_
                intro w9 hw9
                obtain ⟨⟨_, hb9⟩, rfl⟩ := hw9
                clear w1 w2 w3 w4 g1 g2 g4 g5 g6 g7 g8 NE CE E8 kx0 kx1 kx2 kx3 kx4 kq0 kq1 kq2 kq3 kq4
                have B_13 := hidT (bthen B_12.out hb9)
                have Lb_13 := hidT (keepH Lb_12.out hb9)
                have Ib_13 := hidT (keepH Ib_12.out hb9)
                have Eb_13 := hidT (keepH Eb_12.out hb9)
                have L_13 := hidT (L_12.out.below hb9)
                have E_13 := hidT (E_12.out.below hb9)
                have R8_5 := hidT (R8_4.out.below hb9)
                have L8_5 := hidT (keepH L8_4.out hb9)
                have R9_3 := hidT (R9_2.out.below hb9)
                have L9_3 := hidT (keepH L9_2.out hb9)
                have HW9 := hidT hb9
                clear hb9
                have HR9 := hidT (Below.refl w9.heap.size w9)
                go_wp2_with fail
                by_cases he : x.q = e.q
                · have v2 : (x.q != e.q) = false := by simpa using he
                  have NE := Later.ne w9
                  obtain ⟨z0, z1, z2, z3, z4⟩ := cells5 Lb_13.out
                  have kx0 := Later.cell z0
                  have kx1 := Later.cell z1
                  have kx2 := Later.cell z2
                  have kx3 := Later.cell z3
                  have kx4 := Later.cell z4
                  clear z0 z1 z2 z3 z4
                  obtain ⟨z0, z1, z2, z3, z4⟩ := cells5 L9_3.out
                  have kr0 := Later.cell z0
                  have kr1 := Later.cell z1
                  have kr2 := Later.cell z2
                  have kr3 := Later.cell z3
                  have kr4 := Later.cell z4
                  clear z0 z1 z2 z3 z4
                  obtain ⟨z0, z1, z2, z3, z4⟩ := cells5 Eb_13.out
                  have ke0 := Later.cell z0
                  have ke1 := Later.cell z1
                  have ke2 := Later.cell z2
                  have ke3 := Later.cell z3
                  have ke4 := Later.cell z4
                  clear z0 z1 z2 z3 z4
                  have kd := fun m : Later w9 => (HCS.out m.w (bthen HW9.out m.h)).2.1
                  refine wp_later (by kernel_rfl) (by kernel_rfl) ?_
                  repeat (go_big_quiet_step ((fail)))
                  refine wpQuiet_nil ?_
                  intro w9 hw9
                  obtain ⟨⟨_, hb9⟩, rfl⟩ := hw9
                  have HBN := hidT (bthen HB.out (bthen HW9.out hb9))
                  clear hb9 NE kd v2 he kx0 kx1 kx2 kx3 kx4 kr0 kr1 kr2 kr3 kr4 ke0 ke1 ke2 ke3 ke4
                  go_wp2
                  exact ⟨⟨j + 1, k2 + 1, by omega, by go_num, by go_num, hidT (by have h := Lane.filter_step (keepsQ s) l.es j x HX.out; rw [HK.out, HF.out] at h; exact h), HBN⟩, by simp [intOf]; omega⟩
                · have v2 : (x.q != e.q) = true := by simpa using he
                  have NE := Later.ne w9
                  obtain ⟨z0, z1, z2, z3, z4⟩ := cells5 Lb_13.out
                  have kx0 := Later.cell z0
                  have kx1 := Later.cell z1
                  have kx2 := Later.cell z2
                  have kx3 := Later.cell z3
                  have kx4 := Later.cell z4
                  clear z0 z1 z2 z3 z4
                  obtain ⟨z0, z1, z2, z3, z4⟩ := cells5 L9_3.out
                  have kr0 := Later.cell z0
                  have kr1 := Later.cell z1
                  have kr2 := Later.cell z2
                  have kr3 := Later.cell z3
                  have kr4 := Later.cell z4
                  clear z0 z1 z2 z3 z4
                  obtain ⟨z0, z1, z2, z3, z4⟩ := cells5 Eb_13.out
                  have ke0 := Later.cell z0
                  have ke1 := Later.cell z1
                  have ke2 := Later.cell z2
                  have ke3 := Later.cell z3
                  have ke4 := Later.cell z4
                  clear z0 z1 z2 z3 z4
                  have kd := fun m : Later w9 => (HCS.out m.w (bthen HW9.out m.h)).2.1
                  have hN9 := H8.out j x HX.out he
                  have hj9 : j < n9 := hjn
                  obtain ⟨b9, o9, rfl⟩ := (R9_3.out.parts).addr (by omega)
                  have E9 := hidT ((R9_3.out.parts).one hN9)
                  have y3 : (j : Int) + 1 ≤ (c9 : Int) := by omega
                  have y4 : j + 1 ≤ c9 := by omega
                  have y5 : ¬ c9 = j := by omega
                  have CE := hidT fun m : Later w9 => rentries_any _ _ _ [x] _ _ _ [x] m.w (E9.out.below (bthen HR9.out m.h)) (E1.out.below (bthen HW9.out m.h)) true (by simp)
                  clear hN9
                  have w1 : IntKind.i64.wrap ((j : Int) + 1) = (j : Int) + 1 := IntWalk.i64_in _ (by omega)
                  have w2 : wrap64 ((j : Int) + 1) = (j : Int) + 1 := IntWalk.wrap64_in _ (by omega)
                  refine wp_later (by kernel_rfl) (by kernel_rfl) ?_
                  repeat (go_big_quiet_step ((first | (go_at_call 21; with_reducible exact Later.bool (CE.out _)) | fail)))
                  refine wpQuiet_nil ?_
                  intro w9 hw9
                  obtain ⟨⟨_, hb9⟩, rfl⟩ := hw9
                  clear w1 w2
                  have HBN := hidT (bthen HB.out (bthen HW9.out hb9))
                  clear hb9 NE kd v2 he kx0 kx1 kx2 kx3 kx4 kr0 kr1 kr2 kr3 kr4 ke0 ke1 ke2 ke3 ke4 y3 y4 y5
                  go_wp2
                  exact ⟨⟨j + 1, k2 + 1, by omega, by go_num, by go_num, hidT (by have h := Lane.filter_step (keepsQ s) l.es j x HX.out; rw [HK.out, HF.out] at h; exact h), HBN⟩, by simp [intOf]; omega⟩
            · have hje : j = n9 := by omega
              subst hje
              have hk8 : k2 = n8 := by
                have h := HK.out
                rw [List.take_of_length_le (by rw [HLEN.out]; exact Nat.le_refl _), ← H7.out, HP8.out] at h
                exact h.symm
              subst hk8
              have v3 : ((k2 : Int) == (k2 : Int)) = true := by simp
              obtain ⟨i0, i1, i2, i3, i4⟩ := cells5 Lb_12.out
              obtain ⟨t0, t1, t2, t3, t4⟩ := cells5 L8_4.out
              go_wp2
              go_ret
              exact ⟨rfl, B_12.out⟩
        · have b0 : (k != 0) = true := by simpa using hk
          have hRl : R = l := H4.out hk
          clear hk
          have C4 := hidT fun m : Later Vx9 => rlsame_any _ _ R l m.w (R7_4.out.below m.h) (L_10.out.below m.h) true (by rw [hRl]; simp)
          clear hRl
          refine wp_later (by kernel_rfl) (by kernel_rfl) ?_
          repeat (go_big_quiet_step ((first | (go_at_call 11; first | with_reducible exact Later.bool (C1.out _) | with_reducible exact Later.bool (C2.out _) | with_reducible exact Later.bool (C3.out _)) | (go_at_call 21; with_reducible exact Later.bool (C5.out _)) | (go_at_call 14; with_reducible exact Later.bool (C4.out _)) | fail)))
          refine wpQuiet_nil ?_
          intro w9 hw9
          obtain ⟨⟨_, hb9⟩, rfl⟩ := hw9
          clear C4
          have B_11 := hidT (bthen B_10.out hb9)
          have Lb_11 := hidT (keepH Lb_10.out hb9)
          have Ib_11 := hidT (keepH Ib_10.out hb9)
          have Eb_11 := hidT (keepH Eb_10.out hb9)
          have L_11 := hidT (L_10.out.below hb9)
          have E_11 := hidT (E_10.out.below hb9)
          have R7_5 := hidT (R7_4.out.below hb9)
          have L7_5 := hidT (keepH L7_4.out hb9)
          have R8_3 := hidT (R8_2.out.below hb9)
          have L8_3 := hidT (keepH L8_2.out hb9)
          have R9_1 := hidT (R9_0.out.below hb9)
          have L9_1 := hidT (keepH L9_0.out hb9)
          clear B_10 Lb_10 Ib_10 Eb_10 L_10 E_10 R7_4 L7_4 R8_2 L8_2 R9_0 L9_0
          clear hb9 NE C1 C2 C3 C5 b0 b1 b2 b3 b4 b5 w1 w2 y1 y2 y3 kx0 kx1 kx2 kx3 kx4 kp0 kp1 kp2 kp3 kp4 kq0 kq1 kq2 kq3 kq4 kr0 kr1 kr2 kr3 kr4
          clear L7_5
          clear R7_5
          go_wp2_with fail
          go_loopw [12, 13] (fun z i wr => ∃ j k2 : Nat, j ≤ n9 ∧ i = .int .i64 j ∧ z = .int .i64 k2 ∧ Hid (((l.es.take j).filter (keepsQ s)).length = k2) ∧ Hid (Below w9.heap.size w9 wr)) (fun _ i _ => n9 - (intOf i).toNat)
          case atStart => exact ⟨0, 0, Nat.zero_le _, rfl, rfl, hidT rfl, hidT (Below.refl _ _)⟩
          case round =>
            obtain ⟨j, k2, hj, rfl, rfl, HK, HB⟩ := hrel
            have B_12 := hidT (bthen B_11.out HB.out)
            have Lb_12 := hidT (keepH Lb_11.out HB.out)
            have Ib_12 := hidT (keepH Ib_11.out HB.out)
            have Eb_12 := hidT (keepH Eb_11.out HB.out)
            have L_12 := hidT (L_11.out.below HB.out)
            have E_12 := hidT (E_11.out.below HB.out)
            have R8_4 := hidT (R8_3.out.below HB.out)
            have L8_4 := hidT (keepH L8_3.out HB.out)
            have R9_2 := hidT (R9_1.out.below HB.out)
            have L9_2 := hidT (keepH L9_1.out HB.out)
            clear B_11 Lb_11 Ib_11 Eb_11 L_11 E_11 R8_3 L8_3 R9_1 L9_1
            have hnp : n9 ≤ 80 := hn80
            by_cases hjn : j < n9
            · skip
              obtain ⟨b, o, x, BA, bn, bc, LA, ln, lc, rfl, hx, _, _, _, _, hcs⟩ := (L_12.out.parts).told hjn
              have HCS := hidT hcs
              have d1 := (hcs wr (Below.refl _ _)).2.1
              have HX := hidT hx
              have x1 : (0 : Int) ≤ (j : Int) := by omega
              have x2 : (j : Int) < (n9 : Int) := by omega
              have x3 : (j : Int) + 1 ≤ (c : Int) := by omega
              have x4 : j + 1 ≤ c := by omega
              have x5 : ¬ c = j := by omega
              have x6 : ((j : Int) + 1).toNat = j + 1 := by omega
              have x7 : (j : Int) ≤ (j : Int) + 1 := by omega
              have E1 := hidT ((L_12.out.parts).one hx)
              clear hcs hx
              obtain ⟨i0, i1, i2, i3, i4⟩ := cells5 Lb_12.out
              by_cases hs : x.q = s
              · have v1 : (x.q != s) = false := by simpa using hs
                have HF : Hid (keepsQ s x = false) := hidT (by simp [keepsQ, hs])
                clear hs
                go_wp2_with fail
                clear d1 v1 i0 i1 i2 i3 i4
                have HW9 := hidT (Below.refl wr.heap.size wr)
                have HR9 := HW9
                by_cases he : x.q = e.q
                · have v2 : (x.q != e.q) = false := by simpa using he
                  have NE := Later.ne wr
                  obtain ⟨z0, z1, z2, z3, z4⟩ := cells5 Lb_12.out
                  have kx0 := Later.cell z0
                  have kx1 := Later.cell z1
                  have kx2 := Later.cell z2
                  have kx3 := Later.cell z3
                  have kx4 := Later.cell z4
                  clear z0 z1 z2 z3 z4
                  obtain ⟨z0, z1, z2, z3, z4⟩ := cells5 L9_2.out
                  have kr0 := Later.cell z0
                  have kr1 := Later.cell z1
                  have kr2 := Later.cell z2
                  have kr3 := Later.cell z3
                  have kr4 := Later.cell z4
                  clear z0 z1 z2 z3 z4
                  obtain ⟨z0, z1, z2, z3, z4⟩ := cells5 Eb_12.out
                  have ke0 := Later.cell z0
                  have ke1 := Later.cell z1
                  have ke2 := Later.cell z2
                  have ke3 := Later.cell z3
                  have ke4 := Later.cell z4
                  clear z0 z1 z2 z3 z4
                  have kd := fun m : Later wr => (HCS.out m.w (bthen HW9.out m.h)).2.1
                  refine wp_later (by kernel_rfl) (by kernel_rfl) ?_
                  repeat (go_big_quiet_step ((fail)))
                  refine wpQuiet_nil ?_
                  intro w9 hw9
                  obtain ⟨⟨_, hb9⟩, rfl⟩ := hw9
                  have HBN := hidT (bthen HB.out (bthen HW9.out hb9))
                  clear hb9 NE kd v2 he kx0 kx1 kx2 kx3 kx4 kr0 kr1 kr2 kr3 kr4 ke0 ke1 ke2 ke3 ke4
                  go_wp2
                  exact ⟨⟨j + 1, k2, by omega, by go_num, by go_num, hidT (by have h := Lane.filter_step (keepsQ s) l.es j x HX.out; rw [HK.out, HF.out] at h; exact h), HBN⟩, by simp [intOf]; omega⟩
                · have v2 : (x.q != e.q) = true := by simpa using he
                  have NE := Later.ne wr
                  obtain ⟨z0, z1, z2, z3, z4⟩ := cells5 Lb_12.out
                  have kx0 := Later.cell z0
                  have kx1 := Later.cell z1
                  have kx2 := Later.cell z2
                  have kx3 := Later.cell z3
                  have kx4 := Later.cell z4
                  clear z0 z1 z2 z3 z4
                  obtain ⟨z0, z1, z2, z3, z4⟩ := cells5 L9_2.out
                  have kr0 := Later.cell z0
                  have kr1 := Later.cell z1
                  have kr2 := Later.cell z2
                  have kr3 := Later.cell z3
                  have kr4 := Later.cell z4
                  clear z0 z1 z2 z3 z4
                  obtain ⟨z0, z1, z2, z3, z4⟩ := cells5 Eb_12.out
                  have ke0 := Later.cell z0
                  have ke1 := Later.cell z1
                  have ke2 := Later.cell z2
                  have ke3 := Later.cell z3
                  have ke4 := Later.cell z4
                  clear z0 z1 z2 z3 z4
                  have kd := fun m : Later wr => (HCS.out m.w (bthen HW9.out m.h)).2.1
                  have hN9 := H8.out j x HX.out he
                  have hj9 : j < n9 := hjn
                  obtain ⟨b9, o9, rfl⟩ := (R9_2.out.parts).addr (by omega)
                  have E9 := hidT ((R9_2.out.parts).one hN9)
                  have y3 : (j : Int) + 1 ≤ (c9 : Int) := by omega
                  have y4 : j + 1 ≤ c9 := by omega
                  have y5 : ¬ c9 = j := by omega
                  have CE := hidT fun m : Later wr => rentries_any _ _ _ [x] _ _ _ [x] m.w (E9.out.below (bthen HR9.out m.h)) (E1.out.below (bthen HW9.out m.h)) true (by simp)
                  clear hN9
                  have w1 : IntKind.i64.wrap ((j : Int) + 1) = (j : Int) + 1 := IntWalk.i64_in _ (by omega)
                  have w2 : wrap64 ((j : Int) + 1) = (j : Int) + 1 := IntWalk.wrap64_in _ (by omega)
                  refine wp_later (by kernel_rfl) (by kernel_rfl) ?_
                  repeat (go_big_quiet_step ((first | (go_at_call 21; with_reducible exact Later.bool (CE.out _)) | fail)))
                  refine wpQuiet_nil ?_
                  intro w9 hw9
                  obtain ⟨⟨_, hb9⟩, rfl⟩ := hw9
                  clear w1 w2
                  have HBN := hidT (bthen HB.out (bthen HW9.out hb9))
                  clear hb9 NE kd v2 he kx0 kx1 kx2 kx3 kx4 kr0 kr1 kr2 kr3 kr4 ke0 ke1 ke2 ke3 ke4 y3 y4 y5
                  go_wp2
                  exact ⟨⟨j + 1, k2, by omega, by go_num, by go_num, hidT (by have h := Lane.filter_step (keepsQ s) l.es j x HX.out; rw [HK.out, HF.out] at h; exact h), HBN⟩, by simp [intOf]; omega⟩
              · have v1 : (x.q != s) = true := by simpa using hs
                have HF : Hid (keepsQ s x = true) := hidT (by simp [keepsQ, hs])
                have hP8 : P.es[k2]? = some x := by have h := Lane.filter_at (keepsQ s) l.es j x HX.out HF.out; rw [HK.out, ← H7.out] at h; exact h
                clear hs
                go_wp2_with fail
                clear d1 v1 i0 i1 i2 i3 i4
                have hk8 : k2 < n8 := by have := (List.getElem?_eq_some_iff.1 hP8).1; have := HP8.out; omega
                have hkj : k2 ≤ 80 := by have h1 := HK.out; have h2 := List.length_filter_le (keepsQ s) (l.es.take j); have h3 := List.length_take_le j l.es; omega
                have g1 : decide ((n8 : Int) ≤ (k2 : Int)) = false := by simp; omega
                have g2 : decide (n8 ≤ k2) = false := by simp; omega
                have g3 : (0 : Int) ≤ (k2 : Int) := by omega
                have g4 : (k2 : Int) + 1 ≤ (c8 : Int) := by omega
                have g5 : k2 + 1 ≤ c8 := by omega
                have g6 : ¬ c8 = k2 := by omega
                have g7 : ((k2 : Int) + 1).toNat = k2 + 1 := by omega
                have g8 : (k2 : Int) ≤ (k2 : Int) + 1 := by omega
                obtain ⟨b8, o8, rfl⟩ := (R8_4.out.parts).addr (by omega)
                have E8 := hidT ((R8_4.out.parts).one hP8)
                have CE := hidT fun m : Later wr => rentries_any _ _ _ [x] _ _ _ [x] m.w (E8.out.below m.h) (E1.out.below m.h) true (by simp)
                have NE := Later.ne wr
                clear hP8
                obtain ⟨z0, z1, z2, z3, z4⟩ := cells5 Lb_12.out
                have kx0 := Later.cell z0
                have kx1 := Later.cell z1
                have kx2 := Later.cell z2
                have kx3 := Later.cell z3
                have kx4 := Later.cell z4
                clear z0 z1 z2 z3 z4
                obtain ⟨z0, z1, z2, z3, z4⟩ := cells5 L8_4.out
                have kq0 := Later.cell z0
                have kq1 := Later.cell z1
                have kq2 := Later.cell z2
                have kq3 := Later.cell z3
                have kq4 := Later.cell z4
                clear z0 z1 z2 z3 z4
                have w1 : IntKind.i64.wrap ((j : Int) + 1) = (j : Int) + 1 := IntWalk.i64_in _ (by omega)
                have w3 : IntKind.i64.wrap ((k2 : Int) + 1) = (k2 : Int) + 1 := IntWalk.i64_in _ (by omega)
                have w2 : wrap64 ((j : Int) + 1) = (j : Int) + 1 := IntWalk.wrap64_in _ (by omega)
                have w4 : wrap64 ((k2 : Int) + 1) = (k2 : Int) + 1 := IntWalk.wrap64_in _ (by omega)
                refine wp_later (by kernel_rfl) (by kernel_rfl) ?_
                repeat (go_big_quiet_step ((first | (go_at_call 21; with_reducible exact Later.bool (CE.out _)) | fail)))
                refine wpQuiet_nil ?_
                intro w9 hw9
                obtain ⟨⟨_, hb9⟩, rfl⟩ := hw9
                clear w1 w2 w3 w4 g1 g2 g4 g5 g6 g7 g8 NE CE E8 kx0 kx1 kx2 kx3 kx4 kq0 kq1 kq2 kq3 kq4
                have B_13 := hidT (bthen B_12.out hb9)
                have Lb_13 := hidT (keepH Lb_12.out hb9)
                have Ib_13 := hidT (keepH Ib_12.out hb9)
                have Eb_13 := hidT (keepH Eb_12.out hb9)
                have L_13 := hidT (L_12.out.below hb9)
                have E_13 := hidT (E_12.out.below hb9)
                have R8_5 := hidT (R8_4.out.below hb9)
                have L8_5 := hidT (keepH L8_4.out hb9)
                have R9_3 := hidT (R9_2.out.below hb9)
                have L9_3 := hidT (keepH L9_2.out hb9)
                have HW9 := hidT hb9
                clear hb9
                have HR9 := hidT (Below.refl w9.heap.size w9)
                go_wp2_with fail
                by_cases he : x.q = e.q
                · have v2 : (x.q != e.q) = false := by simpa using he
                  have NE := Later.ne w9
                  obtain ⟨z0, z1, z2, z3, z4⟩ := cells5 Lb_13.out
                  have kx0 := Later.cell z0
                  have kx1 := Later.cell z1
                  have kx2 := Later.cell z2
                  have kx3 := Later.cell z3
                  have kx4 := Later.cell z4
                  clear z0 z1 z2 z3 z4
                  obtain ⟨z0, z1, z2, z3, z4⟩ := cells5 L9_3.out
                  have kr0 := Later.cell z0
                  have kr1 := Later.cell z1
                  have kr2 := Later.cell z2
                  have kr3 := Later.cell z3
                  have kr4 := Later.cell z4
                  clear z0 z1 z2 z3 z4
                  obtain ⟨z0, z1, z2, z3, z4⟩ := cells5 Eb_13.out
                  have ke0 := Later.cell z0
                  have ke1 := Later.cell z1
                  have ke2 := Later.cell z2
                  have ke3 := Later.cell z3
                  have ke4 := Later.cell z4
                  clear z0 z1 z2 z3 z4
                  have kd := fun m : Later w9 => (HCS.out m.w (bthen HW9.out m.h)).2.1
                  refine wp_later (by kernel_rfl) (by kernel_rfl) ?_
                  repeat (go_big_quiet_step ((fail)))
                  refine wpQuiet_nil ?_
                  intro w9 hw9
                  obtain ⟨⟨_, hb9⟩, rfl⟩ := hw9
                  have HBN := hidT (bthen HB.out (bthen HW9.out hb9))
                  clear hb9 NE kd v2 he kx0 kx1 kx2 kx3 kx4 kr0 kr1 kr2 kr3 kr4 ke0 ke1 ke2 ke3 ke4
                  go_wp2
                  exact ⟨⟨j + 1, k2 + 1, by omega, by go_num, by go_num, hidT (by have h := Lane.filter_step (keepsQ s) l.es j x HX.out; rw [HK.out, HF.out] at h; exact h), HBN⟩, by simp [intOf]; omega⟩
                · have v2 : (x.q != e.q) = true := by simpa using he
                  have NE := Later.ne w9
                  obtain ⟨z0, z1, z2, z3, z4⟩ := cells5 Lb_13.out
                  have kx0 := Later.cell z0
                  have kx1 := Later.cell z1
                  have kx2 := Later.cell z2
                  have kx3 := Later.cell z3
                  have kx4 := Later.cell z4
                  clear z0 z1 z2 z3 z4
                  obtain ⟨z0, z1, z2, z3, z4⟩ := cells5 L9_3.out
                  have kr0 := Later.cell z0
                  have kr1 := Later.cell z1
                  have kr2 := Later.cell z2
                  have kr3 := Later.cell z3
                  have kr4 := Later.cell z4
                  clear z0 z1 z2 z3 z4
                  obtain ⟨z0, z1, z2, z3, z4⟩ := cells5 Eb_13.out
                  have ke0 := Later.cell z0
                  have ke1 := Later.cell z1
                  have ke2 := Later.cell z2
                  have ke3 := Later.cell z3
                  have ke4 := Later.cell z4
                  clear z0 z1 z2 z3 z4
                  have kd := fun m : Later w9 => (HCS.out m.w (bthen HW9.out m.h)).2.1
                  have hN9 := H8.out j x HX.out he
                  have hj9 : j < n9 := hjn
                  obtain ⟨b9, o9, rfl⟩ := (R9_3.out.parts).addr (by omega)
                  have E9 := hidT ((R9_3.out.parts).one hN9)
                  have y3 : (j : Int) + 1 ≤ (c9 : Int) := by omega
                  have y4 : j + 1 ≤ c9 := by omega
                  have y5 : ¬ c9 = j := by omega
                  have CE := hidT fun m : Later w9 => rentries_any _ _ _ [x] _ _ _ [x] m.w (E9.out.below (bthen HR9.out m.h)) (E1.out.below (bthen HW9.out m.h)) true (by simp)
                  clear hN9
                  have w1 : IntKind.i64.wrap ((j : Int) + 1) = (j : Int) + 1 := IntWalk.i64_in _ (by omega)
                  have w2 : wrap64 ((j : Int) + 1) = (j : Int) + 1 := IntWalk.wrap64_in _ (by omega)
                  refine wp_later (by kernel_rfl) (by kernel_rfl) ?_
                  repeat (go_big_quiet_step ((first | (go_at_call 21; with_reducible exact Later.bool (CE.out _)) | fail)))
                  refine wpQuiet_nil ?_
                  intro w9 hw9
                  obtain ⟨⟨_, hb9⟩, rfl⟩ := hw9
                  clear w1 w2
                  have HBN := hidT (bthen HB.out (bthen HW9.out hb9))
                  clear hb9 NE kd v2 he kx0 kx1 kx2 kx3 kx4 kr0 kr1 kr2 kr3 kr4 ke0 ke1 ke2 ke3 ke4 y3 y4 y5
                  go_wp2
                  exact ⟨⟨j + 1, k2 + 1, by omega, by go_num, by go_num, hidT (by have h := Lane.filter_step (keepsQ s) l.es j x HX.out; rw [HK.out, HF.out] at h; exact h), HBN⟩, by simp [intOf]; omega⟩
            · have hje : j = n9 := by omega
              subst hje
              have hk8 : k2 = n8 := by
                have h := HK.out
                rw [List.take_of_length_le (by rw [HLEN.out]; exact Nat.le_refl _), ← H7.out, HP8.out] at h
                exact h.symm
              subst hk8
              have v3 : ((k2 : Int) == (k2 : Int)) = true := by simp
              obtain ⟨i0, i1, i2, i3, i4⟩ := cells5 Lb_12.out
              obtain ⟨t0, t1, t2, t3, t4⟩ := cells5 L8_4.out
              go_wp2
              go_ret
              exact ⟨rfl, B_12.out⟩
end Go.Proofs.Ytmlmkkfieeaejaa
