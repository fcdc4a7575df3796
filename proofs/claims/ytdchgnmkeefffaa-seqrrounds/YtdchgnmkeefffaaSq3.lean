/- What the closure comes to that tells what a walk delivers next. -/
import Derived.Test.YtdchgnmkeefffaaSqSt
import Derived.Test.YtdchgnmkeefffaaLDX
import Derived.Test.YtdchgnmkeefffaaLPX
import Derived.Test.YtdchgnmkeefffaaLSX
import Derived.Deep.CutRange
import Derived.Deep.QuietTactic
import Derived.BigQuiet
import Derived.Deep.RegionHeldLaw
import Derived.Deep.RegionLaw
set_option maxRecDepth 100000
namespace Go.Proofs.Ytdchgnmkeefffaa
open Go.RowKit
set_option linter.unusedVariables false

set_option maxHeartbeats 16000000 in
theorem sqNext_any (p0 p1 q g n cap base : Nat) (S : Nat → Prop) (w : World) (t0 : Seqr.Tn) (ls0 : List Lane.Ln) (hst : SqState p0 p1 q g n cap base S w t0 ls0) (hok : Seqr.Ok t0 ls0) (hsm : SmallLs ls0) (hn : n ≤ 64)
    (hu0 : 0 ≤ t0.used) (hu1 : t0.used + Seqr.mu ls0 ≤ 4611686018427387904) (hSg : ¬ S g) (hSq : ¬ S q) (hSn : ∀ b, w.heap.size ≤ b → S b) (h0g : p0 ≠ g) (h0q : p0 ≠ q) (h1g : p1 ≠ g) (h1q : p1 ≠ q) (hqg : q ≠ g) (hg0 : g < w.heap.size) :
    Calls Try.prog 51 #[.pointer (some ⟨p0, 0, none⟩), .pointer (some ⟨p1, 0, none⟩)] w (NextIs p0 p1 q g n cap base S w t0 ls0) := by
  have hlen : ls0.length = n := hst.rdl.size
  obtain ⟨r0, hr0⟩ : ∃ r, w.heap.size = r := ⟨_, rfl⟩
  have y0 := alloc_at w (.cells dz 55) _ rfl
  have n0 := nkeep w (.cells dz 55)
  have hJ0 : PassJ p0 p1 q g n cap base r0 (fun b => S b ∧ b ≠ r0) (w.alloc (.cells dz 55)) t0 ls0 (Seqr.mu ls0) (w.alloc (.cells dz 55)) := by
    obtain ⟨s0, s1, s2, rs, s3, s4⟩ := hst
    refine ⟨t0, ls0, rfl, .refl _ _, ⟨cellC n0 s0, cellC n0 s1, keepH s2 n0, rs, s3.later n0, (s4.ltS.below n0).mono fun b hb => ⟨hb.1, by omega⟩⟩, Kept2.refl _ _ _, by rw [← hr0]; exact y0⟩
  have HJ0 := hidT hJ0
  have HST := hidT hst
  have HOK := hidT hok
  have HSM := hidT hsm
  have HSG := hidT hSg
  have HSQ := hidT hSq
  have HSN := hidT hSn
  have HU1 := hidT hu1
  have HU0 := hidT hu0
  have HLEN := hidT hlen
  have HR0 := hidT hr0
  have HN0 := hidT n0
  have HG0 := hidT hg0
  have HW0S : Hid ((w.alloc (.cells dz 55)).heap.size = r0 + 1) := hidT (by rw [size_alloc, hr0])
  clear hJ0 hst hok hsm hSg hSq hSn hu0 hu1 hlen y0 n0 hg0
  go_enter Try.func51, Try.ntmps51
  go_wp2_with fail
  clear hr0
  obtain ⟨w0, hw0⟩ : ∃ w0, w.alloc (.cells dz 55) = w0 := ⟨_, rfl⟩
  have HW0 := hidT hw0
  rw [hw0] at HJ0 HN0 HW0S ⊢
  clear hw0
  refine wp_scope_jumps_from 0 (fun a' w' => (∃ f : Nat → Value, a' = { tmps := (List.toArray (.pointer (some ⟨p0, 0, none⟩) :: .pointer (some ⟨p1, 0, none⟩) :: .pointer (some ⟨r0, 0, none⟩) :: .bool false :: f 4 :: f 5 :: f 6 :: f 7 :: f 8 :: f 9 :: f 10 :: f 11 :: f 12 :: f 13 :: f 14 :: f 15 :: f 16 :: f 17 :: f 18 :: f 19 :: f 20 :: f 21 :: f 22 :: f 23 :: f 24 :: f 25 :: f 26 :: f 27 :: f 28 :: f 29 :: f 30 :: f 31 :: f 32 :: f 33 :: f 34 :: f 35 :: f 36 :: f 37 :: f 38 :: f 39 :: f 40 :: f 41 :: f 42 :: f 43 :: f 44 :: f 45 :: f 46 :: f 47 :: f 48 :: f 49 :: f 50 :: f 51 :: f 52 :: f 53 :: f 54 :: f 55 :: f 56 :: f 57 :: f 58 :: f 59 :: f 60 :: f 61 :: f 62 :: f 63 :: f 64 :: f 65 :: f 66 :: f 67 :: f 68 :: f 69 :: f 70 :: f 71 :: f 72 :: f 73 :: f 74 :: f 75 :: f 76 :: f 77 :: f 78 :: f 79 :: f 80 :: f 81 :: f 82 :: f 83 :: f 84 :: f 85 :: f 86 :: f 87 :: f 88 :: f 89 :: f 90 :: f 91 :: f 92 :: f 93 :: f 94 :: f 95 :: f 96 :: f 97 :: f 98 :: f 99 :: f 100 :: f 101 :: f 102 :: f 103 :: f 104 :: f 105 :: f 106 :: [])), defers := [] }) ∧ ∃ k : Nat, PassJ p0 p1 q g n cap base r0 (fun b => S b ∧ b ≠ r0) w0 t0 ls0 k w')
    (fun _ w' => least fun k => PassJ p0 p1 q g n cap base r0 (fun b => S b ∧ b ≠ r0) w0 t0 ls0 k w') ⟨frame107 _ _ _ _ _ rfl rfl rfl rfl rfl, _, HJ0.out⟩ ?pass
  case pass =>
    rintro a' wr ⟨⟨f, rfl⟩, k0, hJ⟩
    obtain ⟨t, ls, hmu, hgo, hst, hkp, hres⟩ := least_is (R := fun k => PassJ p0 p1 q g n cap base r0 (fun b => S b ∧ b ≠ r0) w0 t0 ls0 k wr) ⟨k0, hJ⟩
    have hok := (hgo.ok HOK.out).1
    have hlen : ls.length = n := ((hgo.ok HOK.out).2).trans HLEN.out
    have hsm := goes_small hgo HSM.out
    have hmu2 := hgo.mu HOK.out
    have hwho : t.who < n := by rw [← hlen]; exact hok.1
    obtain ⟨s0, s1, s2, rs, s3, s4⟩ := id hst
    obtain ⟨b0, o0, l, B, m, d, EA, en, ec, hbo, hx, hil, hcs⟩ := hst.rdl.told hwho
    injection hbo with hbo
    injection hbo with hb1 hb2
    subst hb1 hb2
    have hlane : Seqr.laneAt ls t.who = l := Seqr.laneAt_of hx
    have HC : Hid (∀ w', Below wr.heap.size wr w' → Calls Try.prog 35 #[.agg (tc t), .slice (some ⟨g, 0, none⟩) n cap] w' (GetE w' (Lane.control l))) :=
      hidT fun w' hb => by rw [← hlane]; exact sqControl_any t (some ⟨g, 0, none⟩) n cap ls w' (hst.rdl.below hb) hsm hwho
    obtain ⟨v1, v2⟩ := cells2 s2
    have D1 := nkeep wr (.cells ez 59)
    have k0 := fun w' (hb : Below wr.heap.size wr w') => cellC hb s0
    have k1 := fun w' (hb : Below wr.heap.size wr w') => cellC hb s1
    have k2 := fun w' (hb : Below wr.heap.size wr w') => cellC hb v1
    have k3 := fun w' (hb : Below wr.heap.size wr w') => cellC hb v2
    obtain ⟨e, he⟩ : ∃ e, (Lane.control l).getD Lane.En.zero = e := ⟨_, rfl⟩
    obtain ⟨yes, hyes⟩ : ∃ b, (Lane.control l).isSome = b := ⟨_, rfl⟩
    have HYES := hidT hyes
    have HEE := hidT he
    have HMU := hidT hmu
    have HGO := hidT hgo
    have HSTT := hidT hst
    have HKP := hidT hkp
    have HRES := hidT hres
    have HOKK := hidT hok
    have HLENN := hidT hlen
    have HSMM := hidT hsm
    have HMU2 := hidT hmu2
    have HWHO := hidT hwho
    have HX := hidT hx
    have HIL := hidT hil
    have HCS := hidT hcs
    have HLANE := hidT hlane
    clear hmu hgo hst hkp hres hok hlen hsm hmu2 hx hil hcs hlane he hyes s0 s1 s2 s3 s4 v1 v2 hJ
    go_upto_region 1 with fail
    go_cut [4, 5] from 9 to 16 (fun x4 x5 wc => ∃ pe BA bn bc LA ln lc, x4 = .pointer (some ⟨pe, 0, none⟩) ∧ x5 = .bool yes ∧ wc.heap[pe]? = some (.cells #[.int .i64 (Lane.En.k e), .int .i64 e.q, .slice BA bn bc, .slice LA ln lc, .bool e.h] 59 (0, 0)) ∧ Rd wc BA bn bc e.b ∧ RdI wc LA ln lc e.l ∧ Below wr.heap.size wr wc ∧ wr.heap.size ≤ pe ∧ Within (fun b => wr.heap.size ≤ b ∧ b ≠ pe) LA ln)
    case first =>
      go_region_held_law (fun w' => Below wr.heap.size wr w')
        (first | exact (Below.refl _ _).drew | exact hbF | exact hb4 | exact D1.drew | exact D1 | exact bthen hb4 (nkeep _ _))
        (first
          | (go_at_call 35; ((with_reducible refine (HC.out _ (Below.refl _ _).drew).mono ?_); rintro e4 w4 ⟨v4, rfl, hi4, hb4'⟩; have hb4 : Below wr.heap.size wr w4 := undrew hb4'; obtain ⟨r4, rfl, hs4, ha4⟩ := hi4.cells; rw [HYES.out]; rw [HEE.out] at hi4; obtain ⟨wx, hrunx, hgx, hbutx, hbelx⟩ := st8 (alloc_at w4 (.cells ez 59) _ rfl) r4 (by rw [hs4]; rfl) ha4; have hbF : Below wr.heap.size wr wx := hbelx.out _ _ (bthen hb4 (nkeep _ _)) hb4.size))
          | (go_at_call 35; ((with_reducible refine (HC.out _ D1.drew).mono ?_); rintro e4 w4 ⟨v4, rfl, hi4, hb4'⟩; have hb4 : Below wr.heap.size wr w4 := bthen D1 (undrew hb4'); have y4 := keepH (alloc_at wr (.cells ez 59) _ rfl) (undrew hb4'); obtain ⟨r4, rfl, hs4, ha4⟩ := hi4.cells; rw [HYES.out]; rw [HEE.out] at hi4; obtain ⟨wx, hrunx, hgx, hbutx, hbelx⟩ := st8 y4 r4 (by rw [hs4]; rfl) ha4; have hbF : Below wr.heap.size wr wx := hbelx.out _ _ hb4 (Nat.le_refl _)))
          | fail)
      · have hbx : Below w4.heap.size w4 wx := hbelx.out _ _ (nkeep _ _) (Nat.le_refl _)
        obtain ⟨BA, bn, bc, LA, ln, lc, ev, hrb, hrl, _, hwl⟩ := hi4
        injection ev with ev
        subst ev
        have hlt : Within (fun b => wr.heap.size ≤ b ∧ b ≠ w4.heap.size) LA ln := (hwl.and (RdI.lt hrl)).mono fun b hb => ⟨hb.1, fun e => by have := hb.2; omega⟩
        have hrb := hrb.below hbx
        have hrl := RdV.below hrl hbx
        have hpe : wr.heap.size ≤ w4.heap.size := hb4.size
        have HGX := hgx.out
        clear hbx hrunx hgx hbutx hbelx
        go_wp2_with fail
        go_meet
        exact ⟨_, BA, bn, bc, LA, ln, lc, rfl, rfl, HGX, hrb, hrl, hbF, hpe, hlt⟩
      · obtain ⟨BA, bn, bc, LA, ln, lc, ev, hrb, hrl, _, hwl⟩ := hi4.keptS (KeptS.hi hbutx.out (show wr.heap.size < (wr.alloc (.cells ez 59)).drew.heap.size by show wr.heap.size < (wr.alloc (.cells ez 59)).heap.size; rw [size_alloc]; omega))
        injection ev with ev
        subst ev
        have HGX := hgx.out
        clear hrunx hgx hbutx hbelx
        go_wp2_with fail
        go_meet
        have hsz : wr.heap.size < (wr.alloc (.cells ez 59)).heap.size := by rw [size_alloc]; omega
        exact ⟨_, BA, bn, bc, LA, ln, lc, rfl, rfl, HGX, hrb, hrl, hbF, Nat.le_refl _, hwl.mono fun b hb => by have hb2 : (wr.alloc (.cells ez 59)).heap.size ≤ b := hb; exact ⟨by omega, by omega⟩⟩
    case rest =>
      obtain ⟨pe, BA, bn, bc, LA, ln, lc, rfl, rfl, hpe, hrb, hrl, hbc, hple, hwl⟩ := hcut
      obtain ⟨wd, rfl⟩ : ∃ wd, wd = wc := ⟨_, rfl⟩
      have HSTC := hidT (HSTT.out.below hbc)
      have HRESC := hidT (keepH HRES.out hbc)
      have HK0 : Hid (Kept2 g q w w0) := hidT (Kept2.of HN0.out)
      have HKC : Hid (Kept2 g q w0 wd) := hidT (HKP.out.trans (Kept2.of hbc))
      have hws : w.heap.size = r0 := HR0.out
      have hw0s : w0.heap.size = r0 + 1 := HW0S.out
      have hwrs : r0 + 1 ≤ wr.heap.size := by have := HKP.out.1.size; omega
      have hqlt : q < r0 := by have := blk_lt HST.out.2.2.1; omega
      have hglt : g < r0 := by have := HG0.out; omega
      have hp0 : p0 < r0 := by have := World.block_lt_of_cell? w _ HST.out.1; simpa [hws] using this
      have hp1 : p1 < r0 := by have := World.block_lt_of_cell? w _ HST.out.2.1; simpa [hws] using this
      have HQL := hidT hqlt
      have HGL := hidT hglt
      have HP0 := hidT hp0
      have HP1 := hidT hp1
      have HWRS := hidT hwrs
      have HSGX : Hid (¬ (S g ∧ g ≠ r0)) := hidT fun h => HSG.out h.1
      have HSQX : Hid (¬ (S q ∧ q ≠ r0)) := hidT fun h => HSQ.out h.1
      have HNEW : Hid (∀ Y, r0 + 1 ≤ Y → ∀ b, Y ≤ b → S b ∧ b ≠ r0) := hidT fun Y hY b hb => ⟨HSN.out b (by omega), by omega⟩
      have HRL := hidT hrl
      have HRB := hidT hrb
      have HWL := hidT hwl
      have HBC := hidT hbc
      have HPL := hidT hple
      have HPE := hidT hpe
      clear hws hw0s hwrs hqlt hglt hp0 hp1 hrl hrb hwl hple
      cases hcl : Lane.control l with
      | none =>
        obtain rfl : yes = false := by rw [← HYES.out, hcl]; rfl
        have HSTEP := hidT (Seqr.step_none (t := t) (ls := ls) (by rw [HLANE.out]; exact hcl))
        have hres := HRESC.out
        clear hcl hpe hbc k0 k1 k2 k3
        go_wp2_with (
          refine wpList_stI rfl 55 _ _ rfl r0 dz rfl rfl _ _ hres sizeDv rfl (by simp [Value.oneCell']) ?_
          intro w7 hg7 hbut hbel)
        simp only [Exit.jump]
        obtain ⟨e0, e1⟩ := cells2 hg7
        exact bodyPost_ret (v := .tuple #[.agg dz, .bool false]) (by simp [results, Try.results51, go_sem, e0, e1]) rfl
          ⟨none, _, t, ls, rfl, HGO.out, fun _ => HSTEP.out, (HSTC.out.butNe hbut (fun h => h.2 rfl) (by have := HP0.out; omega) (by have := HP1.out; omega) (by have := HQL.out; omega) (by have := HGL.out; omega)).mono fun b h => h.1,
            (HK0.out.trans HKC.out).new hbut hbel (by have := HR0.out; omega), none, 0, 0, rfl, Rd.nil_ _, Within.zero _ _⟩
      | some x =>
        obtain rfl : yes = true := by rw [← HYES.out, hcl]; rfl
        obtain rfl : x = e := by rw [← HEE.out, hcl]; rfl
        have HCON : Hid (Lane.control (Seqr.laneAt ls t.who) = some x) := hidT (by rw [HLANE.out]; exact hcl)
        have hmay : Lane.may x = true := HOKK.out.may (Seqr.control_mem HCON.out).1
        have HMAY := hidT hmay
        have hsmx : SmallE x := (HSMM.out.at_ t.who).2.1 x (Seqr.control_mem HCON.out).1
        have HSMX := hidT hsmx
        have a0 := k0 wd hbc
        have a1 := k1 wd hbc
        have a2 := k2 wd hbc
        have x1 : (0 : Int) ≤ (t.who : Int) := by omega
        have x2 : (t.who : Int) < (n : Int) := by have := HWHO.out; omega
        clear hcl hmay hsmx
        go_wp2_with fail
        go_quiet (fail)
        have BX := drawn_below wd nq
        have hpeX := keepH HPE.out BX
        have HRLX := hidT (RdV.below HRL.out BX)
        have HRBX := hidT (HRB.out.below BX)
        have HSTX := hidT (HSTC.out.below BX)
        have HRESX := hidT (keepH HRESC.out BX)
        have HBX := hidT (bthen HBC.out BX)
        have HKX : Hid (Kept2 g q w0 (wd.drewN nq)) := hidT (HKC.out.trans (Kept2.of BX))
        generalize wd.drewN nq = X at *
        clear a0 a1 a2 hbc hpe BX
        obtain ⟨i0, i1, i2, i3, i4⟩ := cells5 hpeX
        have b0 := k0 X HBX.out
        have b1 := k1 X HBX.out
        have HPEX := hidT hpeX
        clear hpeX k0 k1 k2 k3
        obtain ⟨c0, c1, c2, c3, c4⟩ := HCS.out X HBX.out
        simp only [Nat.zero_add] at c0 c1 c2 c3 c4
        have hll := RdI.size HRLX.out
        cases hel : x.l with
        | nil =>
          have HEL := hidT hel
          have hln : ln = 0 := by rw [hel] at hll; simpa using hll.symm
          have q1 : ((ln : Int) == 0) = true := by simp [hln]
          have q2 : (ln == 0) = true := by simp [hln]
          clear hel hll hln
          have HP : Hid (∀ w', Below wr.heap.size wr w' → Calls Try.prog 52 #[.agg #[.slice EA en ec, .int .i64 l.p.seq, .int .i64 l.p.total, .int .i64 l.p.got, .slice B m d], .int .i64 x.q] w' (LaneOwn w' (Lane.pop l x.q))) :=
            hidT fun w' hb => pop_any _ l x.q w' (HIL.out.below hb) (by rw [← HLANE.out]; exact HSMM.out.at_ _) (by rw [← HLANE.out]; exact (Lane.right_iff.1 (HOKK.out.at_ _)).1)
          go_upto_region 6 with fail
          go_cut [] from 30 to 37 (fun wc => SqState p0 p1 q g n cap base (fun b => S b ∧ b ≠ r0) wc t (ls.set t.who (Lane.pop l x.q)) ∧ wc.heap[r0]? = some (.cells dz 55 (0, 0)) ∧ Kept2 g q w0 wc ∧ wc.heap[pe]? = some (.cells #[.int .i64 x.k, .int .i64 x.q, .slice BA bn bc, .slice LA ln lc, .bool x.h] 59 (0, 0)))
          case first =>
            go_region_law
              (first
                | (go_simp; go_at_call 52; ((with_reducible refine (HP.out _ HBX.out.drew).mono ?_); rintro e5 w5 ⟨v5, rfl, hi5, hb5'⟩; have hb5 : Below X.heap.size X w5 := undrew hb5'; obtain ⟨r5, rfl, hs5, ha5⟩ := hi5.cells; obtain ⟨wx, hrunx, hstx, hbutx, hbelx⟩ := SqState.put HSTX.out hb5 HWHO.out (hi5.mono (HNEW.out X.heap.size (Nat.le_trans HWRS.out HBX.out.size))) hs5 ha5 HSGX.out h0g h1g hqg))
                | fail)
            all_goals
              have hgl := HGL.out
              have hpl := HPL.out
              have hwrs := HWRS.out
              have y5 := hidT ((hbutx.2 pe (by omega)).trans (keepH HPEX.out hb5))
              have HRES6 := hidT ((hbutx.2 r0 (by omega)).trans (keepH HRESX.out hb5))
              have HK6 : Hid (Kept2 g q w0 wx) := hidT ((HKX.out.trans (Kept2.of hb5)).store hbutx hbelx (.inl rfl))
              have HST6 := hidT hstx
              clear hi5 hb5 hb5' hs5 ha5 hrunx hstx hbutx hbelx hgl hpl hwrs c0 c1 c2 c3 c4 i0 i1 i2 i3 i4 b0 b1
              go_wp2_with fail
              go_meet
              exact ⟨HST6.out, HRES6.out, HK6.out, y5.out⟩
          case rest =>
            obtain ⟨hst6, hres6, hk6, hpe6⟩ := hcut
            obtain ⟨X6, rfl⟩ : ∃ X6, X6 = wc := ⟨_, rfl⟩
            have HST6 := hidT hst6
            have HRES6 := hidT hres6
            have HK6 := hidT hk6
            obtain ⟨d0, d1, d2, -⟩ := id hst6
            clear hst6 hres6 hk6 c0 c1 c2 c3 c4 i0 i1 i2 i3 i4 b0 b1
            obtain ⟨j0, j1, j2, j3, j4⟩ := cells5 hpe6
            clear hpe6
            have hstep := Seqr.step_pop HCON.out HEL.out
            rw [HLANE.out, HLENN.out] at hstep
            cases hh : x.h with
            | true =>
              rw [hh, if_pos rfl] at hstep
              have HSTEP := hidT hstep
              rw [hh] at j4
              have HHD : Hid (∀ w', Calls Try.prog 53 #[.agg (tc t), .int .i64 (n : Int)] w' (fun e w2 => e = .returned (.agg #[.int .i64 ((Seqr.next t n).who : Int), .int .i64 (Seqr.next t n).used]) ∧ Below w'.heap.size w' w2)) := hidT fun w' => handed_any t n w' HWHO.out hn
              obtain ⟨v1, v2⟩ := cells2 d2
              have D2 := hidT d2
              clear hh hstep d2
              go_upto_region 8 with fail
              go_cut [] from 40 to 47 (fun wc => SqState p0 p1 q g n cap base (fun b => S b ∧ b ≠ r0) wc (Seqr.next t n) (ls.set t.who (Lane.pop l x.q)) ∧ wc.heap[r0]? = some (.cells dz 55 (0, 0)) ∧ Kept2 g q w0 wc)
              case first =>
                go_region_law
                  (first
                    | (go_simp; go_at_call 53; ((with_reducible refine (HHD.out _).mono ?_); rintro e6 w6 ⟨rfl, hb6'⟩; have hb6 : Below X6.heap.size X6 w6 := undrew hb6'; have y6 := keepH D2.out hb6; obtain ⟨m0, m1⟩ := cells2 y6; have d06 := cellC hb6 d0; have d16 := cellC hb6 d1; have f0 := no_frozen y6 0; have f1 := no_frozen y6 1))
                    | fail)
                all_goals
                  obtain ⟨z1, z2, z3⟩ := set2x y6 (.int .i64 ((Seqr.next t n).who : Int)) (.int .i64 (Seqr.next t n).used)
                  have hql := HQL.out
                  have HST7 := hidT ((HST6.out.below hb6).turn (Seqr.next t n) HSQX.out h0q h1q hqg z2 z1)
                  have HRES7 := hidT ((z2.2 r0 (by omega)).trans (keepH HRES6.out hb6))
                  have HK7 := hidT ((HK6.out.trans (Kept2.of hb6)).store z2 z3 (.inr rfl))
                  clear z1 z2 z3 hql y6 hb6 hb6' m0 m1 f0 f1 d06 d16 j0 j1 j2 j3 j4 v1 v2 d0 d1
                  go_wp2_with fail
                  go_meet
                  exact ⟨HST7.out, HRES7.out, HK7.out⟩
              case rest =>
                obtain ⟨hst7, hres7, hk7⟩ := hcut
                have HJ : PassJ p0 p1 q g n cap base r0 (fun b => S b ∧ b ≠ r0) w0 t0 ls0 (Seqr.mu (ls.set t.who (Lane.pop l x.q))) wc := ⟨_, _, rfl, HGO.out.snoc HSTEP.out, hst7, hk7, hres7⟩
                have HJJ := hidT HJ
                clear HJ hst7 hk7 hres7 d0 d1 j0 j1 j2 j3 j4 v1 v2
                go_wp2_with fail
                go_step3
                refine ⟨rfl, ⟨frame107 _ _ _ _ _ rfl rfl rfl rfl rfl, _, HJJ.out⟩, ?_⟩
                have h1 := least_le (R := fun k => PassJ p0 p1 q g n cap base r0 (fun b => S b ∧ b ≠ r0) w0 t0 ls0 k wc) HJJ.out
                have h2 := Seqr.step_mu HOKK.out HSTEP.out
                have h3 := HMU.out
                omega
            | false =>
              rw [hh, if_neg (by simp)] at hstep
              have HSTEP := hidT hstep
              rw [hh] at j4
              have HJJ : Hid (PassJ p0 p1 q g n cap base r0 (fun b => S b ∧ b ≠ r0) w0 t0 ls0 (Seqr.mu (ls.set t.who (Lane.pop l x.q))) X6) := hidT ⟨_, _, rfl, HGO.out.snoc HSTEP.out, HST6.out, HK6.out, HRES6.out⟩
              clear hh hstep d2 d0 d1
              go_wp2_with fail
              go_step3
              refine ⟨rfl, ⟨frame107 _ _ _ _ _ rfl rfl rfl rfl rfl, _, HJJ.out⟩, ?_⟩
              have h1 := least_le (R := fun k => PassJ p0 p1 q g n cap base r0 (fun b => S b ∧ b ≠ r0) w0 t0 ls0 k X6) HJJ.out
              have h2 := Seqr.step_mu HOKK.out HSTEP.out
              have h3 := HMU.out
              omega
        | cons s r =>
          have HEL := hidT hel
          obtain ⟨kk1, kk2, kk3, kk4, kk5, kk6, kk7⟩ := Seqr.order_kind HMAY.out hel
          obtain ⟨sn, rfl⟩ : ∃ sn : Nat, s = (sn : Int) := ⟨s.toNat, by omega⟩
          have hrlx := HRLX.out
          rw [hel] at hrlx
          have hln : ln = r.length + 1 := by rw [hel] at hll; simpa using hll.symm
          have q1 : ((ln : Int) == 0) = false := by simp; omega
          have q2 : (ln == 0) = false := by simp; omega
          obtain ⟨bL, oL, y, hLA, hy, hcy⟩ := RdI.at_ hrlx (k := 0) (by omega)
          subst hLA
          have hy2 : y = (sn : Int) := by simpa using hy.symm
          subst hy2
          simp only [Nat.add_zero] at hcy
          obtain ⟨Q, hQ⟩ : ∃ Q : Option Addr, (if lc = 1 then some ⟨bL, oL, none⟩ else some ⟨bL, oL + 1, none⟩) = Q := ⟨_, rfl⟩
          have htl := RdI.tail hrlx Q hQ
          have hbL := HWL.out (by omega) bL oL rfl
          have hQb : ∀ b o, Q = some ⟨b, o, none⟩ → b = bL := fun b o e => by
            rw [← hQ] at e
            split at e
            · injection e with e; injection e with e1 e2; exact e1.symm
            · injection e with e; injection e with e1 e2; exact e1.symm
          have z0 : (0 : Int) < (ln : Int) := by omega
          have z1 : (1 : Int) ≤ (ln : Int) := by omega
          have hlc := hrlx.2.1
          have z2 : (ln : Int) ≤ (lc : Int) := by omega
          have hw1 : IntKind.i64.wrap 1 = 1 := by decide
          have f3 := no_frozen HPEX.out 3
          have y3 : (X.setCell ⟨pe, 3, none⟩ (.slice Q (ln - 1) (lc - 1))).heap[pe]? = some (.cells #[.int .i64 x.k, .int .i64 x.q, .slice BA bn bc, .slice Q (ln - 1) (lc - 1), .bool x.h] 59 (0, 0)) := heap_setCell_same X pe 3 _ _ _ HPEX.out
          have zb : But pe X (X.setCell ⟨pe, 3, none⟩ (.slice Q (ln - 1) (lc - 1))) := But.setCell X pe 3 _
          have hY : Below wr.heap.size wr (X.setCell ⟨pe, 3, none⟩ (.slice Q (ln - 1) (lc - 1))) := HBX.out.setCell (p := ⟨pe, 3, none⟩) HPL.out _
          have hrlY := RdV.but htl (fun b o e => by rw [hQb b o e]; exact hbL.2) zb
          have hrb0 := HRBX.out
          rw [kk2] at hrb0
          have HENY : Hid (IsEn (fun b => wr.heap.size ≤ b) (X.setCell ⟨pe, 3, none⟩ (.slice Q (ln - 1) (lc - 1))) (.agg #[.int .i64 x.k, .int .i64 x.q, .slice BA bn bc, .slice Q (ln - 1) (lc - 1), .bool x.h]) (Seqr.order x r)) :=
            hidT ⟨BA, bn, bc, Q, ln - 1, lc - 1, by rw [kk1]; rfl, ⟨hrb0.1, hrb0.2.1, hrb0.2.2.1, hrb0.2.2.2.1, fun h0 => absurd hrb0.1 (by simp; omega)⟩, hrlY, (fun h0 b o e => absurd hrb0.1 (by simp; omega)), fun h0 b o e => by rw [hQb b o e]; exact hbL.1⟩
          have HSTY := hidT (HSTT.out.below hY)
          have hpl := HPL.out
          have hwrs := HWRS.out
          have HRESY := hidT ((zb.2 r0 (by omega)).trans HRESX.out)
          have HKY : Hid (Kept2 g q w0 (X.setCell ⟨pe, 3, none⟩ (.slice Q (ln - 1) (lc - 1)))) := hidT (HKP.out.trans (Kept2.of hY))
          have HY := hidT hY
          have Y3 := hidT y3
          have HSO : Hid (SmallE (Seqr.order x r)) := hidT (SmallE.order HSMX.out hel)
          have b1Y := HSTY.out.2.1
          obtain ⟨g0, g1, g2, g3, g4⟩ := HCS.out _ hY
          simp only [Nat.zero_add] at g0 g1 g2 g3 g4
          obtain ⟨j0, j1, j2, j3, j4⟩ := cells5 y3
          have HLNN := hidT hln
          clear hel hll hln hrlx hy htl hbL hQb y3 zb hY hrlY hrb0 hpl hwrs kk1 kk2 kk3 kk4 kk5 kk6 kk7 hlc
          go_wp2_with fail
          clear hcy f3 c0 c1 c2 c3 c4 i0 i1 i2 i3 i4 b0 b1 z0 z1 z2 hw1 q1 q2 hQ
          generalize X.setCell ⟨pe, 3, none⟩ (.slice Q (ln - 1) (lc - 1)) = Y at *
          by_cases hsn : sn < n
          · with_reducible refine (sqMember_any (sn : Int) (n : Int) Y true (by simp; omega)).mono ?_
            rintro e9 w9 ⟨rfl, rfl⟩
            have HSNN := hidT hsn
            clear g0 g1 g2 g3 g4
            obtain ⟨b9, o9, lS, BS, mS, dS, ES, eS, eSc, hbo, hxS, hilS, hcsS⟩ := HSTY.out.rdl.told hsn
            injection hbo with hbo
            injection hbo with hb1 hb2
            subst hb1 hb2
            have hlS : Seqr.laneAt ls sn = lS := Seqr.laneAt_of hxS
            have hsmS : SmallL lS := by rw [← hlS]; exact HSMM.out.at_ _
            have hrS : Lane.rises 0 lS.es = true := by rw [← hlS]; exact (Lane.right_iff.1 (HOKK.out.at_ _)).1
            have HM : Hid (Calls Try.prog 55 #[.agg #[.slice ES eS eSc, .int .i64 lS.p.seq, .int .i64 lS.p.total, .int .i64 lS.p.got, .slice BS mS dS]] Y (GetE Y (Lane.message lS))) := hidT (message_any _ lS Y hilS hsmS)
            have HP : Hid (∀ w' s', Below Y.heap.size Y w' → Calls Try.prog 52 #[.agg #[.slice ES eS eSc, .int .i64 lS.p.seq, .int .i64 lS.p.total, .int .i64 lS.p.got, .slice BS mS dS], .int .i64 s'] w' (LaneOwn w' (Lane.pop lS s'))) := hidT fun w' s' hb => pop_any _ lS s' w' (hilS.below hb) hsmS hrS
            obtain ⟨g0, g1, g2, g3, g4⟩ := hcsS Y (Below.refl _ _)
            simp only [Nat.zero_add] at g0 g1 g2 g3 g4
            have HCSS := hidT hcsS
            have HLS := hidT hlS
            obtain ⟨mm, hmm⟩ : ∃ mm, (Lane.message lS).getD Lane.En.zero = mm := ⟨_, rfl⟩
            obtain ⟨ym, hym⟩ : ∃ ym, (Lane.message lS).isSome = ym := ⟨_, rfl⟩
            have HMM := hidT hmm
            have HYM := hidT hym
            have x3 : (0 : Int) ≤ (sn : Int) := by omega
            have x4 : (sn : Int) < (n : Int) := by omega
            clear hcsS hlS hsmS hrS hilS hxS hsn hmm hym
            go_wp2_with fail
            with_reducible refine HM.out.mono ?_
            rintro e5 w5 ⟨v5, rfl, hi5, hb5⟩
            rw [HMM.out] at hi5
            rw [HYM.out]
            obtain ⟨BM, bm, cm, LM, lm, km, rfl, hrbm, hrlm, hwbm, _⟩ := hi5
            have y6 := alloc_at w5 (.cells #[.int .i64 mm.k, .int .i64 mm.q, .slice BM bm cm, .slice LM lm km, .bool mm.h] 59) _ rfl
            have n6 := nkeep w5 (.cells #[.int .i64 mm.k, .int .i64 mm.q, .slice BM bm cm, .slice LM lm km, .bool mm.h] 59)
            obtain ⟨pm, hpm⟩ : ∃ pm, w5.heap.size = pm := ⟨_, rfl⟩
            rw [hpm] at y6
            have hb6 := bthen hb5 n6
            have HST6 := hidT (HSTY.out.below hb6)
            have HRES6 := hidT (keepH HRESY.out hb6)
            have HK6 : Hid (Kept2 g q w0 (w5.alloc (.cells #[.int .i64 mm.k, .int .i64 mm.q, .slice BM bm cm, .slice LM lm km, .bool mm.h] 59))) := hidT (HKY.out.trans (Kept2.of hb6))
            have HEN6 := hidT (HENY.out.below hb6)
            have HPE6 := hidT (keepH Y3.out hb6)
            have HPM6 := hidT y6
            have HRBM := hidT (hrbm.below n6)
            have HB6 := hidT hb6
            have HYS : Hid (Y.heap.size ≤ pm) := hidT (by have := hb5.size; omega)
            have HWBM := hidT hwbm
            have hres6 := HRES6.out
            clear y6 n6 hb6 hb5 hrbm hrlm hwbm g0 g1 g2 g3 g4 b1Y j0 j1 j2 j3 j4 HM
            cases hms : Lane.message lS with
            | none =>
              obtain rfl : ym = false := by rw [← HYM.out, hms]; rfl
              have HSTEP := hidT (Seqr.step_stop HCON.out HEL.out (by rw [HLENN.out]; exact x4) (by rw [Int.toNat_natCast, HLS.out]; exact hms))
              clear hms
              go_wp2_with (
                refine wpList_stI rfl 55 _ _ rfl r0 dz rfl rfl _ _ hres6 sizeDv rfl (by simp [Value.oneCell']) ?_
                intro w7 hg7 hbut hbel)
              simp only [Exit.jump]
              obtain ⟨e0, e1⟩ := cells2 hg7
              exact bodyPost_ret (v := .tuple #[.agg dz, .bool false]) (by simp [results, Try.results51, go_sem, e0, e1]) rfl
                ⟨none, _, t, ls, rfl, HGO.out, fun _ => HSTEP.out, (HST6.out.butNe hbut (fun h => h.2 rfl) (by have := HP0.out; omega) (by have := HP1.out; omega) (by have := HQL.out; omega) (by have := HGL.out; omega)).mono fun b h => h.1,
                  (HK0.out.trans HK6.out).new hbut hbel (by have := HR0.out; omega), none, 0, 0, rfl, Rd.nil_ _, Within.zero _ _⟩
            | some m' =>
              obtain rfl : ym = true := by rw [← HYM.out, hms]; rfl
              obtain rfl : m' = mm := by rw [← HMM.out, hms]; rfl
              have hstep := Seqr.step_tell HCON.out HEL.out (by rw [HLENN.out]; exact x4) (by rw [Int.toNat_natCast, HLS.out]; exact hms)
              rw [Int.toNat_natCast, HLS.out] at hstep
              have HSTEP := hidT hstep
              clear hms hstep hres6
              have HPI : Hid (Seqr.Ok t (ls.set sn (Lane.pop lS m'.q))) := hidT (HOKK.out.set sn (Lane.right_pop (by rw [← HLS.out]; exact HOKK.out.at_ _) _) t (by rw [HLENN.out]; exact HWHO.out))
              have HSMI : Hid (SmallLs (ls.set sn (Lane.pop lS m'.q))) := hidT (HSMM.out.set sn (SmallL.pop (by rw [← HLS.out]; exact HSMM.out.at_ _) _))
              go_wp2_with fail
              have b16 := HST6.out.2.1
              obtain ⟨g0, g1, g2, g3, g4⟩ := HCSS.out _ HB6.out
              simp only [Nat.zero_add] at g0 g1 g2 g3 g4
              obtain ⟨k0, k1, k2, k3, k4⟩ := cells5 HPM6.out
              clear hpm
              generalize w5.alloc (.cells #[.int .i64 m'.k, .int .i64 m'.q, .slice BM bm cm, .slice LM lm km, .bool m'.h] 59) = X5 at *
              go_upto_region 16 with fail
              go_cut [] from 79 to 88 (fun wc => SqState p0 p1 q g n cap base (fun b => S b ∧ b ≠ r0) wc t (ls.set sn (Lane.pop lS m'.q)) ∧ wc.heap[r0]? = some (.cells dz 55 (0, 0)) ∧ Kept2 g q w0 wc ∧ wc.heap[pe]? = some (.cells #[.int .i64 x.k, .int .i64 x.q, .slice BA bn bc, .slice Q (ln - 1) (lc - 1), .bool x.h] 59 (0, 0)) ∧ wc.heap[pm]? = some (.cells #[.int .i64 m'.k, .int .i64 m'.q, .slice BM bm cm, .slice LM lm km, .bool m'.h] 59 (0, 0)) ∧ Rd wc BM bm cm m'.b ∧ IsEn (fun b => wr.heap.size ≤ b) wc (.agg #[.int .i64 x.k, .int .i64 x.q, .slice BA bn bc, .slice Q (ln - 1) (lc - 1), .bool x.h]) (Seqr.order x r) ∧ pm < wc.heap.size)
              case first =>
                go_region_law
                  (first
                    | (go_simp; go_at_call 52; ((with_reducible refine (HP.out _ _ HB6.out.drew).mono ?_); rintro e7 w7 ⟨v7, rfl, hi7, hb7'⟩; have hb7 : Below X5.heap.size X5 w7 := undrew hb7'; have b17 := cellC hb7 b16; obtain ⟨r7, rfl, hs7, ha7⟩ := hi7.cells; obtain ⟨wx, hrunx, hstx, hbutx, hbelx⟩ := SqState.put HST6.out hb7 HSNN.out (hi7.mono (HNEW.out X5.heap.size (Nat.le_trans HWRS.out (Nat.le_trans HY.out.size HB6.out.size)))) hs7 ha7 HSGX.out h0g h1g hqg))
                    | fail)
                all_goals
                  have hgl := HGL.out
                  have hpl := HPL.out
                  have hwrs := HWRS.out
                  have hys := HYS.out
                  have hyz := HY.out.size
                  have hpx := blk_lt HPM6.out
                  have e1 := hidT ((hbutx.2 r0 (by omega)).trans (keepH HRES6.out hb7))
                  have e2 : Hid (Kept2 g q w0 wx) := hidT ((HK6.out.trans (Kept2.of hb7)).store hbutx hbelx (.inl rfl))
                  have e3 := hidT ((hbutx.2 pe (by omega)).trans (keepH HPE6.out hb7))
                  have e4 := hidT ((hbutx.2 pm (by omega)).trans (keepH HPM6.out hb7))
                  have e5 : Hid (Rd wx BM bm cm m'.b) := hidT ((HRBM.out.below hb7).keptS HWBM.out (KeptS.hi hbutx (by omega)))
                  have e6 : Hid (IsEn (fun b => wr.heap.size ≤ b) wx (.agg #[.int .i64 x.k, .int .i64 x.q, .slice BA bn bc, .slice Q (ln - 1) (lc - 1), .bool x.h]) (Seqr.order x r)) := hidT ((HEN6.out.below hb7).keptS (KeptS.hi hbutx (by omega)))
                  have e7 : Hid (pm < wx.heap.size) := hidT (by rw [hbutx.1]; have := hb7.size; omega)
                  have e8 := hidT hstx
                  clear hi7 hb7 hb7' hs7 ha7 hrunx hstx hbutx hbelx hgl hpl hwrs hys hyz hpx g0 g1 g2 g3 g4 k0 k1 k2 k3 k4 b16 b17
                  go_wp2_with fail
                  go_meet
                  exact ⟨e8.out, e1.out, e2.out, e3.out, e4.out, e5.out, e6.out, e7.out⟩
              case rest =>
                obtain ⟨hst7, hres7, hk7, hpe7, hpm7, hrb7, hen7, hpx7⟩ := hcut
                obtain ⟨X7, rfl⟩ : ∃ X7, X7 = wc := ⟨_, rfl⟩
                clear g0 g1 g2 g3 g4 k0 k1 k2 k3 k4 b16
                obtain ⟨b9, o9, l2, B2, m2, d2, E2, en2, ec2, hbo, hx2, hil2, hcs2⟩ := hst7.rdl.told HWHO.out
                injection hbo with hbo
                injection hbo with hb1 hb2
                subst hb1 hb2
                have hl2 : Seqr.laneAt (ls.set sn (Lane.pop lS m'.q)) t.who = l2 := Seqr.laneAt_of hx2
                have HSET : Hid (∀ w', Below X7.heap.size X7 w' → Calls Try.prog 54 #[.agg #[.slice E2 en2 ec2, .int .i64 l2.p.seq, .int .i64 l2.p.total, .int .i64 l2.p.got, .slice B2 m2 d2], .agg #[.int .i64 x.k, .int .i64 x.q, .slice BA bn bc, .slice Q (ln - 1) (lc - 1), .bool x.h]] w' (LaneOwn w' (Lane.set l2 (Seqr.order x r)))) :=
                  hidT fun w' hb => set_any _ _ l2 (Seqr.order x r) w' (hil2.below hb) (hen7.below hb) (by rw [← hl2]; exact HSMI.out.at_ _) HSO.out (by rw [← hl2]; exact (Lane.right_iff.1 (HPI.out.at_ _)).1)
                have hstep := HSTEP.out
                rw [hl2] at hstep
                have HSTEP2 := hidT hstep
                have HST7 := hidT hst7
                have HRES7 := hidT hres7
                have HK7 := hidT hk7
                have HPM7 := hidT hpm7
                have HRB7 := hidT hrb7
                have HPX7 := hidT hpx7
                have HX7 : Hid (r0 + 1 ≤ X7.heap.size) := hidT (by have h1 := HPX7.out; have h2 := HYS.out; have h3 := HY.out.size; have h4 := HWRS.out; omega)
                obtain ⟨g0, g1, g2, g3, g4⟩ := hcs2 X7 (Below.refl _ _)
                simp only [Nat.zero_add] at g0 g1 g2 g3 g4
                obtain ⟨j0, j1, j2, j3, j4⟩ := cells5 hpe7
                clear hst7 hres7 hk7 hpe7 hpm7 hrb7 hpx7 hen7 hstep hl2 hil2 hcs2 hx2
                go_upto_region 17 with fail
                go_cut [] from 89 to 95 (fun wc => SqState p0 p1 q g n cap base (fun b => S b ∧ b ≠ r0) wc t ((ls.set sn (Lane.pop lS m'.q)).set t.who (Lane.set l2 (Seqr.order x r))) ∧ wc.heap[r0]? = some (.cells dz 55 (0, 0)) ∧ Kept2 g q w0 wc ∧ wc.heap[pm]? = some (.cells #[.int .i64 m'.k, .int .i64 m'.q, .slice BM bm cm, .slice LM lm km, .bool m'.h] 59 (0, 0)) ∧ Rd wc BM bm cm m'.b)
                case first =>
                  go_region_law
                    (first
                      | (go_simp; go_at_call 54; ((with_reducible refine (HSET.out _ (Below.refl _ _).drew).mono ?_); rintro e8 w8 ⟨v8, rfl, hi8, hb8'⟩; have hb8 : Below X7.heap.size X7 w8 := undrew hb8'; obtain ⟨r8, rfl, hs8, ha8⟩ := hi8.cells; obtain ⟨wx, hrunx, hstx, hbutx, hbelx⟩ := SqState.put HST7.out hb8 HWHO.out (hi8.mono (HNEW.out X7.heap.size HX7.out)) hs8 ha8 HSGX.out h0g h1g hqg))
                      | fail)
                  all_goals
                    have hgl := HGL.out
                    have hpl := HPL.out
                    have hwrs := HWRS.out
                    have hys := HYS.out
                    have hyz := HY.out.size
                    have e1 := hidT ((hbutx.2 r0 (by omega)).trans (keepH HRES7.out hb8))
                    have e2 : Hid (Kept2 g q w0 wx) := hidT ((HK7.out.trans (Kept2.of hb8)).store hbutx hbelx (.inl rfl))
                    have e4 := hidT ((hbutx.2 pm (by omega)).trans (keepH HPM7.out hb8))
                    have e5 : Hid (Rd wx BM bm cm m'.b) := hidT ((HRB7.out.below hb8).keptS HWBM.out (KeptS.hi hbutx (by omega)))
                    have e8 := hidT hstx
                    clear hi8 hb8 hb8' hs8 ha8 hrunx hstx hbutx hbelx hgl hpl hwrs hys hyz g0 g1 g2 g3 g4 j0 j1 j2 j3 j4
                    go_wp2_with fail
                    go_meet
                    exact ⟨e8.out, e1.out, e2.out, e4.out, e5.out⟩
                case rest =>
                  obtain ⟨hst8, hres8, hk8, hpm8, hrb8⟩ := hcut
                  obtain ⟨X8, rfl⟩ : ∃ X8, X8 = wc := ⟨_, rfl⟩
                  clear g0 g1 g2 g3 g4 j0 j1 j2 j3 j4
                  obtain ⟨d0, d1, d2, -⟩ := id hst8
                  obtain ⟨v1, v2⟩ := cells2 d2
                  have f1 := no_frozen d2 1
                  have hused := HGO.out.used HOK.out HU0.out
                  have hu1 := HU1.out
                  have hmm := HMU2.out
                  have u1 : (0 : Int) ≤ t.used := hused.1
                  have u2 : t.used < 4611686018427387905 := by omega
                  obtain ⟨z1, z2, z3⟩ := set1x d2 (.int .i64 (t.used + 1))
                  have hql := HQL.out
                  have hpl := HPL.out
                  have hwrs := HWRS.out
                  have hys := HYS.out
                  have hyz := HY.out.size
                  have HST9 := hidT (hst8.turn ⟨t.who, t.used + 1⟩ HSQX.out h0q h1q hqg z2 z1)
                  have hres9 := (z2.2 r0 (by omega)).trans hres8
                  have hpm9 := (z2.2 pm (by omega)).trans hpm8
                  have HK9 := hidT (hk8.store z2 z3 (.inr rfl))
                  have HRB9 : Hid (Rd (X8.setCell ⟨q, 1, none⟩ (.int .i64 (t.used + 1))) BM bm cm m'.b) := hidT (hrb8.keptS HWBM.out (KeptS.hi z2 (by omega)))
                  obtain ⟨k0, k1, k2, k3, k4⟩ := cells5 hpm9
                  clear hst8 hres8 hk8 hpm8 hrb8 hused hu1 hmm hql hpl hwrs hys hyz z1 z2 z3 hpm9
                  go_wp2_with (
                    refine wpList_stI rfl 55 _ _ rfl r0 #[.int .i64 (sn : Int), .slice BM bm cm] rfl rfl _ _ hres9 sizeDv rfl (by simp [Value.oneCell']) ?_
                    intro w7 hg7 hbut hbel)
                  simp only [Exit.jump]
                  obtain ⟨e0, e1⟩ := cells2 hg7
                  have hbm : Within (Hi w.heap.size) BM bm := HWBM.out.mono fun b hb => by have h1 := HR0.out; have h2 := HWRS.out; have h3 := HY.out.size; have hb2 : Y.heap.size ≤ b := hb; show w.heap.size ≤ b; omega
                  have hYr : r0 < Y.heap.size := by have h2 := HWRS.out; have h3 := HY.out.size; omega
                  exact bodyPost_ret (v := .tuple #[.agg #[.int .i64 (sn : Int), .slice BM bm cm], .bool true]) (by simp [results, Try.results51, go_sem, e0, e1]) rfl
                    ⟨some ⟨(sn : Int), m'.b⟩, _, _, _, rfl, HGO.out.snoc HSTEP2.out, (fun h => by cases h), (HST9.out.butNe hbut (fun h => h.2 rfl) (by have := HP0.out; omega) (by have := HP1.out; omega) (by have := HQL.out; omega) (by have := HGL.out; omega)).mono fun b h => h.1,
                      (HK0.out.trans HK9.out).new hbut hbel (by have := HR0.out; omega), BM, bm, cm, rfl, HRB9.out.keptS HWBM.out (KeptS.hi hbut hYr), hbm⟩
          · with_reducible refine (sqMember_any (sn : Int) (n : Int) Y false (by simp; omega)).mono ?_
            rintro e9 w9 ⟨rfl, rfl⟩
            have HSET : Hid (∀ w', Below Y.heap.size Y w' → Calls Try.prog 54 #[.agg #[.slice EA en ec, .int .i64 l.p.seq, .int .i64 l.p.total, .int .i64 l.p.got, .slice B m d], .agg #[.int .i64 x.k, .int .i64 x.q, .slice BA bn bc, .slice Q (ln - 1) (lc - 1), .bool x.h]] w' (LaneOwn w' (Lane.set l (Seqr.order x r)))) :=
              hidT fun w' hb => set_any _ _ l (Seqr.order x r) w' (HIL.out.below (bthen HY.out hb)) (HENY.out.below hb) (by rw [← HLANE.out]; exact HSMM.out.at_ _) HSO.out (by rw [← HLANE.out]; exact (Lane.right_iff.1 (HOKK.out.at_ _)).1)
            have hstep := Seqr.step_skip HCON.out HEL.out (by rw [HLENN.out]; omega)
            rw [HLANE.out] at hstep
            have HSTEP := hidT hstep
            clear hstep hsn
            go_upto_region 12 with fail
            go_cut [] from 61 to 67 (fun wc => SqState p0 p1 q g n cap base (fun b => S b ∧ b ≠ r0) wc t (ls.set t.who (Lane.set l (Seqr.order x r))) ∧ wc.heap[r0]? = some (.cells dz 55 (0, 0)) ∧ Kept2 g q w0 wc)
            case first =>
              go_region_law
                (first
                  | (go_simp; go_at_call 54; ((with_reducible refine (HSET.out _ (Below.refl _ _).drew).mono ?_); rintro e5 w5 ⟨v5, rfl, hi5, hb5'⟩; have hb5 : Below Y.heap.size Y w5 := undrew hb5'; obtain ⟨r5, rfl, hs5, ha5⟩ := hi5.cells; obtain ⟨wx, hrunx, hstx, hbutx, hbelx⟩ := SqState.put HSTY.out hb5 HWHO.out (hi5.mono (HNEW.out Y.heap.size (Nat.le_trans HWRS.out HY.out.size))) hs5 ha5 HSGX.out h0g h1g hqg))
                  | fail)
              all_goals
                have hgl := HGL.out
                have HRES6 := hidT ((hbutx.2 r0 (by omega)).trans (keepH HRESY.out hb5))
                have HK6 : Hid (Kept2 g q w0 wx) := hidT ((HKY.out.trans (Kept2.of hb5)).store hbutx hbelx (.inl rfl))
                have HST6 := hidT hstx
                clear hi5 hb5 hb5' hs5 ha5 hrunx hstx hbutx hbelx hgl g0 g1 g2 g3 g4 j0 j1 j2 j3 j4 b1Y
                go_wp2_with fail
                go_meet
                exact ⟨HST6.out, HRES6.out, HK6.out⟩
            case rest =>
              obtain ⟨hst6, hres6, hk6⟩ := hcut
              have HJJ : Hid (PassJ p0 p1 q g n cap base r0 (fun b => S b ∧ b ≠ r0) w0 t0 ls0 (Seqr.mu (ls.set t.who (Lane.set l (Seqr.order x r)))) wc) := hidT ⟨_, _, rfl, HGO.out.snoc HSTEP.out, hst6, hk6, hres6⟩
              clear hst6 hres6 hk6 g0 g1 g2 g3 g4 j0 j1 j2 j3 j4 b1Y
              go_wp2_with fail
              go_step3
              refine ⟨rfl, ⟨frame107 _ _ _ _ _ rfl rfl rfl rfl rfl, _, HJJ.out⟩, ?_⟩
              have h1 := least_le (R := fun k => PassJ p0 p1 q g n cap base r0 (fun b => S b ∧ b ≠ r0) w0 t0 ls0 k wc) HJJ.out
              have h2 := Seqr.step_mu HOKK.out HSTEP.out
              have h3 := HMU.out
              omega
end Go.Proofs.Ytdchgnmkeefffaa
