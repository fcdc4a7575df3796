/- The document's Walk. -/
import Derived.Test.YtdchgnmkeefffaaRwSt
import Derived.Test.YtdchgnmkeefffaaRBX
import Derived.Deep.CutRange
import Derived.Deep.QuietTactic
import Derived.BigQuiet
import Derived.Deep.RegionHeldLaw
import Derived.Deep.RegionLaw
set_option maxRecDepth 100000
namespace Go.Proofs.Ytdchgnmkeefffaa
open Go.RowKit
set_option linter.unusedVariables false

set_option maxHeartbeats 16000000 in
theorem rwalk_any (t0 : Seqr.Tn) (A0 : Option Addr) (n c0 : Nat) (ls0 : List Lane.Ln) (w : World) (h : RdL (fun _ => True) w A0 n c0 ls0) (hok : Seqr.Ok t0 ls0) (hsm : SmallLs ls0) (hn : n ≤ 64) (hu0 : 0 ≤ t0.used) (hu1 : t0.used ≤ 2305843009213693952) (hmu : Seqr.mu ls0 ≤ 1000000) :
    Calls Try.prog 12 #[.agg #[.int .i64 (t0.who : Int), .int .i64 t0.used], .slice A0 n c0] w (RWalkIs w (Seqr.walk t0 ls0) n) := by
  have hlen := h.size
  have hn0 : 0 < n := by have := hok.1; omega
  obtain ⟨t1, t2, t3⟩ := two_alloc w (.cells #[.int .i64 (t0.who : Int), .int .i64 t0.used] 23) (.cells #[.int .i64 0, .int .i64 0] 23)
  obtain ⟨W, hW⟩ : ∃ W, (w.alloc (.cells #[.int .i64 (t0.who : Int), .int .i64 t0.used] 23)).alloc (.cells #[.int .i64 0, .int .i64 0] 23) = W := ⟨_, rfl⟩
  have HSW : Hid (W.heap.size = w.heap.size + 2) := by rw [← hW, size_alloc, size_alloc]; exact hidT rfl
  rw [hW] at t1 t2 t3
  have HW := hidT hW
  obtain ⟨q, hq⟩ : ∃ q, w.heap.size = q := ⟨_, rfl⟩
  have HQ := hidT hq
  rw [hq] at t1 t2
  obtain ⟨rs, hrk, hra, _⟩ := id h
  have T1 := hidT t1
  have T2 := hidT t2
  have T3 := hidT t3
  have n0 := nkeep W (.cells #[] 51)
  have HN0 := hidT n0
  have HRK := hidT ((RdK.below hrk t3).below n0)
  have HRA := hidT hra
  have HO0 := hidT (OwnK.made 5 W W.heap.size (Nat.le_refl _) 51 W.heap.size rfl)
  have hsz0 : W.heap.size ≤ (W.alloc (.cells #[] 51)).heap.size := n0.size
  have HOK := hidT hok
  have HSM := hidT hsm
  have HLEN := hidT hlen
  have HU0 := hidT hu0
  have HU1 := hidT hu1
  have HMU := hidT hmu
  clear t1 t2 t3 hW h hrk hra hok hsm hlen hu0 hu1 hmu n0
  go_enter Try.func12, Try.ntmps12
  go_upto_region 1 with fail
  rw [HW.out]
  clear hq
  go_wp2_with (
    at_builtin
    refine wpList_appK 5 (by omega) rfl (.tmp 15) (.tmp 16) 24 rfl W.heap.size 51 _ 72 infoL rfl (by omega) Try.underlying24 (.slice (some ⟨W.heap.size, 0, none⟩) 0 0) 0 [] rfl HO0.out A0 n c0 rs rfl HRK.out (by omega) hsz0 ?_
    intro v4 w4 ho4 hb4 hg4
    rw [Nat.zero_add, List.nil_append] at ho4
    obtain ⟨A4, cap, rfl, hrd4⟩ := OwnK.rd ho4
    have HO4 := hidT ho4
    have HB4 := hidT (HN0.out.trans hb4)
    clear ho4 hb4 hg4 hrd4 hsz0)
  obtain ⟨g, rfl, hg1, hg2⟩ := OwnK.form HO4.out hn0
  obtain ⟨base, hbase⟩ : ∃ b, W.heap.size = b := ⟨_, rfl⟩
  obtain ⟨b2, hb2⟩ : ∃ b, w4.heap.size = b := ⟨_, rfl⟩
  obtain ⟨p4, hp4⟩ : ∃ p, q + 1 = p := ⟨_, rfl⟩
  have HREL0 : Hid (RWR q p4 g n cap base b2 w t0 ls0 (Seqr.mu ls0) (.slice none 0 0) w4) := hidT (by
    have hqq := HQ.out
    have hsw := HSW.out
    have hgl : g < w4.heap.size := (World.ownsRow.lt HO4.out.2.2 g rfl).2
    have hbw := bthen T3.out HB4.out
    have hra := (HRA.out.ltS.below hbw).mono (T := SB q p4 g none 0 0) fun b hb => ⟨by have := hb.2; omega, by have := hb.2; omega, by have := hb.2; omega, fun e => by cases e⟩
    have ho := HO4.out
    rw [hbase] at ho
    have h2 := keepH T2.out HB4.out
    rw [hp4] at h2
    exact ⟨none, 0, 0, [], [], t0, ls0, rfl, .refl _ _, ⟨keepH T1.out HB4.out, h2, ⟨rs, ho, hra⟩, OwnK.nil_ _ _ _ _, AreD.nil_ _ _, hbw, by omega, by omega, by omega, by omega⟩, rfl⟩)
  rw [hp4]
  clear hg1 hg2 hbase hb2 hp4
  go_wp2_with fail
  go_loopw [8] (fun x8 wr => ∃ k, RWR q p4 g n cap base b2 w t0 ls0 k x8 wr) (fun x8 wr => least fun k => RWR q p4 g n cap base b2 w t0 ls0 k x8 wr)
  case atStart => exact ⟨_, HREL0.out⟩
  case round =>
    obtain ⟨k0, hrel0⟩ := hrel
    have hrel := least_is (R := fun k => RWR q p4 g n cap base b2 w t0 ls0 k u8 wr) ⟨k0, hrel0⟩
    clear hrel0
    obtain ⟨lk, HLK⟩ : ∃ lk, Hid (least (fun k => RWR q p4 g n cap base b2 w t0 ls0 k u8 wr) = lk) := ⟨_, rfl⟩
    rw [HLK.out] at hrel
    obtain ⟨A, m, c, rows, d, t, ls, e8, hgo, hrb, hkk⟩ := hrel
    subst e8
    obtain ⟨Y, rfl⟩ : ∃ Y, Y = wr := ⟨_, rfl⟩
    have HGO := hidT hgo
    have HRB := hidT hrb
    have HKK := hidT hkk
    have HOKK := hidT (hgo.ok HOK.out).1
    have hlen : ls.length = n := (hgo.ok HOK.out).2.trans HLEN.out
    have HLENN := hidT hlen
    have HSMM := hidT (goes_small hgo HSM.out)
    have HUSED := hidT (hgo.used HOK.out HU0.out)
    have HWHO : Hid (t.who < n) := hidT (by have := HOKK.out.1; omega)
    have hml : m ≤ 1000000 := by
      have h1 := hgo.mu HOK.out
      have h2 := hrb.2.2.2.2.1.1
      have h3 := hrb.2.2.2.1.2.1
      have h4 := HMU.out
      omega
    obtain ⟨l, EA, en, ec, B, mm, dd, hlx, hil, hcs⟩ := hrb.at_ HWHO.out
    have hlane : Seqr.laneAt ls t.who = l := Seqr.laneAt_of hlx
    have HLANE := hidT hlane
    have hc := rcontrol_any _ l Y hil
    have HIL := hidT hil
    have HCS := hidT hcs
    obtain ⟨v0, v1⟩ := cells2 hrb.1
    obtain ⟨z0, z1, z2, z3, z4⟩ := hcs Y (Below.refl _ _)
    have x1 : (0 : Int) ≤ (t.who : Int) := by omega
    have x2 : (t.who : Int) < (n : Int) := by have := HWHO.out; omega
    obtain ⟨x, hx⟩ : ∃ x, (Lane.control l).getD Lane.En.zero = x := ⟨_, rfl⟩
    obtain ⟨yes, hyes⟩ : ∃ b, (Lane.control l).isSome = b := ⟨_, rfl⟩
    have HX := hidT hx
    have HYES := hidT hyes
    clear hgo hrb hkk hlen hlx hil hcs hlane hx hyes
    go_wp2_with fail
    with_reducible refine hc.mono ?_
    rintro e4 w4 ⟨v4, rfl, hi4, hb4⟩
    rw [HX.out] at hi4
    rw [HYES.out]
    obtain ⟨BA, bn, bc, LA, ln, lc, rfl, hrb4, hrl4, hwb4, hwl4⟩ := id hi4
    have y5 := alloc_at w4 (.cells #[.int .i64 x.k, .int .i64 x.q, .slice BA bn bc, .slice LA ln lc, .bool x.h] 59) _ rfl
    have n5 := nkeep w4 (.cells #[.int .i64 x.k, .int .i64 x.q, .slice BA bn bc, .slice LA ln lc, .bool x.h] 59)
    have HEX := hidT (hi4.below n5)
    have HLL := hidT (RdI.size hrl4)
    have HRLX := hidT (RdV.below hrl4 n5)
    have HWLX := hidT hwl4
    have HNO : Hid (∀ b, (Value.slice A m c).ownBlock = some b → b < w4.heap.size) := hidT fun b e => by have h1 := (HRB.out.2.2.2.1.blk b e).2; have h2 := hb4.size; omega
    have HRBX := hidT (HRB.out.below (bthen hb4 n5))
    have HBX := hidT (bthen hb4 n5)
    have HGP : Hid (g < w4.heap.size) := hidT (by have := HRB.out.lt; have := hb4.size; omega)
    obtain ⟨pe, hpe⟩ : ∃ p, w4.heap.size = p := ⟨_, rfl⟩
    rw [hpe] at y5 HGP HNO
    have HPEX := hidT y5
    obtain ⟨X, hX⟩ : ∃ X, w4.alloc (.cells #[.int .i64 x.k, .int .i64 x.q, .slice BA bn bc, .slice LA ln lc, .bool x.h] 59) = X := ⟨_, rfl⟩
    rw [hX] at HEX HRBX HBX HPEX HRLX
    have HXX := hidT hX
    clear hc v0 v1 z0 z1 z2 z3 z4 hi4 hb4 hrb4 hrl4 hwb4 hwl4 y5 n5 hX
    go_upto_region 5 with fail
    rw [HXX.out]
    clear hpe
    cases hcl : Lane.control l with
    | none =>
      obtain rfl : yes = false := by rw [← HYES.out, hcl]; rfl
      have HW := hidT (Seqr.walk_is HOK.out HGO.out (Seqr.step_none (t := t) (ls := ls) (by rw [HLANE.out]; exact hcl)))
      clear hcl
      have hz := HRBX.out.2.1
      obtain ⟨v0, v1⟩ := cells2 HRBX.out.1
      go_wp2_with (
        refine wpList_stI rfl 23 _ _ rfl p4 #[.int .i64 (t.who : Int), .int .i64 t.used] rfl rfl _ _ hz sizeTn rfl (by simp [Value.oneCell']) ?_
        intro w7 hg7 hbut hbel)
      try simp only [Exit.jump]
      obtain ⟨e0, e1⟩ := cells2 hg7
      obtain ⟨k1, k2, ⟨rs1, k3, k4⟩, k5, k6, k7, k8⟩ := HRBX.out
      exact bodyPost_ret (v := .tuple #[.agg #[.int .i64 (t.who : Int), .int .i64 t.used], .slice (some ⟨g, 0, none⟩) n cap, .slice A m c]) (by simp [results, Try.results12, go_sem, e0, e1]) rfl
        ⟨_, _, _, _, _, by rw [HW.out], by
          rw [HW.out]
          exact ⟨rs1, (k3.butNe hbut (by omega)).same, (k4.keptS (KeptS.but hbut fun b hb => hb.2.1)).mono fun _ _ => trivial, Within.any _ _⟩, by
          rw [HW.out]
          exact ⟨rows, (k5.butV hbut fun b e => by have := (k5.blk b e).1; omega).same, (k6.keptS (KeptS.but hbut fun b hb => hb.2.1)).mono fun _ _ => trivial, Within.any _ _⟩, hbel _ _ k7 (by omega)⟩
    | some x' =>
      obtain rfl : yes = true := by rw [← HYES.out, hcl]; rfl
      obtain rfl : x' = x := by rw [← HX.out, hcl]; rfl
      have HCON : Hid (Lane.control (Seqr.laneAt ls t.who) = some x') := hidT (by rw [HLANE.out]; exact hcl)
      obtain ⟨x, rfl⟩ : ∃ x, x = x' := ⟨_, rfl⟩
      have hmay : Lane.may x = true := HOKK.out.may (Seqr.control_mem HCON.out).1
      have hmsg := (Seqr.control_mem HCON.out).2
      have HMAY := hidT hmay
      have HSMX : Hid (SmallE x) := hidT ((HSMM.out.at_ t.who).2.1 x (Seqr.control_mem HCON.out).1)
      have hk1 : ¬ x.k = 1 := by
        unfold Lane.isMsg at hmsg
        simpa using hmsg
      obtain ⟨i0, i1, i2, i3, i4⟩ := cells5 HPEX.out
      obtain ⟨v0, v1⟩ := cells2 HRBX.out.1
      obtain ⟨z0, z1, z2, z3, z4⟩ := HCS.out X HBX.out
      have hll := HLL.out
      clear hcl hmsg
      cases hel : x.l with
      | nil =>
        have HEL := hidT hel
        have hln : ln = 0 := by rw [← hll, hel]; rfl
        have hstep := Seqr.step_pop HCON.out hel
        rw [HLANE.out, HLENN.out] at hstep
        clear hll hel
        by_cases hk3 : x.k = 3
        · have q0 : (x.k == 3) = true := by simpa using hk3
          have hxh : x.h = false := by
            have h2 := (Lane.may_iff.1 hmay).2.2
            unfold Lane.kind at h2
            rw [if_neg hk1, if_neg (by omega), if_pos hk3] at h2
            simp only [Bool.and_eq_true, Bool.not_eq_true'] at h2
            first | exact h2.2.2 | exact h2.2 | (simp at h2; exact h2.2.2)
          rw [hxh, if_neg (by simp)] at hstep
          have HSTEP := hidT hstep
          clear hk1 hk3 hxh hstep hmay hln
          go_upto_region 8 with fail
          go_cut [] from 18 to 128 (fun wc => RB q p4 g n cap base b2 w A m c rows d t (ls.set t.who (Lane.pop l x.q)) wc ∧ wc.heap[pe]? = some (.cells #[.int .i64 x.k, .int .i64 x.q, .slice BA bn bc, .slice LA ln lc, .bool x.h] 59 (0, 0)) ∧ IsEn (SB q p4 g A m c) wc (.agg #[.int .i64 x.k, .int .i64 x.q, .slice BA bn bc, .slice LA ln lc, .bool x.h]) x)
          case first =>
            have HP : Hid (∀ w', Below X.heap.size X w' → Calls Try.prog 31 #[.agg #[.slice EA en ec, .int .i64 l.p.seq, .int .i64 l.p.total, .int .i64 l.p.got, .slice B mm dd], .int .i64 x.q] w' (RLaneT w' (SB q p4 g A m c) (Lane.pop l x.q))) :=
              hidT fun w' hb => qpop_any _ l x.q w' (HIL.out.below (bthen HBX.out hb)) (by rw [← HLANE.out]; exact (HSMM.out.at_ _).1) (fun b h => h) fun b hb' => HRBX.out.fresh (Nat.le_trans hb.size hb')
            go_region_law
              (first
                | (go_simp; go_at_call 31; ((with_reducible refine (HP.out _ (Below.refl _ _).drew).mono ?_); rintro e5 w5 ⟨v5, rfl, hi5, hb5'⟩; have hb5 : Below X.heap.size X w5 := undrew hb5'; obtain ⟨r5, rfl, hs5, ha5⟩ := hi5.cells; obtain ⟨wx, hrunx, hstx, hbutx⟩ := RB.put HRBX.out hb5 HWHO.out hi5 hs5 ha5))
                | fail)
            all_goals
              have hgp := HGP.out
              have ye := hidT ((hbutx.2 pe (by omega)).trans (keepH HPEX.out hb5))
              have hex := hidT ((HEX.out.below hb5).keptS (KeptS.but hbutx fun b hb => hb.2.2.1))
              have HSTX := hidT hstx
              clear hi5 hb5 hb5' hs5 ha5 hrunx hstx hbutx hgp q0 i0 i1 i2 i3 i4 v0 v1 z0 z1 z2 z3 z4
              go_wp2_with fail
              go_meet
              exact ⟨HSTX.out, ye.out, hex.out⟩
          case rest =>
            obtain ⟨hst6, hpe6, hex6⟩ := hcut
            obtain ⟨X6, rfl⟩ : ∃ X6, X6 = wc := ⟨_, rfl⟩
            have HREL : Hid (RWR q p4 g n cap base b2 w t0 ls0 (Seqr.mu (ls.set t.who (Lane.pop l x.q))) (.slice A m c) X6) := hidT ⟨A, m, c, rows, d, t, _, rfl, by have := HGO.out.snoc HSTEP.out; rwa [show d ++ (none : Option Seqr.Dv).toList = d from List.append_nil d] at this, hst6, rfl⟩
            clear hst6 hpe6 hex6 i0 i1 i2 i3 i4 v0 v1 z0 z1 z2 z3 z4
            go_wp2_with fail
            go_roundw
            case rel => exact ⟨_, HREL.out⟩
            case measure =>
              have h1 := least_le (R := fun k => RWR q p4 g n cap base b2 w t0 ls0 k (.slice A m c) X6) HREL.out
              have h2 := Seqr.step_mu HOKK.out HSTEP.out
              have h3 := HLK.out
              have h4 := HKK.out
              omega
        · have q0 : (x.k == 3) = false := by simpa using hk3
          have q1 : ((ln : Int) == 0) = true := by simp [hln]
          have q2 : (ln == 0) = true := by simp [hln]
          clear hk1 hk3 hmay hln
          go_upto_region 10 with fail
          go_cut [] from 18 to 128 (fun wc => RB q p4 g n cap base b2 w A m c rows d t (ls.set t.who (Lane.pop l x.q)) wc ∧ wc.heap[pe]? = some (.cells #[.int .i64 x.k, .int .i64 x.q, .slice BA bn bc, .slice LA ln lc, .bool x.h] 59 (0, 0)) ∧ IsEn (SB q p4 g A m c) wc (.agg #[.int .i64 x.k, .int .i64 x.q, .slice BA bn bc, .slice LA ln lc, .bool x.h]) x)
          case first =>
            have HP : Hid (∀ w', Below X.heap.size X w' → Calls Try.prog 31 #[.agg #[.slice EA en ec, .int .i64 l.p.seq, .int .i64 l.p.total, .int .i64 l.p.got, .slice B mm dd], .int .i64 x.q] w' (RLaneT w' (SB q p4 g A m c) (Lane.pop l x.q))) :=
              hidT fun w' hb => qpop_any _ l x.q w' (HIL.out.below (bthen HBX.out hb)) (by rw [← HLANE.out]; exact (HSMM.out.at_ _).1) (fun b h => h) fun b hb' => HRBX.out.fresh (Nat.le_trans hb.size hb')
            go_region_law
              (first
                | (go_simp; go_at_call 31; ((with_reducible refine (HP.out _ (Below.refl _ _).drew).mono ?_); rintro e5 w5 ⟨v5, rfl, hi5, hb5'⟩; have hb5 : Below X.heap.size X w5 := undrew hb5'; obtain ⟨r5, rfl, hs5, ha5⟩ := hi5.cells; obtain ⟨wx, hrunx, hstx, hbutx⟩ := RB.put HRBX.out hb5 HWHO.out hi5 hs5 ha5))
                | fail)
            all_goals
              have hgp := HGP.out
              have ye := hidT ((hbutx.2 pe (by omega)).trans (keepH HPEX.out hb5))
              have hex := hidT ((HEX.out.below hb5).keptS (KeptS.but hbutx fun b hb => hb.2.2.1))
              have HSTX := hidT hstx
              clear hi5 hb5 hb5' hs5 ha5 hrunx hstx hbutx hgp q0 q1 q2 i0 i1 i2 i3 i4 v0 v1 z0 z1 z2 z3 z4
              go_wp2_with fail
              go_meet
              exact ⟨HSTX.out, ye.out, hex.out⟩
          case rest =>
            obtain ⟨hst6, hpe6, hex6⟩ := hcut
            obtain ⟨X6, rfl⟩ : ∃ X6, X6 = wc := ⟨_, rfl⟩
            have HST6 := hidT hst6
            obtain ⟨j0, j1, j2, j3, j4⟩ := cells5 hpe6
            clear hpe6 hex6 i0 i1 i2 i3 i4 v0 v1 z0 z1 z2 z3 z4
            cases hh : x.h with
            | false =>
              rw [hh, if_neg (by simp)] at hstep
              have HSTEP := hidT hstep
              rw [hh] at j4
              have HREL : Hid (RWR q p4 g n cap base b2 w t0 ls0 (Seqr.mu (ls.set t.who (Lane.pop l x.q))) (.slice A m c) X6) := hidT ⟨A, m, c, rows, d, t, _, rfl, by have := HGO.out.snoc HSTEP.out; rwa [show d ++ (none : Option Seqr.Dv).toList = d from List.append_nil d] at this, hst6, rfl⟩
              clear hst6 hstep hh
              go_wp2_with fail
              go_roundw
              case rel => exact ⟨_, HREL.out⟩
              case measure =>
                have h1 := least_le (R := fun k => RWR q p4 g n cap base b2 w t0 ls0 k (.slice A m c) X6) HREL.out
                have h2 := Seqr.step_mu HOKK.out HSTEP.out
                have h3 := HLK.out
                have h4 := HKK.out
                omega
            | true =>
              rw [hh, if_pos rfl] at hstep
              have HSTEP := hidT hstep
              rw [hh] at j4
              have y6 := hst6.1
              obtain ⟨v0, v1⟩ := cells2 y6
              have f0 := no_frozen y6 0
              have f1 := no_frozen y6 1
              have hwho := HWHO.out
              have s1 : IntKind.i64.wrap ((t.who : Int) + 1) = (t.who : Int) + 1 := IntWalk.i64_in _ (by omega)
              have s1b : wrap64 ((t.who : Int) + 1) = (t.who : Int) + 1 := IntWalk.wrap64_in _ (by omega)
              clear hh hstep hst6
              by_cases hnx : t.who + 1 = n
              · obtain ⟨a1, a2, a3⟩ := set2x y6 (.int .i64 0) (.int .i64 0)
                have p1 : ((t.who : Int) + 1 == (n : Int)) = true := by simp; omega
                have hnext : Seqr.next t n = ⟨0, 0⟩ := by unfold Seqr.next; rw [if_pos hnx]
                have HREL : Hid (∀ Z, But q X6 Z → (∀ base w0, Below base w0 X6 → base ≤ q → Below base w0 Z) → Z.heap[q]? = some (.cells #[.int .i64 0, .int .i64 0] 23 (0, 0)) → RWR q p4 g n cap base b2 w t0 ls0 (Seqr.mu (ls.set t.who (Lane.pop l x.q))) (.slice A m c) Z) := hidT fun Z z1 z2 z3 =>
                  ⟨A, m, c, rows, d, Seqr.next t n, _, rfl, by have := HGO.out.snoc HSTEP.out; rwa [show d ++ (none : Option Seqr.Dv).toList = d from List.append_nil d] at this, by rw [hnext]; exact HST6.out.turn ⟨0, 0⟩ z1 z2 (by rw [z3]; rfl), rfl⟩
                clear hnx a1 a2 a3 hnext hwho
                go_wp2_with (
                  refine wpList_stI rfl 23 _ _ rfl q #[.int .i64 ((t.who : Int) + 1), .int .i64 0] rfl rfl _ _ y6 sizeTn rfl (by simp [Value.oneCell']) ?_
                  intro w7 hg7 hbut hbel
                  obtain ⟨m0, m1⟩ := cells2 hg7
                  have ff := no_frozen hg7 0)
                have HZ : Hid (RWR q p4 g n cap base b2 w t0 ls0 (Seqr.mu (ls.set t.who (Lane.pop l x.q))) (.slice A m c) (w7.setCell ⟨q, 0, none⟩ (.int .i64 0))) := hidT (HREL.out _ (hbut.trans (But.setCell w7 q 0 _)) (fun base w0 hb hg => (hbel _ _ hb hg).setCell (p := ⟨q, 0, none⟩) hg _) (heap_setCell_same w7 q 0 _ _ _ hg7))
                clear hg7 hbut hbel m0 m1 ff s1 s1b
                go_roundw
                case rel => exact ⟨_, HZ.out⟩
                case measure =>
                  have h1 := least_le (R := fun k => RWR q p4 g n cap base b2 w t0 ls0 k (.slice A m c) (w7.setCell ⟨q, 0, none⟩ (.int .i64 0))) HZ.out
                  have h2 := Seqr.step_mu HOKK.out HSTEP.out
                  have h3 := HLK.out
                  have h4 := HKK.out
                  omega
              · obtain ⟨a1, a2, a3⟩ := set2x y6 (.int .i64 ((t.who : Int) + 1)) (.int .i64 0)
                have p1 : ((t.who : Int) + 1 == (n : Int)) = false := by simp; omega
                have hnext : Seqr.next t n = ⟨t.who + 1, 0⟩ := by unfold Seqr.next; rw [if_neg hnx]
                have HREL : Hid (∀ Z, But q X6 Z → (∀ base w0, Below base w0 X6 → base ≤ q → Below base w0 Z) → Z.heap[q]? = some (.cells #[.int .i64 ((t.who : Int) + 1), .int .i64 0] 23 (0, 0)) → RWR q p4 g n cap base b2 w t0 ls0 (Seqr.mu (ls.set t.who (Lane.pop l x.q))) (.slice A m c) Z) := hidT fun Z z1 z2 z3 =>
                  ⟨A, m, c, rows, d, Seqr.next t n, _, rfl, by have := HGO.out.snoc HSTEP.out; rwa [show d ++ (none : Option Seqr.Dv).toList = d from List.append_nil d] at this, by rw [hnext]; exact HST6.out.turn ⟨t.who + 1, 0⟩ z1 z2 (by rw [z3]; rfl), rfl⟩
                clear hnx a1 a2 a3 hnext hwho
                go_wp2_with (
                  refine wpList_stI rfl 23 _ _ rfl q #[.int .i64 ((t.who : Int) + 1), .int .i64 0] rfl rfl _ _ y6 sizeTn rfl (by simp [Value.oneCell']) ?_
                  intro w7 hg7 hbut hbel
                  obtain ⟨m0, m1⟩ := cells2 hg7
                  have ff := no_frozen hg7 0)
                have HZ : Hid (RWR q p4 g n cap base b2 w t0 ls0 (Seqr.mu (ls.set t.who (Lane.pop l x.q))) (.slice A m c) w7) := hidT (HREL.out _ hbut hbel hg7)
                clear hg7 hbut hbel m0 m1 ff s1 s1b
                go_roundw
                case rel => exact ⟨_, HZ.out⟩
                case measure =>
                  have h1 := least_le (R := fun k => RWR q p4 g n cap base b2 w t0 ls0 k (.slice A m c) w7) HZ.out
                  have h2 := Seqr.step_mu HOKK.out HSTEP.out
                  have h3 := HLK.out
                  have h4 := HKK.out
                  omega
      | cons s r =>
        have HEL := hidT hel
        obtain ⟨kk1, kk2, kk3, kk4, kk5, kk6, kk7⟩ := Seqr.order_kind HMAY.out hel
        obtain ⟨sn, rfl⟩ : ∃ sn : Nat, s = (sn : Int) := ⟨s.toNat, by omega⟩
        have K6 := hidT kk6
        have q0 : (x.k == 3) = false := by rw [kk1]; rfl
        have hln : ln = r.length + 1 := by rw [← hll, hel]; rfl
        have q1 : ((ln : Int) == 0) = false := by simp; omega
        have q2 : (ln == 0) = false := by simp; omega
        have hrlx := HRLX.out
        rw [hel] at hrlx
        obtain ⟨bL, oL, y, hLA, hy, hcy⟩ := RdI.at_ hrlx (k := 0) (by omega)
        subst hLA
        have hy2 : y = (sn : Int) := by simpa using hy.symm
        subst hy2
        simp only [Nat.add_zero] at hcy
        obtain ⟨Q, hQ⟩ : ∃ Q : Option Addr, (if lc = 1 then some ⟨bL, oL, none⟩ else some ⟨bL, oL + 1, none⟩) = Q := ⟨_, rfl⟩
        have HQQ := hidT hQ
        have hlc := hrlx.2.1
        have hz0 : (0 : Int) < (ln : Int) := by omega
        have hz1 : (1 : Int) ≤ (ln : Int) := by omega
        have hz2 : (ln : Int) ≤ (lc : Int) := by omega
        have HLNN : Hid ((1 : Int) ≤ (ln : Int) ∧ (ln : Int) ≤ (lc : Int) ∧ 1 ≤ ln ∧ ln ≤ lc) := hidT ⟨hz1, hz2, by omega, by omega⟩
        clear hel hll hln hrlx hy hQ kk1 kk2 kk3 kk4 kk5 kk6 kk7 hmay hk1
        go_upto_if 78 with fail
        clear hcy hz0 hz1 hz2
        go_cut [8] from 18 to 128 (fun x8 wc => ∃ A1 m1 c1 rows1 d1 t1 ls1 o, x8 = .slice A1 m1 c1 ∧ RB q p4 g n cap base b2 w A1 m1 c1 rows1 d1 t1 ls1 wc ∧ Seqr.Tn.who t1 = t.who ∧ d1 = d ++ Option.toList o ∧ Seqr.step t ls = some (t1, ls1.set t.who (Lane.set (Seqr.laneAt ls1 t.who) (Seqr.order x r)), o) ∧ SmallLs ls1 ∧ wc.heap[pe]? = some (.cells #[.int .i64 x.k, .int .i64 x.q, .slice BA bn bc, .slice (some ⟨bL, oL, none⟩) ln lc, .bool x.h] 59 (0, 0)) ∧ IsEn (SB q p4 g A1 m1 c1) wc (.agg #[.int .i64 x.k, .int .i64 x.q, .slice BA bn bc, .slice (some ⟨bL, oL, none⟩) ln lc, .bool x.h]) x)
        case first =>
         by_cases hsn : sn < n
         · have q3 : decide ((sn : Int) < (n : Int)) = true := by simpa using hsn
           have q3' : decide (sn < n) = true := by simpa using hsn
           obtain ⟨lS, ES, eS, eSc, BS, mS, dS, hxS, hilS, hcsS⟩ := HRBX.out.at_ hsn
           have hlS : Seqr.laneAt ls sn = lS := Seqr.laneAt_of hxS
           have hcm := rmessage_any _ lS X hilS
           obtain ⟨g0, g1, g2, g3, g4⟩ := hcsS X (Below.refl _ _)
           obtain ⟨me, hme⟩ : ∃ me, (Lane.message lS).getD Lane.En.zero = me := ⟨_, rfl⟩
           obtain ⟨ym, hym⟩ : ∃ b, (Lane.message lS).isSome = b := ⟨_, rfl⟩
           have HME := hidT hme
           have HYM := hidT hym
           have HLS := hidT hlS
           have HSN := hidT hsn
           have x3 : (0 : Int) ≤ (sn : Int) := by omega
           have x4 : (sn : Int) < (n : Int) := by omega
           clear hcsS hlS hilS hxS hsn hme hym z0 z1 z2 z3 z4
           go_wp2_with fail
           with_reducible refine hcm.mono ?_
           rintro e6 w6 ⟨v6, rfl, hi6, hb6⟩
           rw [HME.out] at hi6
           rw [HYM.out]
           obtain ⟨BM, bm, cm, LM, lm, km, rfl, hrm6, hrlm6, hwm6, hwlm6⟩ := id hi6
           have y7 := alloc_at w6 (.cells #[.int .i64 me.k, .int .i64 me.q, .slice BM bm cm, .slice LM lm km, .bool me.h] 59) _ rfl
           have n7 := nkeep w6 (.cells #[.int .i64 me.k, .int .i64 me.q, .slice BM bm cm, .slice LM lm km, .bool me.h] 59)
           have nb7 := bthen hb6 n7
           have HEX7 := hidT (HEX.out.below nb7)
           have HRB7 := hidT (HRBX.out.below nb7)
           have HPE7 := hidT (keepH HPEX.out nb7)
           have HRM7 := hidT (hrm6.below n7)
           have HWM7 := hidT hwm6
           have HPX7 : Hid (pe < w6.heap.size) := hidT (by have := blk_lt HPEX.out; have := hb6.size; omega)
           obtain ⟨pm, hpm⟩ : ∃ p, w6.heap.size = p := ⟨_, rfl⟩
           rw [hpm] at y7 HPX7
           have HPM7 := hidT y7
           obtain ⟨X7, hX7⟩ : ∃ X, w6.alloc (.cells #[.int .i64 me.k, .int .i64 me.q, .slice BM bm cm, .slice LM lm km, .bool me.h] 59) = X := ⟨_, rfl⟩
           rw [hX7] at HEX7 HRB7 HPE7 HRM7 HPM7
           have HXX7 := hidT hX7
           clear hcm i0 i1 i2 i3 i4 v0 v1 g0 g1 g2 g3 g4 hi6 hb6 hrm6 hrlm6 hwm6 hwlm6 y7 n7 nb7 hX7
           go_upto_region 18 with fail
           rw [HXX7.out]
           clear hpm
           cases hml : Lane.message lS with
           | none =>
             obtain rfl : ym = false := by rw [← HYM.out, hml]; rfl
             have HW := hidT (Seqr.walk_is HOK.out HGO.out (Seqr.step_stop (t := t) (ls := ls) HCON.out HEL.out (by rw [HLENN.out]; have := HSN.out; omega) (by rw [Int.toNat_natCast, HLS.out]; exact hml)))
             clear hml
             have hz := HRB7.out.2.1
             obtain ⟨v0, v1⟩ := cells2 HRB7.out.1
             go_wp2_with (
               refine wpList_stI rfl 23 _ _ rfl p4 #[.int .i64 (t.who : Int), .int .i64 t.used] rfl rfl _ _ hz sizeTn rfl (by simp [Value.oneCell']) ?_
               intro w7 hg7 hbut hbel)
             try simp only [Exit.jump]
             obtain ⟨e0, e1⟩ := cells2 hg7
             obtain ⟨k1, k2, ⟨rs1, k3, k4⟩, k5, k6, k7, k8⟩ := HRB7.out
             exact bodyPost_ret (v := .tuple #[.agg #[.int .i64 (t.who : Int), .int .i64 t.used], .slice (some ⟨g, 0, none⟩) n cap, .slice A m c]) (by simp [results, Try.results12, go_sem, e0, e1]) rfl
               ⟨_, _, _, _, _, by rw [HW.out], by
                 rw [HW.out]
                 exact ⟨rs1, (k3.butNe hbut (by omega)).same, (k4.keptS (KeptS.but hbut fun b hb => hb.2.1)).mono fun _ _ => trivial, Within.any _ _⟩, by
                 rw [HW.out]
                 exact ⟨rows, (k5.butV hbut fun b e => by have := (k5.blk b e).1; omega).same, (k6.keptS (KeptS.but hbut fun b hb => hb.2.1)).mono fun _ _ => trivial, Within.any _ _⟩, hbel _ _ k7 (by omega)⟩
           | some me' =>
             obtain rfl : ym = true := by rw [← HYM.out, hml]; rfl
             obtain rfl : me' = me := by rw [← HME.out, hml]; rfl
             obtain ⟨me, rfl⟩ : ∃ me, me = me' := ⟨_, rfl⟩
             have hstep := Seqr.step_tell (t := t) (ls := ls) HCON.out HEL.out (by rw [HLENN.out]; have := HSN.out; omega) (by rw [Int.toNat_natCast, HLS.out]; exact hml)
             rw [Int.toNat_natCast, HLS.out] at hstep
             have HSTEP0 := hidT hstep
             clear hml hstep
             obtain ⟨j0, j1, j2, j3, j4⟩ := cells5 HPM7.out
             have nL := nkeep X7 (.cells #[.int .i64 (sn : Int), .slice BM bm cm] 55)
             have HLIT := hidT (RdK.lit (k := 2) X7 55 (0, 0) #[.int .i64 (sn : Int), .slice BM bm cm] [#[.int .i64 (sn : Int), .slice BM bm cm]] (fun r hr => by rw [List.mem_singleton.1 hr]; exact ⟨rfl, by simp [Value.oneCell']⟩) (by simp [flat]) 1 rfl (by decide) X7.heap.size rfl)
             have HRBL := hidT (HRB7.out.below nL)
             have HROL := hidT HRBL.out.2.2.2.1
             have HWSZ := hidT HRBL.out.2.2.2.2.2.2.2.2.2.2
             have HDV : Hid (IsDv (SB q p4 g A m c) (X7.alloc (.cells #[.int .i64 (sn : Int), .slice BM bm cm] 55)) (.agg #[.int .i64 (sn : Int), .slice BM bm cm]) ⟨(sn : Int), me.b⟩) := hidT ⟨BM, bm, cm, rfl, HRM7.out.below nL, HWM7.out⟩
             have HEXL := hidT (HEX7.out.below nL)
             have HPEL := hidT (keepH HPE7.out nL)
             have HPML := hidT (keepH HPM7.out nL)
             clear nL
             go_upto_region 21 with (first
               | (at_builtin
                  refine wpList_appKW 2 (by omega) rfl (.tmp 92) (.tmp 97) 29 rfl b2 55 _ 32 infoDv rfl (by omega) Try.underlying29 (.slice A m c) m rows rfl HROL.out (some ⟨X7.heap.size, 0, none⟩) 1 1 [#[.int .i64 (sn : Int), .slice BM bm cm]] rfl HLIT.out (by omega) HWSZ.out ?_
                  intro v9 w9 hown hb9 hg9 ho9
                  obtain ⟨A9, c9, rfl, hrd9⟩ := OwnK.rd hown
                  have HRB9 := hidT (RB.app HRBL.out hown hg9 ho9 HDV.out hb9)
                  have HE9 := hidT (RB.appE HRBL.out HEXL.out hg9 ho9)
                  have HG9 := hidT hg9
                  clear hown hb9 hg9 ho9 hrd9 j0 j1 j2 j3 j4)
               | fail)
             have HPE9 := hidT ((HG9.out.block pe (blk_lt HPEL.out) (fun e => by have h1 := HNO.out _ e.symm; omega)).trans HPEL.out)
             have HPM9 := hidT ((HG9.out.block pm (blk_lt HPML.out) (fun e => by have h1 := HNO.out _ e.symm; have h2 := HPX7.out; omega)).trans HPML.out)
             obtain ⟨lT, FS, fS, fSc, CS, nS, oS, hxS, hilS, hcsS⟩ := HRB9.out.at_ HSN.out
             have hlT : lT = lS := by rw [← HLS.out]; exact (Seqr.laneAt_of hxS).symm
             subst hlT
             have HILS := hidT hilS
             obtain ⟨g0, g1, g2, g3, g4⟩ := hcsS w9 (Below.refl _ _)
             obtain ⟨j0, j1, j2, j3, j4⟩ := cells5 HPM9.out
             obtain ⟨i0, i1, i2, i3, i4⟩ := cells5 HPE9.out
             have hpi : Seqr.Ok t (ls.set sn (Lane.pop lT me.q)) := HOKK.out.set sn (Lane.right_pop (by rw [← HLS.out]; exact HOKK.out.at_ _) _) t (by rw [HLENN.out]; exact HWHO.out)
             have HSMI : Hid (SmallLs (ls.set sn (Lane.pop lT me.q))) := hidT (HSMM.out.set sn (SmallL.pop (by rw [← HLS.out]; exact HSMM.out.at_ _) _))
             clear hxS hilS hcsS hpi
             go_upto_region 21 with fail
             go_cut [] from 18 to 128 (fun wc => RB q p4 g n cap base b2 w A9 (m + 1) c9 (rows ++ [#[.int .i64 (sn : Int), .slice BM bm cm]]) (d ++ [⟨(sn : Int), me.b⟩]) t (ls.set sn (Lane.pop lT me.q)) wc ∧ wc.heap[pe]? = some (.cells #[.int .i64 x.k, .int .i64 x.q, .slice BA bn bc, .slice (some ⟨bL, oL, none⟩) ln lc, .bool x.h] 59 (0, 0)) ∧ IsEn (SB q p4 g A9 (m + 1) c9) wc (.agg #[.int .i64 x.k, .int .i64 x.q, .slice BA bn bc, .slice (some ⟨bL, oL, none⟩) ln lc, .bool x.h]) x)
             case first =>
               have HP : Hid (∀ w', Below w9.heap.size w9 w' → Calls Try.prog 31 #[.agg #[.slice FS fS fSc, .int .i64 lT.p.seq, .int .i64 lT.p.total, .int .i64 lT.p.got, .slice CS nS oS], .int .i64 me.q] w' (RLaneT w' (SB q p4 g A9 (m + 1) c9) (Lane.pop lT me.q))) :=
                 hidT fun w' hb => qpop_any _ lT me.q w' (HILS.out.below hb) (by rw [← HLS.out]; exact (HSMM.out.at_ _).1) (fun b h => h) fun b hb' => HRB9.out.fresh (Nat.le_trans hb.size hb')
               go_region_law
                 (first
                   | (go_simp; go_at_call 31; ((with_reducible refine (HP.out _ (Below.refl _ _).drew).mono ?_); rintro e5 w5 ⟨v5, rfl, hi5, hb5'⟩; have hb5 : Below w9.heap.size w9 w5 := undrew hb5'; obtain ⟨r5, rfl, hs5, ha5⟩ := hi5.cells; obtain ⟨wx, hrunx, hstx, hbutx⟩ := RB.put HRB9.out hb5 HSN.out hi5 hs5 ha5))
                   | fail)
               all_goals
                 have hgp := HGP.out
                 have ye := hidT ((hbutx.2 pe (by omega)).trans (keepH HPE9.out hb5))
                 have hex := hidT ((HE9.out.below hb5).keptS (KeptS.but hbutx fun b hb => hb.2.2.1))
                 have HSTX := hidT hstx
                 clear hi5 hb5 hb5' hs5 ha5 hrunx hstx hbutx hgp g0 g1 g2 g3 g4 j0 j1 j2 j3 j4 i0 i1 i2 i3 i4
                 go_wp2_with fail
                 go_meet
                 exact ⟨HSTX.out, ye.out, hex.out⟩
             case rest =>
               obtain ⟨hst10, hpe10, hex10⟩ := hcut
               obtain ⟨X10, rfl⟩ : ∃ X, X = wc := ⟨_, rfl⟩
               clear g0 g1 g2 g3 g4 j0 j1 j2 j3 j4 i0 i1 i2 i3 i4
               have y10 := hst10.1
               obtain ⟨v0, v1⟩ := cells2 y10
               have f1 := no_frozen y10 1
               have hus := HUSED.out
               have hu1 := HU1.out
               have hmm := HMU.out
               have u1 : (0 : Int) ≤ t.used := hus.1
               have u2 : t.used < 4611686018427387905 := by omega
               obtain ⟨a1, a2, a3⟩ := set1x y10 (.int .i64 (t.used + 1))
               have HRBZ := hidT (hst10.turn ⟨t.who, t.used + 1⟩ a2 a3 a1)
               have hqpe : pe ≠ q := by have h1 := HGP.out; have h2 := HRBZ.out.2.2.2.2.2.2; omega
               have HPEZ := hidT ((a2.2 pe hqpe).trans hpe10)
               have HEZ := hidT (hex10.keptS (KeptS.but a2 fun b hb => hb.1))
               clear hst10 hpe10 hex10 hus hu1 hmm a1 a2 a3 hqpe y10
               go_wp2_with fail
               go_meet
               exact ⟨A9, m + 1, c9, _, _, ⟨t.who, t.used + 1⟩, ls.set sn (Lane.pop lT me.q), some ⟨(sn : Int), me.b⟩, rfl, HRBZ.out, rfl, rfl, HSTEP0.out, HSMI.out, HPEZ.out, HEZ.out⟩
         · have q3 : decide ((sn : Int) < (n : Int)) = false := by simp; omega
           have q3' : decide (sn < n) = false := by simp; omega
           have HSTEP := hidT (Seqr.step_skip (t := t) (ls := ls) HCON.out HEL.out (by rw [HLENN.out]; omega))
           have x5 : (n : Int) ≤ (sn : Int) := by omega
           have x6 : ¬ (sn : Int) < (n : Int) := by omega
           clear i0 i1 i2 i3 i4 v0 v1 z0 z1 z2 z3 z4
           go_wp2_with fail
           go_meet
           exact ⟨A, m, c, rows, d, t, ls, none, rfl, HRBX.out, rfl, (List.append_nil d).symm, HSTEP.out, HSMM.out, HPEX.out, HEX.out⟩
        case rest =>
          obtain ⟨A1, m1, c1, rows1, d1, tt, ls1, o, rfl, hst1, htw, hdd, hstep, hsm1, hpe1, hex1⟩ := hcut
          obtain ⟨Z, rfl⟩ : ∃ X, X = wc := ⟨_, rfl⟩
          have HRBZ := hidT hst1
          have HPEZ := hidT hpe1
          have HSM1 := hidT hsm1
          clear i0 i1 i2 i3 i4 v0 v1 z0 z1 z2 z3 z4
          obtain ⟨l2, E2, en2, ec2, B2, m2, d2, hx2, hil2, hcs2⟩ := HRBZ.out.at_ HWHO.out
          have hl2 : Seqr.laneAt ls1 t.who = l2 := Seqr.laneAt_of hx2
          have HIL2 := hidT hil2
          have HL2 := hidT hl2
          obtain ⟨z0, z1, z2, z3, z4⟩ := hcs2 Z (Below.refl _ _)
          obtain ⟨i0, i1, i2, i3, i4⟩ := cells5 HPEZ.out
          have HENQ := hidT (en_tail hex1 HEL.out Q HQQ.out)
          rw [hl2] at hstep
          have HSTEP := hidT hstep
          have HDD := hidT hdd
          have hQ := HQQ.out
          obtain ⟨hz1, hz2, -, -⟩ := HLNN.out
          have hw1 : IntKind.i64.wrap 1 = 1 := by decide
          clear hst1 htw hdd hstep hsm1 hpe1 hex1 hx2 hil2 hcs2 hl2 q0 q1 q2
          have HST : Hid (∀ w', Below Z.heap.size Z w' → Calls Try.prog 33 #[.agg #[.slice E2 en2 ec2, .int .i64 l2.p.seq, .int .i64 l2.p.total, .int .i64 l2.p.got, .slice B2 m2 d2], .agg #[.int .i64 2, .int .i64 x.q, .slice none 0 0, .slice Q (ln - 1) (lc - 1), .bool x.h]] w' (RLaneT w' (SB q p4 g A1 m1 c1) (Lane.set l2 (Seqr.order x r)))) :=
            hidT fun w' hb => qset_any _ _ l2 (Seqr.order x r) w' (HIL2.out.below hb) (HENQ.out.below hb) K6.out (by rw [← HL2.out]; exact (HSM1.out.at_ _).1) (fun b h => h) (fun b h => h) fun b hb' => HRBZ.out.fresh (Nat.le_trans hb.size hb')
          go_upto_region 23 with fail
          go_region_law
            (first
              | (go_simp; go_at_call 33; ((with_reducible refine (HST.out _ (Below.refl _ _).drew).mono ?_); rintro e5 w5 ⟨v5, rfl, hi5, hb5'⟩; have hb5 : Below Z.heap.size Z w5 := undrew hb5'; obtain ⟨r5, rfl, hs5, ha5⟩ := hi5.cells; obtain ⟨wx, hrunx, hcut, hbutx⟩ := RB.put HRBZ.out hb5 HWHO.out hi5 hs5 ha5))
              | fail)
          all_goals
            obtain ⟨wc, rfl⟩ : ∃ X, X = wx := ⟨_, rfl⟩
            clear hi5 hb5 hb5' hs5 ha5 hrunx hbutx
            obtain ⟨X11, rfl⟩ : ∃ X, X = wc := ⟨_, rfl⟩
            have HREL : Hid (RWR q p4 g n cap base b2 w t0 ls0 (Seqr.mu (ls1.set t.who (Lane.set l2 (Seqr.order x r)))) (.slice A1 m1 c1) X11) := hidT ⟨A1, m1, c1, rows1, d1, tt, _, rfl, by have := HGO.out.snoc HSTEP.out; rwa [← HDD.out] at this, hcut, rfl⟩
            clear hcut z0 z1 z2 z3 z4 i0 i1 i2 i3 i4 hQ hz1 hz2 hw1
            go_wp2_with fail
            go_roundw
            case rel => exact ⟨_, HREL.out⟩
            case measure =>
              have h1 := least_le (R := fun k => RWR q p4 g n cap base b2 w t0 ls0 k (.slice A1 m1 c1) X11) HREL.out
              have h2 := Seqr.step_mu HOKK.out HSTEP.out
              have h3 := HLK.out
              have h4 := HKK.out
              omega
end Go.Proofs.Ytdchgnmkeefffaa
