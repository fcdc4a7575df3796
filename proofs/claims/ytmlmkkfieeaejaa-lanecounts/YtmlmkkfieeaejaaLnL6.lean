/- The law LaneCounts, walked. (Written by wip/gen/lncounts.py.) -/
import Derived.Test.YtmlmkkfieeaejaaLnW
set_option maxRecDepth 100000
namespace Go.Proofs.Ytmlmkkfieeaejaa
open Go.RowKit
set_option linter.unusedVariables false

set_option maxHeartbeats 8000000 in
theorem counts_any (v : Value) (l : Lane.Ln) (w : World) (h : IsLane Any w v l) : Calls Try.prog 8 #[v] w (Yes w) := by
  have B_0 := hidT (Below.refl w.heap.size w)
  have L_0 := hidT (h)
  obtain ⟨A, n, c, B, m, d, ev, hE, -, -⟩ := id h
  have hle := hE.le
  have hlen := hE.size
  have HLEN := hidT hlen
  subst ev
  have HL := hidT h
  clear h hE hlen
  have t1 := alloc_at w (.cells #[.slice A n c, .int .i64 l.p.seq, .int .i64 l.p.total, .int .i64 l.p.got, .slice B m d] 27) _ rfl
  have t3 := nkeep w (.cells #[.slice A n c, .int .i64 l.p.seq, .int .i64 l.p.total, .int .i64 l.p.got, .slice B m d] 27)
  obtain ⟨Vw, hVw⟩ : ∃ W, w.alloc (.cells #[.slice A n c, .int .i64 l.p.seq, .int .i64 l.p.total, .int .i64 l.p.got, .slice B m d] 27) = W := ⟨_, rfl⟩
  rw [hVw] at t1 t3
  have HVw := hidT hVw
  have B_1 := hidT (bthen B_0.out t3)
  have L_1 := hidT (L_0.out.below t3)
  clear B_0 L_0
  obtain ⟨gw, hgw⟩ : ∃ p, w.heap.size = p := ⟨_, rfl⟩
  rw [hgw] at t1
  have X_0 := hidT (t1)
  clear t1 t3 hVw
  go_enter Try.func8, Try.ntmps8
  go_wp2_with fail
  rw [HVw.out]
  clear hgw
  with_reducible refine (shown_any _).mono ?_
  rintro e y0 ⟨rfl, hb⟩
  have B_2 := hidT (bthen B_1.out hb)
  have L_2 := hidT (L_1.out.below hb)
  have X_1 := hidT (keepH X_0.out hb)
  clear B_1 L_1 X_0
  clear hb
  obtain ⟨i0, i1, i2, i3, i4⟩ := cells5 X_1.out
  go_wp2_with fail
  cases hfew : fewL l with
  | false =>
    with_reducible refine (few_any _ l y0 L_2.out false hfew).mono ?_
    rintro e y1 ⟨rfl, hb⟩
    go_wp2
    go_ret
    exact ⟨rfl, bthen B_2.out hb⟩
  | true =>
    with_reducible refine (few_any _ l y0 L_2.out true hfew).mono ?_
    rintro e y1 ⟨rfl, hb⟩
    have B_3 := hidT (bthen B_2.out hb)
    have L_3 := hidT (L_2.out.below hb)
    have X_2 := hidT (keepH X_1.out hb)
    clear B_2 L_2 X_1
    clear hb i0 i1 i2 i3 i4
    obtain ⟨i0, i1, i2, i3, i4⟩ := cells5 X_2.out
    go_wp2_with fail
    cases hri : Lane.right l with
    | false =>
      with_reducible refine (rright_any _ l y1 L_3.out false hri).mono ?_
      rintro e y2 ⟨rfl, hb⟩
      go_wp2
      go_ret
      exact ⟨rfl, bthen B_3.out hb⟩
    | true =>
      with_reducible refine (rright_any _ l y1 L_3.out true hri).mono ?_
      rintro e y2 ⟨rfl, hb⟩
      have B_4 := hidT (bthen B_3.out hb)
      have L_4 := hidT (L_3.out.below hb)
      have X_3 := hidT (keepH X_2.out hb)
      clear B_3 L_3 X_2
      clear hb i0 i1 i2 i3 i4
      have HS := hidT (fewL_small hfew).1
      have HR0 := hidT (Lane.right_iff.1 hri).1
      have hn80 : n ≤ 80 := by have := (fewL_small hfew).2.1; rw [HLEN.out] at this; exact this
      clear hfew hri
      obtain ⟨F, hF⟩ : ∃ F, l.es.filter Lane.isMsg = F := ⟨_, rfl⟩
      obtain ⟨C, hC⟩ : ∃ C, (l.es.filter fun e => !Lane.isMsg e) = C := ⟨_, rfl⟩
      have hparts : F.length + C.length = n := by rw [← hF, ← hC, ← HLEN.out]; exact Lane.parts_length l.es
      have HF := hidT hF
      have HC := hidT hC
      have HMANY : Hid (Lane.many l = F.length) := hidT (by rw [← hF]; rfl)
      have HC0 : Hid (Lane.rises 0 C = true) := hidT (by rw [← hC]; exact Lane.rises_filter HR0.out _)
      have HFALL := hidT (show Lane.drp F.length l.es = C by rw [← hF, ← hC]; exact Lane.drp_all l.es)
      clear hF hC
      obtain ⟨M, hM⟩ : ∃ M, F.length = M := ⟨_, rfl⟩
      obtain ⟨K, hK⟩ : ∃ K, C.length = K := ⟨_, rfl⟩
      rw [hM] at HMANY HFALL hparts
      rw [hK] at hparts
      have HM := hidT hM
      have HK := hidT hK
      clear hM hK
      obtain ⟨i0, i1, i2, i3, i4⟩ := cells5 X_3.out
      have hof := IsLane.off L_4.out (Nat.le_refl _)
      have hlt := blk_lt X_3.out
      have hw0 := B_4.out.size
      have t1 := alloc_at y2 (.cells #[.slice A n c, .int .i64 l.p.seq, .int .i64 l.p.total, .int .i64 l.p.got, .slice B m d] 27) _ rfl
      have t3 := nkeep y2 (.cells #[.slice A n c, .int .i64 l.p.seq, .int .i64 l.p.total, .int .i64 l.p.got, .slice B m d] 27)
      obtain ⟨Vy2, hVy2⟩ : ∃ W, y2.alloc (.cells #[.slice A n c, .int .i64 l.p.seq, .int .i64 l.p.total, .int .i64 l.p.got, .slice B m d] 27) = W := ⟨_, rfl⟩
      rw [hVy2] at t1 t3
      have HVy2 := hidT hVy2
      have B_5 := hidT (bthen B_4.out t3)
      have L_5 := hidT (L_4.out.below t3)
      have X_4 := hidT (keepH X_3.out t3)
      clear B_4 L_4 X_3
      have O_0 := hidT (hof.below t3)
      obtain ⟨gy2, hgy2⟩ : ∃ p, y2.heap.size = p := ⟨_, rfl⟩
      rw [hgy2] at t1
      have Y_0 := hidT (t1)
      clear t1 t3 hVy2
      rw [hgy2] at hlt hw0 O_0
      have hne : gw ≠ gy2 := by omega
      have HLT := hidT hne
      have HW0 := hidT hw0
      clear hof hlt hne hw0
      go_wp2_with fail
      rw [HVy2.out]
      clear hgy2
      clear i0 i1 i2 i3 i4
      have HR1 : Hid (Lane.rises 0 (Lane.drp 0 l.es) = true) := hidT (by rw [Lane.drp_zero]; exact HR0.out)
      go_loopw [5, 6, 7] (fun z k i wr => ∃ (j : Nat) (s : Int), j ≤ M ∧ i = .int .i64 j ∧ k = .int .i64 j ∧ z = .int .i64 s ∧ Hid (∀ x, F[j]? = some x → s < x.q) ∧ Hid (Lane.rises 0 (Lane.drp j l.es) = true) ∧ ∃ (A9 : Option Addr) (n9 : Nat) (c9 : Nat) (B9 : Option Addr) (m9 : Nat) (d9 : Nat), Hid (wr.heap[gw]? = some (.cells #[.slice A n c, .int .i64 l.p.seq, .int .i64 l.p.total, .int .i64 l.p.got, .slice B m d] 27 (0, 0))) ∧ Hid (wr.heap[gy2]? = some (.cells #[.slice A9 n9 c9, .int .i64 l.p.seq, .int .i64 l.p.total, .int .i64 l.p.got, .slice B9 m9 d9] 27 (0, 0))) ∧ Hid (IsLane (Off gy2) wr (.agg #[.slice A9 n9 c9, .int .i64 l.p.seq, .int .i64 l.p.total, .int .i64 l.p.got, .slice B9 m9 d9]) ⟨Lane.drp j l.es, l.p⟩) ∧ Hid (Below w.heap.size w wr)) (fun _ _ i _ => n + 1 - (intOf i).toNat)
      case atStart => exact ⟨0, 0, Nat.zero_le _, rfl, rfl, rfl, hidT (fun x hx => by rw [← HF.out] at hx; exact (filt_pos _ HR0.out hx).1), HR1, A, n, c, B, m, d, hidT X_4.out, hidT Y_0.out, by rw [Lane.drp_zero]; exact hidT O_0.out, hidT B_5.out⟩
      case round =>
        obtain ⟨j, s, hj, rfl, rfl, rfl, HQ, HRJ, A9, n9, c9, B9, m9, d9, XX, XG, XL, XB⟩ := hrel
        have X_5 := hidT (XX.out)
        have Y_1 := hidT (XG.out)
        have O_1 := hidT (XL.out)
        have B_6 := hidT (XB.out)
        have L_6 := hidT (HL.out.below XB.out)
        have hc := message_any _ ⟨Lane.drp j l.es, l.p⟩ wr O_1.out (HS.out.sub (drp_sub j l.es))
        rw [Lane.message_drp, HF.out] at hc
        have HCM := hidT hc
        clear hc
        obtain ⟨i0, i1, i2, i3, i4⟩ := cells5 X_5.out
        obtain ⟨k0, k1, k2, k3, k4⟩ := cells5 Y_1.out
        have x1 : (j : Int) ≤ (n : Int) := by omega
        cases hx : F[j]? with
        | none =>
          have hjM : j = M := by have := List.getElem?_eq_none_iff.1 hx; have := HM.out; omega
          subst hjM
          rw [hx] at HCM
          clear hx
          go_wp2_with fail
          with_reducible refine (HCM.out).mono ?_
          rintro e y3 ⟨v, rfl, hl, hb⟩
          have X_6 := hidT (keepH X_5.out hb)
          have Y_2 := hidT (keepH Y_1.out hb)
          have O_2 := hidT (O_1.out.below hb)
          have B_7 := hidT (bthen B_6.out hb)
          have L_7 := hidT (L_6.out.below hb)
          clear X_5 Y_1 O_1 B_6 L_6
          clear hb i0 i1 i2 i3 i4 k0 k1 k2 k3 k4
          obtain ⟨BAe, bne, bce, LAe, lne, lce, eve, -, -, -, -⟩ := id hl
          have eve' : v = .agg #[.int .i64 Lane.En.zero.k, .int .i64 Lane.En.zero.q, .slice BAe bne bce, .slice LAe lne lce, .bool Lane.En.zero.h] := eve
          clear eve
          subst eve'
          have t1 := alloc_at y3 (.cells #[.int .i64 Lane.En.zero.k, .int .i64 Lane.En.zero.q, .slice BAe bne bce, .slice LAe lne lce, .bool Lane.En.zero.h] 33) _ rfl
          have t3 := nkeep y3 (.cells #[.int .i64 Lane.En.zero.k, .int .i64 Lane.En.zero.q, .slice BAe bne bce, .slice LAe lne lce, .bool Lane.En.zero.h] 33)
          obtain ⟨Vy3, hVy3⟩ : ∃ W, y3.alloc (.cells #[.int .i64 Lane.En.zero.k, .int .i64 Lane.En.zero.q, .slice BAe bne bce, .slice LAe lne lce, .bool Lane.En.zero.h] 33) = W := ⟨_, rfl⟩
          rw [hVy3] at t1 t3
          have HVy3 := hidT hVy3
          have X_7 := hidT (keepH X_6.out t3)
          have Y_3 := hidT (keepH Y_2.out t3)
          have O_3 := hidT (O_2.out.below t3)
          have B_8 := hidT (bthen B_7.out t3)
          have L_8 := hidT (L_7.out.below t3)
          clear X_6 Y_2 O_2 B_7 L_7
          obtain ⟨gy3, hgy3⟩ : ∃ p, y3.heap.size = p := ⟨_, rfl⟩
          rw [hgy3] at t1
          have Ee_0 := hidT (t1)
          clear t1 t3 hVy3
          clear hl
          obtain ⟨f0, f1, f2, f3, f4⟩ := cells5 Ee_0.out
          have HST : Hid (IsLane (Off gy2) Vy3 (.agg #[.slice A9 n9 c9, .int .i64 l.p.seq, .int .i64 l.p.total, .int .i64 l.p.got, .slice B9 m9 d9]) ⟨C, l.p⟩) := hidT (by have := O_3.out; rw [HFALL.out] at this; exact this)
          rw [← HVy3.out] at f0 f1 f2 f3 f4
          go_wp2_with fail
          rw [HVy3.out]
          clear hgy3
          clear f0 f1 f2 f3 f4
          go_loopw [10, 11] (fun o i wr => ∃ k : Nat, k ≤ K ∧ i = .int .i64 k ∧ o = .int .i64 k ∧ ∃ (A7 : Option Addr) (n7 : Nat) (c7 : Nat) (B7 : Option Addr) (m7 : Nat) (d7 : Nat), Hid (wr.heap[gw]? = some (.cells #[.slice A n c, .int .i64 l.p.seq, .int .i64 l.p.total, .int .i64 l.p.got, .slice B m d] 27 (0, 0))) ∧ Hid (wr.heap[gy2]? = some (.cells #[.slice A7 n7 c7, .int .i64 l.p.seq, .int .i64 l.p.total, .int .i64 l.p.got, .slice B7 m7 d7] 27 (0, 0))) ∧ Hid (IsLane (Off gy2) wr (.agg #[.slice A7 n7 c7, .int .i64 l.p.seq, .int .i64 l.p.total, .int .i64 l.p.got, .slice B7 m7 d7]) ⟨C.drop k, l.p⟩) ∧ Hid (Below w.heap.size w wr)) (fun _ i _ => n + 1 - (intOf i).toNat)
          case atStart => exact ⟨0, Nat.zero_le _, rfl, rfl, A9, n9, c9, B9, m9, d9, hidT X_7.out, hidT Y_3.out, by rw [List.drop_zero]; exact HST, hidT B_8.out⟩
          case round =>
            obtain ⟨k, hk, rfl, rfl, A7, n7, c7, B7, m7, d7, ZX, ZG, ZL, ZB⟩ := hrel
            have X_8 := hidT (ZX.out)
            have Y_4 := hidT (ZG.out)
            have O_4 := hidT (ZL.out)
            have B_9 := hidT (ZB.out)
            have L_9 := hidT (HL.out.below ZB.out)
            have hc := control_any _ ⟨C.drop k, l.p⟩ wr O_4.out (HS.out.sub (by rw [← HC.out]; exact (List.drop_sublist _ _).trans List.filter_sublist))
            rw [show Lane.control ⟨C.drop k, l.p⟩ = C[k]? by rw [← HC.out]; exact Lane.control_drop l.es k l.p] at hc
            have HCC := hidT hc
            clear hc
            obtain ⟨i0, i1, i2, i3, i4⟩ := cells5 X_8.out
            obtain ⟨k0, k1, k2, k3, k4⟩ := cells5 Y_4.out
            have x2 : (k : Int) ≤ (n : Int) := by omega
            cases hy : C[k]? with
            | none =>
              have hkK : k = K := by have := List.getElem?_eq_none_iff.1 hy; have := HK.out; omega
              subst hkK
              rw [hy] at HCC
              clear hy
              have hn7 : n7 = 0 := by
                obtain ⟨A_, n_, c_, B_, m_, d_, ev, hE, _, _⟩ := O_4.out
                injection ev with ev
                simp only [Array.mk.injEq, List.cons.injEq, Value.slice.injEq, and_true] at ev
                obtain ⟨⟨_, rfl, _⟩, _⟩ := ev
                have := hE.size
                rw [← this, ← HK.out]
                simp
              subst hn7
              go_wp2_with fail
              with_reducible refine (HCC.out).mono ?_
              rintro e y5 ⟨v, rfl, hl, hb⟩
              have X_9 := hidT (keepH X_8.out hb)
              have Y_5 := hidT (keepH Y_4.out hb)
              have O_5 := hidT (O_4.out.below hb)
              have B_10 := hidT (bthen B_9.out hb)
              have L_10 := hidT (L_9.out.below hb)
              clear X_8 Y_4 O_4 B_9 L_9
              clear hb i0 i1 i2 i3 i4 k0 k1 k2 k3 k4
              obtain ⟨BAo, bno, bco, LAo, lno, lco, evo, -, -, -, -⟩ := id hl
              have evo' : v = .agg #[.int .i64 Lane.En.zero.k, .int .i64 Lane.En.zero.q, .slice BAo bno bco, .slice LAo lno lco, .bool Lane.En.zero.h] := evo
              clear evo
              subst evo'
              have t1 := alloc_at y5 (.cells #[.int .i64 Lane.En.zero.k, .int .i64 Lane.En.zero.q, .slice BAo bno bco, .slice LAo lno lco, .bool Lane.En.zero.h] 33) _ rfl
              have t3 := nkeep y5 (.cells #[.int .i64 Lane.En.zero.k, .int .i64 Lane.En.zero.q, .slice BAo bno bco, .slice LAo lno lco, .bool Lane.En.zero.h] 33)
              obtain ⟨Vy5, hVy5⟩ : ∃ W, y5.alloc (.cells #[.int .i64 Lane.En.zero.k, .int .i64 Lane.En.zero.q, .slice BAo bno bco, .slice LAo lno lco, .bool Lane.En.zero.h] 33) = W := ⟨_, rfl⟩
              rw [hVy5] at t1 t3
              have HVy5 := hidT hVy5
              have X_10 := hidT (keepH X_9.out t3)
              have Y_6 := hidT (keepH Y_5.out t3)
              have O_6 := hidT (O_5.out.below t3)
              have B_11 := hidT (bthen B_10.out t3)
              have L_11 := hidT (L_10.out.below t3)
              clear X_9 Y_5 O_5 B_10 L_10
              obtain ⟨gy5, hgy5⟩ : ∃ p, y5.heap.size = p := ⟨_, rfl⟩
              rw [hgy5] at t1
              have Eo_0 := hidT (t1)
              clear t1 t3 hVy5
              clear hl
              obtain ⟨i0, i1, i2, i3, i4⟩ := cells5 X_10.out
              obtain ⟨k0, k1, k2, k3, k4⟩ := cells5 Y_6.out
              obtain ⟨f0, f1, f2, f3, f4⟩ := cells5 Eo_0.out
              have x3 : (j : Int) + (k : Int) = (n : Int) := by omega
              have x4 : IntKind.i64.wrap ((j : Int) + (k : Int)) = (j : Int) + (k : Int) := IntWalk.i64_in _ (by omega)
              have x5 : wrap64 ((j : Int) + (k : Int)) = (j : Int) + (k : Int) := IntWalk.wrap64_in _ (by omega)
              have x6 : ((j : Int) == (j : Int)) = true := by simp
              have x7 : ((j : Int) + (k : Int) == (n : Int)) = true := by simp [x3]
              have hm := many_any _ l Vy5 L_11.out
              rw [HMANY.out] at hm
              have HMC := hidT hm
              clear hm x3
              rw [← HVy5.out] at i0 i1 i2 i3 i4 k0 k1 k2 k3 k4 f0 f1 f2 f3 f4
              go_wp2_with fail
              rw [HVy5.out]
              clear hgy5
              with_reducible refine HMC.out.mono ?_
              rintro e y6 ⟨rfl, hb⟩
              have X_11 := hidT (keepH X_10.out hb)
              have Y_7 := hidT (keepH Y_6.out hb)
              have O_7 := hidT (O_6.out.below hb)
              have B_12 := hidT (bthen B_11.out hb)
              have L_12 := hidT (L_11.out.below hb)
              have Eo_1 := hidT (keepH Eo_0.out hb)
              clear X_10 Y_6 O_6 B_11 L_11 Eo_0
              clear hb i0 i1 i2 i3 i4 k0 k1 k2 k3 k4 f0 f1 f2 f3 f4
              obtain ⟨i0, i1, i2, i3, i4⟩ := cells5 X_11.out
              obtain ⟨k0, k1, k2, k3, k4⟩ := cells5 Y_7.out
              go_wp2
              go_ret
              exact ⟨rfl, B_12.out⟩
            | some x =>
              have hxn : Lane.isMsg x = false := by have h1 := List.mem_of_getElem? hy; rw [← HC.out] at h1; simpa using (List.mem_filter.1 h1).2
              have x3 : (x.k == 1) = false := by simpa using not_msg_k hxn
              have hkK : k < K := by have := (List.getElem?_eq_some_iff.1 hy).1; have := HK.out; omega
              have HY := hidT hy
              rw [hy] at HCC
              clear hy hxn
              go_wp2_with fail
              with_reducible refine (HCC.out).mono ?_
              rintro e y5 ⟨v, rfl, hl, hb⟩
              have X_9 := hidT (keepH X_8.out hb)
              have Y_5 := hidT (keepH Y_4.out hb)
              have O_5 := hidT (O_4.out.below hb)
              have B_10 := hidT (bthen B_9.out hb)
              have L_10 := hidT (L_9.out.below hb)
              clear X_8 Y_4 O_4 B_9 L_9
              clear hb i0 i1 i2 i3 i4 k0 k1 k2 k3 k4
              obtain ⟨BAo, bno, bco, LAo, lno, lco, evo, -, -, -, -⟩ := id hl
              have evo' : v = .agg #[.int .i64 x.k, .int .i64 x.q, .slice BAo bno bco, .slice LAo lno lco, .bool x.h] := evo
              clear evo
              subst evo'
              have t1 := alloc_at y5 (.cells #[.int .i64 x.k, .int .i64 x.q, .slice BAo bno bco, .slice LAo lno lco, .bool x.h] 33) _ rfl
              have t3 := nkeep y5 (.cells #[.int .i64 x.k, .int .i64 x.q, .slice BAo bno bco, .slice LAo lno lco, .bool x.h] 33)
              obtain ⟨Vy5, hVy5⟩ : ∃ W, y5.alloc (.cells #[.int .i64 x.k, .int .i64 x.q, .slice BAo bno bco, .slice LAo lno lco, .bool x.h] 33) = W := ⟨_, rfl⟩
              rw [hVy5] at t1 t3
              have HVy5 := hidT hVy5
              have X_10 := hidT (keepH X_9.out t3)
              have Y_6 := hidT (keepH Y_5.out t3)
              have O_6 := hidT (O_5.out.below t3)
              have B_11 := hidT (bthen B_10.out t3)
              have L_11 := hidT (L_10.out.below t3)
              clear X_9 Y_5 O_5 B_10 L_10
              obtain ⟨gy5, hgy5⟩ : ∃ p, y5.heap.size = p := ⟨_, rfl⟩
              rw [hgy5] at t1
              have Eo_0 := hidT (t1)
              clear t1 t3 hVy5
              clear hl
              obtain ⟨k0, k1, k2, k3, k4⟩ := cells5 Y_6.out
              obtain ⟨f0, f1, f2, f3, f4⟩ := cells5 Eo_0.out
              have hc := pop_any _ ⟨C.drop k, l.p⟩ x.q Vy5 O_6.out (HS.out.sub (by rw [← HC.out]; exact (List.drop_sublist _ _).trans List.filter_sublist)) (by have h1 := HC0.out; rw [← List.take_append_drop k C] at h1; exact Lane.rises_low (Lane.rises_append.1 h1).2 (Lane.rises_top (Lane.rises_append.1 h1).1))
              rw [show Lane.pop ⟨C.drop k, l.p⟩ x.q = ⟨C.drop (k + 1), l.p⟩ by unfold Lane.pop; rw [Lane.drop_pop HC0.out HY.out]] at hc
              have HPC := hidT hc
              clear hc
              rw [← HVy5.out] at k0 k1 k2 k3 k4 f0 f1 f2 f3 f4
              go_wp2_with fail
              rw [HVy5.out]
              clear hgy5
              with_reducible refine HPC.out.mono ?_
              rintro e y6 ⟨v, rfl, hl, hb⟩
              have hly : gy2 < Vy5.heap.size := blk_lt Y_6.out
              have X_11 := hidT (keepH X_10.out hb)
              have Y_7 := hidT (keepH Y_6.out hb)
              have O_7 := hidT (O_6.out.below hb)
              have B_12 := hidT (bthen B_11.out hb)
              have L_12 := hidT (L_11.out.below hb)
              have Eo_1 := hidT (keepH Eo_0.out hb)
              clear X_10 Y_6 O_6 B_11 L_11 Eo_0
              clear hb HPC k0 k1 k2 k3 k4 f0 f1 f2 f3 f4
              obtain ⟨A6, n6, c6, B6, m6, d6, ev6, hE6, -, -⟩ := id hl
              have ev6' : v = .agg #[.slice A6 n6 c6, .int .i64 l.p.seq, .int .i64 l.p.total, .int .i64 l.p.got, .slice B6 m6 d6] := ev6
              clear ev6
              subst ev6'
              have yg := Y_7.out
              have HLO := hidT (hl.offHi (g := gy2) hly)
              have hxx := X_11.out
              have hbb := B_12.out
              have HXX := hidT hxx
              have HBB := hidT hbb
              clear hl hE6 hly hxx hbb
              go_wp2_with (
                refine wpList_stI rfl 27 _ _ rfl gy2 #[.slice A6 n6 c6, .int .i64 l.p.seq, .int .i64 l.p.total, .int .i64 l.p.got, .slice B6 m6 d6] rfl rfl _ _ yg sizeL rfl (by simp [Value.oneCell']) ?_
                intro w8 hg8 hbut hbel)
              exact ⟨⟨k + 1, by omega, by go_num, by go_num, A6, n6, c6, B6, m6, d6, hidT ((hbut.2 gw HLT.out).trans HXX.out), hidT hg8, hidT (HLO.out.butOff hbut), hidT (hbel _ _ HBB.out HW0.out)⟩, by simp [intOf]; omega⟩
        | some x =>
          have hxm : Lane.isMsg x = true := by have h1 := List.mem_of_getElem? hx; rw [← HF.out] at h1; exact (List.mem_filter.1 h1).2
          have hsx := HQ.out x hx
          have x3 : (x.k != 1) = false := by simp [msg_k hxm]
          have x4 : decide (x.q ≤ s) = false := by rw [decide_eq_false_iff_not]; omega
          have hjM : j < M := by have := (List.getElem?_eq_some_iff.1 hx).1; have := HM.out; omega
          have HX := hidT hx
          have HXM := hidT hxm
          rw [hx] at HCM
          clear hx hxm hsx
          go_wp2_with fail
          with_reducible refine (HCM.out).mono ?_
          rintro e y3 ⟨v, rfl, hl, hb⟩
          have X_6 := hidT (keepH X_5.out hb)
          have Y_2 := hidT (keepH Y_1.out hb)
          have O_2 := hidT (O_1.out.below hb)
          have B_7 := hidT (bthen B_6.out hb)
          have L_7 := hidT (L_6.out.below hb)
          clear X_5 Y_1 O_1 B_6 L_6
          clear hb i0 i1 i2 i3 i4 k0 k1 k2 k3 k4
          obtain ⟨BAe, bne, bce, LAe, lne, lce, eve, -, -, -, -⟩ := id hl
          have eve' : v = .agg #[.int .i64 x.k, .int .i64 x.q, .slice BAe bne bce, .slice LAe lne lce, .bool x.h] := eve
          clear eve
          subst eve'
          have t1 := alloc_at y3 (.cells #[.int .i64 x.k, .int .i64 x.q, .slice BAe bne bce, .slice LAe lne lce, .bool x.h] 33) _ rfl
          have t3 := nkeep y3 (.cells #[.int .i64 x.k, .int .i64 x.q, .slice BAe bne bce, .slice LAe lne lce, .bool x.h] 33)
          obtain ⟨Vy3, hVy3⟩ : ∃ W, y3.alloc (.cells #[.int .i64 x.k, .int .i64 x.q, .slice BAe bne bce, .slice LAe lne lce, .bool x.h] 33) = W := ⟨_, rfl⟩
          rw [hVy3] at t1 t3
          have HVy3 := hidT hVy3
          have X_7 := hidT (keepH X_6.out t3)
          have Y_3 := hidT (keepH Y_2.out t3)
          have O_3 := hidT (O_2.out.below t3)
          have B_8 := hidT (bthen B_7.out t3)
          have L_8 := hidT (L_7.out.below t3)
          clear X_6 Y_2 O_2 B_7 L_7
          obtain ⟨gy3, hgy3⟩ : ∃ p, y3.heap.size = p := ⟨_, rfl⟩
          rw [hgy3] at t1
          have Ee_0 := hidT (t1)
          clear t1 t3 hVy3
          clear hl
          obtain ⟨k0, k1, k2, k3, k4⟩ := cells5 Y_3.out
          obtain ⟨f0, f1, f2, f3, f4⟩ := cells5 Ee_0.out
          have hpp : Lane.pop ⟨Lane.drp j l.es, l.p⟩ x.q = ⟨Lane.drp (j + 1) l.es, l.p⟩ := by unfold Lane.pop; rw [Lane.drp_pop HR0.out (by rw [HF.out]; exact HX.out)]
          have hc := pop_any _ ⟨Lane.drp j l.es, l.p⟩ x.q Vy3 O_3.out (HS.out.sub (drp_sub j l.es)) HRJ.out
          rw [hpp] at hc
          have HRN : Hid (Lane.rises 0 (Lane.drp (j + 1) l.es) = true) := hidT (by have h1 := congrArg Lane.Ln.es hpp; rw [← show _ = Lane.drp (j + 1) l.es from h1]; exact Lane.rises_filter HRJ.out _)
          have HPC := hidT hc
          clear hc hpp
          rw [← HVy3.out] at k0 k1 k2 k3 k4 f0 f1 f2 f3 f4
          go_wp2_with fail
          rw [HVy3.out]
          clear hgy3
          with_reducible refine HPC.out.mono ?_
          rintro e y4 ⟨v, rfl, hl, hb⟩
          have hly : gy2 < Vy3.heap.size := blk_lt Y_3.out
          have X_8 := hidT (keepH X_7.out hb)
          have Y_4 := hidT (keepH Y_3.out hb)
          have O_4 := hidT (O_3.out.below hb)
          have B_9 := hidT (bthen B_8.out hb)
          have L_9 := hidT (L_8.out.below hb)
          have Ee_1 := hidT (keepH Ee_0.out hb)
          clear X_7 Y_3 O_3 B_8 L_8 Ee_0
          clear hb HPC k0 k1 k2 k3 k4 f0 f1 f2 f3 f4
          obtain ⟨A5, n5, c5, B5, m5, d5, ev5, hE5, -, -⟩ := id hl
          have ev5' : v = .agg #[.slice A5 n5 c5, .int .i64 l.p.seq, .int .i64 l.p.total, .int .i64 l.p.got, .slice B5 m5 d5] := ev5
          clear ev5
          subst ev5'
          have yg := Y_4.out
          have HLO := hidT (hl.offHi (g := gy2) hly)
          have hxx := X_8.out
          have hbb := B_9.out
          have HXX := hidT hxx
          have HBB := hidT hbb
          clear hl hE5 hly hxx hbb
          go_wp2_with (
            refine wpList_stI rfl 27 _ _ rfl gy2 #[.slice A5 n5 c5, .int .i64 l.p.seq, .int .i64 l.p.total, .int .i64 l.p.got, .slice B5 m5 d5] rfl rfl _ _ yg sizeL rfl (by simp [Value.oneCell']) ?_
            intro w8 hg8 hbut hbel)
          exact ⟨⟨j + 1, x.q, by omega, by go_num, by go_num, rfl, hidT (fun y hy => filt_snoc _ HR0.out (by rw [HF.out]; exact HX.out) (by rw [HF.out]; exact hy)), HRN, A5, n5, c5, B5, m5, d5, hidT ((hbut.2 gw HLT.out).trans HXX.out), hidT hg8, hidT (HLO.out.butOff hbut), hidT (hbel _ _ HBB.out HW0.out)⟩, by simp [intOf]; omega⟩
end Go.Proofs.Ytmlmkkfieeaejaa
