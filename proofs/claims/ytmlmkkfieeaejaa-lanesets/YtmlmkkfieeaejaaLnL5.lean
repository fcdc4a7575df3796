/- The law LaneSets, walked. (Written by wip/gen/lnsets.py.) -/
import Derived.Test.YtmlmkkfieeaejaaLnW
import Derived.Test.YtmlmkkfieeaejaaRefSame
import Derived.Test.YtmlmkkfieeaejaaRLn3
set_option maxRecDepth 100000
namespace Go.Proofs.Ytmlmkkfieeaejaa
open Go.RowKit
set_option linter.unusedVariables false

set_option maxHeartbeats 8000000 in
theorem sets_any (v : Value) (l : Lane.Ln) (SA : Option Addr) (sn sc : Nat) (ls : List Int) (w : World) (h : IsLane Any w v l) (hls : RdI w SA sn sc ls) : Calls Try.prog 7 #[v, .slice SA sn sc] w (Yes w) := by
  have B_0 := hidT (Below.refl w.heap.size w)
  have L_0 := hidT (h)
  obtain ⟨A, n, c, B, m, d, ev, hE, -, -⟩ := id h
  have hle := hE.le
  have hlen := hE.size
  have HLEN := hidT hlen
  have HE := hidT hE
  have hsn := RdV.le hls
  have HLS := hidT hls
  subst ev
  have HL := hidT h
  clear h hE hlen hls
  have t1 := alloc_at w (.cells #[.slice A n c, .int .i64 l.p.seq, .int .i64 l.p.total, .int .i64 l.p.got, .slice B m d] 27) _ rfl
  have t3 := nkeep w (.cells #[.slice A n c, .int .i64 l.p.seq, .int .i64 l.p.total, .int .i64 l.p.got, .slice B m d] 27)
  obtain ⟨Vw, hVw⟩ : ∃ W, w.alloc (.cells #[.slice A n c, .int .i64 l.p.seq, .int .i64 l.p.total, .int .i64 l.p.got, .slice B m d] 27) = W := ⟨_, rfl⟩
  rw [hVw] at t1 t3
  have HVw := hidT hVw
  have B_1 := hidT (bthen B_0.out t3)
  have L_1 := hidT (L_0.out.below t3)
  clear B_0 L_0
  obtain ⟨gw, hgw⟩ : ∃ p, w.heap.size = p := ⟨_, rfl⟩
  rw [hgw] at t1
  have X_0 := hidT (t1)
  clear t1 t3 hVw
  go_enter Try.func7, Try.ntmps7
  go_wp2_with fail
  rw [HVw.out]
  clear hgw
  with_reducible refine (shown_any _).mono ?_
  rintro e y0 ⟨rfl, hb⟩
  have B_2 := hidT (bthen B_1.out hb)
  have L_2 := hidT (L_1.out.below hb)
  have X_1 := hidT (keepH X_0.out hb)
  clear B_1 L_1 X_0
  clear hb
  obtain ⟨i0, i1, i2, i3, i4⟩ := cells5 X_1.out
  go_wp2_with fail
  cases hfew : fewL l with
  | false =>
    with_reducible refine (few_any _ l y0 L_2.out false hfew).mono ?_
    rintro e y1 ⟨rfl, hb⟩
    go_wp2
    go_ret
    exact ⟨rfl, bthen B_2.out hb⟩
  | true =>
    with_reducible refine (few_any _ l y0 L_2.out true hfew).mono ?_
    rintro e y1 ⟨rfl, hb⟩
    have B_3 := hidT (bthen B_2.out hb)
    have L_3 := hidT (L_2.out.below hb)
    have X_2 := hidT (keepH X_1.out hb)
    clear B_2 L_2 X_1
    clear hb i0 i1 i2 i3 i4
    obtain ⟨i0, i1, i2, i3, i4⟩ := cells5 X_2.out
    go_wp2_with fail
    cases hri : Lane.right l with
    | false =>
      with_reducible refine (rright_any _ l y1 L_3.out false hri).mono ?_
      rintro e y2 ⟨rfl, hb⟩
      go_wp2
      go_ret
      exact ⟨rfl, bthen B_3.out hb⟩
    | true =>
      with_reducible refine (rright_any _ l y1 L_3.out true hri).mono ?_
      rintro e y2 ⟨rfl, hb⟩
      have B_4 := hidT (bthen B_3.out hb)
      have L_4 := hidT (L_3.out.below hb)
      have X_3 := hidT (keepH X_2.out hb)
      clear B_3 L_3 X_2
      clear hb i0 i1 i2 i3 i4
      have HS := hidT (fewL_small hfew).1
      have HR := hidT hri
      have HR0 := hidT (Lane.right_iff.1 hri).1
      have hn80 : n ≤ 80 := by have := (fewL_small hfew).2.1; rw [HLEN.out] at this; exact this
      clear hfew hri
      by_cases h60 : sn ≤ 60
      rotate_left
      · have t1 : decide (60 < sn) = true := by simpa using h60
        have t2 : decide ((60 : Int) < (sn : Int)) = true := by simp; omega
        go_wp2
        go_ret
        exact ⟨rfl, B_4.out⟩
      have t1 : decide (60 < sn) = false := by simpa using h60
      have t2 : decide ((60 : Int) < (sn : Int)) = false := by simp; omega
      go_wp2_with fail
      clear t1 t2
      go_loopw [6] (fun i wr => ∃ j : Nat, j ≤ sn ∧ i = .int .i64 j ∧ Hid (∀ k y, k < j → ls[k]? = some y → 0 ≤ y ∧ y ≤ 63) ∧ Hid (Below y2.heap.size y2 wr)) (fun i _ => sn - (intOf i).toNat)
      case atStart => exact ⟨0, Nat.zero_le _, rfl, hidT (fun k y hk => absurd hk (by omega)), hidT (Below.refl _ _)⟩
      case round =>
        obtain ⟨j, hj, rfl, HJ, HB⟩ := hrel
        have B_5 := hidT (bthen B_4.out HB.out)
        have L_5 := hidT (L_4.out.below HB.out)
        have X_4 := hidT (keepH X_3.out HB.out)
        clear B_4 L_4 X_3
        by_cases hjn : j < sn
        · obtain ⟨b, o, y, rfl, hy, hcell⟩ := RdI.at_ (RdV.below HLS.out B_5.out) hjn
          have x1 : (0 : Int) ≤ (j : Int) := by omega
          have x2 : (j : Int) < (sn : Int) := by omega
          by_cases hlo : y < 0
          · have e1 : decide (y < 0) = true := by simpa using hlo
            clear hlo
            go_wp2
            go_ret
            exact ⟨rfl, B_5.out⟩
          · have e1 : decide (y < 0) = false := by simpa using hlo
            by_cases hhi : 63 < y
            · have e2 : decide (63 < y) = true := by simpa using hhi
              clear hlo hhi
              go_wp2
              go_ret
              exact ⟨rfl, B_5.out⟩
            · have e2 : decide (63 < y) = false := by simpa using hhi
              have HY := hidT hy
              have hyy : 0 ≤ y ∧ y ≤ 63 := by omega
              have HYY := hidT hyy
              clear hlo hhi hy hyy
              go_wp2
              exact ⟨⟨j + 1, by omega, by go_num, hidT (fun k z hk hz => by
                by_cases hkj : k = j
                · subst hkj
                  rw [HY.out] at hz
                  injection hz with hz
                  subst hz
                  exact HYY.out
                · exact HJ.out k z (by omega) hz), HB⟩, by simp [intOf]; omega⟩
        · have hje : j = sn := by omega
          subst hje
          have HSE := hidT (show ∀ y ∈ ls, 0 ≤ y ∧ y ≤ 63 from fun y hy => by
            obtain ⟨k, hk⟩ := List.getElem?_of_mem hy
            refine HJ.out k y ?_ hk
            have h1 := (List.getElem?_eq_some_iff.1 hk).1
            have h2 := RdI.size HLS.out
            omega)
          have hlsn : ls.length = j := by exact RdI.size HLS.out
          have HLSN := hidT hlsn
          clear hlsn
          obtain ⟨o1, ho1⟩ : ∃ o1, Lane.first l = o1 := ⟨_, rfl⟩
          obtain ⟨f, hf⟩ : ∃ f, o1.getD Lane.En.zero = f := ⟨_, rfl⟩
          obtain ⟨s, hs⟩ : ∃ s, o1.isSome = s := ⟨_, rfl⟩
          have hc := first_any _ l wr L_5.out HS.out
          rw [ho1] at hc
          unfold GetE at hc
          rw [hf, hs] at hc
          have HCF := hidT hc
          have HO1 := hidT ho1
          have HF := hidT hf
          have HSS := hidT hs
          clear hc ho1 hf hs
          obtain ⟨i0, i1, i2, i3, i4⟩ := cells5 X_4.out
          go_wp2_with fail
          with_reducible refine (HCF.out).mono ?_
          rintro e y3 ⟨v, rfl, hl, hb⟩
          have B_6 := hidT (bthen B_5.out hb)
          have L_6 := hidT (L_5.out.below hb)
          have X_5 := hidT (keepH X_4.out hb)
          clear B_5 L_5 X_4
          clear hb i0 i1 i2 i3 i4
          obtain ⟨BAf, bnf, bcf, LAf, lnf, lcf, evf, -, -, -, -⟩ := id hl
          have evf' : v = .agg #[.int .i64 f.k, .int .i64 f.q, .slice BAf bnf bcf, .slice LAf lnf lcf, .bool f.h] := evf
          clear evf
          subst evf'
          have t1 := alloc_at y3 (.cells #[.int .i64 f.k, .int .i64 f.q, .slice BAf bnf bcf, .slice LAf lnf lcf, .bool f.h] 33) _ rfl
          have t3 := nkeep y3 (.cells #[.int .i64 f.k, .int .i64 f.q, .slice BAf bnf bcf, .slice LAf lnf lcf, .bool f.h] 33)
          obtain ⟨Vy3, hVy3⟩ : ∃ W, y3.alloc (.cells #[.int .i64 f.k, .int .i64 f.q, .slice BAf bnf bcf, .slice LAf lnf lcf, .bool f.h] 33) = W := ⟨_, rfl⟩
          rw [hVy3] at t1 t3
          have HVy3 := hidT hVy3
          have B_7 := hidT (bthen B_6.out t3)
          have L_7 := hidT (L_6.out.below t3)
          have X_6 := hidT (keepH X_5.out t3)
          clear B_6 L_6 X_5
          obtain ⟨gy3, hgy3⟩ : ∃ p, y3.heap.size = p := ⟨_, rfl⟩
          rw [hgy3] at t1
          have Ef_0 := hidT (t1)
          clear t1 t3 hVy3
          clear hl
          go_wp2_with fail
          rw [HVy3.out]
          clear hgy3
          go_loopw [9] (fun i wr => ∃ j : Nat, j ≤ n ∧ i = .int .i64 j ∧ Hid (Below Vy3.heap.size Vy3 wr)) (fun i _ => n - (intOf i).toNat)
          case atStart => exact ⟨0, Nat.zero_le _, rfl, hidT (Below.refl _ _)⟩
          case round =>
            obtain ⟨k, hk, rfl, HB2⟩ := hrel
            have B_8 := hidT (bthen B_7.out HB2.out)
            have L_8 := hidT (L_7.out.below HB2.out)
            have X_7 := hidT (keepH X_6.out HB2.out)
            have Ef_1 := hidT (keepH Ef_0.out HB2.out)
            clear B_7 L_7 X_6 Ef_0
            obtain ⟨i0, i1, i2, i3, i4⟩ := cells5 X_7.out
            obtain ⟨f0, f1, f2, f3, f4⟩ := cells5 Ef_1.out
            by_cases hkn : k < n
            · obtain ⟨b, o, x, BA, bn, bc, LA, ln, lc, rfl, hx, _, _, _, _, hcs⟩ := HE.out.told hkn
              obtain ⟨d0, d1, d2, d3, d4⟩ := hcs wr B_8.out
              have x1 : (0 : Int) ≤ (k : Int) := by omega
              have x2 : (k : Int) < (n : Int) := by omega
              have hst : s = true ∧ f.q ≤ x.q := by
                have hsm := HSS.out
                have hfm := HF.out
                cases o1 with
                | none =>
                  exfalso
                  have h1 := HO1.out
                  have h2 := HLEN.out
                  unfold Lane.first at h1
                  rw [List.head?_eq_none_iff] at h1
                  rw [h1] at h2
                  simp at h2
                  omega
                | some f1 =>
                  have e1 : f1 = f := hfm
                  subst e1
                  exact ⟨hsm.symm, Lane.first_low HR.out HO1.out (List.mem_of_getElem? hx)⟩
              obtain ⟨rfl, hlow⟩ := hst
              have e1 : decide (x.q < f.q) = false := by rw [decide_eq_false_iff_not]; omega
              clear hcs hx hlow
              go_wp2_with fail
              go_quiet (fail)
              go_wp2
              exact ⟨⟨k + 1, by omega, by go_num, hidT (bthen HB2.out (drawn_below _ _))⟩, by simp [intOf]; omega⟩
            · have hke : k = n := by omega
              subst hke
              have hc := control_any _ l wr L_8.out HS.out
              have HCC := hidT hc
              clear hc
              clear Ef_1
              cases hco : Lane.control l with
              | none =>
                rw [hco] at HCC
                clear hco
                go_wp2_with fail
                with_reducible refine (HCC.out).mono ?_
                rintro e y4 ⟨v, rfl, hl, hb⟩
                have B_9 := hidT (bthen B_8.out hb)
                have L_9 := hidT (L_8.out.below hb)
                have X_8 := hidT (keepH X_7.out hb)
                clear B_8 L_8 X_7
                clear hb i0 i1 i2 i3 i4 f0 f1 f2 f3 f4
                obtain ⟨BAe, bne, bce, LAe, lne, lce, eve, -, -, -, -⟩ := id hl
                have eve' : v = .agg #[.int .i64 Lane.En.zero.k, .int .i64 Lane.En.zero.q, .slice BAe bne bce, .slice LAe lne lce, .bool Lane.En.zero.h] := eve
                clear eve
                subst eve'
                have t1 := alloc_at y4 (.cells #[.int .i64 Lane.En.zero.k, .int .i64 Lane.En.zero.q, .slice BAe bne bce, .slice LAe lne lce, .bool Lane.En.zero.h] 33) _ rfl
                have t3 := nkeep y4 (.cells #[.int .i64 Lane.En.zero.k, .int .i64 Lane.En.zero.q, .slice BAe bne bce, .slice LAe lne lce, .bool Lane.En.zero.h] 33)
                obtain ⟨Vy4, hVy4⟩ : ∃ W, y4.alloc (.cells #[.int .i64 Lane.En.zero.k, .int .i64 Lane.En.zero.q, .slice BAe bne bce, .slice LAe lne lce, .bool Lane.En.zero.h] 33) = W := ⟨_, rfl⟩
                rw [hVy4] at t1 t3
                have HVy4 := hidT hVy4
                have B_10 := hidT (bthen B_9.out t3)
                have L_10 := hidT (L_9.out.below t3)
                have X_9 := hidT (keepH X_8.out t3)
                clear B_9 L_9 X_8
                obtain ⟨gy4, hgy4⟩ : ∃ p, y4.heap.size = p := ⟨_, rfl⟩
                rw [hgy4] at t1
                have Ee_0 := hidT (t1)
                clear t1 t3 hVy4
                clear hl
                obtain ⟨f0, f1, f2, f3, f4⟩ := cells5 Ee_0.out
                rw [← HVy4.out] at f0 f1 f2 f3 f4
                go_wp2
                go_ret
                rw [HVy4.out]
                exact ⟨rfl, B_10.out⟩
              | some e =>
                rw [hco] at HCC
                have HCO := hidT hco
                clear hco
                go_wp2_with fail
                with_reducible refine (HCC.out).mono ?_
                rintro e y4 ⟨v, rfl, hl, hb⟩
                have B_9 := hidT (bthen B_8.out hb)
                have L_9 := hidT (L_8.out.below hb)
                have X_8 := hidT (keepH X_7.out hb)
                clear B_8 L_8 X_7
                clear hb i0 i1 i2 i3 i4 f0 f1 f2 f3 f4
                obtain ⟨BAe, bne, bce, LAe, lne, lce, eve, -, -, -, -⟩ := id hl
                have eve' : v = .agg #[.int .i64 e.k, .int .i64 e.q, .slice BAe bne bce, .slice LAe lne lce, .bool e.h] := eve
                clear eve
                subst eve'
                have t1 := alloc_at y4 (.cells #[.int .i64 e.k, .int .i64 e.q, .slice BAe bne bce, .slice LAe lne lce, .bool e.h] 33) _ rfl
                have t3 := nkeep y4 (.cells #[.int .i64 e.k, .int .i64 e.q, .slice BAe bne bce, .slice LAe lne lce, .bool e.h] 33)
                obtain ⟨Vy4, hVy4⟩ : ∃ W, y4.alloc (.cells #[.int .i64 e.k, .int .i64 e.q, .slice BAe bne bce, .slice LAe lne lce, .bool e.h] 33) = W := ⟨_, rfl⟩
                rw [hVy4] at t1 t3
                have HVy4 := hidT hVy4
                have B_10 := hidT (bthen B_9.out t3)
                have L_10 := hidT (L_9.out.below t3)
                have X_9 := hidT (keepH X_8.out t3)
                clear B_9 L_9 X_8
                have Ie_0 := hidT (hl.below t3)
                obtain ⟨gy4, hgy4⟩ : ∃ p, y4.heap.size = p := ⟨_, rfl⟩
                rw [hgy4] at t1
                have Ee_0 := hidT (t1)
                clear t1 t3 hVy4
                clear hl
                obtain ⟨f0, f1, f2, f3, f4⟩ := cells5 Ee_0.out
                by_cases hk2 : e.k = 2
                rotate_left
                · have e1 : (e.k != 2) = true := by simpa using hk2
                  rw [← HVy4.out] at f0 f1 f2 f3 f4
                  clear hk2
                  go_wp2
                  go_ret
                  rw [HVy4.out]
                  exact ⟨rfl, B_10.out⟩
                have e1 : (e.k != 2) = false := by simpa using hk2
                have HK2 := hidT hk2
                clear hk2
                obtain ⟨nh, hnh⟩ : ∃ nh, (!e.h) = nh := ⟨_, rfl⟩
                obtain ⟨X, hX⟩ : ∃ X : Lane.En, X = ⟨2, e.q, [], ls, nh⟩ := ⟨_, rfl⟩
                have hem : Lane.may e = true ∧ e ∈ l.es := by
                  have h1 : e ∈ l.es := List.mem_of_find?_eq_some HCO.out
                  exact ⟨(Lane.rises_mem HR0.out h1).1, h1⟩
                have hmx : Lane.may X = true := by rw [hX]; exact may_set (Lane.may_iff.1 hem.1).1 HSE.out
                obtain ⟨h1, h2, h3⟩ := Lane.control_set HR.out HCO.out (x := X) (by rw [hX]) hmx (by rw [hX]; rfl)
                have hsx : SmallE X := by rw [hX]; exact ⟨by show ls.length ≤ 65536; rw [HLSN.out]; omega, by simp⟩
                have hse : SmallE e := HS.out.2.1 e hem.2
                have hix : IsEn Any Vy4 (.agg #[.int .i64 2, .int .i64 e.q, .slice none 0 0, .slice SA j sc, .bool nh]) X := by rw [hX]; exact ⟨none, 0, 0, SA, j, sc, rfl, Rd.nil_ _, RdV.below HLS.out B_10.out, Within.any _ _, Within.any _ _⟩
                obtain ⟨N, hN⟩ : ∃ N, Lane.set l X = N := ⟨_, rfl⟩
                obtain ⟨M, hM⟩ : ∃ M, Lane.many l = M := ⟨_, rfl⟩
                rw [hN] at h1 h2 h3
                rw [hM] at h3
                have HNC := hidT h1
                have HNB := hidT h2
                have HNM := hidT h3
                have HLM := hidT hM
                have HNS : Hid (SmallL N) := hidT (by rw [← hN]; exact HS.out.set hsx)
                have HNR : Hid (Lane.rises 0 N.es = true) := hidT (by rw [← hN]; exact (Lane.right_iff.1 (Lane.right_set HR.out X)).1)
                have hc := set_any _ _ l X Vy4 L_10.out hix HS.out hsx HR0.out
                rw [hN] at hc
                have HCS := hidT hc
                have HXE := hidT hX
                have HSE2 := hidT hse
                clear hem hmx h1 h2 h3 hsx hse hix hN hM hc hX
                obtain ⟨i0, i1, i2, i3, i4⟩ := cells5 X_9.out
                rw [← HVy4.out] at i0 i1 i2 i3 i4 f0 f1 f2 f3 f4
                go_wp2_with fail
                rw [HVy4.out]
                clear hgy4
                with_reducible refine HCS.out.mono ?_
                rintro e_ y5 ⟨v5, rfl, hl, hb⟩
                have B_11 := hidT (bthen B_10.out hb)
                have L_11 := hidT (L_10.out.below hb)
                have X_10 := hidT (keepH X_9.out hb)
                have Ie_1 := hidT (Ie_0.out.below hb)
                have Ee_1 := hidT (keepH Ee_0.out hb)
                clear B_10 L_10 X_9 Ie_0 Ee_0
                clear hb e1 HCS i0 i1 i2 i3 i4 f0 f1 f2 f3 f4
                obtain ⟨AN, nN, cN, BN, mN, dN, evN, -, -, -⟩ := id hl
                have evN' : v5 = .agg #[.slice AN nN cN, .int .i64 N.p.seq, .int .i64 N.p.total, .int .i64 N.p.got, .slice BN mN dN] := evN
                clear evN
                subst evN'
                have t1 := alloc_at y5 (.cells #[.slice AN nN cN, .int .i64 N.p.seq, .int .i64 N.p.total, .int .i64 N.p.got, .slice BN mN dN] 27) _ rfl
                have t3 := nkeep y5 (.cells #[.slice AN nN cN, .int .i64 N.p.seq, .int .i64 N.p.total, .int .i64 N.p.got, .slice BN mN dN] 27)
                obtain ⟨Vy5, hVy5⟩ : ∃ W, y5.alloc (.cells #[.slice AN nN cN, .int .i64 N.p.seq, .int .i64 N.p.total, .int .i64 N.p.got, .slice BN mN dN] 27) = W := ⟨_, rfl⟩
                rw [hVy5] at t1 t3
                have HVy5 := hidT hVy5
                have B_12 := hidT (bthen B_11.out t3)
                have L_12 := hidT (L_11.out.below t3)
                have X_11 := hidT (keepH X_10.out t3)
                have Ie_2 := hidT (Ie_1.out.below t3)
                have Ee_2 := hidT (keepH Ee_1.out t3)
                clear B_11 L_11 X_10 Ie_1 Ee_1
                have NL_0 := hidT (hl.below t3)
                obtain ⟨gy5, hgy5⟩ : ∃ p, y5.heap.size = p := ⟨_, rfl⟩
                rw [hgy5] at t1
                have N_0 := hidT (t1)
                clear t1 t3 hVy5
                clear hl
                have hc := control_any _ N Vy5 NL_0.out HNS.out
                rw [HNC.out] at hc
                have HCN := hidT hc
                clear hc
                obtain ⟨i0, i1, i2, i3, i4⟩ := cells5 N_0.out
                rw [← HVy5.out] at i0 i1 i2 i3 i4
                go_wp2_with fail
                rw [HVy5.out]
                clear hgy5
                with_reducible refine HCN.out.mono ?_
                rintro e_ y6 ⟨v6, rfl, hl, hb⟩
                have B_13 := hidT (bthen B_12.out hb)
                have L_13 := hidT (L_12.out.below hb)
                have X_12 := hidT (keepH X_11.out hb)
                have Ie_3 := hidT (Ie_2.out.below hb)
                have Ee_3 := hidT (keepH Ee_2.out hb)
                have NL_1 := hidT (NL_0.out.below hb)
                have N_1 := hidT (keepH N_0.out hb)
                clear B_12 L_12 X_11 Ie_2 Ee_2 NL_0 N_0
                clear hb HCN i0 i1 i2 i3 i4
                have hl2 := hl
                rw [show Option.getD (some X) Lane.En.zero = ⟨2, e.q, [], ls, nh⟩ from HXE.out] at hl2
                obtain ⟨BAy, bny, bcy, LAy, lny, lcy, evy, -, hyl, -, -⟩ := hl2
                have evy' : v6 = .agg #[.int .i64 2, .int .i64 e.q, .slice BAy bny bcy, .slice LAy lny lcy, .bool nh] := evy
                have HYL := hidT (show RdI y6 LAy lny lcy ls from hyl)
                clear evy hl hyl
                subst evy'
                have t1 := alloc_at y6 (.cells #[.int .i64 2, .int .i64 e.q, .slice BAy bny bcy, .slice LAy lny lcy, .bool nh] 33) _ rfl
                have t3 := nkeep y6 (.cells #[.int .i64 2, .int .i64 e.q, .slice BAy bny bcy, .slice LAy lny lcy, .bool nh] 33)
                obtain ⟨Vy6, hVy6⟩ : ∃ W, y6.alloc (.cells #[.int .i64 2, .int .i64 e.q, .slice BAy bny bcy, .slice LAy lny lcy, .bool nh] 33) = W := ⟨_, rfl⟩
                rw [hVy6] at t1 t3
                have HVy6 := hidT hVy6
                have B_14 := hidT (bthen B_13.out t3)
                have L_14 := hidT (L_13.out.below t3)
                have X_13 := hidT (keepH X_12.out t3)
                have Ie_4 := hidT (Ie_3.out.below t3)
                have Ee_4 := hidT (keepH Ee_3.out t3)
                have NL_2 := hidT (NL_1.out.below t3)
                have N_2 := hidT (keepH N_1.out t3)
                clear B_13 L_13 X_12 Ie_3 Ee_3 NL_1 N_1
                have YL_0 := hidT (RdV.below HYL.out t3)
                obtain ⟨gy6, hgy6⟩ : ∃ p, y6.heap.size = p := ⟨_, rfl⟩
                rw [hgy6] at t1
                have Y_0 := hidT (t1)
                clear t1 t3 hVy6
                clear HYL
                have g1 : (nh == nh) = true := by simp
                have g2 : (e.q == e.q) = true := by simp
                have g3 : ((M : Int) == (M : Int)) = true := by simp
                go_wp2_with fail
                rw [HVy6.out]
                clear hgy6
                skip
                have kx0 := fun w' (hb : Below Vy6.heap.size Vy6 w') => (cells5 (keepH X_13.out hb)).1
                have kx1 := fun w' (hb : Below Vy6.heap.size Vy6 w') => (cells5 (keepH X_13.out hb)).2.1
                have kx2 := fun w' (hb : Below Vy6.heap.size Vy6 w') => (cells5 (keepH X_13.out hb)).2.2.1
                have kx3 := fun w' (hb : Below Vy6.heap.size Vy6 w') => (cells5 (keepH X_13.out hb)).2.2.2.1
                have kx4 := fun w' (hb : Below Vy6.heap.size Vy6 w') => (cells5 (keepH X_13.out hb)).2.2.2.2
                have ke0 := fun w' (hb : Below Vy6.heap.size Vy6 w') => (cells5 (keepH Ee_4.out hb)).1
                have ke1 := fun w' (hb : Below Vy6.heap.size Vy6 w') => (cells5 (keepH Ee_4.out hb)).2.1
                have ke2 := fun w' (hb : Below Vy6.heap.size Vy6 w') => (cells5 (keepH Ee_4.out hb)).2.2.1
                have ke3 := fun w' (hb : Below Vy6.heap.size Vy6 w') => (cells5 (keepH Ee_4.out hb)).2.2.2.1
                have ke4 := fun w' (hb : Below Vy6.heap.size Vy6 w') => (cells5 (keepH Ee_4.out hb)).2.2.2.2
                have kn0 := fun w' (hb : Below Vy6.heap.size Vy6 w') => (cells5 (keepH N_2.out hb)).1
                have kn1 := fun w' (hb : Below Vy6.heap.size Vy6 w') => (cells5 (keepH N_2.out hb)).2.1
                have kn2 := fun w' (hb : Below Vy6.heap.size Vy6 w') => (cells5 (keepH N_2.out hb)).2.2.1
                have kn3 := fun w' (hb : Below Vy6.heap.size Vy6 w') => (cells5 (keepH N_2.out hb)).2.2.2.1
                have kn4 := fun w' (hb : Below Vy6.heap.size Vy6 w') => (cells5 (keepH N_2.out hb)).2.2.2.2
                have ky0 := fun w' (hb : Below Vy6.heap.size Vy6 w') => (cells5 (keepH Y_0.out hb)).1
                have ky1 := fun w' (hb : Below Vy6.heap.size Vy6 w') => (cells5 (keepH Y_0.out hb)).2.1
                have ky2 := fun w' (hb : Below Vy6.heap.size Vy6 w') => (cells5 (keepH Y_0.out hb)).2.2.1
                have ky3 := fun w' (hb : Below Vy6.heap.size Vy6 w') => (cells5 (keepH Y_0.out hb)).2.2.2.1
                have ky4 := fun w' (hb : Below Vy6.heap.size Vy6 w') => (cells5 (keepH Y_0.out hb)).2.2.2.2
                have C1 := hidT fun w' (hb : Below Vy6.heap.size Vy6 w') => rsame_is LAy lny lcy ls SA j sc ls w' (RdV.below YL_0.out hb) (RdV.below HLS.out (bthen B_14.out hb)) true (by simp)
                have C2 := hidT fun w' (hb : Below Vy6.heap.size Vy6 w') => set_any _ _ N e w' (NL_2.out.below hb) (Ie_4.out.below hb) HNS.out HSE2.out HNR.out
                rw [HNB.out] at C2
                have C3 := hidT fun v w' (hl : IsLane (Hi 0) w' v l) (hb : Below Vy6.heap.size Vy6 w') => rlsame_any v _ l l w' hl (L_14.out.below hb) true (by simp)
                have C4 := hidT fun w' (hb : Below Vy6.heap.size Vy6 w') => many_any _ N w' (NL_2.out.below hb)
                rw [HNM.out] at C4
                have C5 := hidT fun w' (hb : Below Vy6.heap.size Vy6 w') => many_any _ l w' (L_14.out.below hb)
                rw [HLM.out] at C5
                go_region_held_law (fun w' => Below Vy6.heap.size Vy6 w')
                  (first | exact (Below.refl _ _).drew | exact hc5 | exact hc4 | exact hc3 | exact hc2 | exact hc1)
                  (first
                    | (go_at_call 34; ((with_reducible refine (C1.out _ (Below.refl _ _).drew).mono ?_); rintro e a1 ⟨rfl, hc1'⟩; have hc1 : Below Vy6.heap.size Vy6 a1 := undrew hc1'))
                    | (go_at_call 31; ((with_reducible refine (C2.out a1 hc1).mono ?_); rintro e a2 ⟨v2, rfl, hl2, hc2'⟩; have hc2 : Below Vy6.heap.size Vy6 a2 := bthen hc1 hc2'))
                    | (go_at_call 14; ((with_reducible refine (C3.out v2 a2 (hl2.hi (Nat.zero_le _)) hc2).mono ?_); rintro e a3 ⟨rfl, hc3'⟩; have hc3 : Below Vy6.heap.size Vy6 a3 := bthen hc2 hc3'))
                    | (go_at_call 22; ((with_reducible refine (C4.out a3 hc3).mono ?_); rintro e a4 ⟨rfl, hc4'⟩; have hc4 : Below Vy6.heap.size Vy6 a4 := bthen hc3 hc4'))
                    | (go_at_call 22; ((with_reducible refine (C5.out a4 hc4).mono ?_); rintro e a5 ⟨rfl, hc5'⟩; have hc5 : Below Vy6.heap.size Vy6 a5 := bthen hc4 hc5'))
                    | fail)
                go_wp2
                go_ret
                exact ⟨rfl, bthen B_14.out hc5⟩
end Go.Proofs.Ytmlmkkfieeaejaa
