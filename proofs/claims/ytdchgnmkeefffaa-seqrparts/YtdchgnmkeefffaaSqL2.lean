/- The law SeqrParts, walked. -/
import Derived.Test.YtdchgnmkeefffaaSqPt
import Derived.Test.YtdchgnmkeefffaaSqHigh
import Derived.Test.YtdchgnmkeefffaaLMayAll
import Derived.Test.YtdchgnmkeefffaaSqStay
import Derived.Deep.CutRange
set_option maxRecDepth 100000
namespace Go.Proofs.Ytdchgnmkeefffaa
open Go.RowKit
set_option linter.unusedVariables false

set_option maxHeartbeats 16000000 in
theorem parts_any (who used : Int) (A : Option Addr) (n c : Nat) (ls : List Lane.Ln) (WA : Option Addr) (m wc : Nat) (mem : List Int) (IA : Option Addr) (k ic : Nat) (items : List Item.It) (cut : Int) (w : World)
    (h : RdL (fun _ => True) w A n c ls) (hw : RdI w WA m wc mem) (hi : RdX (fun _ => True) w IA k ic items) (hct : 0 ≤ cut ∧ cut < 256) :
    Calls Try.prog 4 #[.agg #[.int .i64 who, .int .i64 used, .slice A n c, .slice WA m wc, .slice IA k ic, .int .u8 cut]] w (Yes w) := by
  have hle := h.le
  have hwle := RdV.le hw
  have hile := hi.le
  have HLEN := hidT h.size
  have HWL := hidT (RdI.size hw)
  have HIL := hidT hi.size
  have HCT := hidT hct
  have t0 := alloc_at w (.cells #[.int .i64 who, .int .i64 used, .slice A n c, .slice WA m wc, .slice IA k ic, .int .u8 cut] 44) _ rfl
  have n1 := nkeep (w.alloc (.cells #[.int .i64 who, .int .i64 used, .slice A n c, .slice WA m wc, .slice IA k ic, .int .u8 cut] 44)) (.cells #[.int .i64 who, .int .i64 used] 23)
  have u1 := alloc_at (w.alloc (.cells #[.int .i64 who, .int .i64 used, .slice A n c, .slice WA m wc, .slice IA k ic, .int .u8 cut] 44)) (.cells #[.int .i64 who, .int .i64 used] 23) _ rfl
  have hbw := bthen (nkeep w (.cells #[.int .i64 who, .int .i64 used, .slice A n c, .slice WA m wc, .slice IA k ic, .int .u8 cut] 44)) n1
  have k0 := cell_at t0 0 rfl
  have k1 := cell_at t0 1 rfl
  have k2 := cell_at (keepH t0 n1) 2 rfl
  have k3 := cell_at (keepH t0 n1) 3 rfl
  have k4 := cell_at (keepH t0 n1) 4 rfl
  have k5 := cell_at (keepH t0 n1) 5 rfl
  clear t0 n1 hct
  obtain ⟨g, hg⟩ : ∃ g, w.heap.size = g := ⟨_, rfl⟩
  simp only [size_alloc, hg] at u1
  rw [hg] at k0 k1 k2 k3 k4 k5
  obtain ⟨V, hV⟩ : ∃ V, ((w.alloc (.cells #[.int .i64 who, .int .i64 used, .slice A n c, .slice WA m wc, .slice IA k ic, .int .u8 cut] 44)).alloc (.cells #[.int .i64 who, .int .i64 used] 23)) = V := ⟨_, rfl⟩
  rw [hV] at u1 hbw
  have HV := hidT hV
  have Y0 := hidT u1
  have B0 := hidT hbw
  have R0 := hidT (h.below hbw)
  have W0 := hidT (RdV.below hw hbw)
  have I0 := hidT (hi.below hbw)
  clear hV u1 hbw h hw hi
  go_enter Try.func4, Try.ntmps4
  go_wp2_with fail
  rw [HV.out]
  clear hg k0 k1 k2 k3 k4 k5
  with_reducible refine (sqShown_any V).mono ?_
  rintro e w1 ⟨rfl, hb1⟩
  have Y1 := hidT (keepH Y0.out hb1)
  have B1 := hidT (bthen B0.out hb1)
  have R1 := hidT (R0.out.below (hb1))
  have W1 := hidT (RdV.below W0.out (hb1))
  have I1 := hidT (I0.out.below (hb1))
  obtain ⟨v0, v1⟩ := cells2 Y1.out
  clear hb1
  cases hm : mayS who used n ls with
  | false =>
    have hc := rmayS_any who used A n c ls w1 R1.out false hm
    go_wp2_with fail
    with_reducible refine hc.mono ?_
    rintro e w2 ⟨rfl, hb2⟩
    go_wp2
    go_ret
    exact ⟨rfl, bthen B1.out hb2⟩
  | true =>
    have hc := rmayS_any who used A n c ls w1 R1.out true hm
    obtain ⟨wn, rfl, hwn, hok, hsm, hn64, hn2, hu0, hu1, hmu, hfew⟩ := mayS_facts hm HLEN.out
    have HFEW := hidT hfew
    have HSM := hidT hsm
    have HOK := hidT hok
    have HMU := hidT hmu
    clear hm hok hsm hmu hfew
    go_wp2_with fail
    with_reducible refine hc.mono ?_
    rintro e w2 ⟨rfl, hb2⟩
    have Y2 := hidT (keepH Y1.out hb2)
    have B2 := hidT (bthen B1.out hb2)
    have R2 := hidT (R1.out.below (hb2))
    have W2 := hidT (RdV.below W1.out (hb2))
    have I2 := hidT (I1.out.below (hb2))
    clear hb2 hc v0 v1
    by_cases hk20 : 20 < k
    · have p1 : decide ((20 : Int) < (k : Int)) = true := by simp; omega
      have p1' : decide (20 < k) = true := by simpa using hk20
      clear hk20
      go_wp2_with fail
      go_ret
      exact ⟨rfl, B2.out⟩
    · have p1 : decide ((20 : Int) < (k : Int)) = false := by simp; omega
      have p1' : decide (20 < k) = false := by simpa using hk20
      have HK20 : Hid (k ≤ 20) := hidT (by omega)
      clear hk20
      by_cases hmk : m = k
      · subst hmk
        have p2 : ((m : Int) != (m : Int)) = false := by simp
        have p2' : (m != m) = false := by simp
        obtain ⟨ps, hps⟩ : ∃ ps, mem.zip items = ps := ⟨_, rfl⟩
        have HPS := hidT hps
        have HPL : Hid (ps.length = m) := hidT (by rw [← hps, List.length_zip, HWL.out, HIL.out]; omega)
        have hm64 : m ≤ 9223372036854775807 := hwle
        clear hps
        go_wp2_with fail
        go_loopw [9] (fun i wr => ∃ j : Nat, j ≤ m ∧ i = .int .i64 j ∧ Hid (Below w2.heap.size w2 wr) ∧ Hid (Seqr.GoodTo ls ps j)) (fun i _ => m - (intOf i).toNat)
        case atStart => exact ⟨0, Nat.zero_le _, rfl, hidT (Below.refl _ _), hidT (Seqr.GoodTo.zero _ _)⟩
        case round =>
          obtain ⟨j, hj, rfl, XB, HG⟩ := hrel
          obtain ⟨wq, rfl⟩ : ∃ wq, wq = wr := ⟨_, rfl⟩
          by_cases hjm : j < m
          · obtain ⟨bi, oi, it, LA, ln, lc, BA, bn, bc, rfl, hit, hii, hci⟩ := I2.out.told hjm
            obtain ⟨bw, ow, x, hWA, hx, hcw⟩ := RdI.at_ W2.out hjm
            subst hWA
            have hzip := Seqr.zip_some hx hit
            rw [HPS.out] at hzip
            have HZIP := hidT hzip
            have HCI := hidT hci
            have HCW := hidT hcw
            obtain ⟨i0, i1, i2, i3, i4, i5, i6, i7⟩ := hci wq XB.out
            obtain ⟨ym, hym⟩ : ∃ ym, Item.may it = ym := ⟨_, rfl⟩
            have hc := rmay_any _ it wq (hii.below XB.out).item
            rw [hym] at hc
            have HYM := hidT hym
            have x1 : (0 : Int) ≤ (j : Int) := by omega
            have x2 : (j : Int) < (m : Int) := by omega
            clear hx hit hii hci hcw hzip hym
            go_wp2_with fail
            with_reducible refine hc.mono ?_
            rintro e w3 ⟨rfl, hb3⟩
            have XB3 := hidT (bthen XB.out hb3)
            clear hb3 hc i0 i1 i2 i3 i4 i5 i6 i7
            have BF := hidT (bthen B2.out XB3.out)
            cases ym with
            | false =>
              go_wp2_with fail
              go_ret
              exact ⟨rfl, BF.out⟩
            | true =>
              have NE := Later.ne w3
              have kx := fun m' : Later w3 => cellC (bthen XB3.out m'.h) HCW.out
              have kq := fun m' : Later w3 => (HCI.out m'.w (bthen XB3.out m'.h)).2.1
              by_cases hx0 : x < 0
              · have q0 : decide (x < 0) = true := by simpa using hx0
                clear hx0
                go_wp2_with fail
                refine wp_later (by kernel_rfl) (by kernel_rfl) ?_
                repeat (go_big_quiet_step (fail))
                refine wpQuiet_nil ?_
                intro w9 hw9
                obtain ⟨⟨_, hb9⟩, rfl⟩ := hw9
                have HB9 := hidT (bthen BF.out hb9)
                go_wp2_with fail
                go_ret
                exact ⟨rfl, HB9.out⟩
              · obtain ⟨xn, rfl⟩ : ∃ xn : Nat, x = (xn : Int) := ⟨x.toNat, by omega⟩
                have q0 : decide ((xn : Int) < 0) = false := by simp
                clear hx0
                by_cases hxn : n ≤ xn
                · have q1 : decide ((n : Int) ≤ (xn : Int)) = true := by simpa using hxn
                  have q1' : decide (n ≤ xn) = true := by simpa using hxn
                  clear hxn
                  go_wp2_with fail
                  refine wp_later (by kernel_rfl) (by kernel_rfl) ?_
                  repeat (go_big_quiet_step (fail))
                  refine wpQuiet_nil ?_
                  intro w9 hw9
                  obtain ⟨⟨_, hb9⟩, rfl⟩ := hw9
                  have HB9 := hidT (bthen BF.out hb9)
                  go_wp2_with fail
                  go_ret
                  exact ⟨rfl, HB9.out⟩
                · have q1 : decide ((n : Int) ≤ (xn : Int)) = false := by simp; omega
                  have q1' : decide (n ≤ xn) = false := by simp; omega
                  have hxl : xn < n := by omega
                  have y1 : (0 : Int) ≤ (xn : Int) := by omega
                  have y2 : (xn : Int) < (n : Int) := by omega
                  have HXN := hidT hxl
                  obtain ⟨bl, ol, l, BB, mm, dd, EA, en, ec, rfl, hlx, hla, hcl⟩ := R2.out.told hxl
                  have kl0 := fun m' : Later w3 => (hcl m'.w (bthen XB3.out m'.h)).1
                  have kl1 := fun m' : Later w3 => (hcl m'.w (bthen XB3.out m'.h)).2.1
                  have kl2 := fun m' : Later w3 => (hcl m'.w (bthen XB3.out m'.h)).2.2.1
                  have kl3 := fun m' : Later w3 => (hcl m'.w (bthen XB3.out m'.h)).2.2.2.1
                  have kl4 := fun m' : Later w3 => (hcl m'.w (bthen XB3.out m'.h)).2.2.2.2
                  have hrl := (fewR_at HFEW.out (List.mem_of_getElem? hlx)).2
                  have HLANE : Hid (Seqr.laneAt ls xn = l) := hidT (Seqr.laneAt_of hlx)
                  obtain ⟨K, hK⟩ : ∃ K, Lane.last l = K := ⟨_, rfl⟩
                  have HH : Hid (∀ m' : Later w3, Calls Try.prog 19 #[.agg #[.slice EA en ec, .int .i64 l.p.seq, .int .i64 l.p.total, .int .i64 l.p.got, .slice BB mm dd]] m'.w (IntIs m'.w K)) := hidT fun m' => by rw [← hK]; exact high_any _ l m'.w (hla.below (bthen XB3.out m'.h)) hrl
                  have HK := hidT hK
                  clear hxn hxl hlx hla hcl hrl hK
                  by_cases hqk : it.q ≤ K
                  · have q2 : decide (it.q ≤ K) = true := by simpa using hqk
                    clear hqk
                    go_wp2_with fail
                    refine wp_later (by kernel_rfl) (by kernel_rfl) ?_
                    repeat (go_big_quiet_step (first | (go_at_call 19; with_reducible exact Later.int (HH.out _)) | fail))
                    refine wpQuiet_nil ?_
                    intro w9 hw9
                    obtain ⟨⟨_, hb9⟩, rfl⟩ := hw9
                    have HB9 := hidT (bthen BF.out hb9)
                    go_wp2_with fail
                    go_ret
                    exact ⟨rfl, HB9.out⟩
                  · have q2 : decide (it.q ≤ K) = false := by simpa using hqk
                    have HQK : Hid (K < it.q) := hidT (by omega)
                    clear hqk
                    go_wp2_with fail
                    refine wp_later (by kernel_rfl) (by kernel_rfl) ?_
                    repeat (go_big_quiet_step (first | (go_at_call 19; with_reducible exact Later.int (HH.out _)) | fail))
                    refine wpQuiet_nil ?_
                    intro w9 hw9
                    obtain ⟨⟨_, hb9⟩, rfl⟩ := hw9
                    have HB9 := hidT (bthen BF.out hb9)
                    have X9 := hidT (bthen XB3.out hb9)
                    clear hb9 NE kx kq kl0 kl1 kl2 kl3 kl4 q0 q1 q1' q2 HB9
                    go_wp2_with fail
                    go_loopw [10] (fun x10 wr => ∃ i : Nat, i ≤ j ∧ x10 = .int .i64 i ∧ Hid (Below w2.heap.size w2 wr) ∧ Hid (Seqr.LessTo ps (xn : Int) it.q i)) (fun x10 _ => j - (intOf x10).toNat)
                    case atStart => exact ⟨0, Nat.zero_le _, rfl, X9, hidT (Seqr.LessTo.zero _ _ _)⟩
                    case round =>
                      obtain ⟨i, hi, rfl, XI, HLT⟩ := hrel
                      obtain ⟨wi, rfl⟩ : ∃ wi, wi = wr := ⟨_, rfl⟩
                      by_cases hij : i < j
                      · have him : i < m := by omega
                        obtain ⟨bi2, oi2, it2, LA2, ln2, lc2, BA2, bn2, bc2, hIA, hit2, _, hci2⟩ := I2.out.told him
                        injection hIA with hIA
                        injection hIA with e1 e2
                        subst e1 e2
                        obtain ⟨bw2, ow2, y, hWA, hy, hcw2⟩ := RdI.at_ W2.out him
                        injection hWA with hWA
                        injection hWA with e1 e2
                        subst e1 e2
                        have hzip2 := Seqr.zip_some hy hit2
                        rw [HPS.out] at hzip2
                        have HZIP2 := hidT hzip2
                        have z1 : (0 : Int) ≤ (i : Int) := by omega
                        have z2 : (i : Int) < (m : Int) := by omega
                        have NE := Later.ne wi
                        have ky := fun m' : Later wi => cellC (bthen XI.out m'.h) hcw2
                        have kx := fun m' : Later wi => cellC (bthen XI.out m'.h) HCW.out
                        have kp := fun m' : Later wi => (hci2 m'.w (bthen XI.out m'.h)).2.1
                        have kq := fun m' : Later wi => (HCI.out m'.w (bthen XI.out m'.h)).2.1
                        clear hit2 hci2 hy hcw2 hzip2
                        by_cases hyx : y = (xn : Int)
                        · subst hyx
                          have r0 : ((xn : Int) == (xn : Int)) = true := by simp
                          by_cases hqq : it.q ≤ it2.q
                          · have r1 : decide (it.q ≤ it2.q) = true := by simpa using hqq
                            clear hqq
                            go_wp2_with fail
                            refine wp_later (by kernel_rfl) (by kernel_rfl) ?_
                            repeat (go_big_quiet_step (fail))
                            refine wpQuiet_nil ?_
                            intro w9 hw9
                            obtain ⟨⟨_, hb9⟩, rfl⟩ := hw9
                            have HB9 := hidT (bthen (bthen B2.out XI.out) hb9)
                            go_wp2_with fail
                            go_ret
                            exact ⟨rfl, HB9.out⟩
                          · have r1 : decide (it.q ≤ it2.q) = false := by simpa using hqq
                            have HL2 := hidT (HLT.out.succ HZIP2.out fun _ => by omega)
                            clear hqq
                            go_wp2_with fail
                            refine wp_later (by kernel_rfl) (by kernel_rfl) ?_
                            repeat (go_big_quiet_step (fail))
                            refine wpQuiet_nil ?_
                            intro w9 hw9
                            obtain ⟨⟨_, hb9⟩, rfl⟩ := hw9
                            have HB9 := hidT (bthen (bthen B2.out XI.out) hb9)
                            have X10 := hidT (bthen XI.out hb9)
                            clear hb9 NE kx ky kp kq r0 r1 HB9
                            go_wp2
                            exact ⟨⟨i + 1, by omega, by go_num, X10, HL2⟩, by simp [intOf]; omega⟩
                        · have r0 : (y == (xn : Int)) = false := by simpa using hyx
                          have HL2 := hidT (HLT.out.succ HZIP2.out fun e => absurd e hyx)
                          clear hyx
                          go_wp2_with fail
                          refine wp_later (by kernel_rfl) (by kernel_rfl) ?_
                          repeat (go_big_quiet_step (fail))
                          refine wpQuiet_nil ?_
                          intro w9 hw9
                          obtain ⟨⟨_, hb9⟩, rfl⟩ := hw9
                          have HB9 := hidT (bthen (bthen B2.out XI.out) hb9)
                          have X10 := hidT (bthen XI.out hb9)
                          clear hb9 NE kx ky kp kq r0 HB9
                          go_wp2
                          exact ⟨⟨i + 1, by omega, by go_num, X10, HL2⟩, by simp [intOf]; omega⟩
                      · obtain rfl : j = i := by omega
                        have HG2 := hidT (HG.out.succ HZIP.out (by omega) (by rw [HLEN.out]; have := HXN.out; omega) HYM.out (by rw [Int.toNat_natCast, HLANE.out, HK.out]; exact HQK.out) HLT.out)
                        go_wp2
                        exact ⟨⟨j + 1, by omega, by go_num, XI, HG2⟩, by simp [intOf]; omega⟩
          · obtain rfl : m = j := by omega
            have HGA : Hid ((∀ p ∈ ps, 0 ≤ p.1 ∧ p.1 < (ls.length : Int) ∧ Item.may p.2 = true ∧ Lane.last (Seqr.laneAt ls p.1.toNat) < p.2.q) ∧ ps.Pairwise (fun a b => a.1 = b.1 → a.2.q < b.2.q)) := hidT (by
              have h1 := HG.out
              unfold Seqr.GoodTo at h1
              rw [List.take_of_length_le (by rw [HPL.out]; exact Nat.le_refl _)] at h1
              exact h1)
            have HFIT := hidT (Seqr.fit_of HOK.out HGA.out.2 HGA.out.1)
            have HIN : Hid (∀ x ∈ mem, 0 ≤ x ∧ x < (n : Int)) := hidT fun x hx => by
              obtain ⟨i, hi⟩ := List.getElem?_of_mem hx
              have hil : i < items.length := by
                have := (List.getElem?_eq_some_iff.1 hi).1
                rw [HWL.out] at this
                rw [HIL.out]; exact this
              have h1 := HGA.out.1 _ (List.mem_of_getElem? (by rw [← HPS.out]; exact Seqr.zip_some hi (List.getElem?_eq_getElem hil)))
              rw [HLEN.out] at h1
              exact ⟨h1.1, h1.2.1⟩
            have HITS : Hid (∀ x ∈ items, x.b.length ≤ 65536 ∧ x.l.length ≤ 65536) := hidT fun x hx => by
              obtain ⟨i, hi⟩ := List.getElem?_of_mem hx
              have hil : i < mem.length := by
                have := (List.getElem?_eq_some_iff.1 hi).1
                rw [HIL.out] at this
                rw [HWL.out]; exact this
              have h1 := HGA.out.1 _ (List.mem_of_getElem? (by rw [← HPS.out]; exact Seqr.zip_some (List.getElem?_eq_getElem hil) hi))
              have := may_few h1.2.2.1
              simp only at this
              omega
            have Y3 := hidT (keepH Y2.out XB.out)
            have B3 := hidT (bthen B2.out XB.out)
            have R3 := hidT (R2.out.below (XB.out))
            have W3 := hidT (RdV.below W2.out (XB.out))
            have I3 := hidT (I2.out.below (XB.out))
            clear HG XB
            obtain ⟨kk, hkk⟩ : ∃ kk : Nat, cut % ((m : Int) + 1) = (kk : Int) := ⟨(cut % ((m : Int) + 1)).toNat, by have := Int.emod_nonneg cut (show (m : Int) + 1 ≠ 0 by omega); omega⟩
            have hkm : kk ≤ m := by have := Int.emod_lt_of_pos cut (show (0 : Int) < (m : Int) + 1 by omega); omega
            have hkk2 : Int.tmod cut ((m : Int) + 1) = (kk : Int) := by rw [Int.tmod_eq_emod_of_nonneg HCT.out.1]; exact hkk
            have HKM := hidT hkm
            obtain ⟨v0, v1⟩ := cells2 Y3.out
            have hct0 := HCT.out.1
            have hct1 := HCT.out.2
            have hm20 := HK20.out
            have z0 : ¬ (m : Int) + 1 = 0 := by omega
            have z0b : ((m : Int) + 1 == 0) = false := by simp; omega
            have s1 : IntKind.i64.wrap ((m : Int) + 1) = (m : Int) + 1 := IntWalk.i64_in _ (by omega)
            have s1b : wrap64 ((m : Int) + 1) = (m : Int) + 1 := IntWalk.wrap64_in _ (by omega)
            go_upto_region 22 with fail
            clear s1 s1b z0 z0b hkk hkk2 hct0 hct1
            obtain ⟨⟨aw, au⟩, ms, d, hr1⟩ : ∃ a ms d, Seqr.walk ⟨wn, used⟩ ls = (a, ms, d) := ⟨_, _, _, rfl⟩
            obtain ⟨⟨bw, bu⟩, ns, ed, hr2⟩ : ∃ a z y, Seqr.walk ⟨aw, au⟩ (Seqr.readAll ms (ps.take kk)) = (a, z, y) := ⟨_, _, _, rfl⟩
            obtain ⟨⟨cw, cu⟩, os, fd, hr3⟩ : ∃ a z y, Seqr.walk ⟨bw, bu⟩ (Seqr.readAll ns (ps.drop kk)) = (a, z, y) := ⟨_, _, _, rfl⟩
            have big0 : Seqr.BigK 0 ls := fun l hl => by
              obtain ⟨_, b1, b2, b3⟩ := fewL_small (fewR_at HFEW.out hl).1
              exact ⟨by omega, fun x hx => ⟨(b3 x hx).1, by have := (b3 x hx).2; omega⟩, by omega⟩
            have hall := Seqr.parts_all (t := ⟨wn, used⟩) (ps := ps.take kk) (qs := ps.drop kk) HOK.out (by rw [List.take_append_drop]; exact HFIT.out) hr1 hr2 hr3 big0 (by rw [List.take_append_drop, HPL.out]; exact HK20.out) (by rw [HLEN.out]; exact hn64) hu0
            rw [List.take_append_drop] at hall
            obtain ⟨hw4, ok1, ok2, ok3, ⟨l1, l2, l3⟩, ⟨sm1, sm2, sm3⟩, ⟨mu1, mu2, mu3⟩, ⟨ua0, ua1, ub0, ub1⟩, ld, le, lf⟩ := hall
            simp only at ua0 ua1 ub0 ub1
            rw [HLEN.out] at l1 l2 l3
            have HW2 := hidT hr2
            have HW3 := hidT hr3
            have HW4 := hidT hw4
            have HOK1 := hidT ok1
            have HOK2 := hidT ok2
            have HOK3 := hidT ok3
            have HL1 := hidT l1
            have HL2 := hidT l2
            have HL3 := hidT l3
            have HSM1 := hidT sm1
            have HSM2 := hidT sm2
            have HSM3 := hidT sm3
            have HMU1 : Hid (Seqr.mu (Seqr.readAll ms (ps.take kk)) ≤ 1000000) := hidT (by omega)
            have HMU2 : Hid (Seqr.mu (Seqr.readAll ns (ps.drop kk)) ≤ 1000000) := hidT (by omega)
            have HMU3 : Hid (Seqr.mu (Seqr.readAll ls ps) ≤ 1000000) := hidT (by omega)
            have HLD := hidT ld
            have HLE := hidT le
            have HLF := hidT lf
            have HUA : Hid (0 ≤ au ∧ au ≤ 2305843009213693952) := hidT ⟨ua0, by omega⟩
            have HUB : Hid (0 ≤ bu ∧ bu ≤ 2305843009213693952) := hidT ⟨ub0, by omega⟩
            have hc := walkQ_any ⟨wn, used⟩ A n c ls wq R3.out HOK.out HSM.out hn64 hu0 (by show used ≤ 2305843009213693952; omega) (by have := HMU.out; omega) hr1 l1 _ rfl
            simp only [tc] at hc
            clear hr1 hr2 hr3 big0 hw4 ok1 ok2 ok3 l1 l2 l3 sm1 sm2 sm3 mu1 mu2 mu3 ld le lf ua0 ua1 ub0 ub1
            go_wp2_with fail
            with_reducible refine hc.mono ?_
            rintro e w5 ⟨A3, c3, D, md, cd, rfl, hm3, hd3, hb5⟩
            have n6 := nkeep w5 (.cells #[.int .i64 (aw : Int), .int .i64 au] 23)
            have y6 := alloc_at w5 (.cells #[.int .i64 (aw : Int), .int .i64 au] 23) _ rfl
            have nb6 := bthen hb5 n6
            have Y6 := hidT (keepH Y3.out nb6)
            have B6 := hidT (bthen B3.out nb6)
            have R6 := hidT (R3.out.below (nb6))
            have W6 := hidT (RdV.below W3.out (nb6))
            have I6 := hidT (I3.out.below (nb6))
            have M6 := hidT (hm3.below n6)
            have D6 := hidT ((hd3.below n6).mono (T := fun _ => True) fun _ _ => trivial)
            obtain ⟨pa, hpa⟩ : ∃ p, w5.heap.size = p := ⟨_, rfl⟩
            rw [hpa] at y6
            have PA6 := hidT y6
            obtain ⟨X6, hX6⟩ : ∃ X, w5.alloc (.cells #[.int .i64 (aw : Int), .int .i64 au] 23) = X := ⟨_, rfl⟩
            rw [hX6] at Y6 B6 R6 W6 I6 PA6 M6 D6
            have HX6 := hidT hX6
            have HDL := hidT hd3.size
            have p0 : ((n : Int) != (n : Int)) = false := by simp
            have p0' : (n != n) = false := by simp
            clear hc n6 y6 nb6 hm3 hd3 hb5 hX6 v0 v1
            go_upto_region 23 with fail
            rw [HX6.out]
            clear hpa
            obtain ⟨Q1, Q2, s1, s2, hq1, hq2⟩ := cutI W6.out hkm
            obtain ⟨P1, P2, t1, t2, hp1, hp2⟩ := cutX I6.out hkm
            obtain ⟨vW, hvW⟩ : ∃ v, Value.slice WA m wc = v := ⟨_, rfl⟩
            obtain ⟨vI, hvI⟩ : ∃ v, Value.slice IA m ic = v := ⟨_, rfl⟩
            have HS1 := hidT s1
            have HS2 := hidT s2
            have HT1 := hidT t1
            have HT2 := hidT t2
            clear s1 s2 t1 t2
            go_upto_region 25 with fail
            rw [hvW] at HS1 HS2
            rw [hvI] at HT1 HT2
            rw [hvW, hvI]
            have HVW := hidT hvW
            have HVI := hidT hvI
            have HZ1 : Hid ((mem.take kk).zip (items.take kk) = ps.take kk) := hidT (by rw [← HPS.out, zip_take'])
            have HZ2 : Hid ((mem.drop kk).zip (items.drop kk) = ps.drop kk) := hidT (by rw [← HPS.out, zip_drop'])
            have HQ1 := hidT hq1
            have HQ2 := hidT hq2
            have HP1 := hidT hp1
            have HP2 := hidT hp2
            clear hvW hvI hq1 hq2 hp1 hp2
            have HR : Hid (∀ w', Below X6.heap.size X6 w' → Calls Try.prog 20 #[.slice A3 n c3, .slice Q1 kk wc, .slice P1 kk ic] w' (LanesAre w' n (Seqr.readAll ms (ps.take kk)))) := hidT fun w' hb => by
              have h := readAll_any A3 n c3 ms Q1 kk wc (mem.take kk) P1 ic (items.take kk) w' (M6.out.below hb) (RdV.below HQ1.out hb) (HP1.out.below hb) (fun x hx => HIN.out x (List.mem_of_mem_take hx)) (fun j hj => by rw [HZ1.out]; exact HSM1.out j) (fun x hx => HITS.out x (List.mem_of_mem_take hx)) hn64 (by omega)
              rwa [HZ1.out] at h
            obtain ⟨qb, hqb⟩ : ∃ q, tc ⟨bw, bu⟩ = q := ⟨_, rfl⟩
            obtain ⟨hqs, hqa⟩ := tc_two _ _ hqb
            have HC : Hid (∀ A' c' w', RdL (fun _ => True) w' A' n c' (Seqr.readAll ms (ps.take kk)) → Calls Try.prog 11 #[.agg #[.int .i64 (aw : Int), .int .i64 au], .slice A' n c'] w' (WalkQ w' n qb ns ed)) := hidT fun A' c' w' h =>
              walkQ_any ⟨aw, au⟩ A' n c' _ w' h HOK1.out (by have := HSM1.out (ps.take kk).length; rwa [List.take_length] at this) hn64 HUA.out.1 HUA.out.2 HMU1.out HW2.out HL2.out qb hqb
            have HQB := hidT hqb
            have D1 := nkeep X6 (.cells #[.int .i64 0, .int .i64 0] 23)
            have v0 := fun w' (hb : Below X6.heap.size X6 w') => (cells2 (keepH PA6.out hb)).1
            have v1 := fun w' (hb : Below X6.heap.size X6 w') => (cells2 (keepH PA6.out hb)).2
            have s1 := HS1.out
            have t1 := HT1.out
            clear hqb
            go_cut [15, 16, 17] from 142 to 206 (fun x y z wc => PartIs X6 n qb ns ed x y z wc)
            case first =>
              go_region_held_law (fun w' => Below X6.heap.size X6 w')
                (first | exact (Below.refl _ _).drew | exact hbF | exact hb5 | exact hb4 | exact D1.drew | exact D1 | exact bthen hb5 (nkeep _ _) | exact bthen hb4 (nkeep _ _))
                (first
                    | (go_at_call 20; ((with_reducible refine (HR.out _ (Below.refl _ _).drew).mono ?_); rintro e4 w4 ⟨A4, c4, rfl, hx4, hb4'⟩; have hb4 : Below X6.heap.size X6 w4 := undrew hb4'))
                    | (go_at_call 20; ((with_reducible refine (HR.out _ D1.drew).mono ?_); rintro e4 w4 ⟨A4, c4, rfl, hx4, hb4'⟩; have y4 := keepH (alloc_at X6 (.cells #[.int .i64 0, .int .i64 0] 23) _ rfl) (undrew hb4'); have hlt4 : X6.heap.size < w4.heap.size := blk_lt y4; have hb4 : Below X6.heap.size X6 w4 := bthen D1 (undrew hb4')))
                    | (go_at_call 11; ((with_reducible refine (HC.out _ _ _ hx4).mono ?_); rintro e5 w5 ⟨A5, c5, E5, m5, k5, rfl, hl5, hd5, hb5'⟩; have y45 := keepH y4 hb5'; have h45 := hlt4; have hb5 : Below X6.heap.size X6 w5 := bthen hb4 hb5'; obtain ⟨wx, hrunx, hpx, hlx, hdx, hbF⟩ := fin_b hqs hqa hb5 y45 (Nat.le_refl _) h45 hl5 hd5))
                    | (go_at_call 11; ((with_reducible refine (HC.out _ _ _ hx4).mono ?_); rintro e5 w5 ⟨A5, c5, E5, m5, k5, rfl, hl5, hd5, hb5'⟩; have hb5 : Below X6.heap.size X6 w5 := bthen hb4 hb5'; obtain ⟨wx, hrunx, hpx, hlx, hdx, hbF⟩ := fin_a hqs hqa hb5 hl5 hd5))
                    | (go_at_call 11; ((with_reducible refine (HC.out _ _ _ (hx4.below (nkeep _ _))).mono ?_); rintro e5 w5 ⟨A5, c5, E5, m5, k5, rfl, hl5, hd5, hb5'⟩; have hb5 : Below X6.heap.size X6 w5 := bthen (bthen hb4 (nkeep _ _)) hb5'; obtain ⟨wx, hrunx, hpx, hlx, hdx, hbF⟩ := fin_b hqs hqa hb5 (keepH (alloc_at w4 (.cells #[.int .i64 0, .int .i64 0] 23) _ rfl) hb5') hb4.size (by rw [size_alloc]; omega) hl5 hd5))
                    | fail)
              all_goals
                clear hrunx hl5 hd5
                go_wp2_with fail
                go_meet
                exact ⟨_, _, _, _, _, _, rfl, rfl, rfl, hpx.out, hlx.out, hdx.out, hbF⟩
            case rest =>
              clear s1 t1 v0 v1 D1 HR HC hqs hqa
              obtain ⟨pb, A5, c5, E5, me, ce, rfl, rfl, rfl, hpb, hn5, he5, hbc⟩ := hcut
              obtain ⟨X7, rfl⟩ : ∃ X, X = wc := ⟨_, rfl⟩
              have Y7 := hidT (keepH Y6.out hbc)
              have B7 := hidT (bthen B6.out hbc)
              have R7 := hidT (R6.out.below (hbc))
              have W7 := hidT (RdV.below W6.out (hbc))
              have I7 := hidT (I6.out.below (hbc))
              have D7 := hidT (D6.out.below hbc)
              have PB7 : Hid (X7.heap[pb]? = some (.cells #[.int .i64 (bw : Int), .int .i64 bu] 23 (0, 0))) := hidT (by rw [hpb, ← HQB.out])
              have N7 := hidT hn5
              have E7 := hidT he5
              have HQ27 := hidT (RdV.below HQ2.out hbc)
              have HP27 := hidT (HP2.out.below hbc)
              have HEL := hidT he5.size
              clear hpb hn5 he5 hbc
              go_upto_region 28 with fail
              have HR : Hid (∀ w', Below X7.heap.size X7 w' → Calls Try.prog 20 #[.slice A5 n c5, .slice Q2 (m - kk) (wc - kk), .slice P2 (m - kk) (ic - kk)] w' (LanesAre w' n (Seqr.readAll ns (ps.drop kk)))) := hidT fun w' hb => by
                have h := readAll_any A5 n c5 ns Q2 (m - kk) (wc - kk) (mem.drop kk) P2 (ic - kk) (items.drop kk) w' (N7.out.below hb) (RdV.below HQ27.out hb) (HP27.out.below hb) (fun x hx => HIN.out x (List.mem_of_mem_drop hx)) (fun j hj => by rw [HZ2.out]; exact HSM2.out j) (fun x hx => HITS.out x (List.mem_of_mem_drop hx)) hn64 (by omega)
                rwa [HZ2.out] at h
              obtain ⟨qc, hqc⟩ : ∃ q, tc ⟨cw, cu⟩ = q := ⟨_, rfl⟩
              obtain ⟨hqs, hqa⟩ := tc_two _ _ hqc
              have HC : Hid (∀ A' c' w', RdL (fun _ => True) w' A' n c' (Seqr.readAll ns (ps.drop kk)) → Calls Try.prog 11 #[.agg #[.int .i64 (bw : Int), .int .i64 bu], .slice A' n c'] w' (WalkQ w' n qc os fd)) := hidT fun A' c' w' h =>
                walkQ_any ⟨bw, bu⟩ A' n c' _ w' h HOK2.out (by have := HSM2.out (ps.drop kk).length; rwa [List.take_length] at this) hn64 HUB.out.1 HUB.out.2 HMU2.out HW3.out HL3.out qc hqc
              have HQC := hidT hqc
              have D1 := nkeep X7 (.cells #[.int .i64 0, .int .i64 0] 23)
              have v0 := fun w' (hb : Below X7.heap.size X7 w') => (cells2 (keepH PB7.out hb)).1
              have v1 := fun w' (hb : Below X7.heap.size X7 w') => (cells2 (keepH PB7.out hb)).2
              have s2 := HS2.out
              have t2 := HT2.out
              clear hqc
              go_cut [18, 19, 20] from 161 to 206 (fun x y z wc => PartIs X7 n qc os fd x y z wc)
              case first =>
                go_region_held_law (fun w' => Below X7.heap.size X7 w')
                  (first | exact (Below.refl _ _).drew | exact hbF | exact hb5 | exact hb4 | exact D1.drew | exact D1 | exact bthen hb5 (nkeep _ _) | exact bthen hb4 (nkeep _ _))
                  (first
                      | (go_at_call 20; ((with_reducible refine (HR.out _ (Below.refl _ _).drew).mono ?_); rintro e4 w4 ⟨A4, c4, rfl, hx4, hb4'⟩; have hb4 : Below X7.heap.size X7 w4 := undrew hb4'))
                      | (go_at_call 20; ((with_reducible refine (HR.out _ D1.drew).mono ?_); rintro e4 w4 ⟨A4, c4, rfl, hx4, hb4'⟩; have y4 := keepH (alloc_at X7 (.cells #[.int .i64 0, .int .i64 0] 23) _ rfl) (undrew hb4'); have hlt4 : X7.heap.size < w4.heap.size := blk_lt y4; have hb4 : Below X7.heap.size X7 w4 := bthen D1 (undrew hb4')))
                      | (go_at_call 11; ((with_reducible refine (HC.out _ _ _ hx4).mono ?_); rintro e5 w5 ⟨A5, c5, E5, m5, k5, rfl, hl5, hd5, hb5'⟩; have y45 := keepH y4 hb5'; have h45 := hlt4; have hb5 : Below X7.heap.size X7 w5 := bthen hb4 hb5'; obtain ⟨wx, hrunx, hpx, hlx, hdx, hbF⟩ := fin_b hqs hqa hb5 y45 (Nat.le_refl _) h45 hl5 hd5))
                      | (go_at_call 11; ((with_reducible refine (HC.out _ _ _ hx4).mono ?_); rintro e5 w5 ⟨A5, c5, E5, m5, k5, rfl, hl5, hd5, hb5'⟩; have hb5 : Below X7.heap.size X7 w5 := bthen hb4 hb5'; obtain ⟨wx, hrunx, hpx, hlx, hdx, hbF⟩ := fin_a hqs hqa hb5 hl5 hd5))
                      | (go_at_call 11; ((with_reducible refine (HC.out _ _ _ (hx4.below (nkeep _ _))).mono ?_); rintro e5 w5 ⟨A5, c5, E5, m5, k5, rfl, hl5, hd5, hb5'⟩; have hb5 : Below X7.heap.size X7 w5 := bthen (bthen hb4 (nkeep _ _)) hb5'; obtain ⟨wx, hrunx, hpx, hlx, hdx, hbF⟩ := fin_b hqs hqa hb5 (keepH (alloc_at w4 (.cells #[.int .i64 0, .int .i64 0] 23) _ rfl) hb5') hb4.size (by rw [size_alloc]; omega) hl5 hd5))
                      | fail)
                all_goals
                  clear hrunx hl5 hd5
                  go_wp2_with fail
                  go_meet
                  exact ⟨_, _, _, _, _, _, rfl, rfl, rfl, hpx.out, hlx.out, hdx.out, hbF⟩
              case rest =>
                clear s2 t2 v0 v1 D1 HR HC
                obtain ⟨pc, A6, c6, F6, mf, cf, rfl, rfl, rfl, hpc, ho6, hf6, hbc⟩ := hcut
                obtain ⟨X8, rfl⟩ : ∃ X, X = wc := ⟨_, rfl⟩
                have Y8 := hidT (keepH Y7.out hbc)
                have B8 := hidT (bthen B7.out hbc)
                have R8 := hidT (R7.out.below (hbc))
                have W8 := hidT (RdV.below W7.out (hbc))
                have I8 := hidT (I7.out.below (hbc))
                have D8 := hidT (D7.out.below hbc)
                have E8 := hidT (E7.out.below hbc)
                have PC8 := hidT hpc
                have O8 := hidT ho6
                have F8 := hidT hf6
                have HFL := hidT hf6.size
                clear hpc ho6 hf6 hbc
                go_upto_region 29 with fail
                have HR : Hid (∀ w', Below X8.heap.size X8 w' → Calls Try.prog 20 #[.slice A n c, vW, vI] w' (LanesAre w' n (Seqr.readAll ls ps))) := hidT fun w' hb => by
                  have h := readAll_any A n c ls WA m wc mem IA ic items w' (R8.out.below hb) (RdV.below W8.out hb) (I8.out.below hb) HIN.out (fun j hj => by rw [HPS.out]; exact HSM3.out j) HITS.out hn64 (by omega)
                  rw [HPS.out, HVW.out, HVI.out] at h
                  exact h
                have HC : Hid (∀ A' c' w', RdL (fun _ => True) w' A' n c' (Seqr.readAll ls ps) → Calls Try.prog 11 #[.agg #[.int .i64 (wn : Int), .int .i64 used], .slice A' n c'] w' (WalkQ w' n qc os (d ++ ed ++ fd))) := hidT fun A' c' w' h =>
                  walkQ_any ⟨wn, used⟩ A' n c' _ w' h HOK3.out (by have := HSM3.out ps.length; rwa [List.take_length] at this) hn64 hu0 (by show used ≤ 2305843009213693952; omega) HMU3.out HW4.out HL3.out qc HQC.out
                have D1 := nkeep X8 (.cells #[.int .i64 0, .int .i64 0] 23)
                have v0 := fun w' (hb : Below X8.heap.size X8 w') => (cells2 (keepH Y8.out hb)).1
                have v1 := fun w' (hb : Below X8.heap.size X8 w') => (cells2 (keepH Y8.out hb)).2
                go_cut [21, 22, 23] from 175 to 206 (fun x y z wc => PartIs X8 n qc os (d ++ ed ++ fd) x y z wc)
                case first =>
                  go_region_held_law (fun w' => Below X8.heap.size X8 w')
                    (first | exact (Below.refl _ _).drew | exact hbF | exact hb5 | exact hb4 | exact D1.drew | exact D1 | exact bthen hb5 (nkeep _ _) | exact bthen hb4 (nkeep _ _))
                    (first
                        | (go_at_call 20; ((with_reducible refine (HR.out _ (Below.refl _ _).drew).mono ?_); rintro e4 w4 ⟨A4, c4, rfl, hx4, hb4'⟩; have hb4 : Below X8.heap.size X8 w4 := undrew hb4'))
                        | (go_at_call 20; ((with_reducible refine (HR.out _ D1.drew).mono ?_); rintro e4 w4 ⟨A4, c4, rfl, hx4, hb4'⟩; have y4 := keepH (alloc_at X8 (.cells #[.int .i64 0, .int .i64 0] 23) _ rfl) (undrew hb4'); have hlt4 : X8.heap.size < w4.heap.size := blk_lt y4; have hb4 : Below X8.heap.size X8 w4 := bthen D1 (undrew hb4')))
                        | (go_at_call 11; ((with_reducible refine (HC.out _ _ _ hx4).mono ?_); rintro e5 w5 ⟨A5, c5, E5, m5, k5, rfl, hl5, hd5, hb5'⟩; have y45 := keepH y4 hb5'; have h45 := hlt4; have hb5 : Below X8.heap.size X8 w5 := bthen hb4 hb5'; obtain ⟨wx, hrunx, hpx, hlx, hdx, hbF⟩ := fin_b hqs hqa hb5 y45 (Nat.le_refl _) h45 hl5 hd5))
                        | (go_at_call 11; ((with_reducible refine (HC.out _ _ _ hx4).mono ?_); rintro e5 w5 ⟨A5, c5, E5, m5, k5, rfl, hl5, hd5, hb5'⟩; have hb5 : Below X8.heap.size X8 w5 := bthen hb4 hb5'; obtain ⟨wx, hrunx, hpx, hlx, hdx, hbF⟩ := fin_a hqs hqa hb5 hl5 hd5))
                        | (go_at_call 11; ((with_reducible refine (HC.out _ _ _ (hx4.below (nkeep _ _))).mono ?_); rintro e5 w5 ⟨A5, c5, E5, m5, k5, rfl, hl5, hd5, hb5'⟩; have hb5 : Below X8.heap.size X8 w5 := bthen (bthen hb4 (nkeep _ _)) hb5'; obtain ⟨wx, hrunx, hpx, hlx, hdx, hbF⟩ := fin_b hqs hqa hb5 (keepH (alloc_at w4 (.cells #[.int .i64 0, .int .i64 0] 23) _ rfl) hb5') hb4.size (by rw [size_alloc]; omega) hl5 hd5))
                        | fail)
                  all_goals
                    clear hrunx hl5 hd5
                    go_wp2_with fail
                    go_meet
                    exact ⟨_, _, _, _, _, _, rfl, rfl, rfl, hpx.out, hlx.out, hdx.out, hbF⟩
                case rest =>
                  clear v0 v1 D1 HR HC hqs hqa
                  obtain ⟨px, A7, c7, G7, mg, cg, rfl, rfl, rfl, hpx, ho7, hg7, hbc⟩ := hcut
                  obtain ⟨X9, rfl⟩ : ∃ X, X = wc := ⟨_, rfl⟩
                  have B9 := hidT (bthen B8.out hbc)
                  have D9 := hidT (D8.out.below hbc)
                  have E9 := hidT (E8.out.below hbc)
                  have F9 := hidT (F8.out.below hbc)
                  have PC9 := hidT (keepH PC8.out hbc)
                  have c8 : X9.heap[pc]? = some (.cells #[.int .i64 (cw : Int), .int .i64 cu] 23 (0, 0)) := by rw [PC9.out, ← HQC.out]
                  have x8 : X9.heap[px]? = some (.cells #[.int .i64 (cw : Int), .int .i64 cu] 23 (0, 0)) := by rw [hpx, ← HQC.out]
                  obtain ⟨a0, a1⟩ := cells2 c8
                  obtain ⟨b0, b1⟩ := cells2 x8
                  have q1 : ((cw : Int) == (cw : Int)) = true := by simp
                  have q2 : (cu == cu) = true := by simp
                  have hs := sameAll_any A6 n c6 os A7 n c7 os X9 (O8.out.below hbc) ho7 true (by simp)
                  have G9 := hidT hg7
                  clear hpx ho7 hg7 hbc c8 x8
                  go_wp2_with fail
                  with_reducible refine hs.mono ?_
                  rintro e w10 ⟨rfl, hb10⟩
                  have B10 := hidT (bthen B9.out hb10)
                  have G10 := hidT (G9.out.below hb10)
                  have hd10 := D9.out.below hb10
                  have he10 := E9.out.below hb10
                  have hf10 := F9.out.below hb10
                  obtain ⟨rd, hrd, had, _⟩ := id hd10
                  obtain ⟨re, hre, hae, _⟩ := id he10
                  obtain ⟨rf, hrf, haf, _⟩ := id hf10
                  have HRD := hidT hrd
                  have HRE := hidT hre
                  have HRF := hidT hrf
                  have HAD := hidT had
                  have HAE := hidT hae
                  have HAF := hidT haf
                  have hmd : md ≤ 518400 := by rw [← HDL.out]; exact HLD.out
                  have hme : me ≤ 518400 := by rw [← HEL.out]; exact HLE.out
                  have hmf : mf ≤ 518400 := by rw [← HFL.out]; exact HLF.out
                  have n0 := nkeep w10 (.cells #[] 55)
                  have N0 := hidT n0
                  have HO0 := hidT (OwnK.made 2 w10 w10.heap.size (Nat.le_refl _) 55 w10.heap.size rfl)
                  have hsz0 : w10.heap.size ≤ (w10.alloc (.cells #[] 55)).heap.size := n0.size
                  clear hs hb10 hd10 he10 hf10 hrd hre hrf had hae haf n0 a0 a1 b0 b1 q1 q2
                  go_wp2_with (first
                    | (at_builtin
                       refine wpList_appK 2 (by omega) rfl (.tmp 197) (.tmp 198) 29 rfl w10.heap.size 55 _ 32 infoDv rfl (by omega) Try.underlying29 (.slice (some ⟨w10.heap.size, 0, none⟩) 0 0) 0 [] rfl HO0.out D md cd rd rfl (RdK.below HRD.out N0.out) (by omega) hsz0 ?_
                       intro v4 w4 ho4 hb4 hg4
                       rw [Nat.zero_add, List.nil_append] at ho4
                       obtain ⟨A41, c41, rfl, _⟩ := OwnK.rd ho4
                       have HO4 := hidT ho4
                       have HB4 := hidT (N0.out.trans hb4)
                       have hsz4 : w10.heap.size ≤ w4.heap.size := HB4.out.size
                       clear ho4 hb4 hg4 hsz0)
                    | (at_builtin
                       refine wpList_appK 2 (by omega) rfl (.tmp 199) (.tmp 200) 29 rfl w10.heap.size 55 _ 32 infoDv rfl (by omega) Try.underlying29 (.slice A41 md c41) md rd rfl HO4.out E5 me ce re rfl (RdK.below HRE.out HB4.out) (by omega) hsz4 ?_
                       intro v5 w5 ho5 hb5 hg5
                       obtain ⟨A51, c51, rfl, _⟩ := OwnK.rd ho5
                       have HO5 := hidT ho5
                       have HB5 := hidT (HB4.out.trans hb5)
                       have hsz5 : w10.heap.size ≤ w5.heap.size := HB5.out.size
                       clear ho5 hb5 hg5 hsz4)
                    | (at_builtin
                       refine wpList_appK 2 (by omega) rfl (.tmp 201) (.tmp 202) 29 rfl w10.heap.size 55 _ 32 infoDv rfl (by omega) Try.underlying29 (.slice A51 (md + me) c51) (md + me) (rd ++ re) rfl HO5.out F6 mf cf rf rfl (RdK.below HRF.out HB5.out) (by omega) hsz5 ?_
                       intro v6 w6 ho6 hb6 hg6
                       obtain ⟨A61, c61, rfl, hrd6⟩ := OwnK.rd ho6
                       have HRD6 := hidT hrd6
                       have HB6 := hidT (HB5.out.trans hb6)
                       clear ho6 hb6 hg6 hrd6 hsz5))
                  have hall6 := ((HAD.out.below HB6.out).app (HAE.out.below HB6.out)).app (HAF.out.below HB6.out)
                  have hs := delivs_any A61 (md + me + mf) c61 (d ++ ed ++ fd) G7 mg cg (d ++ ed ++ fd) w6 ⟨_, HRD6.out, hall6, Within.any _ _⟩ (G10.out.below HB6.out) true (by simp)
                  have B12 := hidT (bthen B10.out HB6.out)
                  clear hall6
                  go_wp2_with fail
                  with_reducible refine hs.mono ?_
                  rintro e w11 ⟨rfl, hb11⟩
                  go_wp2
                  go_ret
                  exact ⟨rfl, bthen B12.out hb11⟩
      · have p2 : ((m : Int) != (k : Int)) = true := by simp; omega
        have p2' : (m != k) = true := by simpa using hmk
        clear hmk
        go_wp2_with fail
        go_ret
        exact ⟨rfl, B2.out⟩
end Go.Proofs.Ytdchgnmkeefffaa
