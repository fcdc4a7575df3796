/- The law SeqrStays, walked. -/
import Derived.Test.YtdchgnmkeefffaaSqW
import Derived.Test.YtdchgnmkeefffaaSqStay
import Derived.Test.YtdchgnmkeefffaaRBX
set_option maxRecDepth 100000
namespace Go.Proofs.Ytdchgnmkeefffaa
open Go.RowKit
set_option linter.unusedVariables false

theorem fewL_pop {l : Lane.Ln} (h : fewL l = true) (q : Int) : fewL (Lane.pop l q) = true := by
  simp only [fewL, Bool.and_eq_true, decide_eq_true_eq, List.all_eq_true] at h ⊢
  exact ⟨⟨Nat.le_trans (List.length_filter_le _ _) h.1.1, h.1.2⟩, fun x hx => h.2 x (List.mem_filter.1 hx).1⟩
theorem fewL_put {l : Lane.Ln} (h : fewL l = true) {e : Lane.En} (he : fewE e = true) : fewL (Lane.set l e) = true := by
  unfold Lane.set
  split
  · simp only [fewL, Bool.and_eq_true, decide_eq_true_eq, List.all_eq_true] at h ⊢
    refine ⟨⟨by show (l.es.map (Lane.put e)).length ≤ 80; rw [List.length_map]; exact h.1.1, h.1.2⟩, fun x hx => ?_⟩
    obtain ⟨y, hy, rfl⟩ := List.mem_map.1 hx
    unfold Lane.put
    split
    · exact he
    · exact h.2 y hy
  · exact h
theorem fewE_order {e : Lane.En} (h : fewE e = true) {s : Int} {r : List Int} (hl : e.l = s :: r) : fewE (Seqr.order e r) = true := by
  simp only [fewE, Bool.and_eq_true, decide_eq_true_eq] at h ⊢
  rw [hl] at h
  exact ⟨by show r.length ≤ 80; have := h.1; rw [List.length_cons] at this; omega, by show ([] : List UInt8).length ≤ 40000; simp⟩
theorem fewE_in {l : Lane.Ln} (h : fewL l = true) {e : Lane.En} (he : e ∈ l.es) : fewE e = true := by
  simp only [fewL, Bool.and_eq_true, decide_eq_true_eq, List.all_eq_true] at h
  exact h.2 e he
def FewLs (ls : List Lane.Ln) : Prop := ∀ l ∈ ls, fewL l = true
theorem FewLs.at_ {ls : List Lane.Ln} (h : FewLs ls) (i : Nat) : fewL (Seqr.laneAt ls i) = true := by
  by_cases hi : i < ls.length
  · exact h _ (Seqr.laneAt_mem hi)
  · rw [Seqr.laneAt_out hi]; decide
theorem FewLs.set {ls : List Lane.Ln} (h : FewLs ls) (i : Nat) {x : Lane.Ln} (hx : fewL x = true) : FewLs (ls.set i x) := fun l hl => by
  rcases List.mem_or_eq_of_mem_set hl with h1 | rfl
  · exact h l h1
  · exact hx
theorem step_few {t t1 : Seqr.Tn} {ls ls1 : List Lane.Ln} {o : Option Seqr.Dv} (h : FewLs ls) (hs : Seqr.step t ls = some (t1, ls1, o)) : FewLs ls1 := by
  rcases Seqr.step_cases t ls with h1 | ⟨e, h1, h2⟩ | ⟨e, s, r, h1, h2, h3⟩ | ⟨e, s, r, h1, h2, h3, h4⟩ | ⟨e, s, r, m, h1, h2, h3, h4⟩
  · rw [Seqr.step_none h1] at hs; cases hs
  · rw [Seqr.step_pop h1 h2] at hs
    injection hs with hs; injection hs with e1 e2; injection e2 with e2 e3
    subst e2
    exact h.set _ (fewL_pop (h.at_ _) _)
  · rw [Seqr.step_skip h1 h2 h3] at hs
    injection hs with hs; injection hs with e1 e2; injection e2 with e2 e3
    subst e2
    exact h.set _ (fewL_put (h.at_ _) (fewE_order (fewE_in (h.at_ _) (Seqr.control_mem h1).1) h2))
  · rw [Seqr.step_stop h1 h2 h3 h4] at hs; cases hs
  · rw [Seqr.step_tell h1 h2 h3 h4] at hs
    injection hs with hs; injection hs with e1 e2; injection e2 with e2 e3
    subst e2
    have hp := h.set s.toNat (fewL_pop (h.at_ s.toNat) m.q)
    exact hp.set _ (fewL_put (hp.at_ _) (fewE_order (fewE_in (h.at_ _) (Seqr.control_mem h1).1) h2))
theorem goes_few {t t1 : Seqr.Tn} {ls ls1 : List Lane.Ln} {d : List Seqr.Dv} (h : Seqr.Goes t ls d t1 ls1) (hs : FewLs ls) : FewLs ls1 := by
  induction h with
  | refl => exact hs
  | more h1 _ ih => exact ih (step_few hs h1)
/-- Lanes and a turn that a walk comes to may be, but for how much is used. -/
theorem mayS_goes {t t1 : Seqr.Tn} {ls ls1 : List Lane.Ln} {d : List Seqr.Dv} {n : Nat} (h : Seqr.Goes t ls d t1 ls1) (ho : Seqr.Ok t ls) (hl : ls.length = n) (hf : fewR ls = true) (hn : n ≤ 64) (hn2 : 2 ≤ n) (hu : 0 ≤ t.used) :
    mayS t1.who t1.used n ls1 = decide (t1.used ≤ 1152921504606846976) := by
  obtain ⟨h1, h2⟩ := h.ok ho
  have h3 := (h.used ho hu).1
  have hF : FewLs ls1 := goes_few h fun l hl => (fewR_at hf hl).1
  have hR : fewR ls1 = true := by
    unfold fewR
    rw [List.all_eq_true]
    intro l hl
    rw [hF l hl, h1.2 l hl]; rfl
  have hw := h1.1
  unfold mayS
  rw [hR, decide_eq_true hn, decide_eq_true hn2, decide_eq_true (show (0 : Int) ≤ (t1.who : Int) by omega), decide_eq_true (show (t1.who : Int) < (n : Int) by omega), decide_eq_true h3]
  simp

set_option maxHeartbeats 16000000 in
theorem stays_any (who used : Int) (A : Option Addr) (n c : Nat) (ls : List Lane.Ln) (w : World) (h : RdL (fun _ => True) w A n c ls) :
    Calls Try.prog 6 #[.agg #[.int .i64 who, .int .i64 used], .slice A n c] w (Yes w) := by
  have hle := h.le
  have HLEN := hidT h.size
  obtain ⟨W, hW⟩ : ∃ W, w.alloc (.cells #[.int .i64 who, .int .i64 used] 23) = W := ⟨_, rfl⟩
  have y0 := alloc_at w (.cells #[.int .i64 who, .int .i64 used] 23) _ rfl
  have n0 := nkeep w (.cells #[.int .i64 who, .int .i64 used] 23)
  rw [hW] at y0 n0
  have HW := hidT hW
  obtain ⟨p, hp⟩ : ∃ p, w.heap.size = p := ⟨_, rfl⟩
  rw [hp] at y0
  have Y0 := hidT y0
  have B0 := hidT n0
  have R0 := hidT (h.below n0)
  clear h y0 n0 hW
  go_enter Try.func6, Try.ntmps6
  go_wp2_with fail
  rw [HW.out]
  clear hp
  with_reducible refine (sqShown_any W).mono ?_
  rintro e w1 ⟨rfl, hb1⟩
  have Y1 := hidT (keepH Y0.out hb1)
  have B1 := hidT (bthen B0.out hb1)
  have R1 := hidT (R0.out.below hb1)
  obtain ⟨v0, v1⟩ := cells2 Y1.out
  clear hb1
  cases hm : mayS who used n ls with
  | false =>
    have hc := rmayS_any who used A n c ls w1 R1.out false hm
    go_wp2_with fail
    with_reducible refine hc.mono ?_
    rintro e w2 ⟨rfl, hb2⟩
    go_wp2
    go_ret
    exact ⟨rfl, bthen B1.out hb2⟩
  | true =>
    have hc := rmayS_any who used A n c ls w1 R1.out true hm
    obtain ⟨wn, rfl, hwn, hok, hsm, hn64, hn2, hu0, hu1, hmu, hfew⟩ := mayS_facts hm HLEN.out
    have HFEW := hidT hfew
    have HSM := hidT hsm
    have HOK := hidT hok
    go_wp2_with fail
    with_reducible refine hc.mono ?_
    rintro e w2 ⟨rfl, hb2⟩
    have Y2 := hidT (keepH Y1.out hb2)
    have B2 := hidT (bthen B1.out hb2)
    have R2 := hidT (R1.out.below hb2)
    clear hb2 hc v0 v1
    obtain ⟨v0, v1⟩ := cells2 Y2.out
    have hc := sqWalkOut_any ⟨wn, used⟩ A n c ls w2 R2.out hok hsm hn64 hu0 (by show used ≤ 2305843009213693952; omega) (by omega)
    have hg := Seqr.walk_goes ⟨wn, used⟩ ls
    have hend := Seqr.walk_end hok
    obtain ⟨r, hr⟩ : ∃ r, Seqr.walk ⟨wn, used⟩ ls = r := ⟨_, rfl⟩
    rw [hr] at hc hg hend
    obtain ⟨⟨who1, used1⟩, ls1, dd⟩ := r
    simp only at hg hend
    have HM := hidT (mayS_goes hg hok HLEN.out hfew hn64 hn2 hu0)
    have HOK1 := hidT (hg.ok hok).1
    have HLEN1 := hidT ((hg.ok hok).2.trans HLEN.out)
    have HMU1 := hidT (hg.mu hok)
    have HSM1 := hidT (goes_small hg hsm)
    have HU1 := hidT (hg.used hok hu0)
    have HMANY := hidT (fun i => hg.many hok i)
    have HMSGS := hidT (fun i => hg.msgs hok i)
    have HAGAIN := hidT (Seqr.walk_is HOK1.out (.refl _ _) hend)
    clear hm hok hsm hfew hg hend hr
    go_wp2_with fail
    with_reducible refine hc.mono ?_
    rintro e w3 ⟨A1, n1, c1, D, m, d, rfl, hl, hd, hb3⟩
    simp only at hl hd
    obtain rfl : n1 = n := by rw [← hl.size]; exact HLEN1.out
    have n4 := nkeep w3 (.cells #[.int .i64 (who1 : Int), .int .i64 used1] 23)
    have y4 := alloc_at w3 (.cells #[.int .i64 (who1 : Int), .int .i64 used1] 23) _ rfl
    have Y4 := hidT (keepH (keepH Y2.out hb3) n4)
    have B4 := hidT (bthen B2.out (bthen hb3 n4))
    have L4 := hidT (hl.below n4)
    have D4 := hidT (hd.below n4)
    have R4 := hidT (R2.out.below (bthen hb3 n4))
    obtain ⟨pt, hpt⟩ : ∃ p, w3.heap.size = p := ⟨_, rfl⟩
    rw [hpt] at y4
    have PT := hidT y4
    obtain ⟨X, hX⟩ : ∃ X, w3.alloc (.cells #[.int .i64 (who1 : Int), .int .i64 used1] 23) = X := ⟨_, rfl⟩
    rw [hX] at n4 Y4 B4 L4 D4 R4 PT
    have HX := hidT hX
    have HDL := hidT hd.size
    have hdle := hd.le
    have hdcap := hd.cap
    have hdcm := hd.cmax
    have hlcap := hl.cap
    have hlcm := hl.cmax
    clear hc hb3 hl hd n4 y4 hX v0 v1
    go_upto_region 5 with fail
    rw [HX.out]
    clear hpt
    obtain ⟨z0, z1⟩ := cells2 PT.out
    have q1 : ((n1 : Int) != (n1 : Int)) = false := by simp
    have q2 : ((n1 : Int) == (n1 : Int)) = true := by simp
    by_cases hbig : used1 ≤ 1152921504606846976
    · have hc := rmayS_any who1 used1 A1 n1 c1 ls1 X L4.out true (by rw [HM.out]; exact decide_eq_true hbig)
      go_wp2_with fail
      with_reducible refine hc.mono ?_
      rintro e w5 ⟨rfl, hb5⟩
      have Z5 := hidT (keepH PT.out hb5)
      have B5 := hidT (bthen B4.out hb5)
      have L5 := hidT (L4.out.below hb5)
      have D5 := hidT (D4.out.below hb5)
      have R5 := hidT (R4.out.below hb5)
      clear hb5 hc z0 z1 q2
      go_wp2_with fail
      go_loopw [9] (fun i wr => ∃ j : Nat, j ≤ n1 ∧ i = .int .i64 j ∧ Hid (Below w5.heap.size w5 wr)) (fun i _ => n1 - (intOf i).toNat)
      case atStart => exact ⟨0, Nat.zero_le _, rfl, hidT (Below.refl _ _)⟩
      case round =>
        obtain ⟨i, hi, rfl, HB⟩ := hrel
        obtain ⟨wo, rfl⟩ : ∃ wo, wo = wr := ⟨_, rfl⟩
        by_cases hin : i < n1
        · obtain ⟨b, o, l, BB, mm, dp, EA, en, ec, rfl, hx, hla, hcs⟩ := R5.out.told hin
          obtain ⟨b1, o1, l1, BB1, mm1, dp1, EA1, en1, ec1, rfl, hx1, hla1, hcs1⟩ := L5.out.told hin
          obtain ⟨_, _, _, _, _, _, ev, hE, -, -⟩ := id hla
          simp only [Value.agg.injEq, Array.mk.injEq, List.cons.injEq, Value.slice.injEq, and_true] at ev
          obtain ⟨⟨rfl, rfl, rfl⟩, -⟩ := ev
          have HLANE := hidT (Seqr.laneAt_of hx)
          have HLANE1 := hidT (Seqr.laneAt_of hx1)
          have hfl := fewL_small (fewR_at HFEW.out (List.mem_of_getElem? hx)).1
          have hen : en ≤ 80 := by rw [← hE.size]; exact hfl.2.1
          have HE := hidT hE
          have HEL := hidT hE.size
          have hec := hE.cap
          have hecm := hE.cmax
          have HLA := hidT hla
          have HLA1 := hidT hla1
          have HCS := hidT hcs
          have HCS1 := hidT hcs1
          have hMany := HMANY.out i
          rw [HLANE.out, HLANE1.out] at hMany
          have hMsgs := HMSGS.out i
          rw [HLANE.out, HLANE1.out] at hMsgs
          have HMA := hidT hMany
          have HMS := hidT hMsgs
          have x1 : (0 : Int) ≤ (i : Int) := by omega
          have x2 : (i : Int) < (n1 : Int) := by omega
          clear hx hx1 hla hla1 hE hfl hcs hcs1 hMany hMsgs
          go_wp2_with fail
          go_loopw [10, 11] (fun x10 x11 wr => ∃ k j : Nat, k ≤ en ∧ j ≤ m ∧ x10 = .int .i64 k ∧ x11 = .int .i64 j ∧ Hid (((l.es.take k).filter Lane.isMsg).length = (Seqr.delsOf i (dd.take j)).length) ∧ Hid (Below w5.heap.size w5 wr)) (fun _ x11 _ => m - (intOf x11).toNat)
          case atStart => exact ⟨0, 0, Nat.zero_le _, Nat.zero_le _, rfl, rfl, hidT (by simp [Seqr.delsOf]), HB⟩
          case round =>
            obtain ⟨k, j, hk, hj, rfl, rfl, HC, HBJ⟩ := hrel
            obtain ⟨wq, rfl⟩ : ∃ wq, wq = wr := ⟨_, rfl⟩
            by_cases hjm : j < m
            · obtain ⟨bd, od, y, DA, dn, dc, rfl, hy, hrd, _, hcd⟩ := D5.out.told hjm
              obtain ⟨s0, s1⟩ := hcd wq HBJ.out
              have HS := hidT (Seqr.delsOf_succ (i := i) hy)
              have HY := hidT hy
              have HRD := hidT hrd
              have HCD := hidT hcd
              have y1 : (0 : Int) ≤ (j : Int) := by omega
              have y2 : (j : Int) < (m : Int) := by omega
              clear hy hrd hcd
              by_cases hs : y.src = (i : Int)
              · have p1 : (y.src != (i : Int)) = false := by simpa using hs
                have HSR := hidT hs
                have HS2 : Hid ((Seqr.delsOf i (dd.take (j + 1))).length = (Seqr.delsOf i (dd.take j)).length + 1) := hidT (by rw [HS.out, if_pos HSR.out])
                clear hs
                go_wp2_with fail
                go_loop [10] (fun x10 => ∃ k : Nat, k ≤ en ∧ x10 = .int .i64 k ∧ Hid (((l.es.take k).filter Lane.isMsg).length = (Seqr.delsOf i (dd.take j)).length)) (fun x10 => en - (intOf x10).toNat)
                case atStart => exact ⟨k, hk, rfl, HC⟩
                case round =>
                  clear hk HC
                  obtain ⟨k, hk, rfl, HC⟩ := hrel
                  obtain ⟨c0, c1, c2, c3, c4⟩ := HCS.out wq HBJ.out
                  by_cases hken : k < en
                  · obtain ⟨b2, o2, x, BA, bn, bc, LA, ln, lc, rfl, hx, hrb, hrl, _, _, hcs2⟩ := HE.out.told hken
                    obtain ⟨d0, d1, d2, d3, d4⟩ := hcs2 wq HBJ.out
                    have z1 : (0 : Int) ≤ (k : Int) := by omega
                    have z2 : (k : Int) < (en : Int) := by omega
                    have HF := hidT (Lane.filter_step Lane.isMsg l.es k x hx)
                    by_cases hk1 : x.k = 1
                    · have p2 : (x.k != 1) = false := by simpa using hk1
                      have hmsg : Lane.isMsg x = true := by simp [Lane.isMsg, hk1]
                      have hxy : x.b = y.b := Seqr.told_at HMS.out hx hmsg HC.out HY.out HSR.out
                      have HC2 : Hid (((l.es.take (k + 1)).filter Lane.isMsg).length = (Seqr.delsOf i (dd.take (j + 1))).length) := hidT (by rw [HF.out, HS2.out, HC.out, if_pos hmsg])
                      have p3 : ((str x.b).toList == (str y.b).toList) = true := str_same hxy
                      have p3' : ((str x.b).toList != (str y.b).toList) = false := by unfold bne; rw [p3]; rfl
                      have NE := Later.ne wq
                      have k0 := fun m : Later wq => (HCS.out m.w (bthen HBJ.out m.h)).1
                      have k2 := fun m : Later wq => (hcs2 m.w (bthen HBJ.out m.h)).2.2.1
                      have j1 := fun m : Later wq => (HCD.out m.w (bthen HBJ.out m.h)).2
                      have s1 := fun m : Later wq => strs hrb m.w (bthen HBJ.out m.h)
                      have s2 := fun m : Later wq => strs HRD.out m.w (bthen HBJ.out m.h)
                      have p4 : decide ((en : Int) ≤ (k : Int)) = false := by simp; omega
                      have p4' : decide (en ≤ k) = false := by simp; omega
                      clear hk1 hx hmsg hxy hrb hrl hcs2
                      go_wp2_with fail
                      refine wp_later (by kernel_rfl) (by kernel_rfl) ?_
                      repeat (go_big_quiet_step (fail))
                      refine wpQuiet_nil ?_
                      intro w9 hw9
                      obtain ⟨⟨_, hb9⟩, rfl⟩ := hw9
                      have HB9 := hidT (bthen HBJ.out hb9)
                      clear hb9 NE k0 k2 j1 s1 s2
                      go_wp2
                      exact ⟨⟨k + 1, j + 1, by omega, by omega, by go_num, by go_num, HC2, HB9⟩, by simp [intOf]; omega⟩
                    · have p2 : (x.k != 1) = true := by simpa using hk1
                      have hmsg : Lane.isMsg x = false := by simp [Lane.isMsg, hk1]
                      have HC2 : Hid (((l.es.take (k + 1)).filter Lane.isMsg).length = (Seqr.delsOf i (dd.take j)).length) := hidT (by rw [HF.out, HC.out, if_neg (by simp [hmsg])]; rfl)
                      clear hk1 hx hmsg hrb hrl hcs2
                      go_wp2
                      exact ⟨⟨k + 1, by omega, by go_num, HC2⟩, by simp [intOf]; omega⟩
                  · exfalso
                    obtain rfl : en = k := by omega
                    have h1 := HC.out
                    rw [List.take_of_length_le (by rw [HEL.out]; exact Nat.le_refl _)] at h1
                    have h2 := Seqr.told_more HMS.out HY.out HSR.out
                    omega
              · have p1 : (y.src != (i : Int)) = true := by simpa using hs
                have HC2 : Hid (((l.es.take k).filter Lane.isMsg).length = (Seqr.delsOf i (dd.take (j + 1))).length) := hidT (by rw [HC.out, HS.out, if_neg hs]; rfl)
                clear hs
                go_wp2
                exact ⟨⟨k, j + 1, hk, by omega, rfl, by go_num, HC2, HBJ⟩, by simp [intOf]; omega⟩
            · obtain rfl : m = j := by omega
              go_wp2_with fail
              go_loop [12, 13] (fun x12 x13 => ∃ j : Nat, j ≤ m ∧ x12 = .int .i64 ((Seqr.delsOf i (dd.take j)).length : Nat) ∧ x13 = .int .i64 j) (fun _ x13 => m - (intOf x13).toNat)
              case atStart => exact ⟨0, Nat.zero_le _, rfl, rfl⟩
              case round =>
                obtain ⟨j, hj, rfl, rfl⟩ := hrel
                by_cases hjm : j < m
                · obtain ⟨bd, od, y, DA, dn, dc, rfl, hy, hrd, _, hcd⟩ := D5.out.told hjm
                  obtain ⟨s0, s1⟩ := hcd wq HBJ.out
                  have HS := hidT (Seqr.delsOf_succ (i := i) hy)
                  have y1 : (0 : Int) ≤ (j : Int) := by omega
                  have y2 : (j : Int) < (m : Int) := by omega
                  have hgl : (Seqr.delsOf i (dd.take j)).length ≤ j := Nat.le_trans (List.length_filter_le _ _) (by rw [List.length_take]; omega)
                  obtain ⟨G, hG⟩ : ∃ G, (Seqr.delsOf i (dd.take j)).length = G := ⟨_, rfl⟩
                  rw [hG] at HS hgl ⊢
                  clear hy hrd hcd hG
                  by_cases hs : y.src = (i : Int)
                  · have p1 : (y.src == (i : Int)) = true := by simpa using hs
                    have HS2 : Hid ((Seqr.delsOf i (dd.take (j + 1))).length = G + 1) := hidT (by rw [HS.out, if_pos hs])
                    clear hs
                    go_wp2
                    exact ⟨⟨j + 1, by omega, by rw [HS2.out]; go_num, by go_num⟩, by simp [intOf]; omega⟩
                  · have p1 : (y.src == (i : Int)) = false := by simpa using hs
                    have HS2 : Hid ((Seqr.delsOf i (dd.take (j + 1))).length = G) := hidT (by rw [HS.out, if_neg hs]; rfl)
                    clear hs
                    go_wp2
                    exact ⟨⟨j + 1, by omega, by rw [HS2.out], by go_num⟩, by simp [intOf]; omega⟩
                · obtain rfl : m = j := by omega
                  have hAll := Seqr.delsOf_all (i := i) HDL.out
                  have hMany := HMA.out
                  rw [← hAll] at hMany
                  have hm0 := many_le l
                  rw [HEL.out] at hm0
                  obtain ⟨G, hG⟩ : ∃ G, (Seqr.delsOf i (dd.take m)).length = G := ⟨_, rfl⟩
                  obtain ⟨M0, hM0⟩ : ∃ M, Lane.many l = M := ⟨_, rfl⟩
                  obtain ⟨M1, hM1⟩ : ∃ M, Lane.many l1 = M := ⟨_, rfl⟩
                  rw [hG, hM0, hM1] at hMany
                  rw [hM0] at hm0
                  rw [hG]
                  have HR0 : Hid (∀ m' : Later wq, Calls Try.prog 22 #[.agg #[.slice EA en ec, .int .i64 l.p.seq, .int .i64 l.p.total, .int .i64 l.p.got, .slice BB mm dp]] m'.w (IntIs m'.w (M0 : Nat))) := hidT fun m' => by rw [← hM0]; exact rmany_any _ _ _ (HLA.out.below (bthen HBJ.out m'.h))
                  have HR1 : Hid (∀ m' : Later wq, Calls Try.prog 22 #[.agg #[.slice EA1 en1 ec1, .int .i64 l1.p.seq, .int .i64 l1.p.total, .int .i64 l1.p.got, .slice BB1 mm1 dp1]] m'.w (IntIs m'.w (M1 : Nat))) := hidT fun m' => by rw [← hM1]; exact rmany_any _ _ _ (HLA1.out.below (bthen HBJ.out m'.h))
                  have NE := Later.ne wq
                  have k0 := fun m' : Later wq => (HCS.out m'.w (bthen HBJ.out m'.h)).1
                  have k1 := fun m' : Later wq => (HCS.out m'.w (bthen HBJ.out m'.h)).2.1
                  have k2 := fun m' : Later wq => (HCS.out m'.w (bthen HBJ.out m'.h)).2.2.1
                  have k3 := fun m' : Later wq => (HCS.out m'.w (bthen HBJ.out m'.h)).2.2.2.1
                  have k4 := fun m' : Later wq => (HCS.out m'.w (bthen HBJ.out m'.h)).2.2.2.2
                  have j0 := fun m' : Later wq => (HCS1.out m'.w (bthen HBJ.out m'.h)).1
                  have j1 := fun m' : Later wq => (HCS1.out m'.w (bthen HBJ.out m'.h)).2.1
                  have j2 := fun m' : Later wq => (HCS1.out m'.w (bthen HBJ.out m'.h)).2.2.1
                  have j3 := fun m' : Later wq => (HCS1.out m'.w (bthen HBJ.out m'.h)).2.2.2.1
                  have j4 := fun m' : Later wq => (HCS1.out m'.w (bthen HBJ.out m'.h)).2.2.2.2
                  have p1 : IntKind.i64.wrap ((M0 : Int) - (G : Int)) = (M1 : Int) := by rw [IntWalk.i64_in _ (by omega)]; omega
                  have p1b : wrap64 ((M0 : Int) - (G : Int)) = (M1 : Int) := by rw [IntWalk.wrap64_in _ (by omega)]; omega
                  have p2 : ((M1 : Int) != (M1 : Int)) = false := by simp
                  clear hG hM0 hM1 hAll hMany hm0
                  go_wp2_with fail
                  refine wp_later (by kernel_rfl) (by kernel_rfl) ?_
                  repeat (go_big_quiet_step (first | (go_at_call 22; with_reducible exact Later.int (HR0.out _)) | (go_at_call 22; with_reducible exact Later.int (HR1.out _)) | fail))
                  refine wpQuiet_nil ?_
                  intro w9 hw9
                  obtain ⟨⟨_, hb9⟩, rfl⟩ := hw9
                  have HB9 := hidT (bthen HBJ.out hb9)
                  clear hb9 NE k0 k1 k2 k3 k4 j0 j1 j2 j3 j4 p1 p1b
                  go_wp2
                  exact ⟨⟨i + 1, by omega, by go_num, HB9⟩, by simp [intOf]; omega⟩
        · obtain rfl : n1 = i := by omega
          obtain ⟨z0, z1⟩ := cells2 (keepH Z5.out HB.out)
          have hc := sqWalkOut_any ⟨who1, used1⟩ A1 n1 c1 ls1 wo (L5.out.below HB.out) HOK1.out HSM1.out hn64 (by have := HU1.out.1; exact this) (by show used1 ≤ 2305843009213693952; omega) (by have := HMU1.out; omega)
          rw [HAGAIN.out] at hc
          go_wp2_with fail
          with_reducible refine hc.mono ?_
          rintro e w6 ⟨A2, n2, c2, D2, m2, d2, rfl, hl2, hd2, hb6⟩
          simp only at hl2 hd2
          obtain rfl : 0 = m2 := by rw [← hd2.size]; rfl
          have n7 := nkeep w6 (.cells #[.int .i64 (who1 : Int), .int .i64 used1] 23)
          have y7 := alloc_at w6 (.cells #[.int .i64 (who1 : Int), .int .i64 used1] 23) _ rfl
          have Z7 := hidT (keepH (keepH (keepH Z5.out HB.out) hb6) n7)
          have B7 := hidT (bthen B5.out (bthen HB.out (bthen hb6 n7)))
          have L7 := hidT (L5.out.below (bthen HB.out (bthen hb6 n7)))
          have M7 := hidT (hl2.below n7)
          obtain ⟨pu, hpu⟩ : ∃ p, w6.heap.size = p := ⟨_, rfl⟩
          rw [hpu] at y7
          have PU := hidT y7
          obtain ⟨X7, hX7⟩ : ∃ X, w6.alloc (.cells #[.int .i64 (who1 : Int), .int .i64 used1] 23) = X := ⟨_, rfl⟩
          rw [hX7] at n7 Z7 B7 L7 M7 PU
          have HX7 := hidT hX7
          clear hc hb6 hl2 hd2 n7 y7 hX7 z0 z1
          go_upto_region 29 with fail
          rw [HX7.out]
          clear hpu
          obtain ⟨z0, z1⟩ := cells2 Z7.out
          obtain ⟨u0, u1⟩ := cells2 PU.out
          have p1 : ((who1 : Int) == (who1 : Int)) = true := by simp
          have p2 : (used1 == used1) = true := by simp
          have hc := sameAll_any A2 n2 c2 ls1 A1 n1 c1 ls1 X7 M7.out L7.out true (by simp)
          go_wp2_with fail
          with_reducible refine hc.mono ?_
          rintro e w8 ⟨rfl, hb8⟩
          have HBF := hidT (bthen B7.out hb8)
          go_wp2
          go_ret
          exact ⟨rfl, HBF.out⟩
    · have hc := rmayS_any who1 used1 A1 n1 c1 ls1 X L4.out false (by rw [HM.out]; exact decide_eq_false hbig)
      have p1 : decide (1152921504606846976 < used1) = true := by simp; omega
      go_wp2_with fail
      with_reducible refine hc.mono ?_
      rintro e w5 ⟨rfl, hb5⟩
      obtain ⟨z0, z1⟩ := cells2 (keepH PT.out hb5)
      have HBF := hidT (bthen B4.out hb5)
      clear hb5 hc hbig
      go_wp2
      go_ret
      exact ⟨rfl, HBF.out⟩
end Go.Proofs.Ytdchgnmkeefffaa
