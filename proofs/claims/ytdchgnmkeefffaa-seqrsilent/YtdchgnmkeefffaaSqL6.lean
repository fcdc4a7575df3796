/- The law SeqrSilent, walked. -/
import Derived.Test.YtdchgnmkeefffaaSqW
import Derived.Deep.CutRange
set_option maxRecDepth 100000
namespace Go.Proofs.Ytdchgnmkeefffaa
open Go.RowKit
set_option linter.unusedVariables false

def sumTo (ls : List Lane.Ln) (j : Nat) : Nat := ((ls.take j).map Lane.many).sum
theorem sumTo_succ {ls : List Lane.Ln} {j : Nat} {l : Lane.Ln} (h : ls[j]? = some l) : sumTo ls (j + 1) = sumTo ls j + Lane.many l := by
  unfold sumTo
  rw [List.take_add_one, h, List.map_append, List.sum_append]
  simp
theorem sumTo_le {ls : List Lane.Ln} (h : fewR ls = true) (j : Nat) : sumTo ls j ≤ 80 * j := by
  have := sum_le Lane.many 80 (ls.take j) fun l hl => by
    have h1 := (fewL_small (fewR_at h (List.mem_of_mem_take hl)).1).2.1
    have := many_le l
    omega
  unfold sumTo
  have h2 : (ls.take j).length ≤ j := by rw [List.length_take]; omega
  exact Nat.le_trans this (Nat.mul_le_mul_left 80 h2)
def hasC (l : Lane.Ln) (k : Nat) : Bool := (l.es.take k).any fun e => !Lane.isMsg e
theorem hasC_all {l : Lane.Ln} {n : Nat} (h : l.es.length = n) : hasC l n = (Lane.control l).isSome := by
  unfold hasC Lane.control
  rw [List.take_of_length_le (by omega)]
  cases hf : l.es.find? fun e => !Lane.isMsg e with
  | none =>
    rw [List.find?_eq_none] at hf
    simp only [Option.isSome_none, List.any_eq_false]
    exact hf
  | some x =>
    simp only [Option.isSome_some, List.any_eq_true]
    exact ⟨x, List.mem_of_find?_eq_some hf, List.find?_some (p := fun e => !Lane.isMsg e) hf⟩
theorem hasC_succ {l : Lane.Ln} {k : Nat} {x : Lane.En} (h : l.es[k]? = some x) : hasC l (k + 1) = (hasC l k || !Lane.isMsg x) := by
  unfold hasC
  rw [List.take_add_one, h, List.any_append]
  simp
def cntM (l : Lane.Ln) (k : Nat) : Nat := ((l.es.take k).filter Lane.isMsg).length
theorem cntM_succ {l : Lane.Ln} {k : Nat} {x : Lane.En} (h : l.es[k]? = some x) : cntM l (k + 1) = cntM l k + (if Lane.isMsg x = true then 1 else 0) := Lane.filter_step _ _ _ _ h
theorem cntM_all {l : Lane.Ln} {n : Nat} (h : l.es.length = n) : cntM l n = Lane.many l := by unfold cntM Lane.many; rw [List.take_of_length_le (by omega)]
theorem cntM_le (l : Lane.Ln) (k : Nat) : cntM l k ≤ k := Nat.le_trans (List.length_filter_le _ _) (by rw [List.length_take]; omega)
def ownTo (ls : List Lane.Ln) (wn j : Nat) : Bool := decide (wn < j) && (Lane.control (Seqr.laneAt ls wn)).isSome

set_option maxHeartbeats 16000000 in
theorem silent_any (who used : Int) (A : Option Addr) (n c : Nat) (ls : List Lane.Ln) (qb : Int) (w : World) (h : RdL (fun _ => True) w A n c ls) (hq : 0 ≤ qb ∧ qb < 256) :
    Calls Try.prog 8 #[.agg #[.int .i64 who, .int .i64 used], .slice A n c, .int .u8 qb] w (Yes w) := by
  have hle := h.le
  have HLEN := hidT h.size
  obtain ⟨W, hW⟩ : ∃ W, w.alloc (.cells #[.int .i64 who, .int .i64 used] 23) = W := ⟨_, rfl⟩
  have y0 := alloc_at w (.cells #[.int .i64 who, .int .i64 used] 23) _ rfl
  have n0 := nkeep w (.cells #[.int .i64 who, .int .i64 used] 23)
  rw [hW] at y0 n0
  have HW := hidT hW
  obtain ⟨p, hp⟩ : ∃ p, w.heap.size = p := ⟨_, rfl⟩
  rw [hp] at y0
  have Y0 := hidT y0
  have B0 := hidT n0
  have R0 := hidT (h.below n0)
  clear h y0 n0 hW
  go_enter Try.func8, Try.ntmps8
  go_wp2_with fail
  rw [HW.out]
  clear hp
  with_reducible refine (sqShown_any W).mono ?_
  rintro e w1 ⟨rfl, hb1⟩
  have Y1 := hidT (keepH Y0.out hb1)
  have B1 := hidT (bthen B0.out hb1)
  have R1 := hidT (R0.out.below hb1)
  obtain ⟨v0, v1⟩ := cells2 Y1.out
  clear hb1
  cases hm : mayS who used n ls with
  | false =>
    have hc := rmayS_any who used A n c ls w1 R1.out false hm
    go_wp2_with fail
    with_reducible refine hc.mono ?_
    rintro e w2 ⟨rfl, hb2⟩
    go_wp2
    go_ret
    exact ⟨rfl, bthen B1.out hb2⟩
  | true =>
    have hc := rmayS_any who used A n c ls w1 R1.out true hm
    obtain ⟨wn, rfl, hwn, hok, hsm, hn64, hn2, hu0, hu1, hmu, hfew⟩ := mayS_facts hm HLEN.out
    have HFEW := hidT hfew
    have HSM := hidT hsm
    have HOK := hidT hok
    clear hm hok hsm hmu hfew
    go_wp2_with fail
    with_reducible refine hc.mono ?_
    rintro e w2 ⟨rfl, hb2⟩
    have Y2 := hidT (keepH Y1.out hb2)
    have B2 := hidT (bthen B1.out hb2)
    have R2 := hidT (R1.out.below hb2)
    clear hb2 hc v0 v1
    obtain ⟨v0, v1⟩ := cells2 Y2.out
    obtain ⟨Rq, hRq⟩ : ∃ Rq, qb % 64 = Rq := ⟨_, rfl⟩
    have q0 : 0 ≤ Rq := by rw [← hRq]; exact Int.emod_nonneg _ (by decide)
    have q1 : Rq < 64 := by rw [← hRq]; exact Int.emod_lt_of_pos _ (by decide)
    have HQ0 := hidT q0
    have HQ1 := hidT q1
    have qa := hq.1
    have qb2 := hq.2
    clear hq
    go_wp2_with fail
    obtain ⟨Q, hQ⟩ : ∃ Q, 1 + Rq = Q := ⟨_, rfl⟩
    try rw [hRq]
    rw [hQ]
    have HQ : Hid (1 ≤ Q ∧ Q ≤ 64) := hidT (by have := HQ0.out; have := HQ1.out; omega)
    clear hQ hRq q0 q1 qa qb2
    go_loop [9, 10, 11] (fun x9 x10 x11 => ∃ j : Nat, j ≤ n ∧ x9 = .int .i64 (sumTo ls j : Nat) ∧ x10 = .bool (ownTo ls wn j) ∧ x11 = .int .i64 j) (fun x9 x10 x11 => n - (intOf x11).toNat)
    case atStart => exact ⟨0, Nat.zero_le _, rfl, rfl, rfl⟩
    case round =>
      obtain ⟨j, hj, rfl, rfl, rfl⟩ := hrel
      by_cases hjn : j < n
      · obtain ⟨b, o, l, BB, mm, dd, EA, en, ec, rfl, hx, hi, hcs⟩ := R2.out.told hjn
        obtain ⟨_, _, _, _, _, _, ev, hE, -, -⟩ := id hi
        simp only [Value.agg.injEq, Array.mk.injEq, List.cons.injEq, Value.slice.injEq, and_true] at ev
        obtain ⟨⟨rfl, rfl, rfl⟩, -⟩ := ev
        have hlane : Seqr.laneAt ls j = l := Seqr.laneAt_of hx
        have hfl := fewL_small (fewR_at HFEW.out (List.mem_of_getElem? hx)).1
        have hen : en ≤ 80 := by rw [← hE.size]; exact hfl.2.1
        have hs0 := sumTo_le HFEW.out j
        have HS := hidT (sumTo_succ hx)
        have HE := hidT hE
        have HEL := hidT hE.size
        have HLANE := hidT hlane
        have hec := hE.cap
        have hecm := hE.cmax
        obtain ⟨c0, c1, c2, c3, c4⟩ := hcs w2 (Below.refl _ _)
        obtain ⟨S0, hS0⟩ : ∃ S0, sumTo ls j = S0 := ⟨_, rfl⟩
        obtain ⟨O0, hO0⟩ : ∃ O0, ownTo ls wn j = O0 := ⟨_, rfl⟩
        rw [hS0, hO0]
        rw [hS0] at hs0 HS
        have HO0 := hidT hO0
        have x1 : (0 : Int) ≤ (j : Int) := by omega
        have x2 : (j : Int) < (n : Int) := by omega
        clear hx hi hcs hlane hfl hE hS0 hO0
        go_wp2_with fail
        go_loop [9, 10, 12] (fun x9 x10 x12 => ∃ k : Nat, k ≤ en ∧ x9 = .int .i64 ((S0 + cntM l k : Nat) : Int) ∧ x10 = .bool (O0 || (decide (j = wn) && hasC l k)) ∧ x12 = .int .i64 k) (fun x9 x10 x12 => en - (intOf x12).toNat)
        case atStart => exact ⟨0, Nat.zero_le _, rfl, by simp [hasC], rfl⟩
        case round =>
          obtain ⟨k, hk, rfl, rfl, rfl⟩ := hrel
          have hck := cntM_le l k
          by_cases hken : k < en
          · obtain ⟨b2, o2, x, BA, bn, bc, LA, ln, lc, rfl, hx, hrb, hrl, _, _, hcs2⟩ := HE.out.told hken
            obtain ⟨d0, d1, d2, d3, d4⟩ := hcs2 w2 (Below.refl _ _)
            have y1 : (0 : Int) ≤ (k : Int) := by omega
            have y2 : (k : Int) < (en : Int) := by omega
            have HC := hidT (cntM_succ hx)
            have HH := hidT (hasC_succ hx)
            clear hcs2 hx hrb hrl
            by_cases hk1 : x.k = 1
            · have hmsg : Lane.isMsg x = true := by simp [Lane.isMsg, hk1]
              have p1 : (x.k == 1) = true := by simpa using hk1
              have hc := HC.out
              have hh := HH.out
              rw [hmsg, if_pos rfl] at hc
              rw [hmsg, Bool.not_true, Bool.or_false] at hh
              have HC2 := hidT hc
              have HH2 := hidT hh
              clear hk1 hmsg hc hh
              go_wp2
              exact ⟨⟨k + 1, by omega, by rw [HC2.out]; go_num, by rw [HH2.out], by go_num⟩, by simp [intOf]; omega⟩
            · have hmsg : Lane.isMsg x = false := by simp [Lane.isMsg, hk1]
              have p1 : (x.k == 1) = false := by simpa using hk1
              have hc := HC.out
              have hh := HH.out
              rw [hmsg, if_neg (by simp), Nat.add_zero] at hc
              rw [hmsg, Bool.not_false, Bool.or_true] at hh
              have HC2 := hidT hc
              have HH2 := hidT hh
              clear hk1 hmsg hc hh
              by_cases hjw : j = wn
              · have p2 : ((j : Int) == (wn : Int)) = true := by simp [hjw]
                have p2' : (j == wn) = true := by simp [hjw]
                have HJ := hidT hjw
                clear hjw
                go_wp2
                exact ⟨⟨k + 1, by omega, by rw [HC2.out]; go_num, by rw [HH2.out, decide_eq_true HJ.out]; simp, by go_num⟩, by simp [intOf]; omega⟩
              · have p2 : ((j : Int) == (wn : Int)) = false := by simp; omega
                have p2' : (j == wn) = false := by simpa using hjw
                have HJ := hidT hjw
                clear hjw
                go_wp2
                exact ⟨⟨k + 1, by omega, by rw [HC2.out]; go_num, by rw [decide_eq_false HJ.out]; simp, by go_num⟩, by simp [intOf]; omega⟩
          · obtain rfl : en = k := by omega
            have HA := hidT (cntM_all HEL.out)
            have HB := hidT (hasC_all HEL.out)
            have HOW : Hid (ownTo ls wn (j + 1) = (O0 || (decide (j = wn) && hasC l en))) := hidT (by
              rw [HB.out, ← HO0.out]
              unfold ownTo
              by_cases hjw : j = wn
              · subst hjw
                rw [HLANE.out]
                simp
              · have e1 : decide (wn < j + 1) = decide (wn < j) := by congr 1; rw [eq_iff_iff]; omega
                rw [e1, decide_eq_false hjw]
                simp)
            go_wp2
            exact ⟨⟨j + 1, by omega, by rw [HS.out, ← HA.out], by rw [HOW.out], by go_num⟩, by simp [intOf]; omega⟩
      · obtain rfl : n = j := by omega
        have HTOT : Hid (sumTo ls n = Seqr.total ls) := hidT (by unfold sumTo Seqr.total; rw [List.take_of_length_le (by rw [HLEN.out]; exact Nat.le_refl _)])
        have HOWN : Hid (ownTo ls wn n = (Lane.control (Seqr.laneAt ls wn)).isSome) := hidT (by unfold ownTo; rw [decide_eq_true hwn, Bool.true_and])
        have hT5 := sumTo_le HFEW.out n
        rw [HTOT.out] at hT5 ⊢
        rw [HOWN.out]
        obtain ⟨T, hT⟩ : ∃ T, Seqr.total ls = T := ⟨_, rfl⟩
        obtain ⟨O, hO⟩ : ∃ O, (Lane.control (Seqr.laneAt ls wn)).isSome = O := ⟨_, rfl⟩
        rw [hT] at hT5 ⊢
        rw [hO]
        have HT := hidT hT
        have HO := hidT hO
        have HT5 := hidT hT5
        clear hT hO hT5 v0 v1
        go_wp2_with fail
        go_loopw [13] (fun i wr => ∃ j : Nat, j ≤ n ∧ i = .int .i64 j ∧ Hid (Below w2.heap.size w2 wr)) (fun i _ => n - (intOf i).toNat)
        case atStart => exact ⟨0, Nat.zero_le _, rfl, hidT (Below.refl _ _)⟩
        case round =>
          obtain ⟨j, hj, rfl, HB⟩ := hrel
          obtain ⟨wo, rfl⟩ : ∃ wo, wo = wr := ⟨_, rfl⟩
          by_cases hjn : j < n
          · have Y3 := hidT (keepH Y2.out HB.out)
            obtain ⟨v0, v1⟩ := cells2 Y3.out
            have hc := sqSay_any ⟨wn, used⟩ A n c ls j Q wo (R2.out.below HB.out) HSM.out hn64 hjn HQ.out ⟨hu0, by show used ≤ 2305843009213693952; omega⟩
            have HIS := hidT (Seqr.say_isSome (t := ⟨wn, used⟩) (ls := ls) (me := j) (quota := Q) (by rw [HLEN.out]; exact hjn))
            obtain ⟨yes, hyes⟩ : ∃ yes, (Seqr.say ⟨wn, used⟩ ls j Q).isSome = yes := ⟨_, rfl⟩
            obtain ⟨it, hit⟩ : ∃ it, (Seqr.say ⟨wn, used⟩ ls j Q).getD Item.It.zero = it := ⟨_, rfl⟩
            have HYES := hidT hyes
            have HLN : Hid (yes = true → it.l.length = min (Q - used).toNat T) := hidT fun hy => by
              rw [← hit, Seqr.say_l_some (by rw [hyes]; exact hy), Seqr.saidL_length (by rw [HLEN.out]; exact hjn), HT.out]
            have HMEM : Hid (∀ x ∈ it.l, 0 ≤ x ∧ x < (n : Int)) := hidT fun x hx => by
              rw [← hit] at hx
              rcases Seqr.say_l (t := ⟨wn, used⟩) (ls := ls) (me := j) (quota := Q) with e | e
              · rw [e] at hx; cases hx
              · rw [e] at hx
                have := Seqr.saidL_mem (by rw [HLEN.out]; exact hjn) hx
                rw [HLEN.out] at this
                exact this
            have HSORT : Hid (it.l.Pairwise (fun a b => Seqr.rnd a j n ≤ Seqr.rnd b j n)) := hidT (by
              rw [← hit]
              rcases Seqr.say_l (t := ⟨wn, used⟩) (ls := ls) (me := j) (quota := Q) with e | e
              · rw [e]; exact List.Pairwise.nil
              · rw [e]
                have := Seqr.saidL_sorted (ls := ls) (me := j) (by rw [HLEN.out]; exact hjn) (Q - used)
                rw [HLEN.out] at this
                exact this)
            have hq1 := HQ.out.1
            have hq2 := HQ.out.2
            clear hyes
            go_wp2_with fail
            with_reducible refine hc.mono ?_
            rintro e w5 ⟨v, rfl, hi, hb5⟩
            rw [hit] at hi
            rw [HYES.out]
            obtain ⟨LA, ln, lc, BA, bn, bc, rfl, hl, _, _⟩ := hi
            have n6 := nkeep w5 (.cells #[.int .i64 it.k, .int .i64 it.q, .int .i64 it.e, .int .i64 it.i, .int .i64 it.t, .int .i64 it.c, .slice LA ln lc, .slice BA bn bc] 35)
            have y6 := alloc_at w5 (.cells #[.int .i64 it.k, .int .i64 it.q, .int .i64 it.e, .int .i64 it.i, .int .i64 it.t, .int .i64 it.c, .slice LA ln lc, .slice BA bn bc] 35) _ rfl
            have Y6 := hidT (keepH (keepH Y3.out hb5) n6)
            have HB6 := hidT (bthen HB.out (bthen hb5 n6))
            have RL := hidT (RdV.below hl n6)
            obtain ⟨pt, hpt⟩ : ∃ p, w5.heap.size = p := ⟨_, rfl⟩
            rw [hpt] at y6
            have PT := hidT y6
            obtain ⟨X, hX⟩ : ∃ X, w5.alloc (.cells #[.int .i64 it.k, .int .i64 it.q, .int .i64 it.e, .int .i64 it.i, .int .i64 it.t, .int .i64 it.c, .slice LA ln lc, .slice BA bn bc] 35) = X := ⟨_, rfl⟩
            rw [hX] at n6 Y6 HB6 RL PT
            have HX := hidT hX
            clear hc hb5 hl n6 y6 hX v0 v1 hit
            go_upto_region 21 with fail
            rw [HX.out]
            clear hpt
            obtain ⟨v0, v1⟩ := cells2 Y6.out
            go_cut [92] from 59 to 154 (fun x wc => x = .bool false ∧ X = wc)
            case first =>
              by_cases h1 : j = wn
              · have p1 : ((j : Int) == (wn : Int)) = true := by simp [h1]
                have p1' : (j == wn) = true := by simp [h1]
                by_cases h2 : 0 < T
                · have p2 : decide ((0 : Int) < (T : Int)) = true := by simp; omega
                  have p2' : decide (0 < T) = true := by simpa using h2
                  rcases (show O = true ∨ O = false by cases O <;> simp) with rfl | rfl
                  · obtain rfl : yes = false := by rw [← HYES.out, HIS.out, HO.out]; simp
                    go_wp2_with fail
                    go_meet
                    exact ⟨rfl, rfl⟩
                  · by_cases h3 : used < Q
                    · have p3 : decide (used < Q) = true := by simpa using h3
                      obtain rfl : yes = true := by rw [← HYES.out, HIS.out, HO.out, HT.out, p2', p3, h1]; simp
                      clear h1 h2 h3
                      go_wp2_with fail
                      go_meet
                      exact ⟨rfl, rfl⟩
                    · have p3 : decide (used < Q) = false := by simpa using h3
                      obtain rfl : yes = false := by rw [← HYES.out, HIS.out, p3]; simp
                      clear h1 h2 h3
                      go_wp2_with fail
                      go_meet
                      exact ⟨rfl, rfl⟩
                · have p2 : decide ((0 : Int) < (T : Int)) = false := by simp; omega
                  have p2' : decide (0 < T) = false := by simpa using h2
                  obtain rfl : yes = false := by rw [← HYES.out, HIS.out, HT.out, p2']; simp
                  clear h1 h2
                  go_wp2_with fail
                  go_meet
                  exact ⟨rfl, rfl⟩
              · have p1 : ((j : Int) == (wn : Int)) = false := by simp; omega
                have p1' : (j == wn) = false := by simpa using h1
                obtain rfl : yes = false := by rw [← HYES.out, HIS.out, decide_eq_false h1]; simp
                clear h1
                go_wp2_with fail
                go_meet
                exact ⟨rfl, rfl⟩
            case rest =>
              obtain ⟨rfl, rfl⟩ := hcut
              have hln := RdI.size RL.out
              have hlc := RL.out.2.1
              have hlcm : lc ≤ 9223372036854775807 := by have := RL.out.2.2.1; unfold maxLen at this; omega
              have HLL := hidT hln
              clear v0 v1 hln
              go_wp2_with fail
              go_loopw [16] (fun i wr => ∃ k : Nat, k ≤ ln ∧ i = .int .i64 k ∧ Hid (Below X.heap.size X wr)) (fun i _ => ln - (intOf i).toNat)
              case atStart => exact ⟨0, Nat.zero_le _, rfl, hidT (Below.refl _ _)⟩
              case round =>
                obtain ⟨k, hk, rfl, XB⟩ := hrel
                have hpt := keepH PT.out XB.out
                obtain ⟨h0, h1, h2, h3, h4, h5, h6, h7⟩ := cells8x hpt
                have HPT := hidT hpt
                clear hpt h0 h1 h2 h3 h4 h5 h7
                by_cases hkn : k < ln
                · obtain ⟨bL, oL, x, hLA, hx, hcx⟩ := RdI.at_ RL.out hkn
                  subst hLA
                  have hxm := HMEM.out x (List.mem_of_getElem? hx)
                  have y1 : (0 : Int) ≤ (k : Int) := by omega
                  have y2 : (k : Int) < (ln : Int) := by omega
                  have p1 : decide (x < 0) = false := by simp; omega
                  have p2 : decide ((n : Int) ≤ x) = false := by simp; omega
                  have NE := Later.ne wr
                  have k6 := Later.cell h6
                  have kx := fun m : Later wr => cellC (bthen XB.out m.h) hcx
                  cases k with
                  | zero =>
                    have p3 : decide ((0 : Int) < ((0 : Nat) : Int)) = false := by decide
                    have p3' : decide ((0 : Int) < 0) = false := by decide
                    simp only [Nat.add_zero] at kx
                    clear hx hxm hcx
                    go_wp2_with fail
                    refine wp_later (by kernel_rfl) (by kernel_rfl) ?_
                    repeat (go_big_quiet_step (fail))
                    refine wpQuiet_nil ?_
                    intro w9 hw9
                    obtain ⟨⟨_, hb9⟩, rfl⟩ := hw9
                    have HB9 := hidT (bthen XB.out hb9)
                    clear hb9 NE k6 kx
                    go_wp2
                    exact ⟨⟨1, by omega, by go_num, HB9⟩, by simp [intOf]; omega⟩
                  | succ m =>
                    have hml : m < ln := by omega
                    obtain ⟨bL', oL', y, hLA', hy, hcy⟩ := RdI.at_ RL.out hml
                    injection hLA' with hLA'
                    injection hLA' with e1 e2
                    subst e1 e2
                    have hym := HMEM.out y (List.mem_of_getElem? hy)
                    have hord := Seqr.sorted_at HSORT.out hy hx
                    have p3 : decide ((0 : Int) < ((m + 1 : Nat) : Int)) = true := decide_eq_true (by omega)
                    have p3' : decide (0 < m + 1) = true := by simp
                    have s1 : IntKind.i64.wrap (((m + 1 : Nat) : Int) - 1) = (m : Int) := by rw [IntWalk.i64_in _ (by omega)]; omega
                    have s1b : wrap64 (((m + 1 : Nat) : Int) - 1) = (m : Int) := by rw [IntWalk.wrap64_in _ (by omega)]; omega
                    have s2 : IntKind.i64.wrap ((m : Int) + 1 - 1) = (m : Int) := by rw [IntWalk.i64_in _ (by omega)]; omega
                    have s2b : wrap64 ((m : Int) + 1 - 1) = (m : Int) := by rw [IntWalk.wrap64_in _ (by omega)]; omega
                    have y3 : (0 : Int) ≤ (m : Int) := by omega
                    have y4 : (m : Int) < (ln : Int) := by omega
                    have y2' : (m : Int) + 1 < (ln : Int) := by omega
                    have y1' : (0 : Int) ≤ (m : Int) + 1 := by omega
                    have p3'' : decide ((0 : Int) < (m : Int) + 1) = true := decide_eq_true (by omega)
                    have e3 : ((m : Int) + 1).toNat = m + 1 := by omega
                    obtain ⟨rx, hrx⟩ : ∃ rx, Seqr.rnd x j n = rx := ⟨_, rfl⟩
                    obtain ⟨ry, hry⟩ : ∃ ry, Seqr.rnd y j n = ry := ⟨_, rfl⟩
                    have p4 : decide (rx < ry) = false := by rw [← hrx, ← hry]; simp; omega
                    have ky := fun m' : Later wr => cellC (bthen XB.out m'.h) hcy
                    have HRX : Hid (∀ m' : Later wr, Calls Try.prog 21 #[.int .i64 x, .int .i64 (j : Int), .int .i64 (n : Int)] m'.w (IntIs m'.w rx)) := hidT fun m' => by rw [← hrx]; exact round_any x j n m'.w ⟨hxm.1, by omega⟩ ⟨by omega, by omega⟩ ⟨by omega, by omega⟩
                    have HRY : Hid (∀ m' : Later wr, Calls Try.prog 21 #[.int .i64 y, .int .i64 (j : Int), .int .i64 (n : Int)] m'.w (IntIs m'.w ry)) := hidT fun m' => by rw [← hry]; exact round_any y j n m'.w ⟨hym.1, by omega⟩ ⟨by omega, by omega⟩ ⟨by omega, by omega⟩
                    clear hx hxm hcx hy hym hcy hord hrx hry
                    go_wp2_with fail
                    refine wp_later (by kernel_rfl) (by kernel_rfl) ?_
                    repeat (go_big_quiet_step (first | (go_at_call 21; with_reducible exact Later.int (HRX.out _)) | (go_at_call 21; with_reducible exact Later.int (HRY.out _)) | fail))
                    refine wpQuiet_nil ?_
                    intro w9 hw9
                    obtain ⟨⟨_, hb9⟩, rfl⟩ := hw9
                    have HB9 := hidT (bthen XB.out hb9)
                    clear hb9 NE k6 kx ky s1 s1b s2 s2b
                    go_wp2
                    exact ⟨⟨m + 1 + 1, by omega, by go_num, HB9⟩, by simp [intOf]; omega⟩
                · obtain rfl : ln = k := by omega
                  have HBF := hidT (HB6.out)
                  obtain ⟨v0, v1⟩ := cells2 (keepH Y6.out XB.out)
                  have HBN := hidT (bthen HB6.out XB.out)
                  cases yes with
                  | false =>
                    go_wp2
                    exact ⟨⟨j + 1, by omega, by go_num, HBN⟩, by simp [intOf]; omega⟩
                  | true =>
                    have hl := HLN.out rfl
                    rw [HLL.out] at hl
                    have hT5 := HT5.out
                    have hq2' := HQ.out.2
                    have hpos : used < Q := by
                      have := HIS.out
                      rw [HYES.out] at this
                      have h5 := this.symm
                      simp only [Bool.and_eq_true, decide_eq_true_eq] at h5
                      exact h5.2.2.2
                    obtain ⟨R, hR⟩ : ∃ R, Q - used = R := ⟨_, rfl⟩
                    have s1 : IntKind.i64.wrap (Q - used) = R := by rw [IntWalk.i64_in _ (by omega)]; exact hR
                    have s1b : wrap64 (Q - used) = R := by rw [IntWalk.wrap64_in _ (by omega)]; exact hR
                    rw [hR] at hl
                    have hln2 : (if R < (T : Int) then R else (T : Int)) = (ln : Int) := by split <;> omega
                    have HL2 := hidT hln2
                    clear hl hln2 hR
                    go_wp2_with fail
                    all_goals first
                      | exact ⟨⟨j + 1, by omega, by go_num, HBN⟩, by simp [intOf]; omega⟩
                      | (exfalso; rename_i hbad; rw [HL2.out] at hbad; simp at hbad)
          · obtain rfl : n = j := by omega
            go_wp2
            go_ret
            exact ⟨rfl, bthen B2.out HB.out⟩
end Go.Proofs.Ytdchgnmkeefffaa
