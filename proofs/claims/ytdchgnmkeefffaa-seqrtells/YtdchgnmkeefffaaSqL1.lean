/- The law SeqrTells, walked. -/
import Derived.Test.YtdchgnmkeefffaaSqTl
import Derived.Test.YtdchgnmkeefffaaSqPt
import Derived.Deep.CutRange
set_option maxRecDepth 100000
namespace Go.Proofs.Ytdchgnmkeefffaa
open Go.RowKit
set_option linter.unusedVariables false

set_option maxHeartbeats 16000000 in
theorem tells_any (who used : Int) (A : Option Addr) (n c : Nat) (ls : List Lane.Ln) (me qt : Int) (w : World) (h : RdL (fun _ => True) w A n c ls) (hme : 0 ≤ me ∧ me < 256) (hqt : 0 ≤ qt ∧ qt < 256) :
    Calls Try.prog 3 #[.agg #[.int .i64 who, .int .i64 used, .slice A n c, .int .u8 me, .int .u8 qt]] w (Yes w) := by
  have hle := h.le
  have HLEN := hidT h.size
  have HME := hidT hme
  have HQT := hidT hqt
  have t0 := alloc_at w (.cells #[.int .i64 who, .int .i64 used, .slice A n c, .int .u8 me, .int .u8 qt] 26) _ rfl
  have n1 := nkeep (w.alloc (.cells #[.int .i64 who, .int .i64 used, .slice A n c, .int .u8 me, .int .u8 qt] 26)) (.cells #[.int .i64 who, .int .i64 used] 23)
  have u1 := alloc_at (w.alloc (.cells #[.int .i64 who, .int .i64 used, .slice A n c, .int .u8 me, .int .u8 qt] 26)) (.cells #[.int .i64 who, .int .i64 used] 23) _ rfl
  have hbw := bthen (nkeep w (.cells #[.int .i64 who, .int .i64 used, .slice A n c, .int .u8 me, .int .u8 qt] 26)) n1
  have k0 := cell_at t0 0 rfl
  have k1 := cell_at t0 1 rfl
  have k2 := cell_at (keepH t0 n1) 2 rfl
  have k3 := cell_at (keepH t0 n1) 3 rfl
  have k4 := cell_at (keepH t0 n1) 4 rfl
  clear t0 n1 hme hqt
  obtain ⟨g, hg⟩ : ∃ g, w.heap.size = g := ⟨_, rfl⟩
  simp only [size_alloc, hg] at u1
  rw [hg] at k0 k1 k2 k3 k4
  obtain ⟨V, hV⟩ : ∃ V, ((w.alloc (.cells #[.int .i64 who, .int .i64 used, .slice A n c, .int .u8 me, .int .u8 qt] 26)).alloc (.cells #[.int .i64 who, .int .i64 used] 23)) = V := ⟨_, rfl⟩
  rw [hV] at u1 hbw
  have HV := hidT hV
  have Y0 := hidT u1
  have B0 := hidT hbw
  have R0 := hidT (h.below hbw)
  clear hV u1 hbw h
  go_enter Try.func3, Try.ntmps3
  go_wp2_with fail
  rw [HV.out]
  clear hg k0 k1 k2 k3 k4
  with_reducible refine (sqShown_any V).mono ?_
  rintro e w1 ⟨rfl, hb1⟩
  have Y1 := hidT (keepH Y0.out hb1)
  have B1 := hidT (bthen B0.out hb1)
  have R1 := hidT (R0.out.below (hb1))
  obtain ⟨v0, v1⟩ := cells2 Y1.out
  clear hb1
  cases hm : mayS who used n ls with
  | false =>
    have hc := rmayS_any who used A n c ls w1 R1.out false hm
    go_wp2_with fail
    with_reducible refine hc.mono ?_
    rintro e w2 ⟨rfl, hb2⟩
    go_wp2
    go_ret
    exact ⟨rfl, bthen B1.out hb2⟩
  | true =>
    have hc := rmayS_any who used A n c ls w1 R1.out true hm
    obtain ⟨wn, rfl, hwn, hok, hsm, hn64, hn2, hu0, hu1, hmu, hfew⟩ := mayS_facts hm HLEN.out
    have HSM := hidT hsm
    have HOK := hidT hok
    have HMU := hidT hmu
    clear hm hok hsm hmu hfew
    go_wp2_with fail
    with_reducible refine hc.mono ?_
    rintro e w2 ⟨rfl, hb2⟩
    have Y2 := hidT (keepH Y1.out hb2)
    have B2 := hidT (bthen B1.out hb2)
    have R2 := hidT (R1.out.below (hb2))
    clear hb2 hc v0 v1
    obtain ⟨v0, v1⟩ := cells2 Y2.out
    obtain ⟨⟨aw, au⟩, ms, dd, hr⟩ : ∃ a ms d, Seqr.walk ⟨wn, used⟩ ls = (a, ms, d) := ⟨_, _, _, rfl⟩
    have hl1 : ms.length = n := by
      have h1 := (Seqr.walk_goes ⟨wn, used⟩ ls).ok HOK.out
      rw [hr] at h1
      rw [h1.2]; exact HLEN.out
    have hc := walkQ_any ⟨wn, used⟩ A n c ls w2 R2.out HOK.out HSM.out hn64 hu0 (by show used ≤ 2305843009213693952; omega) (by have := HMU.out; omega) hr hl1 _ rfl
    simp only [tc] at hc
    have HWR := hidT hr
    clear hr hl1
    go_wp2_with fail
    with_reducible refine hc.mono ?_
    rintro e w5 ⟨A3, c3, D, md, cd, rfl, hm3, hd3, hb5⟩
    have n6 := nkeep w5 (.cells #[.int .i64 (aw : Int), .int .i64 au] 23)
    have y6 := alloc_at w5 (.cells #[.int .i64 (aw : Int), .int .i64 au] 23) _ rfl
    have nb6 := bthen hb5 n6
    have Y6 := hidT (keepH Y2.out nb6)
    have B6 := hidT (bthen B2.out nb6)
    have R6 := hidT (R2.out.below (nb6))
    have M6 := hidT ((hm3.below n6).mono (T := fun _ => True) fun _ _ => trivial)
    have D6 := hidT ((hd3.below n6).mono (T := fun _ => True) fun _ _ => trivial)
    obtain ⟨pa, hpa⟩ : ∃ p, w5.heap.size = p := ⟨_, rfl⟩
    rw [hpa] at y6
    have PA6 := hidT y6
    obtain ⟨X6, hX6⟩ : ∃ X, w5.alloc (.cells #[.int .i64 (aw : Int), .int .i64 au] 23) = X := ⟨_, rfl⟩
    rw [hX6] at Y6 B6 R6 PA6 M6 D6
    have HX6 := hidT hX6
    clear hc n6 y6 nb6 hm3 hd3 hb5 hX6 v0 v1
    go_upto_region 9 with fail
    rw [HX6.out]
    clear hpa
    obtain ⟨v0, v1⟩ := cells2 Y6.out
    have hc := rwalk_any ⟨wn, used⟩ A n c ls X6 R6.out HOK.out HSM.out hn64 hu0 (by show used ≤ 2305843009213693952; omega) (by have := HMU.out; omega)
    rw [HWR.out] at hc
    go_wp2_with fail
    with_reducible refine hc.mono ?_
    rintro e w7 ⟨A4, c4, E, me4, ce4, rfl, hm4, hd4, hb7⟩
    simp only at hm4 hd4
    have n8 := nkeep w7 (.cells #[.int .i64 (aw : Int), .int .i64 au] 23)
    have y8 := alloc_at w7 (.cells #[.int .i64 (aw : Int), .int .i64 au] 23) _ rfl
    have nb8 := bthen hb7 n8
    have Y8 := hidT (keepH Y6.out nb8)
    have B8 := hidT (bthen B6.out nb8)
    have R8 := hidT (R6.out.below (nb8))
    have PA8 := hidT (keepH PA6.out nb8)
    have M8 := hidT (M6.out.below (nb8))
    have D8 := hidT (D6.out.below (nb8))
    have N8 := hidT (hm4.below n8)
    have E8 := hidT (hd4.below n8)
    obtain ⟨pb, hpb⟩ : ∃ p, w7.heap.size = p := ⟨_, rfl⟩
    rw [hpb] at y8
    have PB8 := hidT y8
    obtain ⟨X8, hX8⟩ : ∃ X, w7.alloc (.cells #[.int .i64 (aw : Int), .int .i64 au] 23) = X := ⟨_, rfl⟩
    rw [hX8] at Y8 B8 R8 PA8 M8 D8 N8 E8 PB8
    have HX8 := hidT hX8
    clear hc n8 y8 nb8 hm4 hd4 hb7 hX8 v0 v1
    go_upto_region 10 with fail
    rw [HX8.out]
    clear hpb
    obtain ⟨kk, hkk⟩ : ∃ kk : Nat, me % (n : Int) = (kk : Int) := ⟨(me % (n : Int)).toNat, by have := Int.emod_nonneg me (show (n : Int) ≠ 0 by omega); omega⟩
    have hkn : kk < n := by have := Int.emod_lt_of_pos me (show (0 : Int) < (n : Int) by omega); omega
    have hkk2 : Int.tmod me (n : Int) = (kk : Int) := by rw [Int.tmod_eq_emod_of_nonneg HME.out.1]; exact hkk
    obtain ⟨Rq, hRq⟩ : ∃ Rq, qt % 64 = Rq := ⟨_, rfl⟩
    have hr0 : 0 ≤ Rq := by rw [← hRq]; exact Int.emod_nonneg _ (by decide)
    have hr1 : Rq < 64 := by rw [← hRq]; exact Int.emod_lt_of_pos _ (by decide)
    have hRq2 : Int.tmod qt 64 = Rq := by rw [Int.tmod_eq_emod_of_nonneg HQT.out.1]; exact hRq
    obtain ⟨Q, hQ⟩ : ∃ Q, 1 + Rq = Q := ⟨_, rfl⟩
    have hQb : 1 ≤ Q ∧ Q ≤ 64 := by omega
    have HQB := hidT hQb
    have HKN := hidT hkn
    have HKK := hidT hkk
    have HKK2 := hidT hkk2
    have HRQ := hidT hRq
    have HRQ2 := hidT hRq2
    have HQQ := hidT hQ
    have W1 : Hid (IntKind.i64.wrap me = me) := hidT (IntWalk.i64_in _ (by have := HME.out; omega))
    have W2 : Hid (IntKind.i64.wrap qt = qt) := hidT (IntWalk.i64_in _ (by have := HQT.out; omega))
    have W3 : Hid (IntKind.i64.wrap Q = Q) := hidT (IntWalk.i64_in _ (by omega))
    have W4 : Hid (wrap64 Q = Q) := hidT (IntWalk.wrap64_in _ (by omega))
    have W5 : Hid (IntKind.i64.wrap Rq = Rq) := hidT (IntWalk.i64_in _ (by omega))
    have W6 : Hid (wrap64 Rq = Rq) := hidT (IntWalk.wrap64_in _ (by omega))
    have W7 : Hid (IntKind.i64.wrap (kk : Int) = (kk : Int)) := hidT (IntWalk.i64_in _ (by omega))
    have W8 : Hid (wrap64 (kk : Int) = (kk : Int)) := hidT (IntWalk.wrap64_in _ (by omega))
    have HSB := hidT (say_b ⟨wn, used⟩ ls kk Q)
    have hnz : ¬ (n : Int) = 0 := by omega
    have hnzb : ((n : Int) == 0) = false := by simp; omega
    have HNZ := hidT hnz
    have HNZB := hidT hnzb
    have HSAY : Hid (∀ X : World, Below X8.heap.size X8 X → ∀ w', Below X.heap.size X w' → Calls Try.prog 13 #[.agg #[.int .i64 (wn : Int), .int .i64 used], .slice A n c, .int .i64 (kk : Int), .int .i64 Q] w' (SayIs w' (Seqr.say ⟨wn, used⟩ ls kk Q))) := hidT fun X hx w' hb =>
      sqSay_any ⟨wn, used⟩ A n c ls kk Q w' (R8.out.below (bthen hx hb)) HSM.out hn64 HKN.out HQB.out ⟨hu0, by show used ≤ 2305843009213693952; omega⟩
    have HRSAY : Hid (∀ X : World, Below X8.heap.size X8 X → ∀ w', Below X.heap.size X w' → Calls Try.prog 14 #[.agg #[.int .i64 (wn : Int), .int .i64 used], .slice A n c, .int .i64 (kk : Int), .int .i64 Q] w' (SayIs w' (Seqr.say ⟨wn, used⟩ ls kk Q))) := hidT fun X hx w' hb =>
      rsay_any ⟨wn, used⟩ A n c ls kk Q w' (R8.out.below (bthen hx hb)) hn64 HKN.out HQB.out ⟨hu0, by show used ≤ 2305843009213693952; omega⟩
    clear hkk hkn hkk2 hRq hr0 hr1 hRq2 hQ hQb hnz hnzb
    have HS := hidT (HSAY.out X8 (Below.refl _ _))
    have v0 := fun w' (hb : Below X8.heap.size X8 w') => (cells2 (keepH Y8.out hb)).1
    have v1 := fun w' (hb : Below X8.heap.size X8 w') => (cells2 (keepH Y8.out hb)).2
    have f1 := HKK.out
    have f2 := HKK2.out
    have f3 := HRQ.out
    have f4 := HRQ2.out
    have f5 := HQQ.out
    have f6 := HNZ.out
    have f7 := HNZB.out
    have g1 := W1.out
    have g2 := W2.out
    have g3 := W3.out
    have g4 := W4.out
    have g5 := W5.out
    have g6 := W6.out
    have g7 := W7.out
    have g8 := W8.out
    have D1 := nkeep X8 (.cells #[.int .i64 0, .int .i64 0, .int .i64 0, .int .i64 0, .int .i64 0, .int .i64 0, .slice none 0 0, .slice none 0 0] 35)
    have HLT : Hid (X8.heap.size < (X8.alloc (.cells #[.int .i64 0, .int .i64 0, .int .i64 0, .int .i64 0, .int .i64 0, .int .i64 0, .slice none 0 0, .slice none 0 0] 35)).drew.heap.size) := hidT (by show X8.heap.size < (X8.alloc (.cells #[.int .i64 0, .int .i64 0, .int .i64 0, .int .i64 0, .int .i64 0, .int .i64 0, .slice none 0 0, .slice none 0 0] 35)).heap.size; rw [size_alloc]; omega)
    go_cut [14, 15] from 46 to 101 (fun x y wc => ItemIs X8 (Seqr.say ⟨wn, used⟩ ls kk Q) x y wc)
    case first =>
      go_region_held_law (fun w' => Below X8.heap.size X8 w')
        (first | exact (Below.refl _ _).drew | exact hbF | exact hb5 | exact D1.drew | exact D1 | exact bthen hb5 (nkeep _ _))
        (first
          | (go_at_call 13; ((with_reducible refine (HS.out _ (Below.refl _ _).drew).mono ?_); rintro e5 w5 ⟨v5, rfl, hi5, hb5'⟩; have hb5 : Below X8.heap.size X8 w5 := undrew hb5'; obtain ⟨r5, wx, rfl, hs5, ha5, hrunx, hpx, hix, hbF⟩ := finI_a (X := X8) HSB.out hb5 hi5))
          | (go_at_call 13; ((with_reducible refine (HS.out _ D1.drew).mono ?_); rintro e5 w5 ⟨v5, rfl, hi5, hb5'⟩; have y5 := keepH (alloc_at X8 (.cells #[.int .i64 0, .int .i64 0, .int .i64 0, .int .i64 0, .int .i64 0, .int .i64 0, .slice none 0 0, .slice none 0 0] 35) _ rfl) (undrew hb5'); have hb5 : Below X8.heap.size X8 w5 := bthen D1 (undrew hb5'); obtain ⟨r5, wx, rfl, hs5, ha5, hrunx, hpx, hix, hbF⟩ := finI_b (X := X8) HSB.out hb5 y5 (Nat.le_refl _) HLT.out hi5))
          | fail)
      all_goals
        clear hrunx hi5
        go_wp2_with fail
        go_meet
        exact ⟨_, _, rfl, rfl, hpx.out, hix.out, hbF⟩
    case rest =>
      clear v0 v1 f1 f2 f3 f4 f5 f6 f7 g1 g2 g3 g4 g5 g6 g7 g8
      obtain ⟨px, rx, rfl, rfl, hpx, hix, hbc⟩ := hcut
      obtain ⟨X9, rfl⟩ : ∃ X, X = wc := ⟨_, rfl⟩
      have Y9 := hidT (keepH Y8.out hbc)
      have B9 := hidT (bthen B8.out hbc)
      have R9 := hidT (R8.out.below (hbc))
      have PA9 := hidT (keepH PA8.out hbc)
      have M9 := hidT (M8.out.below (hbc))
      have D9 := hidT (D8.out.below (hbc))
      have PB9 := hidT (keepH PB8.out hbc)
      have N9 := hidT (N8.out.below (hbc))
      have E9 := hidT (E8.out.below (hbc))
      have PX9 := hidT hpx
      have IX9 := hidT hix
      have HB9 := hidT hbc
      clear hpx hix hbc D1 HLT HS
      go_upto_region 11 with fail
      have HS := hidT (HRSAY.out X9 HB9.out)
      have v0 := fun w' (hb : Below X9.heap.size X9 w') => (cells2 (keepH Y9.out hb)).1
      have v1 := fun w' (hb : Below X9.heap.size X9 w') => (cells2 (keepH Y9.out hb)).2
      have f1 := HKK.out
      have f2 := HKK2.out
      have f3 := HRQ.out
      have f4 := HRQ2.out
      have f5 := HQQ.out
      have f6 := HNZ.out
      have f7 := HNZB.out
      have g1 := W1.out
      have g2 := W2.out
      have g3 := W3.out
      have g4 := W4.out
      have g5 := W5.out
      have g6 := W6.out
      have g7 := W7.out
      have g8 := W8.out
      have D1 := nkeep X9 (.cells #[.int .i64 0, .int .i64 0, .int .i64 0, .int .i64 0, .int .i64 0, .int .i64 0, .slice none 0 0, .slice none 0 0] 35)
      have HLT : Hid (X9.heap.size < (X9.alloc (.cells #[.int .i64 0, .int .i64 0, .int .i64 0, .int .i64 0, .int .i64 0, .int .i64 0, .slice none 0 0, .slice none 0 0] 35)).drew.heap.size) := hidT (by show X9.heap.size < (X9.alloc (.cells #[.int .i64 0, .int .i64 0, .int .i64 0, .int .i64 0, .int .i64 0, .int .i64 0, .slice none 0 0, .slice none 0 0] 35)).heap.size; rw [size_alloc]; omega)
      go_cut [16, 17] from 61 to 101 (fun x y wc => ItemIs X9 (Seqr.say ⟨wn, used⟩ ls kk Q) x y wc)
      case first =>
        go_region_held_law (fun w' => Below X9.heap.size X9 w')
          (first | exact (Below.refl _ _).drew | exact hbF | exact hb5 | exact D1.drew | exact D1 | exact bthen hb5 (nkeep _ _))
          (first
            | (go_at_call 14; ((with_reducible refine (HS.out _ (Below.refl _ _).drew).mono ?_); rintro e5 w5 ⟨v5, rfl, hi5, hb5'⟩; have hb5 : Below X9.heap.size X9 w5 := undrew hb5'; obtain ⟨r5, wx, rfl, hs5, ha5, hrunx, hpx, hix, hbF⟩ := finI_a (X := X9) HSB.out hb5 hi5))
            | (go_at_call 14; ((with_reducible refine (HS.out _ D1.drew).mono ?_); rintro e5 w5 ⟨v5, rfl, hi5, hb5'⟩; have y5 := keepH (alloc_at X9 (.cells #[.int .i64 0, .int .i64 0, .int .i64 0, .int .i64 0, .int .i64 0, .int .i64 0, .slice none 0 0, .slice none 0 0] 35) _ rfl) (undrew hb5'); have hb5 : Below X9.heap.size X9 w5 := bthen D1 (undrew hb5'); obtain ⟨r5, wx, rfl, hs5, ha5, hrunx, hpx, hix, hbF⟩ := finI_b (X := X9) HSB.out hb5 y5 (Nat.le_refl _) HLT.out hi5))
            | fail)
        all_goals
          clear hrunx hi5
          go_wp2_with fail
          go_meet
          exact ⟨_, _, rfl, rfl, hpx.out, hix.out, hbF⟩
      case rest =>
        clear v0 v1 f1 f2 f3 f4 f5 f6 f7 g1 g2 g3 g4 g5 g6 g7 g8
        obtain ⟨py, ry, rfl, rfl, hpy, hiy, hbc⟩ := hcut
        obtain ⟨Xa, rfl⟩ : ∃ X, X = wc := ⟨_, rfl⟩
        have Ya := hidT (keepH Y9.out hbc)
        have Ba := hidT (bthen B9.out hbc)
        have Ra := hidT (R9.out.below (hbc))
        have PAa := hidT (keepH PA9.out hbc)
        have Ma := hidT (M9.out.below (hbc))
        have Da := hidT (D9.out.below (hbc))
        have PBa := hidT (keepH PB9.out hbc)
        have Na := hidT (N9.out.below (hbc))
        have Ea := hidT (E9.out.below (hbc))
        have PXa := keepH PX9.out hbc
        have IXa := IX9.out.below hbc
        obtain ⟨LA, ln, lc, BA, bn, bc, ex, _, _⟩ := id IXa
        injection ex with ex
        subst ex
        obtain ⟨LB, lm, lk, BB, bm, bk, ey, _, _⟩ := id hiy
        injection ey with ey
        subst ey
        obtain ⟨a0, a1⟩ := cells2 PAa.out
        obtain ⟨b0, b1⟩ := cells2 PBa.out
        have q1 : ((aw : Int) == (aw : Int)) = true := by simp
        have q2 : (au == au) = true := by simp
        obtain ⟨yes, hyes⟩ : ∃ b, (Seqr.say ⟨wn, used⟩ ls kk Q).isSome = b := ⟨_, rfl⟩
        have q3 : (yes == yes) = true := by simp
        rw [hyes]
        have hs := sameAll_any A3 n c3 ms A4 n c4 ms Xa Ma.out Na.out true (by simp)
        have PXA := hidT PXa
        have PYA := hidT hpy
        have IXA := hidT IXa
        have IYA := hidT hiy
        clear PXa IXa hpy hiy hbc hyes D1 HLT HS
        go_wp2_with fail
        with_reducible refine hs.mono ?_
        rintro e wb ⟨rfl, hbb⟩
        have hs := delivs_any D md cd dd E me4 ce4 dd wb (Da.out.below hbb) (Ea.out.below hbb) true (by simp)
        have HBB := hidT hbb
        clear hbb a0 a1 b0 b1 q1 q2
        go_wp2_with fail
        with_reducible refine hs.mono ?_
        rintro e wd ⟨rfl, hbd⟩
        have HBD := hidT (bthen HBB.out hbd)
        clear hbd hs
        obtain ⟨a0, a1, a2, a3, a4, a5, a6, a7⟩ := cells8x (keepH PXA.out HBD.out)
        obtain ⟨b0, b1, b2, b3, b4, b5, b6, b7⟩ := cells8x (keepH PYA.out HBD.out)
        obtain ⟨o, ho⟩ : ∃ o, (Seqr.say ⟨wn, used⟩ ls kk Q).getD Item.It.zero = o := ⟨_, rfl⟩
        have hs := rsameI_is _ _ _ _ wd (IXA.out.below HBD.out) (IYA.out.below HBD.out) true (by simp)
        rw [ho] at hs a0 a1 a2 a3 a4 a5 b0 b1 b2 b3 b4 b5
        have HBF := hidT (bthen Ba.out HBD.out)
        clear ho
        go_wp2_with fail
        with_reducible refine hs.mono ?_
        rintro e wf ⟨rfl, hbf⟩
        go_wp2
        go_ret
        exact ⟨rfl, bthen HBF.out hbf⟩
end Go.Proofs.Ytdchgnmkeefffaa
