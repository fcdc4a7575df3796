import Derived.Test.YtahkhideepncfaaDoorSA
import Derived.Test.YtahkhideepncfaaDoorSB
import Derived.Test.YtahkhideepncfaaDoorSC
import Derived.Test.YtahkhideepncfaaDoorSD
import Derived.Test.YtahkhideepncfaaDoorPKA
set_option maxRecDepth 100000
/- What the document's Take comes to. -/
namespace Go.Proofs.YtahkhideepncfaaDoor
open Go.RowKit
set_option linter.unusedVariables false

theorem rtakeF_any (A : Option Addr) (n c : Nat) (l : List UInt8) (w : World) (h : Rd w A n c l) (hn2 : n ≤ 65536) :
    Calls Tryd.prog 23 #[.slice A n c] w (TakeF w (Item.takeOf l)) := by
  rw [← Item.refOf_eq]
  have hl := h.1
  have hnc := h.2.1
  unfold Item.refOf
  by_cases hn : n < 17
  · rw [if_pos (by omega)]
    exact rtakeI_short A n c l w h hn
  rw [if_neg (by omega)]
  obtain ⟨b, o, rfl, _⟩ := h.at_ (by omega)
  cases ht : Num.takes 8 2 ((l.drop 1).take 16) with
  | none => exact rtakeI_row b o n c l w h (by omega) hn2 2 (Num.rowOf_none (m := 2) most8 ht) (by omega)
  | some p =>
    obtain ⟨q, e, rr, rfl⟩ := Item.takes_two ht
    have hk := Num.rowOf_some (m := 2) most8 ht
    dsimp only
    have hRl : (l.drop 17).length = n - 17 := by rw [List.length_drop, hl]
    generalize hR : l.drop 17 = R at hRl ⊢
    generalize hK : Item.at_ l 0 = k
    unfold Item.refC
    by_cases k1 : k = 1
    · subst k1
      rw [if_pos rfl]
      by_cases h2 : 2 ≤ R.length
      · rw [if_pos h2]
        by_cases hc : c = 19
        · exact rt1l_eq b o n c l w h (by omega) hn2 hc (by omega) q e rr hk hK _ _ R hR rfl rfl
        · exact rt1l_in b o n c l w h (by omega) hn2 (by omega) q e rr hk hK (by omega) (by omega) _ _ R hR rfl rfl
      · rw [if_neg h2]
        by_cases hc : c = 17
        · exact rt1s_eq b o n c l w h (by omega) hn2 hc q e rr hk hK R hR
        · exact rt1s_in b o n c l w h (by omega) hn2 (by omega) q e rr hk hK (by omega) R hR
    rw [if_neg k1]
    by_cases k2 : k = 2
    · subst k2
      rw [if_pos rfl]
      by_cases h2 : 1 ≤ R.length
      · rw [if_pos h2]
        by_cases hc : c = 18
        · exact rt2l_eq b o n c l w h (by omega) hn2 hc (by omega) q e rr hk hK _ _ R hR rfl (hidT rfl)
        · exact rt2l_in b o n c l w h (by omega) hn2 (by omega) q e rr hk hK (by omega) (by omega) _ _ R hR rfl (hidT rfl)
      · rw [if_neg h2]
        by_cases hc : c = 17
        · exact rt2s_eq b o n c l w h (by omega) hn2 hc q e rr hk hK R hR
        · exact rt2s_in b o n c l w h (by omega) hn2 (by omega) q e rr hk hK (by omega) R hR
    rw [if_neg k2]
    by_cases k4 : k = 4
    · subst k4
      rw [if_pos rfl]
      by_cases h2 : 1 ≤ R.length
      · rw [if_pos h2]
        exact rt4l b o n c l w h (by omega) hn2 (by omega) q e rr hk hK (by omega) _ R hR rfl
      · rw [if_neg h2]
        by_cases hc : c = 17
        · exact rt4s_eq b o n c l w h (by omega) hn2 hc q e rr hk hK R hR
        · exact rt4s_in b o n c l w h (by omega) hn2 (by omega) q e rr hk hK (by omega) R hR
    rw [if_neg k4]
    by_cases k5 : k = 5
    · subst k5
      rw [if_pos rfl]
      by_cases hc : c = 17
      · exact rt5_eq b o n c l w h (by omega) hn2 hc q e rr hk hK _ R hR (hidT rfl)
      · exact rt5_in b o n c l w h (by omega) hn2 (by omega) q e rr hk hK _ R hR (hidT rfl)
    rw [if_neg k5]
    by_cases k6 : k = 6
    · subst k6
      rw [if_pos rfl]
      by_cases hc : c = 17
      · exact rt6_eq b o n c l w h (by omega) hn2 hc q e rr hk hK _ R hR (hidT rfl)
      · exact rt6_in b o n c l w h (by omega) hn2 (by omega) q e rr hk hK _ R hR (hidT rfl)
    rw [if_neg k6]
    by_cases hc : c = 17
    · exact rt0_eq b o n c l w h (by omega) hn2 hc k q e rr hk hK k1 k2 k4 k5 k6 R hR
    · exact rt0_in b o n c l w h (by omega) hn2 (by omega) k q e rr hk hK k1 k2 k4 k5 k6 R hR
theorem rtakeI_any (A : Option Addr) (n c : Nat) (l : List UInt8) (w : World) (h : Rd w A n c l) (hn2 : n ≤ 65536) :
    Calls Tryd.prog 23 #[.slice A n c] w (TakeO w (Item.takeOf l)) := by
  refine (rtakeF_any A n c l w h hn2).mono ?_
  intro en w' hh
  cases ht : Item.takeOf l with
  | none => rw [ht] at hh; exact hh
  | some x =>
    rw [ht] at hh
    obtain ⟨LA, ln, lc, BA, bn, bc, rfl, rl, rb, _, _, hb⟩ := hh
    exact ⟨_, rfl, ⟨LA, ln, lc, BA, bn, bc, rfl, rl, rb⟩, hb⟩
end Go.Proofs.YtahkhideepncfaaDoor
/- What the document's Read comes to, kind by kind. (Written by wip/gen/refpkt5.py.) -/
namespace Go.Proofs.YtahkhideepncfaaDoor
open Go.RowKit
set_option linter.unusedVariables false

set_option maxRecDepth 100000 in
set_option maxHeartbeats 16000000 in
theorem rpr_1s (A : Option Addr) (n c : Nat) (l : List UInt8) (w : World) (h : Rd w A n c l) (hn : n ≤ 65536) (hc : openCode l = 0) (C : List UInt8) (hC : opened l = C) (hC3 : 3 ≤ C.length) (hC6 : C.length ≤ 65536) (k f : Int) (hk : Item.at_ C 1 = k) (hff : Item.at_ C 2 = f) (hkv : 1 = k) (x : Item.It) (ht : Item.takeOf (C.drop 3) = some x) :
    Calls Tryd.prog 10 #[.slice A n c] w (PRead w ((Pkt.tried (Pkt.refC k f (C.drop 3)) l).getD Pkt.Pk.zero) (if (Pkt.tried (Pkt.refC k f (C.drop 3)) l).isSome = true then 0 else 2)) := by
  obtain ⟨q, hq⟩ : ∃ q, Pkt.refC k f (C.drop 3) = q := ⟨_, rfl⟩
  rw [hq]
  have HQ := hidT hq
  clear hq
  obtain ⟨z, hz⟩ : ∃ z, (Pkt.tried q l).getD Pkt.Pk.zero = z := ⟨_, rfl⟩
  obtain ⟨code, hcode⟩ : ∃ code : Int, (if (Pkt.tried q l).isSome = true then 0 else 2) = code := ⟨_, rfl⟩
  rw [hz, hcode]
  have HZ : Hid (∀ o, Pkt.tried q l = o → z = o.getD Pkt.Pk.zero ∧ code = if o.isSome = true then 0 else 2) := fun o ho => ⟨by rw [← ho, hz], by rw [← ho, hcode]⟩
  clear hz hcode
  obtain ⟨w0, hw0⟩ : ∃ w0, w.alloc (.cells #[.int .i64 0, .int .i64 0, .int .i64 0, .int .i64 0, .int .i64 0, .int .i64 0, .int .i64 0, .int .i64 0, .slice none 0 0, .slice none 0 0, .int .i64 0, .int .i64 0, .int .i64 0, .int .i64 0, .slice none 0 0] 27) = w0 := ⟨_, rfl⟩
  have b0 : Below w.heap.size w w0 := by rw [← hw0]; exact pkeep_alloc (Below.refl _ _) _
  have g0 : w0.heap[w.heap.size]? = some (.cells #[.int .i64 0, .int .i64 0, .int .i64 0, .int .i64 0, .int .i64 0, .int .i64 0, .int .i64 0, .int .i64 0, .slice none 0 0, .slice none 0 0, .int .i64 0, .int .i64 0, .int .i64 0, .int .i64 0, .slice none 0 0] 27 (0, 0)) := by rw [← hw0]; exact alloc_at _ _ _ rfl
  have HW0 := hidT hw0
  clear hw0
  have hO := ropen_any A n c l w0 (h.below b0) hn
  rw [hc, hC] at hO
  obtain ⟨N, hN⟩ : ∃ N, C.length = N := ⟨_, rfl⟩
  obtain ⟨r, hr⟩ : ∃ r, r = w.heap.size := ⟨_, rfl⟩
  rw [← hr] at g0
  have HR := hidT hr
  have hr0 : w.heap.size ≤ r := by omega
  clear hr
  go_enter Tryd.func10, Tryd.ntmps10
  go_wp2_with fail
  rw [HW0.out, ← HR.out]
  clear HW0
  with_reducible refine hO.mono ?_
  rintro en w1 ⟨A1, c1, rfl, r1, b1⟩
  clear hO
  rw [hN] at r1 hC3 hC6 ⊢
  have hcap := r1.2.1
  have hcle : c1 ≤ 9223372036854775807 := by have := r1.2.2.1; unfold maxLen at this; omega
  obtain ⟨b1_, o1, rfl, hcell⟩ := r1.at_ (by omega)
  obtain ⟨z1, hz1, e1⟩ := hcell 1 (by omega)
  obtain ⟨z2, hz2, e2⟩ := hcell 2 (by omega)
  have hzk : (z1.toNat : Int) = k := by rw [← hk, Item.at_, List.getD_eq_getElem?_getD, hz1]; rfl
  have hzf : (z2.toNat : Int) = f := by rw [← hff, Item.at_, List.getD_eq_getElem?_getD, hz2]; rfl
  have kb : 0 ≤ k ∧ k < 256 := by have := Num.byte_lt z1; omega
  have fb : 0 ≤ f ∧ f < 256 := by have := Num.byte_lt z2; omega
  obtain ⟨kb1, kb2⟩ := kb
  obtain ⟨fb1, fb2⟩ := fb
  rw [hzk] at e1
  rw [hzf] at e2
  have hbl := World.block_lt_of_cell? _ _ e1
  dsimp only at hbl
  have HN := hidT hN
  have q3 : decide ((N : Int) < 3) = false := by simp; omega
  have gs1 := (b1.block _ (blk_ltP g0)).trans g0
  have b01 := bthen b0 b1
  have hrl : r < w1.heap.size := blk_ltP gs1
  clear hcell hz1 hz2 hzk hzf hN hk hff g0 b0 b1
  subst hkv
  have i1 : (1 : Int) < (N : Int) := by omega
  have i2 : (2 : Int) < (N : Int) := by omega
  go_wp2
  go_region
  skip
  have hbU : Below w.heap.size w (w1.alloc (.cells #[.int .i64 1, .int .i64 f, .int .i64 0, .int .i64 0, .int .i64 0, .int .i64 0, .int .i64 0, .int .i64 0, .slice none 0 0, .slice none 0 0, .int .i64 0, .int .i64 0, .int .i64 0, .int .i64 0, .slice none 0 0] 27)).drew := (b01.alloc b01.size _).drew
  have gi : (w1.alloc (.cells #[.int .i64 1, .int .i64 f, .int .i64 0, .int .i64 0, .int .i64 0, .int .i64 0, .int .i64 0, .int .i64 0, .slice none 0 0, .slice none 0 0, .int .i64 0, .int .i64 0, .int .i64 0, .int .i64 0, .slice none 0 0] 27)).drew.heap[w1.heap.size]? = some (.cells #[.int .i64 1, .int .i64 f, .int .i64 0, .int .i64 0, .int .i64 0, .int .i64 0, .int .i64 0, .int .i64 0, .slice none 0 0, .slice none 0 0, .int .i64 0, .int .i64 0, .int .i64 0, .int .i64 0, .slice none 0 0] 27 (0, 0)) := alloc_at w1 _ _ rfl
  have gs : (w1.alloc (.cells #[.int .i64 1, .int .i64 f, .int .i64 0, .int .i64 0, .int .i64 0, .int .i64 0, .int .i64 0, .int .i64 0, .slice none 0 0, .slice none 0 0, .int .i64 0, .int .i64 0, .int .i64 0, .int .i64 0, .slice none 0 0] 27)).drew.heap[r]? = some (.cells #[.int .i64 0, .int .i64 0, .int .i64 0, .int .i64 0, .int .i64 0, .int .i64 0, .int .i64 0, .int .i64 0, .slice none 0 0, .slice none 0 0, .int .i64 0, .int .i64 0, .int .i64 0, .int .i64 0, .slice none 0 0] 27 (0, 0)) := (alloc_old w1 _ _ hrl).trans gs1
  have rU : Rd (w1.alloc (.cells #[.int .i64 1, .int .i64 f, .int .i64 0, .int .i64 0, .int .i64 0, .int .i64 0, .int .i64 0, .int .i64 0, .slice none 0 0, .slice none 0 0, .int .i64 0, .int .i64 0, .int .i64 0, .int .i64 0, .slice none 0 0] 27)).drew (some ⟨b1_, o1, none⟩) N c1 C := r1.below ((Below.refl w1.heap.size w1).alloc (Nat.le_refl _) _).drew
  obtain ⟨Gb, hGb⟩ : ∃ Gb, Gb = w1.heap.size := ⟨_, rfl⟩
  rw [← hGb] at gi ⊢
  have hGr : r ≠ Gb := by omega
  have hbG : ¬ b1_ = Gb := by omega
  have hbG2 : ¬ Gb = b1_ := by omega
  have hG0 : w.heap.size ≤ Gb := by have := b01.size; omega
  generalize (w1.alloc (.cells #[.int .i64 1, .int .i64 f, .int .i64 0, .int .i64 0, .int .i64 0, .int .i64 0, .int .i64 0, .int .i64 0, .slice none 0 0, .slice none 0 0, .int .i64 0, .int .i64 0, .int .i64 0, .int .i64 0, .slice none 0 0] 27)).drew = u at hbU gi gs rU ⊢
  clear gs1 b01 hrl hGb r1 e1 e2 hbl
  obtain ⟨M, hM⟩ : ∃ M, N - 3 = M := ⟨_, rfl⟩
  have s3 : (3 : Int) ≤ (N : Int) := by omega
  have hMN : N = M + 3 := by omega
  have HMN := hidT hMN
  clear hMN
  obtain ⟨X, hX⟩ : ∃ X, (if c1 = 3 then some (⟨b1_, o1, none⟩ : Addr) else some ⟨b1_, o1 + 3, none⟩) = X := ⟨_, rfl⟩
  have rd : Rd u X M (c1 - 3) (C.drop 3) := by rw [← hX, ← hM]; exact cut3 rU hC3
  obtain ⟨⟨y0, y1⟩, Y1, Y2⟩ := cells15 gi
  clear Y1 Y2
  have hT := rtakeF_any X M (c1 - 3) (C.drop 3) u rd (by have := HMN.out; omega)
  rw [ht] at hT
  go_wp2_with fail
  with_reducible refine hT.mono ?_
  rintro en u2 ⟨LA, ln, lc, BA, bn, bc, rfl, rl, rb, la, ba, b2⟩
  clear hT y0 y1
  have hGu : Gb < u.heap.size := blk_ltP gi
  have hru : r < u.heap.size := blk_ltP gs
  have bA : Below u.heap.size u (u2.alloc (.cells #[.int .i64 x.k, .int .i64 x.q, .int .i64 x.e, .int .i64 x.i, .int .i64 x.t, .int .i64 x.c, .slice LA ln lc, .slice BA bn bc] 25)) := pkeep_alloc b2 _
  have gi3 := (bA.block _ hGu).trans gi
  have gs3 := (bA.block _ hru).trans gs
  go_wp2_with (
    refine wpList_stP rfl 25 (.tmp 58) (.tmp 57) rfl Gb 2 #[.int .i64 x.k, .int .i64 x.q, .int .i64 x.e, .int .i64 x.i, .int .i64 x.t, .int .i64 x.c, .slice LA ln lc, .slice BA bn bc] rfl rfl _ _ #[.int .i64 1, .int .i64 f, .int .i64 x.k, .int .i64 x.q, .int .i64 x.e, .int .i64 x.i, .int .i64 x.t, .int .i64 x.c, .slice LA ln lc, .slice BA bn bc, .int .i64 0, .int .i64 0, .int .i64 0, .int .i64 0, .slice none 0 0] gi3 info25 (Nat.le_of_ble_eq_true rfl) (all8 rfl rfl rfl rfl rfl rfl rfl rfl) rfl ?_
    intro u9 gi9 but9 bel9
    obtain ⟨⟨y0, y1⟩, ⟨y2, y3, y4, y5, y6, y7, y8, y9⟩, ⟨y10, y11, y12, y13, y14⟩⟩ := cells15 gi9)
  have rl9 : RdI u9 LA ln lc x.l := RdV.but (RdV.alloc rl _) (fun b o hA => by have := la b o hA; omega) but9
  have rb9 : Rd u9 BA bn bc x.b := Rd.but (Rd.alloc rb _) (fun b o hA => by have := ba b o hA; omega) but9
  have la_r : ∀ b o, LA = some ⟨b, o, none⟩ → b ≠ r := fun b o hA => by have := la b o hA; omega
  have ba_r : ∀ b o, BA = some ⟨b, o, none⟩ → b ≠ r := fun b o hA => by have := ba b o hA; omega
  have hb9 := bel9 _ _ (bthen hbU bA) hG0
  have gs9 := (but9.2 r hGr).trans gs3
  clear y0 y1 y2 y3 y4 y5 y6 y7 y8 y9 y10 y11 y12 y13 y14
  obtain ⟨u, rfl⟩ : ∃ u_, u_ = u9 := ⟨_, rfl⟩
  have gi := gi9
  have gs := gs9
  have hbU := hb9
  have hqv : q = ⟨1, f, x, 0, 0, 0, 0, []⟩ := by rw [← HQ.out, Pkt.refC, if_pos (by decide), ht]; rfl
  have ip : IsPkt u (.agg #[.int .i64 1, .int .i64 f, .int .i64 x.k, .int .i64 x.q, .int .i64 x.e, .int .i64 x.i, .int .i64 x.t, .int .i64 x.c, .slice LA ln lc, .slice BA bn bc, .int .i64 0, .int .i64 0, .int .i64 0, .int .i64 0, .slice none 0 0]) q := by rw [hqv]; exact ⟨LA, ln, lc, BA, bn, bc, none, 0, 0, rfl, rl9, rb9, RdV.nil_ _⟩
  have IPB : Hid (∀ w2 w9, Below u.heap.size u w2 → But r w2 w9 → IsPkt w9 (.agg #[.int .i64 1, .int .i64 f, .int .i64 x.k, .int .i64 x.q, .int .i64 x.e, .int .i64 x.i, .int .i64 x.t, .int .i64 x.c, .slice LA ln lc, .slice BA bn bc, .int .i64 0, .int .i64 0, .int .i64 0, .int .i64 0, .slice none 0 0]) q) := fun w2 w9 hb2 hbut => by rw [hqv]; exact ⟨LA, ln, lc, BA, bn, bc, none, 0, 0, rfl, RdV.but (RdV.below rl9 hb2) la_r hbut, (rb9.below hb2).but ba_r hbut, RdV.nil_ _⟩
  obtain ⟨cs, hcs⟩ : ∃ cs : Array Value, #[.int .i64 1, .int .i64 f, .int .i64 x.k, .int .i64 x.q, .int .i64 x.e, .int .i64 x.i, .int .i64 x.t, .int .i64 x.c, .slice LA ln lc, .slice BA bn bc, .int .i64 0, .int .i64 0, .int .i64 0, .int .i64 0, .slice none 0 0] = cs := ⟨_, rfl⟩
  have sz : cs.size = 15 := by rw [← hcs]; rfl
  have oc : cs.all (·.oneCell') = true := by rw [← hcs]; exact (all15 rfl rfl rfl rfl rfl rfl rfl rfl rfl rfl rfl rfl rfl rfl rfl)
  skip
  rw [hcs] at ip IPB ⊢
  have gi := (by rw [hcs] at gi; exact gi : u.heap[Gb]? = some (.cells cs 27 (0, 0)))
  clear hcs
  clear hqv HQ gi9 gs9 hb9 but9 bel9 gi3 gs3
  have hM := rpmay_any _ q u ip
  with_reducible refine hM.mono ?_
  rintro en u5 ⟨rfl, b5⟩
  have gs5 := (b5.block _ (blk_ltP gs)).trans gs
  have gi5 := (b5.block _ (blk_ltP gi)).trans gi
  have bU5 := bthen hbU b5
  have ip5 := ip.below b5
  clear hM gs
  have GI5 := fun w' (hb : Below u5.heap.size u5 w') => (hb.block _ (blk_ltP gi5)).trans gi5
  skip
  cases hm : Pkt.may q with
  | false =>
    have HT : Hid (Pkt.tried q l = none) := hidT (by rw [Pkt.tried, if_neg (by rw [hm]; simp)])
    go_wp2_with fail
    refine wp_region_held_drew (S := fun w' => Below u5.heap.size u5 w') (by kernel_rfl) ?_ (fun hHeld => ?_)
    · exact (Below.refl _ _).drew
    refine wpAnyH_take (i := 0) (oi := { dst := some 117, op := Op.move (Operand.tmp 19), type := 4, pos := "ref.go:92", after := #[], guard := none }) (v := ?_) rfl (by kernel_rfl) (by kernel_rfl) (by kernel_rfl) (fun _ _ _ h => h) (Or.inl ⟨by rfl, ?_⟩) (by assumption) ?_
    rotate_left
    · (intro w_ hS_; go_simp; try with_reducible rfl)
    simp only [Act.put, List.setIfInBounds_toArray, List.set_cons_zero, List.set_cons_succ]
    refine wpAnyH_take (i := 1) (oi := { dst := some 118, op := Op.unOp UnOp.not 4 (Operand.tmp 117), type := 4, pos := "ref.go:92", after := #[{ on := 0, ground := Ground.data }], guard := none }) (v := ?_) rfl (by kernel_rfl) (by kernel_rfl) (by kernel_rfl) (fun _ _ _ h => h) (Or.inl ⟨by rfl, ?_⟩) (by assumption) ?_
    rotate_left
    · (intro w_ hS_; go_simp; try with_reducible rfl)
    simp only [Act.put, List.setIfInBounds_toArray, List.set_cons_zero, List.set_cons_succ]
    refine wpAnyH_take (i := 2) (oi := { dst := some 119, op := Op.move (Operand.tmp 118), type := 4, pos := "ref.go:92", after := #[{ on := 1, ground := Ground.data }], guard := none }) (v := ?_) rfl (by kernel_rfl) (by kernel_rfl) (by kernel_rfl) (fun _ _ _ h => h) (Or.inl ⟨by rfl, ?_⟩) (by assumption) ?_
    rotate_left
    · (intro w_ hS_; go_simp; try with_reducible rfl)
    simp only [Act.put, List.setIfInBounds_toArray, List.set_cons_zero, List.set_cons_succ]
    refine wpAnyH_take (i := 3) (oi := { dst := some 120, op := Op.load 27 (Operand.tmp 6), type := 27, pos := "ref.go:92", after := #[{ on := 2, ground := Ground.guard }], guard := some (2, false) }) (v := undef) rfl (by kernel_rfl) (by kernel_rfl) (by kernel_rfl) (fun _ _ _ h => h) (Or.inr ⟨by rfl, rfl⟩) (by assumption) ?_
    simp only [Act.put, List.setIfInBounds_toArray, List.set_cons_zero, List.set_cons_succ]
    refine wpAnyH_take (i := 4) (oi := { dst := some 121, op := Op.call { callee := Callee.value (Operand.func 16), args := #[Operand.tmp 120], argTypes := #[27] }, type := 23, pos := "ref.go:92", after := #[{ on := 3, ground := Ground.data }, { on := 2, ground := Ground.chain }, { on := 2, ground := Ground.guard }], guard := some (2, false) }) (v := undef) rfl (by kernel_rfl) (by kernel_rfl) (by kernel_rfl) (fun _ _ _ h => h) (Or.inr ⟨by rfl, rfl⟩) (by assumption) ?_
    simp only [Act.put, List.setIfInBounds_toArray, List.set_cons_zero, List.set_cons_succ]
    refine wpAnyH_take (i := 5) (oi := { dst := some 122, op := Op.convert 23 9 (Operand.tmp 121), type := 9, pos := "ref.go:92", after := #[{ on := 4, ground := Ground.data }, { on := 2, ground := Ground.guard }], guard := some (2, false) }) (v := undef) rfl (by kernel_rfl) (by kernel_rfl) (by kernel_rfl) (fun _ _ _ h => h) (Or.inr ⟨by rfl, rfl⟩) (by assumption) ?_
    simp only [Act.put, List.setIfInBounds_toArray, List.set_cons_zero, List.set_cons_succ]
    refine wpAnyH_take (i := 6) (oi := { dst := some 123, op := Op.move (Operand.tmp 0), type := 23, pos := "ref.go:92", after := #[{ on := 2, ground := Ground.guard }], guard := some (2, false) }) (v := undef) rfl (by kernel_rfl) (by kernel_rfl) (by kernel_rfl) (fun _ _ _ h => h) (Or.inr ⟨by rfl, rfl⟩) (by assumption) ?_
    simp only [Act.put, List.setIfInBounds_toArray, List.set_cons_zero, List.set_cons_succ]
    refine wpAnyH_take (i := 7) (oi := { dst := some 124, op := Op.convert 23 9 (Operand.tmp 123), type := 9, pos := "ref.go:92", after := #[{ on := 6, ground := Ground.data }, { on := 2, ground := Ground.guard }], guard := some (2, false) }) (v := undef) rfl (by kernel_rfl) (by kernel_rfl) (by kernel_rfl) (fun _ _ _ h => h) (Or.inr ⟨by rfl, rfl⟩) (by assumption) ?_
    simp only [Act.put, List.setIfInBounds_toArray, List.set_cons_zero, List.set_cons_succ]
    refine wpAnyH_take (i := 8) (oi := { dst := some 125, op := Op.binOp BinOp.neq 9 (Operand.tmp 122) (Operand.tmp 124) 9, type := 4, pos := "ref.go:92", after := #[{ on := 5, ground := Ground.data }, { on := 7, ground := Ground.data }, { on := 2, ground := Ground.guard }], guard := some (2, false) }) (v := undef) rfl (by kernel_rfl) (by kernel_rfl) (by kernel_rfl) (fun _ _ _ h => h) (Or.inr ⟨by rfl, rfl⟩) (by assumption) ?_
    simp only [Act.put, List.setIfInBounds_toArray, List.set_cons_zero, List.set_cons_succ]
    refine wpAnyH_take (i := 9) (oi := { dst := some 126, op := Op.pick (Operand.tmp 119) (Operand.const (Value.bool true)) (Operand.tmp 125), type := 4, pos := "ref.go:92", after := #[{ on := 2, ground := Ground.data }, { on := 8, ground := Ground.data }], guard := none }) (v := ?_) rfl (by kernel_rfl) (by kernel_rfl) (by kernel_rfl) (fun _ _ _ h => h) (Or.inl ⟨by rfl, ?_⟩) (by assumption) ?_
    rotate_left
    · (intro w_ hS_; go_simp; try with_reducible rfl)
    simp only [Act.put, List.setIfInBounds_toArray, List.set_cons_zero, List.set_cons_succ]
    refine wpAnyH_done (by kernel_rfl) ?_ _
    go_wp2_with (first
      | (refine wpList_stI rfl 27 (.tmp 2) (.tmp 127) rfl r zpkt rfl rfl _ _ gs5 info37 rfl (all15 rfl rfl rfl rfl rfl rfl rfl rfl rfl rfl rfl rfl rfl rfl rfl) ?_
         intro w9 hg9 hbut9 hbel9))
    exact bodyPost_ret (results_cellP rfl _ w9 r zpkt rfl rfl hg9 _ rfl) rfl (by obtain ⟨z1, z2⟩ := HZ.out _ HT.out; rw [z1, z2]; exact ⟨_, rfl, zero_pkt _, hbel9 _ _ (bthen bU5 (Below.refl _ _).drew) hr0⟩)
  | true =>
    obtain ⟨BX, HBX⟩ : ∃ BX, Hid (Pkt.bytes q = BX) := ⟨_, hidT rfl⟩
    have hBy := rpbytes_any (.agg cs) q u5.drew ip5
    rw [HBX.out] at hBy
    have sl := fun w' (hb : Below u5.heap.size u5 w') => strs (h.below bU5) w' hb
    have qb := str_beq BX l
    by_cases hbx : BX = l
    · skip
      have HT : Hid (Pkt.tried q l = some q) := hidT (by rw [Pkt.tried, if_pos ⟨hm, HBX.out.trans hbx⟩])
      rw [decide_eq_true hbx] at qb
      clear hbx
      have qn : ((str BX).toList != (str l).toList) = false := by simp only [bne, qb]; rfl
      go_wp2_with fail
      refine wp_region_held_drew (S := fun w' => Below u5.heap.size u5 w') (by kernel_rfl) ?_ (fun hHeld => ?_)
      · exact (Below.refl _ _).drew
      refine wpAnyH_take (i := 0) (oi := { dst := some 117, op := Op.move (Operand.tmp 19), type := 4, pos := "ref.go:92", after := #[], guard := none }) (v := ?_) rfl (by kernel_rfl) (by kernel_rfl) (by kernel_rfl) (fun _ _ _ h => h) (Or.inl ⟨by rfl, ?_⟩) (by assumption) ?_
      rotate_left
      · (intro w_ hS_; go_simp; try with_reducible rfl)
      simp only [Act.put, List.setIfInBounds_toArray, List.set_cons_zero, List.set_cons_succ]
      refine wpAnyH_take (i := 1) (oi := { dst := some 118, op := Op.unOp UnOp.not 4 (Operand.tmp 117), type := 4, pos := "ref.go:92", after := #[{ on := 0, ground := Ground.data }], guard := none }) (v := ?_) rfl (by kernel_rfl) (by kernel_rfl) (by kernel_rfl) (fun _ _ _ h => h) (Or.inl ⟨by rfl, ?_⟩) (by assumption) ?_
      rotate_left
      · (intro w_ hS_; go_simp; try with_reducible rfl)
      simp only [Act.put, List.setIfInBounds_toArray, List.set_cons_zero, List.set_cons_succ]
      refine wpAnyH_take (i := 2) (oi := { dst := some 119, op := Op.move (Operand.tmp 118), type := 4, pos := "ref.go:92", after := #[{ on := 1, ground := Ground.data }], guard := none }) (v := ?_) rfl (by kernel_rfl) (by kernel_rfl) (by kernel_rfl) (fun _ _ _ h => h) (Or.inl ⟨by rfl, ?_⟩) (by assumption) ?_
      rotate_left
      · (intro w_ hS_; go_simp; try with_reducible rfl)
      simp only [Act.put, List.setIfInBounds_toArray, List.set_cons_zero, List.set_cons_succ]
      refine wpAnyH_take (i := 3) (oi := { dst := some 120, op := Op.load 27 (Operand.tmp 6), type := 27, pos := "ref.go:92", after := #[{ on := 2, ground := Ground.guard }], guard := some (2, false) }) (v := .agg cs) rfl (by kernel_rfl) (by kernel_rfl) (by kernel_rfl) (fun _ _ _ h => h) (Or.inl ⟨by rfl, fun w_ hS_ => run_ldP (.tmp 6) rfl Gb rfl cs sz (GI5 w_ hS_)⟩) (by assumption) ?_
      simp only [Act.put, List.setIfInBounds_toArray, List.set_cons_zero, List.set_cons_succ]
      refine wpAnyH_take (i := 6) (oi := { dst := some 123, op := Op.move (Operand.tmp 0), type := 23, pos := "ref.go:92", after := #[{ on := 2, ground := Ground.guard }], guard := some (2, false) }) (v := ?_) rfl (by kernel_rfl) (by kernel_rfl) (by kernel_rfl) (fun _ _ _ h => h) (Or.inl ⟨by rfl, ?_⟩) (by assumption) ?_
      rotate_left
      · (intro w_ hS_; go_simp; try with_reducible rfl)
      simp only [Act.put, List.setIfInBounds_toArray, List.set_cons_zero, List.set_cons_succ]
      refine wpAnyH_take (i := 7) (oi := { dst := some 124, op := Op.convert 23 9 (Operand.tmp 123), type := 9, pos := "ref.go:92", after := #[{ on := 6, ground := Ground.data }, { on := 2, ground := Ground.guard }], guard := some (2, false) }) (v := ?_) rfl (by kernel_rfl) (by kernel_rfl) (by kernel_rfl) (fun _ _ _ h => h) (Or.inl ⟨by rfl, ?_⟩) (by assumption) ?_
      rotate_left
      · (intro w_ hS_; go_simp; try with_reducible rfl)
      simp only [Act.put, List.setIfInBounds_toArray, List.set_cons_zero, List.set_cons_succ]
      refine wpAnyH_ready (rs := [4]) (by kernel_rfl) (by simp) ?_
      refine AllReadyH.cons (o := { dst := some 121, op := Op.call { callee := Callee.value (Operand.func 16), args := #[Operand.tmp 120], argTypes := #[27] }, type := 23, pos := "ref.go:92", after := #[{ on := 3, ground := Ground.data }, { on := 2, ground := Ground.chain }, { on := 2, ground := Ground.guard }], guard := some (2, false) }) rfl (fun K hK => ?_) AllReadyH.nil
      go_simp
      refine hBy.mono ?_
      rintro en w6 ⟨A6, n6, rfl, o6, h6⟩
      have b6 : Below u5.heap.size u5 w6 := undrew h6
      have s6 := strs o6.same w6 (Below.refl _ _)
      dsimp only
      refine hK.out _ _ ?_ (fun hHeld => ?_)
      · exact b6
      clear hK K
      refine wpAnyH_ready (rs := [5]) (by kernel_rfl) (by simp) ?_
      refine AllReadyH.cons (o := { dst := some 122, op := Op.convert 23 9 (Operand.tmp 121), type := 9, pos := "ref.go:92", after := #[{ on := 4, ground := Ground.data }, { on := 2, ground := Ground.guard }], guard := some (2, false) }) rfl (fun K hK => ?_) AllReadyH.nil
      go_simp
      refine hK.out _ _ ?_ (fun hHeld => ?_)
      · exact b6
      clear hK K
      clear s6
      refine wpAnyH_take (i := 8) (oi := { dst := some 125, op := Op.binOp BinOp.neq 9 (Operand.tmp 122) (Operand.tmp 124) 9, type := 4, pos := "ref.go:92", after := #[{ on := 5, ground := Ground.data }, { on := 7, ground := Ground.data }, { on := 2, ground := Ground.guard }], guard := some (2, false) }) (v := ?_) rfl (by kernel_rfl) (by kernel_rfl) (by kernel_rfl) (fun _ _ _ h => h) (Or.inl ⟨by rfl, ?_⟩) (by assumption) ?_
      rotate_left
      · (intro w_ hS_; go_simp; try with_reducible rfl)
      simp only [Act.put, List.setIfInBounds_toArray, List.set_cons_zero, List.set_cons_succ]
      refine wpAnyH_take (i := 9) (oi := { dst := some 126, op := Op.pick (Operand.tmp 119) (Operand.const (Value.bool true)) (Operand.tmp 125), type := 4, pos := "ref.go:92", after := #[{ on := 2, ground := Ground.data }, { on := 8, ground := Ground.data }], guard := none }) (v := ?_) rfl (by kernel_rfl) (by kernel_rfl) (by kernel_rfl) (fun _ _ _ h => h) (Or.inl ⟨by rfl, ?_⟩) (by assumption) ?_
      rotate_left
      · (intro w_ hS_; go_simp; try with_reducible rfl)
      simp only [Act.put, List.setIfInBounds_toArray, List.set_cons_zero, List.set_cons_succ]
      refine wpAnyH_done (by kernel_rfl) ?_ _
      have gs6 := (b6.block _ (blk_ltP gs5)).trans gs5
      have bU6 := bthen bU5 b6
      have gi6 := GI5 w6 b6
      go_wp2_with (first
        | (refine wpList_ldP rfl (.tmp 6) rfl Gb rfl cs sz gi6 ?_)
        | (refine wpList_stI rfl 27 (.tmp 2) (.tmp 128) rfl r cs rfl rfl _ _ gs6 (by rw [sz]; exact info37) (by rw [sz]; rfl) oc ?_
           intro w9 hg9 hbut9 hbel9))
      exact bodyPost_ret (results_cellP rfl _ w9 r cs sz rfl hg9 _ rfl) rfl (by obtain ⟨z1, z2⟩ := HZ.out _ HT.out; rw [z1, z2]; exact ⟨_, rfl, IPB.out w6 w9 (bthen b5 b6) hbut9, hbel9 _ _ bU6 hr0⟩)
    · skip
      have HT : Hid (Pkt.tried q l = none) := hidT (by rw [Pkt.tried, if_neg (fun hh => hbx (HBX.out.symm.trans hh.2))])
      rw [decide_eq_false hbx] at qb
      clear hbx
      have qn : ((str BX).toList != (str l).toList) = true := by simp only [bne, qb]; rfl
      go_wp2_with fail
      refine wp_region_held_drew (S := fun w' => Below u5.heap.size u5 w') (by kernel_rfl) ?_ (fun hHeld => ?_)
      · exact (Below.refl _ _).drew
      refine wpAnyH_take (i := 0) (oi := { dst := some 117, op := Op.move (Operand.tmp 19), type := 4, pos := "ref.go:92", after := #[], guard := none }) (v := ?_) rfl (by kernel_rfl) (by kernel_rfl) (by kernel_rfl) (fun _ _ _ h => h) (Or.inl ⟨by rfl, ?_⟩) (by assumption) ?_
      rotate_left
      · (intro w_ hS_; go_simp; try with_reducible rfl)
      simp only [Act.put, List.setIfInBounds_toArray, List.set_cons_zero, List.set_cons_succ]
      refine wpAnyH_take (i := 1) (oi := { dst := some 118, op := Op.unOp UnOp.not 4 (Operand.tmp 117), type := 4, pos := "ref.go:92", after := #[{ on := 0, ground := Ground.data }], guard := none }) (v := ?_) rfl (by kernel_rfl) (by kernel_rfl) (by kernel_rfl) (fun _ _ _ h => h) (Or.inl ⟨by rfl, ?_⟩) (by assumption) ?_
      rotate_left
      · (intro w_ hS_; go_simp; try with_reducible rfl)
      simp only [Act.put, List.setIfInBounds_toArray, List.set_cons_zero, List.set_cons_succ]
      refine wpAnyH_take (i := 2) (oi := { dst := some 119, op := Op.move (Operand.tmp 118), type := 4, pos := "ref.go:92", after := #[{ on := 1, ground := Ground.data }], guard := none }) (v := ?_) rfl (by kernel_rfl) (by kernel_rfl) (by kernel_rfl) (fun _ _ _ h => h) (Or.inl ⟨by rfl, ?_⟩) (by assumption) ?_
      rotate_left
      · (intro w_ hS_; go_simp; try with_reducible rfl)
      simp only [Act.put, List.setIfInBounds_toArray, List.set_cons_zero, List.set_cons_succ]
      refine wpAnyH_take (i := 3) (oi := { dst := some 120, op := Op.load 27 (Operand.tmp 6), type := 27, pos := "ref.go:92", after := #[{ on := 2, ground := Ground.guard }], guard := some (2, false) }) (v := .agg cs) rfl (by kernel_rfl) (by kernel_rfl) (by kernel_rfl) (fun _ _ _ h => h) (Or.inl ⟨by rfl, fun w_ hS_ => run_ldP (.tmp 6) rfl Gb rfl cs sz (GI5 w_ hS_)⟩) (by assumption) ?_
      simp only [Act.put, List.setIfInBounds_toArray, List.set_cons_zero, List.set_cons_succ]
      refine wpAnyH_take (i := 6) (oi := { dst := some 123, op := Op.move (Operand.tmp 0), type := 23, pos := "ref.go:92", after := #[{ on := 2, ground := Ground.guard }], guard := some (2, false) }) (v := ?_) rfl (by kernel_rfl) (by kernel_rfl) (by kernel_rfl) (fun _ _ _ h => h) (Or.inl ⟨by rfl, ?_⟩) (by assumption) ?_
      rotate_left
      · (intro w_ hS_; go_simp; try with_reducible rfl)
      simp only [Act.put, List.setIfInBounds_toArray, List.set_cons_zero, List.set_cons_succ]
      refine wpAnyH_take (i := 7) (oi := { dst := some 124, op := Op.convert 23 9 (Operand.tmp 123), type := 9, pos := "ref.go:92", after := #[{ on := 6, ground := Ground.data }, { on := 2, ground := Ground.guard }], guard := some (2, false) }) (v := ?_) rfl (by kernel_rfl) (by kernel_rfl) (by kernel_rfl) (fun _ _ _ h => h) (Or.inl ⟨by rfl, ?_⟩) (by assumption) ?_
      rotate_left
      · (intro w_ hS_; go_simp; try with_reducible rfl)
      simp only [Act.put, List.setIfInBounds_toArray, List.set_cons_zero, List.set_cons_succ]
      refine wpAnyH_ready (rs := [4]) (by kernel_rfl) (by simp) ?_
      refine AllReadyH.cons (o := { dst := some 121, op := Op.call { callee := Callee.value (Operand.func 16), args := #[Operand.tmp 120], argTypes := #[27] }, type := 23, pos := "ref.go:92", after := #[{ on := 3, ground := Ground.data }, { on := 2, ground := Ground.chain }, { on := 2, ground := Ground.guard }], guard := some (2, false) }) rfl (fun K hK => ?_) AllReadyH.nil
      go_simp
      refine hBy.mono ?_
      rintro en w6 ⟨A6, n6, rfl, o6, h6⟩
      have b6 : Below u5.heap.size u5 w6 := undrew h6
      have s6 := strs o6.same w6 (Below.refl _ _)
      dsimp only
      refine hK.out _ _ ?_ (fun hHeld => ?_)
      · exact b6
      clear hK K
      refine wpAnyH_ready (rs := [5]) (by kernel_rfl) (by simp) ?_
      refine AllReadyH.cons (o := { dst := some 122, op := Op.convert 23 9 (Operand.tmp 121), type := 9, pos := "ref.go:92", after := #[{ on := 4, ground := Ground.data }, { on := 2, ground := Ground.guard }], guard := some (2, false) }) rfl (fun K hK => ?_) AllReadyH.nil
      go_simp
      refine hK.out _ _ ?_ (fun hHeld => ?_)
      · exact b6
      clear hK K
      clear s6
      refine wpAnyH_take (i := 8) (oi := { dst := some 125, op := Op.binOp BinOp.neq 9 (Operand.tmp 122) (Operand.tmp 124) 9, type := 4, pos := "ref.go:92", after := #[{ on := 5, ground := Ground.data }, { on := 7, ground := Ground.data }, { on := 2, ground := Ground.guard }], guard := some (2, false) }) (v := ?_) rfl (by kernel_rfl) (by kernel_rfl) (by kernel_rfl) (fun _ _ _ h => h) (Or.inl ⟨by rfl, ?_⟩) (by assumption) ?_
      rotate_left
      · (intro w_ hS_; go_simp; try with_reducible rfl)
      simp only [Act.put, List.setIfInBounds_toArray, List.set_cons_zero, List.set_cons_succ]
      refine wpAnyH_take (i := 9) (oi := { dst := some 126, op := Op.pick (Operand.tmp 119) (Operand.const (Value.bool true)) (Operand.tmp 125), type := 4, pos := "ref.go:92", after := #[{ on := 2, ground := Ground.data }, { on := 8, ground := Ground.data }], guard := none }) (v := ?_) rfl (by kernel_rfl) (by kernel_rfl) (by kernel_rfl) (fun _ _ _ h => h) (Or.inl ⟨by rfl, ?_⟩) (by assumption) ?_
      rotate_left
      · (intro w_ hS_; go_simp; try with_reducible rfl)
      simp only [Act.put, List.setIfInBounds_toArray, List.set_cons_zero, List.set_cons_succ]
      refine wpAnyH_done (by kernel_rfl) ?_ _
      have gs6 := (b6.block _ (blk_ltP gs5)).trans gs5
      have bU6 := bthen bU5 b6
      have gi6 := GI5 w6 b6
      go_wp2_with (first
        | (refine wpList_stI rfl 27 (.tmp 2) (.tmp 127) rfl r zpkt rfl rfl _ _ gs6 info37 rfl (all15 rfl rfl rfl rfl rfl rfl rfl rfl rfl rfl rfl rfl rfl rfl rfl) ?_
           intro w9 hg9 hbut9 hbel9))
      exact bodyPost_ret (results_cellP rfl _ w9 r zpkt rfl rfl hg9 _ rfl) rfl (by obtain ⟨z1, z2⟩ := HZ.out _ HT.out; rw [z1, z2]; exact ⟨_, rfl, zero_pkt _, hbel9 _ _ bU6 hr0⟩)
set_option maxRecDepth 100000 in
set_option maxHeartbeats 16000000 in
theorem rpr_1n (A : Option Addr) (n c : Nat) (l : List UInt8) (w : World) (h : Rd w A n c l) (hn : n ≤ 65536) (hc : openCode l = 0) (C : List UInt8) (hC : opened l = C) (hC3 : 3 ≤ C.length) (hC6 : C.length ≤ 65536) (k f : Int) (hk : Item.at_ C 1 = k) (hff : Item.at_ C 2 = f) (hkv : 1 = k) (ht : Item.takeOf (C.drop 3) = none) :
    Calls Tryd.prog 10 #[.slice A n c] w (PRead w ((Pkt.tried (Pkt.refC k f (C.drop 3)) l).getD Pkt.Pk.zero) (if (Pkt.tried (Pkt.refC k f (C.drop 3)) l).isSome = true then 0 else 2)) := by
  obtain ⟨q, hq⟩ : ∃ q, Pkt.refC k f (C.drop 3) = q := ⟨_, rfl⟩
  rw [hq]
  have HQ := hidT hq
  clear hq
  obtain ⟨z, hz⟩ : ∃ z, (Pkt.tried q l).getD Pkt.Pk.zero = z := ⟨_, rfl⟩
  obtain ⟨code, hcode⟩ : ∃ code : Int, (if (Pkt.tried q l).isSome = true then 0 else 2) = code := ⟨_, rfl⟩
  rw [hz, hcode]
  have HZ : Hid (∀ o, Pkt.tried q l = o → z = o.getD Pkt.Pk.zero ∧ code = if o.isSome = true then 0 else 2) := fun o ho => ⟨by rw [← ho, hz], by rw [← ho, hcode]⟩
  clear hz hcode
  obtain ⟨w0, hw0⟩ : ∃ w0, w.alloc (.cells #[.int .i64 0, .int .i64 0, .int .i64 0, .int .i64 0, .int .i64 0, .int .i64 0, .int .i64 0, .int .i64 0, .slice none 0 0, .slice none 0 0, .int .i64 0, .int .i64 0, .int .i64 0, .int .i64 0, .slice none 0 0] 27) = w0 := ⟨_, rfl⟩
  have b0 : Below w.heap.size w w0 := by rw [← hw0]; exact pkeep_alloc (Below.refl _ _) _
  have g0 : w0.heap[w.heap.size]? = some (.cells #[.int .i64 0, .int .i64 0, .int .i64 0, .int .i64 0, .int .i64 0, .int .i64 0, .int .i64 0, .int .i64 0, .slice none 0 0, .slice none 0 0, .int .i64 0, .int .i64 0, .int .i64 0, .int .i64 0, .slice none 0 0] 27 (0, 0)) := by rw [← hw0]; exact alloc_at _ _ _ rfl
  have HW0 := hidT hw0
  clear hw0
  have hO := ropen_any A n c l w0 (h.below b0) hn
  rw [hc, hC] at hO
  obtain ⟨N, hN⟩ : ∃ N, C.length = N := ⟨_, rfl⟩
  obtain ⟨r, hr⟩ : ∃ r, r = w.heap.size := ⟨_, rfl⟩
  rw [← hr] at g0
  have HR := hidT hr
  have hr0 : w.heap.size ≤ r := by omega
  clear hr
  go_enter Tryd.func10, Tryd.ntmps10
  go_wp2_with fail
  rw [HW0.out, ← HR.out]
  clear HW0
  with_reducible refine hO.mono ?_
  rintro en w1 ⟨A1, c1, rfl, r1, b1⟩
  clear hO
  rw [hN] at r1 hC3 hC6 ⊢
  have hcap := r1.2.1
  have hcle : c1 ≤ 9223372036854775807 := by have := r1.2.2.1; unfold maxLen at this; omega
  obtain ⟨b1_, o1, rfl, hcell⟩ := r1.at_ (by omega)
  obtain ⟨z1, hz1, e1⟩ := hcell 1 (by omega)
  obtain ⟨z2, hz2, e2⟩ := hcell 2 (by omega)
  have hzk : (z1.toNat : Int) = k := by rw [← hk, Item.at_, List.getD_eq_getElem?_getD, hz1]; rfl
  have hzf : (z2.toNat : Int) = f := by rw [← hff, Item.at_, List.getD_eq_getElem?_getD, hz2]; rfl
  have kb : 0 ≤ k ∧ k < 256 := by have := Num.byte_lt z1; omega
  have fb : 0 ≤ f ∧ f < 256 := by have := Num.byte_lt z2; omega
  obtain ⟨kb1, kb2⟩ := kb
  obtain ⟨fb1, fb2⟩ := fb
  rw [hzk] at e1
  rw [hzf] at e2
  have hbl := World.block_lt_of_cell? _ _ e1
  dsimp only at hbl
  have HN := hidT hN
  have q3 : decide ((N : Int) < 3) = false := by simp; omega
  have gs1 := (b1.block _ (blk_ltP g0)).trans g0
  have b01 := bthen b0 b1
  have hrl : r < w1.heap.size := blk_ltP gs1
  clear hcell hz1 hz2 hzk hzf hN hk hff g0 b0 b1
  subst hkv
  have i1 : (1 : Int) < (N : Int) := by omega
  have i2 : (2 : Int) < (N : Int) := by omega
  go_wp2
  go_region
  skip
  have hbU : Below w.heap.size w (w1.alloc (.cells #[.int .i64 1, .int .i64 f, .int .i64 0, .int .i64 0, .int .i64 0, .int .i64 0, .int .i64 0, .int .i64 0, .slice none 0 0, .slice none 0 0, .int .i64 0, .int .i64 0, .int .i64 0, .int .i64 0, .slice none 0 0] 27)).drew := (b01.alloc b01.size _).drew
  have gi : (w1.alloc (.cells #[.int .i64 1, .int .i64 f, .int .i64 0, .int .i64 0, .int .i64 0, .int .i64 0, .int .i64 0, .int .i64 0, .slice none 0 0, .slice none 0 0, .int .i64 0, .int .i64 0, .int .i64 0, .int .i64 0, .slice none 0 0] 27)).drew.heap[w1.heap.size]? = some (.cells #[.int .i64 1, .int .i64 f, .int .i64 0, .int .i64 0, .int .i64 0, .int .i64 0, .int .i64 0, .int .i64 0, .slice none 0 0, .slice none 0 0, .int .i64 0, .int .i64 0, .int .i64 0, .int .i64 0, .slice none 0 0] 27 (0, 0)) := alloc_at w1 _ _ rfl
  have gs : (w1.alloc (.cells #[.int .i64 1, .int .i64 f, .int .i64 0, .int .i64 0, .int .i64 0, .int .i64 0, .int .i64 0, .int .i64 0, .slice none 0 0, .slice none 0 0, .int .i64 0, .int .i64 0, .int .i64 0, .int .i64 0, .slice none 0 0] 27)).drew.heap[r]? = some (.cells #[.int .i64 0, .int .i64 0, .int .i64 0, .int .i64 0, .int .i64 0, .int .i64 0, .int .i64 0, .int .i64 0, .slice none 0 0, .slice none 0 0, .int .i64 0, .int .i64 0, .int .i64 0, .int .i64 0, .slice none 0 0] 27 (0, 0)) := (alloc_old w1 _ _ hrl).trans gs1
  have rU : Rd (w1.alloc (.cells #[.int .i64 1, .int .i64 f, .int .i64 0, .int .i64 0, .int .i64 0, .int .i64 0, .int .i64 0, .int .i64 0, .slice none 0 0, .slice none 0 0, .int .i64 0, .int .i64 0, .int .i64 0, .int .i64 0, .slice none 0 0] 27)).drew (some ⟨b1_, o1, none⟩) N c1 C := r1.below ((Below.refl w1.heap.size w1).alloc (Nat.le_refl _) _).drew
  obtain ⟨Gb, hGb⟩ : ∃ Gb, Gb = w1.heap.size := ⟨_, rfl⟩
  rw [← hGb] at gi ⊢
  have hGr : r ≠ Gb := by omega
  have hbG : ¬ b1_ = Gb := by omega
  have hbG2 : ¬ Gb = b1_ := by omega
  have hG0 : w.heap.size ≤ Gb := by have := b01.size; omega
  generalize (w1.alloc (.cells #[.int .i64 1, .int .i64 f, .int .i64 0, .int .i64 0, .int .i64 0, .int .i64 0, .int .i64 0, .int .i64 0, .slice none 0 0, .slice none 0 0, .int .i64 0, .int .i64 0, .int .i64 0, .int .i64 0, .slice none 0 0] 27)).drew = u at hbU gi gs rU ⊢
  clear gs1 b01 hrl hGb r1 e1 e2 hbl
  obtain ⟨M, hM⟩ : ∃ M, N - 3 = M := ⟨_, rfl⟩
  have s3 : (3 : Int) ≤ (N : Int) := by omega
  have hMN : N = M + 3 := by omega
  have HMN := hidT hMN
  clear hMN
  obtain ⟨X, hX⟩ : ∃ X, (if c1 = 3 then some (⟨b1_, o1, none⟩ : Addr) else some ⟨b1_, o1 + 3, none⟩) = X := ⟨_, rfl⟩
  have rd : Rd u X M (c1 - 3) (C.drop 3) := by rw [← hX, ← hM]; exact cut3 rU hC3
  obtain ⟨⟨y0, y1⟩, Y1, Y2⟩ := cells15 gi
  clear Y1 Y2
  have hT := rtakeF_any X M (c1 - 3) (C.drop 3) u rd (by have := HMN.out; omega)
  rw [ht] at hT
  go_wp2_with fail
  with_reducible refine hT.mono ?_
  rintro en u2 ⟨rfl, b2⟩
  clear hT y0 y1
  have hGu : Gb < u.heap.size := blk_ltP gi
  have hru : r < u.heap.size := blk_ltP gs
  have bA : Below u.heap.size u (u2.alloc (.cells zcells 25)) := pkeep_alloc b2 _
  have gi3 := (bA.block _ hGu).trans gi
  have gs3 := (bA.block _ hru).trans gs
  go_wp2_with (
    refine wpList_stP rfl 25 (.tmp 58) (.tmp 57) rfl Gb 2 zcells rfl rfl _ _ #[.int .i64 1, .int .i64 f, .int .i64 0, .int .i64 0, .int .i64 0, .int .i64 0, .int .i64 0, .int .i64 0, .slice none 0 0, .slice none 0 0, .int .i64 0, .int .i64 0, .int .i64 0, .int .i64 0, .slice none 0 0] gi3 info25 (Nat.le_of_ble_eq_true rfl) (all8 rfl rfl rfl rfl rfl rfl rfl rfl) rfl ?_
    intro u9 gi9 but9 bel9
    obtain ⟨⟨y0, y1⟩, ⟨y2, y3, y4, y5, y6, y7, y8, y9⟩, ⟨y10, y11, y12, y13, y14⟩⟩ := cells15 gi9)
  have hb9 := bel9 _ _ (bthen hbU bA) hG0
  have gs9 := (but9.2 r hGr).trans gs3
  clear y0 y1 y2 y3 y4 y5 y6 y7 y8 y9 y10 y11 y12 y13 y14
  obtain ⟨u, rfl⟩ : ∃ u_, u_ = u9 := ⟨_, rfl⟩
  have gi := gi9
  have gs := gs9
  have hbU := hb9
  have hqv : q = ⟨1, f, Item.It.zero, 0, 0, 0, 0, []⟩ := by rw [← HQ.out, Pkt.refC, if_pos (by decide), ht]; rfl
  have ip : IsPkt u (.agg #[.int .i64 1, .int .i64 f, .int .i64 0, .int .i64 0, .int .i64 0, .int .i64 0, .int .i64 0, .int .i64 0, .slice none 0 0, .slice none 0 0, .int .i64 0, .int .i64 0, .int .i64 0, .int .i64 0, .slice none 0 0]) q := by rw [hqv]; exact nil_pk u 1 f 0 0 0 0
  have IPB : Hid (∀ w2 w9, Below u.heap.size u w2 → But r w2 w9 → IsPkt w9 (.agg #[.int .i64 1, .int .i64 f, .int .i64 0, .int .i64 0, .int .i64 0, .int .i64 0, .int .i64 0, .int .i64 0, .slice none 0 0, .slice none 0 0, .int .i64 0, .int .i64 0, .int .i64 0, .int .i64 0, .slice none 0 0]) q) := fun w2 w9 hb2 hbut => by rw [hqv]; exact nil_pk w9 1 f 0 0 0 0
  obtain ⟨cs, hcs⟩ : ∃ cs : Array Value, #[.int .i64 1, .int .i64 f, .int .i64 0, .int .i64 0, .int .i64 0, .int .i64 0, .int .i64 0, .int .i64 0, .slice none 0 0, .slice none 0 0, .int .i64 0, .int .i64 0, .int .i64 0, .int .i64 0, .slice none 0 0] = cs := ⟨_, rfl⟩
  have sz : cs.size = 15 := by rw [← hcs]; rfl
  have oc : cs.all (·.oneCell') = true := by rw [← hcs]; exact (all15 rfl rfl rfl rfl rfl rfl rfl rfl rfl rfl rfl rfl rfl rfl rfl)
  skip
  rw [hcs] at ip IPB ⊢
  have gi := (by rw [hcs] at gi; exact gi : u.heap[Gb]? = some (.cells cs 27 (0, 0)))
  clear hcs
  clear hqv HQ gi9 gs9 hb9 but9 bel9 gi3 gs3
  have hM := rpmay_any _ q u ip
  with_reducible refine hM.mono ?_
  rintro en u5 ⟨rfl, b5⟩
  have gs5 := (b5.block _ (blk_ltP gs)).trans gs
  have gi5 := (b5.block _ (blk_ltP gi)).trans gi
  have bU5 := bthen hbU b5
  have ip5 := ip.below b5
  clear hM gs
  have GI5 := fun w' (hb : Below u5.heap.size u5 w') => (hb.block _ (blk_ltP gi5)).trans gi5
  skip
  cases hm : Pkt.may q with
  | false =>
    have HT : Hid (Pkt.tried q l = none) := hidT (by rw [Pkt.tried, if_neg (by rw [hm]; simp)])
    go_wp2_with fail
    refine wp_region_held_drew (S := fun w' => Below u5.heap.size u5 w') (by kernel_rfl) ?_ (fun hHeld => ?_)
    · exact (Below.refl _ _).drew
    refine wpAnyH_take (i := 0) (oi := { dst := some 117, op := Op.move (Operand.tmp 19), type := 4, pos := "ref.go:92", after := #[], guard := none }) (v := ?_) rfl (by kernel_rfl) (by kernel_rfl) (by kernel_rfl) (fun _ _ _ h => h) (Or.inl ⟨by rfl, ?_⟩) (by assumption) ?_
    rotate_left
    · (intro w_ hS_; go_simp; try with_reducible rfl)
    simp only [Act.put, List.setIfInBounds_toArray, List.set_cons_zero, List.set_cons_succ]
    refine wpAnyH_take (i := 1) (oi := { dst := some 118, op := Op.unOp UnOp.not 4 (Operand.tmp 117), type := 4, pos := "ref.go:92", after := #[{ on := 0, ground := Ground.data }], guard := none }) (v := ?_) rfl (by kernel_rfl) (by kernel_rfl) (by kernel_rfl) (fun _ _ _ h => h) (Or.inl ⟨by rfl, ?_⟩) (by assumption) ?_
    rotate_left
    · (intro w_ hS_; go_simp; try with_reducible rfl)
    simp only [Act.put, List.setIfInBounds_toArray, List.set_cons_zero, List.set_cons_succ]
    refine wpAnyH_take (i := 2) (oi := { dst := some 119, op := Op.move (Operand.tmp 118), type := 4, pos := "ref.go:92", after := #[{ on := 1, ground := Ground.data }], guard := none }) (v := ?_) rfl (by kernel_rfl) (by kernel_rfl) (by kernel_rfl) (fun _ _ _ h => h) (Or.inl ⟨by rfl, ?_⟩) (by assumption) ?_
    rotate_left
    · (intro w_ hS_; go_simp; try with_reducible rfl)
    simp only [Act.put, List.setIfInBounds_toArray, List.set_cons_zero, List.set_cons_succ]
    refine wpAnyH_take (i := 3) (oi := { dst := some 120, op := Op.load 27 (Operand.tmp 6), type := 27, pos := "ref.go:92", after := #[{ on := 2, ground := Ground.guard }], guard := some (2, false) }) (v := undef) rfl (by kernel_rfl) (by kernel_rfl) (by kernel_rfl) (fun _ _ _ h => h) (Or.inr ⟨by rfl, rfl⟩) (by assumption) ?_
    simp only [Act.put, List.setIfInBounds_toArray, List.set_cons_zero, List.set_cons_succ]
    refine wpAnyH_take (i := 4) (oi := { dst := some 121, op := Op.call { callee := Callee.value (Operand.func 16), args := #[Operand.tmp 120], argTypes := #[27] }, type := 23, pos := "ref.go:92", after := #[{ on := 3, ground := Ground.data }, { on := 2, ground := Ground.chain }, { on := 2, ground := Ground.guard }], guard := some (2, false) }) (v := undef) rfl (by kernel_rfl) (by kernel_rfl) (by kernel_rfl) (fun _ _ _ h => h) (Or.inr ⟨by rfl, rfl⟩) (by assumption) ?_
    simp only [Act.put, List.setIfInBounds_toArray, List.set_cons_zero, List.set_cons_succ]
    refine wpAnyH_take (i := 5) (oi := { dst := some 122, op := Op.convert 23 9 (Operand.tmp 121), type := 9, pos := "ref.go:92", after := #[{ on := 4, ground := Ground.data }, { on := 2, ground := Ground.guard }], guard := some (2, false) }) (v := undef) rfl (by kernel_rfl) (by kernel_rfl) (by kernel_rfl) (fun _ _ _ h => h) (Or.inr ⟨by rfl, rfl⟩) (by assumption) ?_
    simp only [Act.put, List.setIfInBounds_toArray, List.set_cons_zero, List.set_cons_succ]
    refine wpAnyH_take (i := 6) (oi := { dst := some 123, op := Op.move (Operand.tmp 0), type := 23, pos := "ref.go:92", after := #[{ on := 2, ground := Ground.guard }], guard := some (2, false) }) (v := undef) rfl (by kernel_rfl) (by kernel_rfl) (by kernel_rfl) (fun _ _ _ h => h) (Or.inr ⟨by rfl, rfl⟩) (by assumption) ?_
    simp only [Act.put, List.setIfInBounds_toArray, List.set_cons_zero, List.set_cons_succ]
    refine wpAnyH_take (i := 7) (oi := { dst := some 124, op := Op.convert 23 9 (Operand.tmp 123), type := 9, pos := "ref.go:92", after := #[{ on := 6, ground := Ground.data }, { on := 2, ground := Ground.guard }], guard := some (2, false) }) (v := undef) rfl (by kernel_rfl) (by kernel_rfl) (by kernel_rfl) (fun _ _ _ h => h) (Or.inr ⟨by rfl, rfl⟩) (by assumption) ?_
    simp only [Act.put, List.setIfInBounds_toArray, List.set_cons_zero, List.set_cons_succ]
    refine wpAnyH_take (i := 8) (oi := { dst := some 125, op := Op.binOp BinOp.neq 9 (Operand.tmp 122) (Operand.tmp 124) 9, type := 4, pos := "ref.go:92", after := #[{ on := 5, ground := Ground.data }, { on := 7, ground := Ground.data }, { on := 2, ground := Ground.guard }], guard := some (2, false) }) (v := undef) rfl (by kernel_rfl) (by kernel_rfl) (by kernel_rfl) (fun _ _ _ h => h) (Or.inr ⟨by rfl, rfl⟩) (by assumption) ?_
    simp only [Act.put, List.setIfInBounds_toArray, List.set_cons_zero, List.set_cons_succ]
    refine wpAnyH_take (i := 9) (oi := { dst := some 126, op := Op.pick (Operand.tmp 119) (Operand.const (Value.bool true)) (Operand.tmp 125), type := 4, pos := "ref.go:92", after := #[{ on := 2, ground := Ground.data }, { on := 8, ground := Ground.data }], guard := none }) (v := ?_) rfl (by kernel_rfl) (by kernel_rfl) (by kernel_rfl) (fun _ _ _ h => h) (Or.inl ⟨by rfl, ?_⟩) (by assumption) ?_
    rotate_left
    · (intro w_ hS_; go_simp; try with_reducible rfl)
    simp only [Act.put, List.setIfInBounds_toArray, List.set_cons_zero, List.set_cons_succ]
    refine wpAnyH_done (by kernel_rfl) ?_ _
    go_wp2_with (first
      | (refine wpList_stI rfl 27 (.tmp 2) (.tmp 127) rfl r zpkt rfl rfl _ _ gs5 info37 rfl (all15 rfl rfl rfl rfl rfl rfl rfl rfl rfl rfl rfl rfl rfl rfl rfl) ?_
         intro w9 hg9 hbut9 hbel9))
    exact bodyPost_ret (results_cellP rfl _ w9 r zpkt rfl rfl hg9 _ rfl) rfl (by obtain ⟨z1, z2⟩ := HZ.out _ HT.out; rw [z1, z2]; exact ⟨_, rfl, zero_pkt _, hbel9 _ _ (bthen bU5 (Below.refl _ _).drew) hr0⟩)
  | true =>
    obtain ⟨BX, HBX⟩ : ∃ BX, Hid (Pkt.bytes q = BX) := ⟨_, hidT rfl⟩
    have hBy := rpbytes_any (.agg cs) q u5.drew ip5
    rw [HBX.out] at hBy
    have sl := fun w' (hb : Below u5.heap.size u5 w') => strs (h.below bU5) w' hb
    have qb := str_beq BX l
    by_cases hbx : BX = l
    · skip
      have HT : Hid (Pkt.tried q l = some q) := hidT (by rw [Pkt.tried, if_pos ⟨hm, HBX.out.trans hbx⟩])
      rw [decide_eq_true hbx] at qb
      clear hbx
      have qn : ((str BX).toList != (str l).toList) = false := by simp only [bne, qb]; rfl
      go_wp2_with fail
      refine wp_region_held_drew (S := fun w' => Below u5.heap.size u5 w') (by kernel_rfl) ?_ (fun hHeld => ?_)
      · exact (Below.refl _ _).drew
      refine wpAnyH_take (i := 0) (oi := { dst := some 117, op := Op.move (Operand.tmp 19), type := 4, pos := "ref.go:92", after := #[], guard := none }) (v := ?_) rfl (by kernel_rfl) (by kernel_rfl) (by kernel_rfl) (fun _ _ _ h => h) (Or.inl ⟨by rfl, ?_⟩) (by assumption) ?_
      rotate_left
      · (intro w_ hS_; go_simp; try with_reducible rfl)
      simp only [Act.put, List.setIfInBounds_toArray, List.set_cons_zero, List.set_cons_succ]
      refine wpAnyH_take (i := 1) (oi := { dst := some 118, op := Op.unOp UnOp.not 4 (Operand.tmp 117), type := 4, pos := "ref.go:92", after := #[{ on := 0, ground := Ground.data }], guard := none }) (v := ?_) rfl (by kernel_rfl) (by kernel_rfl) (by kernel_rfl) (fun _ _ _ h => h) (Or.inl ⟨by rfl, ?_⟩) (by assumption) ?_
      rotate_left
      · (intro w_ hS_; go_simp; try with_reducible rfl)
      simp only [Act.put, List.setIfInBounds_toArray, List.set_cons_zero, List.set_cons_succ]
      refine wpAnyH_take (i := 2) (oi := { dst := some 119, op := Op.move (Operand.tmp 118), type := 4, pos := "ref.go:92", after := #[{ on := 1, ground := Ground.data }], guard := none }) (v := ?_) rfl (by kernel_rfl) (by kernel_rfl) (by kernel_rfl) (fun _ _ _ h => h) (Or.inl ⟨by rfl, ?_⟩) (by assumption) ?_
      rotate_left
      · (intro w_ hS_; go_simp; try with_reducible rfl)
      simp only [Act.put, List.setIfInBounds_toArray, List.set_cons_zero, List.set_cons_succ]
      refine wpAnyH_take (i := 3) (oi := { dst := some 120, op := Op.load 27 (Operand.tmp 6), type := 27, pos := "ref.go:92", after := #[{ on := 2, ground := Ground.guard }], guard := some (2, false) }) (v := .agg cs) rfl (by kernel_rfl) (by kernel_rfl) (by kernel_rfl) (fun _ _ _ h => h) (Or.inl ⟨by rfl, fun w_ hS_ => run_ldP (.tmp 6) rfl Gb rfl cs sz (GI5 w_ hS_)⟩) (by assumption) ?_
      simp only [Act.put, List.setIfInBounds_toArray, List.set_cons_zero, List.set_cons_succ]
      refine wpAnyH_take (i := 6) (oi := { dst := some 123, op := Op.move (Operand.tmp 0), type := 23, pos := "ref.go:92", after := #[{ on := 2, ground := Ground.guard }], guard := some (2, false) }) (v := ?_) rfl (by kernel_rfl) (by kernel_rfl) (by kernel_rfl) (fun _ _ _ h => h) (Or.inl ⟨by rfl, ?_⟩) (by assumption) ?_
      rotate_left
      · (intro w_ hS_; go_simp; try with_reducible rfl)
      simp only [Act.put, List.setIfInBounds_toArray, List.set_cons_zero, List.set_cons_succ]
      refine wpAnyH_take (i := 7) (oi := { dst := some 124, op := Op.convert 23 9 (Operand.tmp 123), type := 9, pos := "ref.go:92", after := #[{ on := 6, ground := Ground.data }, { on := 2, ground := Ground.guard }], guard := some (2, false) }) (v := ?_) rfl (by kernel_rfl) (by kernel_rfl) (by kernel_rfl) (fun _ _ _ h => h) (Or.inl ⟨by rfl, ?_⟩) (by assumption) ?_
      rotate_left
      · (intro w_ hS_; go_simp; try with_reducible rfl)
      simp only [Act.put, List.setIfInBounds_toArray, List.set_cons_zero, List.set_cons_succ]
      refine wpAnyH_ready (rs := [4]) (by kernel_rfl) (by simp) ?_
      refine AllReadyH.cons (o := { dst := some 121, op := Op.call { callee := Callee.value (Operand.func 16), args := #[Operand.tmp 120], argTypes := #[27] }, type := 23, pos := "ref.go:92", after := #[{ on := 3, ground := Ground.data }, { on := 2, ground := Ground.chain }, { on := 2, ground := Ground.guard }], guard := some (2, false) }) rfl (fun K hK => ?_) AllReadyH.nil
      go_simp
      refine hBy.mono ?_
      rintro en w6 ⟨A6, n6, rfl, o6, h6⟩
      have b6 : Below u5.heap.size u5 w6 := undrew h6
      have s6 := strs o6.same w6 (Below.refl _ _)
      dsimp only
      refine hK.out _ _ ?_ (fun hHeld => ?_)
      · exact b6
      clear hK K
      refine wpAnyH_ready (rs := [5]) (by kernel_rfl) (by simp) ?_
      refine AllReadyH.cons (o := { dst := some 122, op := Op.convert 23 9 (Operand.tmp 121), type := 9, pos := "ref.go:92", after := #[{ on := 4, ground := Ground.data }, { on := 2, ground := Ground.guard }], guard := some (2, false) }) rfl (fun K hK => ?_) AllReadyH.nil
      go_simp
      refine hK.out _ _ ?_ (fun hHeld => ?_)
      · exact b6
      clear hK K
      clear s6
      refine wpAnyH_take (i := 8) (oi := { dst := some 125, op := Op.binOp BinOp.neq 9 (Operand.tmp 122) (Operand.tmp 124) 9, type := 4, pos := "ref.go:92", after := #[{ on := 5, ground := Ground.data }, { on := 7, ground := Ground.data }, { on := 2, ground := Ground.guard }], guard := some (2, false) }) (v := ?_) rfl (by kernel_rfl) (by kernel_rfl) (by kernel_rfl) (fun _ _ _ h => h) (Or.inl ⟨by rfl, ?_⟩) (by assumption) ?_
      rotate_left
      · (intro w_ hS_; go_simp; try with_reducible rfl)
      simp only [Act.put, List.setIfInBounds_toArray, List.set_cons_zero, List.set_cons_succ]
      refine wpAnyH_take (i := 9) (oi := { dst := some 126, op := Op.pick (Operand.tmp 119) (Operand.const (Value.bool true)) (Operand.tmp 125), type := 4, pos := "ref.go:92", after := #[{ on := 2, ground := Ground.data }, { on := 8, ground := Ground.data }], guard := none }) (v := ?_) rfl (by kernel_rfl) (by kernel_rfl) (by kernel_rfl) (fun _ _ _ h => h) (Or.inl ⟨by rfl, ?_⟩) (by assumption) ?_
      rotate_left
      · (intro w_ hS_; go_simp; try with_reducible rfl)
      simp only [Act.put, List.setIfInBounds_toArray, List.set_cons_zero, List.set_cons_succ]
      refine wpAnyH_done (by kernel_rfl) ?_ _
      have gs6 := (b6.block _ (blk_ltP gs5)).trans gs5
      have bU6 := bthen bU5 b6
      have gi6 := GI5 w6 b6
      go_wp2_with (first
        | (refine wpList_ldP rfl (.tmp 6) rfl Gb rfl cs sz gi6 ?_)
        | (refine wpList_stI rfl 27 (.tmp 2) (.tmp 128) rfl r cs rfl rfl _ _ gs6 (by rw [sz]; exact info37) (by rw [sz]; rfl) oc ?_
           intro w9 hg9 hbut9 hbel9))
      exact bodyPost_ret (results_cellP rfl _ w9 r cs sz rfl hg9 _ rfl) rfl (by obtain ⟨z1, z2⟩ := HZ.out _ HT.out; rw [z1, z2]; exact ⟨_, rfl, IPB.out w6 w9 (bthen b5 b6) hbut9, hbel9 _ _ bU6 hr0⟩)
    · skip
      have HT : Hid (Pkt.tried q l = none) := hidT (by rw [Pkt.tried, if_neg (fun hh => hbx (HBX.out.symm.trans hh.2))])
      rw [decide_eq_false hbx] at qb
      clear hbx
      have qn : ((str BX).toList != (str l).toList) = true := by simp only [bne, qb]; rfl
      go_wp2_with fail
      refine wp_region_held_drew (S := fun w' => Below u5.heap.size u5 w') (by kernel_rfl) ?_ (fun hHeld => ?_)
      · exact (Below.refl _ _).drew
      refine wpAnyH_take (i := 0) (oi := { dst := some 117, op := Op.move (Operand.tmp 19), type := 4, pos := "ref.go:92", after := #[], guard := none }) (v := ?_) rfl (by kernel_rfl) (by kernel_rfl) (by kernel_rfl) (fun _ _ _ h => h) (Or.inl ⟨by rfl, ?_⟩) (by assumption) ?_
      rotate_left
      · (intro w_ hS_; go_simp; try with_reducible rfl)
      simp only [Act.put, List.setIfInBounds_toArray, List.set_cons_zero, List.set_cons_succ]
      refine wpAnyH_take (i := 1) (oi := { dst := some 118, op := Op.unOp UnOp.not 4 (Operand.tmp 117), type := 4, pos := "ref.go:92", after := #[{ on := 0, ground := Ground.data }], guard := none }) (v := ?_) rfl (by kernel_rfl) (by kernel_rfl) (by kernel_rfl) (fun _ _ _ h => h) (Or.inl ⟨by rfl, ?_⟩) (by assumption) ?_
      rotate_left
      · (intro w_ hS_; go_simp; try with_reducible rfl)
      simp only [Act.put, List.setIfInBounds_toArray, List.set_cons_zero, List.set_cons_succ]
      refine wpAnyH_take (i := 2) (oi := { dst := some 119, op := Op.move (Operand.tmp 118), type := 4, pos := "ref.go:92", after := #[{ on := 1, ground := Ground.data }], guard := none }) (v := ?_) rfl (by kernel_rfl) (by kernel_rfl) (by kernel_rfl) (fun _ _ _ h => h) (Or.inl ⟨by rfl, ?_⟩) (by assumption) ?_
      rotate_left
      · (intro w_ hS_; go_simp; try with_reducible rfl)
      simp only [Act.put, List.setIfInBounds_toArray, List.set_cons_zero, List.set_cons_succ]
      refine wpAnyH_take (i := 3) (oi := { dst := some 120, op := Op.load 27 (Operand.tmp 6), type := 27, pos := "ref.go:92", after := #[{ on := 2, ground := Ground.guard }], guard := some (2, false) }) (v := .agg cs) rfl (by kernel_rfl) (by kernel_rfl) (by kernel_rfl) (fun _ _ _ h => h) (Or.inl ⟨by rfl, fun w_ hS_ => run_ldP (.tmp 6) rfl Gb rfl cs sz (GI5 w_ hS_)⟩) (by assumption) ?_
      simp only [Act.put, List.setIfInBounds_toArray, List.set_cons_zero, List.set_cons_succ]
      refine wpAnyH_take (i := 6) (oi := { dst := some 123, op := Op.move (Operand.tmp 0), type := 23, pos := "ref.go:92", after := #[{ on := 2, ground := Ground.guard }], guard := some (2, false) }) (v := ?_) rfl (by kernel_rfl) (by kernel_rfl) (by kernel_rfl) (fun _ _ _ h => h) (Or.inl ⟨by rfl, ?_⟩) (by assumption) ?_
      rotate_left
      · (intro w_ hS_; go_simp; try with_reducible rfl)
      simp only [Act.put, List.setIfInBounds_toArray, List.set_cons_zero, List.set_cons_succ]
      refine wpAnyH_take (i := 7) (oi := { dst := some 124, op := Op.convert 23 9 (Operand.tmp 123), type := 9, pos := "ref.go:92", after := #[{ on := 6, ground := Ground.data }, { on := 2, ground := Ground.guard }], guard := some (2, false) }) (v := ?_) rfl (by kernel_rfl) (by kernel_rfl) (by kernel_rfl) (fun _ _ _ h => h) (Or.inl ⟨by rfl, ?_⟩) (by assumption) ?_
      rotate_left
      · (intro w_ hS_; go_simp; try with_reducible rfl)
      simp only [Act.put, List.setIfInBounds_toArray, List.set_cons_zero, List.set_cons_succ]
      refine wpAnyH_ready (rs := [4]) (by kernel_rfl) (by simp) ?_
      refine AllReadyH.cons (o := { dst := some 121, op := Op.call { callee := Callee.value (Operand.func 16), args := #[Operand.tmp 120], argTypes := #[27] }, type := 23, pos := "ref.go:92", after := #[{ on := 3, ground := Ground.data }, { on := 2, ground := Ground.chain }, { on := 2, ground := Ground.guard }], guard := some (2, false) }) rfl (fun K hK => ?_) AllReadyH.nil
      go_simp
      refine hBy.mono ?_
      rintro en w6 ⟨A6, n6, rfl, o6, h6⟩
      have b6 : Below u5.heap.size u5 w6 := undrew h6
      have s6 := strs o6.same w6 (Below.refl _ _)
      dsimp only
      refine hK.out _ _ ?_ (fun hHeld => ?_)
      · exact b6
      clear hK K
      refine wpAnyH_ready (rs := [5]) (by kernel_rfl) (by simp) ?_
      refine AllReadyH.cons (o := { dst := some 122, op := Op.convert 23 9 (Operand.tmp 121), type := 9, pos := "ref.go:92", after := #[{ on := 4, ground := Ground.data }, { on := 2, ground := Ground.guard }], guard := some (2, false) }) rfl (fun K hK => ?_) AllReadyH.nil
      go_simp
      refine hK.out _ _ ?_ (fun hHeld => ?_)
      · exact b6
      clear hK K
      clear s6
      refine wpAnyH_take (i := 8) (oi := { dst := some 125, op := Op.binOp BinOp.neq 9 (Operand.tmp 122) (Operand.tmp 124) 9, type := 4, pos := "ref.go:92", after := #[{ on := 5, ground := Ground.data }, { on := 7, ground := Ground.data }, { on := 2, ground := Ground.guard }], guard := some (2, false) }) (v := ?_) rfl (by kernel_rfl) (by kernel_rfl) (by kernel_rfl) (fun _ _ _ h => h) (Or.inl ⟨by rfl, ?_⟩) (by assumption) ?_
      rotate_left
      · (intro w_ hS_; go_simp; try with_reducible rfl)
      simp only [Act.put, List.setIfInBounds_toArray, List.set_cons_zero, List.set_cons_succ]
      refine wpAnyH_take (i := 9) (oi := { dst := some 126, op := Op.pick (Operand.tmp 119) (Operand.const (Value.bool true)) (Operand.tmp 125), type := 4, pos := "ref.go:92", after := #[{ on := 2, ground := Ground.data }, { on := 8, ground := Ground.data }], guard := none }) (v := ?_) rfl (by kernel_rfl) (by kernel_rfl) (by kernel_rfl) (fun _ _ _ h => h) (Or.inl ⟨by rfl, ?_⟩) (by assumption) ?_
      rotate_left
      · (intro w_ hS_; go_simp; try with_reducible rfl)
      simp only [Act.put, List.setIfInBounds_toArray, List.set_cons_zero, List.set_cons_succ]
      refine wpAnyH_done (by kernel_rfl) ?_ _
      have gs6 := (b6.block _ (blk_ltP gs5)).trans gs5
      have bU6 := bthen bU5 b6
      have gi6 := GI5 w6 b6
      go_wp2_with (first
        | (refine wpList_stI rfl 27 (.tmp 2) (.tmp 127) rfl r zpkt rfl rfl _ _ gs6 info37 rfl (all15 rfl rfl rfl rfl rfl rfl rfl rfl rfl rfl rfl rfl rfl rfl rfl) ?_
           intro w9 hg9 hbut9 hbel9))
      exact bodyPost_ret (results_cellP rfl _ w9 r zpkt rfl rfl hg9 _ rfl) rfl (by obtain ⟨z1, z2⟩ := HZ.out _ HT.out; rw [z1, z2]; exact ⟨_, rfl, zero_pkt _, hbel9 _ _ bU6 hr0⟩)
end Go.Proofs.YtahkhideepncfaaDoor
/- What the document's Read comes to, kind by kind. (Written by wip/gen/refpkt5.py.) -/
namespace Go.Proofs.YtahkhideepncfaaDoor
open Go.RowKit
set_option linter.unusedVariables false

set_option maxRecDepth 100000 in
set_option maxHeartbeats 16000000 in
theorem rpr_2s (A : Option Addr) (n c : Nat) (l : List UInt8) (w : World) (h : Rd w A n c l) (hn : n ≤ 65536) (hc : openCode l = 0) (C : List UInt8) (hC : opened l = C) (hC3 : 3 ≤ C.length) (hC6 : C.length ≤ 65536) (k f : Int) (hk : Item.at_ C 1 = k) (hff : Item.at_ C 2 = f) (hkv : 2 = k) (x : Item.It) (ht : Item.takeOf (C.drop 3) = some x) :
    Calls Tryd.prog 10 #[.slice A n c] w (PRead w ((Pkt.tried (Pkt.refC k f (C.drop 3)) l).getD Pkt.Pk.zero) (if (Pkt.tried (Pkt.refC k f (C.drop 3)) l).isSome = true then 0 else 2)) := by
  obtain ⟨q, hq⟩ : ∃ q, Pkt.refC k f (C.drop 3) = q := ⟨_, rfl⟩
  rw [hq]
  have HQ := hidT hq
  clear hq
  obtain ⟨z, hz⟩ : ∃ z, (Pkt.tried q l).getD Pkt.Pk.zero = z := ⟨_, rfl⟩
  obtain ⟨code, hcode⟩ : ∃ code : Int, (if (Pkt.tried q l).isSome = true then 0 else 2) = code := ⟨_, rfl⟩
  rw [hz, hcode]
  have HZ : Hid (∀ o, Pkt.tried q l = o → z = o.getD Pkt.Pk.zero ∧ code = if o.isSome = true then 0 else 2) := fun o ho => ⟨by rw [← ho, hz], by rw [← ho, hcode]⟩
  clear hz hcode
  obtain ⟨w0, hw0⟩ : ∃ w0, w.alloc (.cells #[.int .i64 0, .int .i64 0, .int .i64 0, .int .i64 0, .int .i64 0, .int .i64 0, .int .i64 0, .int .i64 0, .slice none 0 0, .slice none 0 0, .int .i64 0, .int .i64 0, .int .i64 0, .int .i64 0, .slice none 0 0] 27) = w0 := ⟨_, rfl⟩
  have b0 : Below w.heap.size w w0 := by rw [← hw0]; exact pkeep_alloc (Below.refl _ _) _
  have g0 : w0.heap[w.heap.size]? = some (.cells #[.int .i64 0, .int .i64 0, .int .i64 0, .int .i64 0, .int .i64 0, .int .i64 0, .int .i64 0, .int .i64 0, .slice none 0 0, .slice none 0 0, .int .i64 0, .int .i64 0, .int .i64 0, .int .i64 0, .slice none 0 0] 27 (0, 0)) := by rw [← hw0]; exact alloc_at _ _ _ rfl
  have HW0 := hidT hw0
  clear hw0
  have hO := ropen_any A n c l w0 (h.below b0) hn
  rw [hc, hC] at hO
  obtain ⟨N, hN⟩ : ∃ N, C.length = N := ⟨_, rfl⟩
  obtain ⟨r, hr⟩ : ∃ r, r = w.heap.size := ⟨_, rfl⟩
  rw [← hr] at g0
  have HR := hidT hr
  have hr0 : w.heap.size ≤ r := by omega
  clear hr
  go_enter Tryd.func10, Tryd.ntmps10
  go_wp2_with fail
  rw [HW0.out, ← HR.out]
  clear HW0
  with_reducible refine hO.mono ?_
  rintro en w1 ⟨A1, c1, rfl, r1, b1⟩
  clear hO
  rw [hN] at r1 hC3 hC6 ⊢
  have hcap := r1.2.1
  have hcle : c1 ≤ 9223372036854775807 := by have := r1.2.2.1; unfold maxLen at this; omega
  obtain ⟨b1_, o1, rfl, hcell⟩ := r1.at_ (by omega)
  obtain ⟨z1, hz1, e1⟩ := hcell 1 (by omega)
  obtain ⟨z2, hz2, e2⟩ := hcell 2 (by omega)
  have hzk : (z1.toNat : Int) = k := by rw [← hk, Item.at_, List.getD_eq_getElem?_getD, hz1]; rfl
  have hzf : (z2.toNat : Int) = f := by rw [← hff, Item.at_, List.getD_eq_getElem?_getD, hz2]; rfl
  have kb : 0 ≤ k ∧ k < 256 := by have := Num.byte_lt z1; omega
  have fb : 0 ≤ f ∧ f < 256 := by have := Num.byte_lt z2; omega
  obtain ⟨kb1, kb2⟩ := kb
  obtain ⟨fb1, fb2⟩ := fb
  rw [hzk] at e1
  rw [hzf] at e2
  have hbl := World.block_lt_of_cell? _ _ e1
  dsimp only at hbl
  have HN := hidT hN
  have q3 : decide ((N : Int) < 3) = false := by simp; omega
  have gs1 := (b1.block _ (blk_ltP g0)).trans g0
  have b01 := bthen b0 b1
  have hrl : r < w1.heap.size := blk_ltP gs1
  clear hcell hz1 hz2 hzk hzf hN hk hff g0 b0 b1
  subst hkv
  have i1 : (1 : Int) < (N : Int) := by omega
  have i2 : (2 : Int) < (N : Int) := by omega
  go_wp2
  go_region
  skip
  have hbU : Below w.heap.size w (w1.alloc (.cells #[.int .i64 2, .int .i64 f, .int .i64 0, .int .i64 0, .int .i64 0, .int .i64 0, .int .i64 0, .int .i64 0, .slice none 0 0, .slice none 0 0, .int .i64 0, .int .i64 0, .int .i64 0, .int .i64 0, .slice none 0 0] 27)).drew := (b01.alloc b01.size _).drew
  have gi : (w1.alloc (.cells #[.int .i64 2, .int .i64 f, .int .i64 0, .int .i64 0, .int .i64 0, .int .i64 0, .int .i64 0, .int .i64 0, .slice none 0 0, .slice none 0 0, .int .i64 0, .int .i64 0, .int .i64 0, .int .i64 0, .slice none 0 0] 27)).drew.heap[w1.heap.size]? = some (.cells #[.int .i64 2, .int .i64 f, .int .i64 0, .int .i64 0, .int .i64 0, .int .i64 0, .int .i64 0, .int .i64 0, .slice none 0 0, .slice none 0 0, .int .i64 0, .int .i64 0, .int .i64 0, .int .i64 0, .slice none 0 0] 27 (0, 0)) := alloc_at w1 _ _ rfl
  have gs : (w1.alloc (.cells #[.int .i64 2, .int .i64 f, .int .i64 0, .int .i64 0, .int .i64 0, .int .i64 0, .int .i64 0, .int .i64 0, .slice none 0 0, .slice none 0 0, .int .i64 0, .int .i64 0, .int .i64 0, .int .i64 0, .slice none 0 0] 27)).drew.heap[r]? = some (.cells #[.int .i64 0, .int .i64 0, .int .i64 0, .int .i64 0, .int .i64 0, .int .i64 0, .int .i64 0, .int .i64 0, .slice none 0 0, .slice none 0 0, .int .i64 0, .int .i64 0, .int .i64 0, .int .i64 0, .slice none 0 0] 27 (0, 0)) := (alloc_old w1 _ _ hrl).trans gs1
  have rU : Rd (w1.alloc (.cells #[.int .i64 2, .int .i64 f, .int .i64 0, .int .i64 0, .int .i64 0, .int .i64 0, .int .i64 0, .int .i64 0, .slice none 0 0, .slice none 0 0, .int .i64 0, .int .i64 0, .int .i64 0, .int .i64 0, .slice none 0 0] 27)).drew (some ⟨b1_, o1, none⟩) N c1 C := r1.below ((Below.refl w1.heap.size w1).alloc (Nat.le_refl _) _).drew
  obtain ⟨Gb, hGb⟩ : ∃ Gb, Gb = w1.heap.size := ⟨_, rfl⟩
  rw [← hGb] at gi ⊢
  have hGr : r ≠ Gb := by omega
  have hbG : ¬ b1_ = Gb := by omega
  have hbG2 : ¬ Gb = b1_ := by omega
  have hG0 : w.heap.size ≤ Gb := by have := b01.size; omega
  generalize (w1.alloc (.cells #[.int .i64 2, .int .i64 f, .int .i64 0, .int .i64 0, .int .i64 0, .int .i64 0, .int .i64 0, .int .i64 0, .slice none 0 0, .slice none 0 0, .int .i64 0, .int .i64 0, .int .i64 0, .int .i64 0, .slice none 0 0] 27)).drew = u at hbU gi gs rU ⊢
  clear gs1 b01 hrl hGb r1 e1 e2 hbl
  obtain ⟨M, hM⟩ : ∃ M, N - 3 = M := ⟨_, rfl⟩
  have s3 : (3 : Int) ≤ (N : Int) := by omega
  have hMN : N = M + 3 := by omega
  have HMN := hidT hMN
  clear hMN
  obtain ⟨X, hX⟩ : ∃ X, (if c1 = 3 then some (⟨b1_, o1, none⟩ : Addr) else some ⟨b1_, o1 + 3, none⟩) = X := ⟨_, rfl⟩
  have rd : Rd u X M (c1 - 3) (C.drop 3) := by rw [← hX, ← hM]; exact cut3 rU hC3
  obtain ⟨⟨y0, y1⟩, Y1, Y2⟩ := cells15 gi
  clear Y1 Y2
  have hT := rtakeF_any X M (c1 - 3) (C.drop 3) u rd (by have := HMN.out; omega)
  rw [ht] at hT
  go_wp2_with fail
  with_reducible refine hT.mono ?_
  rintro en u2 ⟨LA, ln, lc, BA, bn, bc, rfl, rl, rb, la, ba, b2⟩
  clear hT y0 y1
  have hGu : Gb < u.heap.size := blk_ltP gi
  have hru : r < u.heap.size := blk_ltP gs
  have bA : Below u.heap.size u (u2.alloc (.cells #[.int .i64 x.k, .int .i64 x.q, .int .i64 x.e, .int .i64 x.i, .int .i64 x.t, .int .i64 x.c, .slice LA ln lc, .slice BA bn bc] 25)) := pkeep_alloc b2 _
  have gi3 := (bA.block _ hGu).trans gi
  have gs3 := (bA.block _ hru).trans gs
  go_wp2_with (
    refine wpList_stP rfl 25 (.tmp 58) (.tmp 57) rfl Gb 2 #[.int .i64 x.k, .int .i64 x.q, .int .i64 x.e, .int .i64 x.i, .int .i64 x.t, .int .i64 x.c, .slice LA ln lc, .slice BA bn bc] rfl rfl _ _ #[.int .i64 2, .int .i64 f, .int .i64 x.k, .int .i64 x.q, .int .i64 x.e, .int .i64 x.i, .int .i64 x.t, .int .i64 x.c, .slice LA ln lc, .slice BA bn bc, .int .i64 0, .int .i64 0, .int .i64 0, .int .i64 0, .slice none 0 0] gi3 info25 (Nat.le_of_ble_eq_true rfl) (all8 rfl rfl rfl rfl rfl rfl rfl rfl) rfl ?_
    intro u9 gi9 but9 bel9
    obtain ⟨⟨y0, y1⟩, ⟨y2, y3, y4, y5, y6, y7, y8, y9⟩, ⟨y10, y11, y12, y13, y14⟩⟩ := cells15 gi9)
  have rl9 : RdI u9 LA ln lc x.l := RdV.but (RdV.alloc rl _) (fun b o hA => by have := la b o hA; omega) but9
  have rb9 : Rd u9 BA bn bc x.b := Rd.but (Rd.alloc rb _) (fun b o hA => by have := ba b o hA; omega) but9
  have la_r : ∀ b o, LA = some ⟨b, o, none⟩ → b ≠ r := fun b o hA => by have := la b o hA; omega
  have ba_r : ∀ b o, BA = some ⟨b, o, none⟩ → b ≠ r := fun b o hA => by have := ba b o hA; omega
  have hb9 := bel9 _ _ (bthen hbU bA) hG0
  have gs9 := (but9.2 r hGr).trans gs3
  clear y0 y1 y2 y3 y4 y5 y6 y7 y8 y9 y10 y11 y12 y13 y14
  obtain ⟨u, rfl⟩ : ∃ u_, u_ = u9 := ⟨_, rfl⟩
  have gi := gi9
  have gs := gs9
  have hbU := hb9
  have hqv : q = ⟨2, f, x, 0, 0, 0, 0, []⟩ := by rw [← HQ.out, Pkt.refC, if_pos (by decide), ht]; rfl
  have ip : IsPkt u (.agg #[.int .i64 2, .int .i64 f, .int .i64 x.k, .int .i64 x.q, .int .i64 x.e, .int .i64 x.i, .int .i64 x.t, .int .i64 x.c, .slice LA ln lc, .slice BA bn bc, .int .i64 0, .int .i64 0, .int .i64 0, .int .i64 0, .slice none 0 0]) q := by rw [hqv]; exact ⟨LA, ln, lc, BA, bn, bc, none, 0, 0, rfl, rl9, rb9, RdV.nil_ _⟩
  have IPB : Hid (∀ w2 w9, Below u.heap.size u w2 → But r w2 w9 → IsPkt w9 (.agg #[.int .i64 2, .int .i64 f, .int .i64 x.k, .int .i64 x.q, .int .i64 x.e, .int .i64 x.i, .int .i64 x.t, .int .i64 x.c, .slice LA ln lc, .slice BA bn bc, .int .i64 0, .int .i64 0, .int .i64 0, .int .i64 0, .slice none 0 0]) q) := fun w2 w9 hb2 hbut => by rw [hqv]; exact ⟨LA, ln, lc, BA, bn, bc, none, 0, 0, rfl, RdV.but (RdV.below rl9 hb2) la_r hbut, (rb9.below hb2).but ba_r hbut, RdV.nil_ _⟩
  obtain ⟨cs, hcs⟩ : ∃ cs : Array Value, #[.int .i64 2, .int .i64 f, .int .i64 x.k, .int .i64 x.q, .int .i64 x.e, .int .i64 x.i, .int .i64 x.t, .int .i64 x.c, .slice LA ln lc, .slice BA bn bc, .int .i64 0, .int .i64 0, .int .i64 0, .int .i64 0, .slice none 0 0] = cs := ⟨_, rfl⟩
  have sz : cs.size = 15 := by rw [← hcs]; rfl
  have oc : cs.all (·.oneCell') = true := by rw [← hcs]; exact (all15 rfl rfl rfl rfl rfl rfl rfl rfl rfl rfl rfl rfl rfl rfl rfl)
  skip
  rw [hcs] at ip IPB ⊢
  have gi := (by rw [hcs] at gi; exact gi : u.heap[Gb]? = some (.cells cs 27 (0, 0)))
  clear hcs
  clear hqv HQ gi9 gs9 hb9 but9 bel9 gi3 gs3
  have hM := rpmay_any _ q u ip
  with_reducible refine hM.mono ?_
  rintro en u5 ⟨rfl, b5⟩
  have gs5 := (b5.block _ (blk_ltP gs)).trans gs
  have gi5 := (b5.block _ (blk_ltP gi)).trans gi
  have bU5 := bthen hbU b5
  have ip5 := ip.below b5
  clear hM gs
  have GI5 := fun w' (hb : Below u5.heap.size u5 w') => (hb.block _ (blk_ltP gi5)).trans gi5
  skip
  cases hm : Pkt.may q with
  | false =>
    have HT : Hid (Pkt.tried q l = none) := hidT (by rw [Pkt.tried, if_neg (by rw [hm]; simp)])
    go_wp2_with fail
    refine wp_region_held_drew (S := fun w' => Below u5.heap.size u5 w') (by kernel_rfl) ?_ (fun hHeld => ?_)
    · exact (Below.refl _ _).drew
    refine wpAnyH_take (i := 0) (oi := { dst := some 117, op := Op.move (Operand.tmp 19), type := 4, pos := "ref.go:92", after := #[], guard := none }) (v := ?_) rfl (by kernel_rfl) (by kernel_rfl) (by kernel_rfl) (fun _ _ _ h => h) (Or.inl ⟨by rfl, ?_⟩) (by assumption) ?_
    rotate_left
    · (intro w_ hS_; go_simp; try with_reducible rfl)
    simp only [Act.put, List.setIfInBounds_toArray, List.set_cons_zero, List.set_cons_succ]
    refine wpAnyH_take (i := 1) (oi := { dst := some 118, op := Op.unOp UnOp.not 4 (Operand.tmp 117), type := 4, pos := "ref.go:92", after := #[{ on := 0, ground := Ground.data }], guard := none }) (v := ?_) rfl (by kernel_rfl) (by kernel_rfl) (by kernel_rfl) (fun _ _ _ h => h) (Or.inl ⟨by rfl, ?_⟩) (by assumption) ?_
    rotate_left
    · (intro w_ hS_; go_simp; try with_reducible rfl)
    simp only [Act.put, List.setIfInBounds_toArray, List.set_cons_zero, List.set_cons_succ]
    refine wpAnyH_take (i := 2) (oi := { dst := some 119, op := Op.move (Operand.tmp 118), type := 4, pos := "ref.go:92", after := #[{ on := 1, ground := Ground.data }], guard := none }) (v := ?_) rfl (by kernel_rfl) (by kernel_rfl) (by kernel_rfl) (fun _ _ _ h => h) (Or.inl ⟨by rfl, ?_⟩) (by assumption) ?_
    rotate_left
    · (intro w_ hS_; go_simp; try with_reducible rfl)
    simp only [Act.put, List.setIfInBounds_toArray, List.set_cons_zero, List.set_cons_succ]
    refine wpAnyH_take (i := 3) (oi := { dst := some 120, op := Op.load 27 (Operand.tmp 6), type := 27, pos := "ref.go:92", after := #[{ on := 2, ground := Ground.guard }], guard := some (2, false) }) (v := undef) rfl (by kernel_rfl) (by kernel_rfl) (by kernel_rfl) (fun _ _ _ h => h) (Or.inr ⟨by rfl, rfl⟩) (by assumption) ?_
    simp only [Act.put, List.setIfInBounds_toArray, List.set_cons_zero, List.set_cons_succ]
    refine wpAnyH_take (i := 4) (oi := { dst := some 121, op := Op.call { callee := Callee.value (Operand.func 16), args := #[Operand.tmp 120], argTypes := #[27] }, type := 23, pos := "ref.go:92", after := #[{ on := 3, ground := Ground.data }, { on := 2, ground := Ground.chain }, { on := 2, ground := Ground.guard }], guard := some (2, false) }) (v := undef) rfl (by kernel_rfl) (by kernel_rfl) (by kernel_rfl) (fun _ _ _ h => h) (Or.inr ⟨by rfl, rfl⟩) (by assumption) ?_
    simp only [Act.put, List.setIfInBounds_toArray, List.set_cons_zero, List.set_cons_succ]
    refine wpAnyH_take (i := 5) (oi := { dst := some 122, op := Op.convert 23 9 (Operand.tmp 121), type := 9, pos := "ref.go:92", after := #[{ on := 4, ground := Ground.data }, { on := 2, ground := Ground.guard }], guard := some (2, false) }) (v := undef) rfl (by kernel_rfl) (by kernel_rfl) (by kernel_rfl) (fun _ _ _ h => h) (Or.inr ⟨by rfl, rfl⟩) (by assumption) ?_
    simp only [Act.put, List.setIfInBounds_toArray, List.set_cons_zero, List.set_cons_succ]
    refine wpAnyH_take (i := 6) (oi := { dst := some 123, op := Op.move (Operand.tmp 0), type := 23, pos := "ref.go:92", after := #[{ on := 2, ground := Ground.guard }], guard := some (2, false) }) (v := undef) rfl (by kernel_rfl) (by kernel_rfl) (by kernel_rfl) (fun _ _ _ h => h) (Or.inr ⟨by rfl, rfl⟩) (by assumption) ?_
    simp only [Act.put, List.setIfInBounds_toArray, List.set_cons_zero, List.set_cons_succ]
    refine wpAnyH_take (i := 7) (oi := { dst := some 124, op := Op.convert 23 9 (Operand.tmp 123), type := 9, pos := "ref.go:92", after := #[{ on := 6, ground := Ground.data }, { on := 2, ground := Ground.guard }], guard := some (2, false) }) (v := undef) rfl (by kernel_rfl) (by kernel_rfl) (by kernel_rfl) (fun _ _ _ h => h) (Or.inr ⟨by rfl, rfl⟩) (by assumption) ?_
    simp only [Act.put, List.setIfInBounds_toArray, List.set_cons_zero, List.set_cons_succ]
    refine wpAnyH_take (i := 8) (oi := { dst := some 125, op := Op.binOp BinOp.neq 9 (Operand.tmp 122) (Operand.tmp 124) 9, type := 4, pos := "ref.go:92", after := #[{ on := 5, ground := Ground.data }, { on := 7, ground := Ground.data }, { on := 2, ground := Ground.guard }], guard := some (2, false) }) (v := undef) rfl (by kernel_rfl) (by kernel_rfl) (by kernel_rfl) (fun _ _ _ h => h) (Or.inr ⟨by rfl, rfl⟩) (by assumption) ?_
    simp only [Act.put, List.setIfInBounds_toArray, List.set_cons_zero, List.set_cons_succ]
    refine wpAnyH_take (i := 9) (oi := { dst := some 126, op := Op.pick (Operand.tmp 119) (Operand.const (Value.bool true)) (Operand.tmp 125), type := 4, pos := "ref.go:92", after := #[{ on := 2, ground := Ground.data }, { on := 8, ground := Ground.data }], guard := none }) (v := ?_) rfl (by kernel_rfl) (by kernel_rfl) (by kernel_rfl) (fun _ _ _ h => h) (Or.inl ⟨by rfl, ?_⟩) (by assumption) ?_
    rotate_left
    · (intro w_ hS_; go_simp; try with_reducible rfl)
    simp only [Act.put, List.setIfInBounds_toArray, List.set_cons_zero, List.set_cons_succ]
    refine wpAnyH_done (by kernel_rfl) ?_ _
    go_wp2_with (first
      | (refine wpList_stI rfl 27 (.tmp 2) (.tmp 127) rfl r zpkt rfl rfl _ _ gs5 info37 rfl (all15 rfl rfl rfl rfl rfl rfl rfl rfl rfl rfl rfl rfl rfl rfl rfl) ?_
         intro w9 hg9 hbut9 hbel9))
    exact bodyPost_ret (results_cellP rfl _ w9 r zpkt rfl rfl hg9 _ rfl) rfl (by obtain ⟨z1, z2⟩ := HZ.out _ HT.out; rw [z1, z2]; exact ⟨_, rfl, zero_pkt _, hbel9 _ _ (bthen bU5 (Below.refl _ _).drew) hr0⟩)
  | true =>
    obtain ⟨BX, HBX⟩ : ∃ BX, Hid (Pkt.bytes q = BX) := ⟨_, hidT rfl⟩
    have hBy := rpbytes_any (.agg cs) q u5.drew ip5
    rw [HBX.out] at hBy
    have sl := fun w' (hb : Below u5.heap.size u5 w') => strs (h.below bU5) w' hb
    have qb := str_beq BX l
    by_cases hbx : BX = l
    · skip
      have HT : Hid (Pkt.tried q l = some q) := hidT (by rw [Pkt.tried, if_pos ⟨hm, HBX.out.trans hbx⟩])
      rw [decide_eq_true hbx] at qb
      clear hbx
      have qn : ((str BX).toList != (str l).toList) = false := by simp only [bne, qb]; rfl
      go_wp2_with fail
      refine wp_region_held_drew (S := fun w' => Below u5.heap.size u5 w') (by kernel_rfl) ?_ (fun hHeld => ?_)
      · exact (Below.refl _ _).drew
      refine wpAnyH_take (i := 0) (oi := { dst := some 117, op := Op.move (Operand.tmp 19), type := 4, pos := "ref.go:92", after := #[], guard := none }) (v := ?_) rfl (by kernel_rfl) (by kernel_rfl) (by kernel_rfl) (fun _ _ _ h => h) (Or.inl ⟨by rfl, ?_⟩) (by assumption) ?_
      rotate_left
      · (intro w_ hS_; go_simp; try with_reducible rfl)
      simp only [Act.put, List.setIfInBounds_toArray, List.set_cons_zero, List.set_cons_succ]
      refine wpAnyH_take (i := 1) (oi := { dst := some 118, op := Op.unOp UnOp.not 4 (Operand.tmp 117), type := 4, pos := "ref.go:92", after := #[{ on := 0, ground := Ground.data }], guard := none }) (v := ?_) rfl (by kernel_rfl) (by kernel_rfl) (by kernel_rfl) (fun _ _ _ h => h) (Or.inl ⟨by rfl, ?_⟩) (by assumption) ?_
      rotate_left
      · (intro w_ hS_; go_simp; try with_reducible rfl)
      simp only [Act.put, List.setIfInBounds_toArray, List.set_cons_zero, List.set_cons_succ]
      refine wpAnyH_take (i := 2) (oi := { dst := some 119, op := Op.move (Operand.tmp 118), type := 4, pos := "ref.go:92", after := #[{ on := 1, ground := Ground.data }], guard := none }) (v := ?_) rfl (by kernel_rfl) (by kernel_rfl) (by kernel_rfl) (fun _ _ _ h => h) (Or.inl ⟨by rfl, ?_⟩) (by assumption) ?_
      rotate_left
      · (intro w_ hS_; go_simp; try with_reducible rfl)
      simp only [Act.put, List.setIfInBounds_toArray, List.set_cons_zero, List.set_cons_succ]
      refine wpAnyH_take (i := 3) (oi := { dst := some 120, op := Op.load 27 (Operand.tmp 6), type := 27, pos := "ref.go:92", after := #[{ on := 2, ground := Ground.guard }], guard := some (2, false) }) (v := .agg cs) rfl (by kernel_rfl) (by kernel_rfl) (by kernel_rfl) (fun _ _ _ h => h) (Or.inl ⟨by rfl, fun w_ hS_ => run_ldP (.tmp 6) rfl Gb rfl cs sz (GI5 w_ hS_)⟩) (by assumption) ?_
      simp only [Act.put, List.setIfInBounds_toArray, List.set_cons_zero, List.set_cons_succ]
      refine wpAnyH_take (i := 6) (oi := { dst := some 123, op := Op.move (Operand.tmp 0), type := 23, pos := "ref.go:92", after := #[{ on := 2, ground := Ground.guard }], guard := some (2, false) }) (v := ?_) rfl (by kernel_rfl) (by kernel_rfl) (by kernel_rfl) (fun _ _ _ h => h) (Or.inl ⟨by rfl, ?_⟩) (by assumption) ?_
      rotate_left
      · (intro w_ hS_; go_simp; try with_reducible rfl)
      simp only [Act.put, List.setIfInBounds_toArray, List.set_cons_zero, List.set_cons_succ]
      refine wpAnyH_take (i := 7) (oi := { dst := some 124, op := Op.convert 23 9 (Operand.tmp 123), type := 9, pos := "ref.go:92", after := #[{ on := 6, ground := Ground.data }, { on := 2, ground := Ground.guard }], guard := some (2, false) }) (v := ?_) rfl (by kernel_rfl) (by kernel_rfl) (by kernel_rfl) (fun _ _ _ h => h) (Or.inl ⟨by rfl, ?_⟩) (by assumption) ?_
      rotate_left
      · (intro w_ hS_; go_simp; try with_reducible rfl)
      simp only [Act.put, List.setIfInBounds_toArray, List.set_cons_zero, List.set_cons_succ]
      refine wpAnyH_ready (rs := [4]) (by kernel_rfl) (by simp) ?_
      refine AllReadyH.cons (o := { dst := some 121, op := Op.call { callee := Callee.value (Operand.func 16), args := #[Operand.tmp 120], argTypes := #[27] }, type := 23, pos := "ref.go:92", after := #[{ on := 3, ground := Ground.data }, { on := 2, ground := Ground.chain }, { on := 2, ground := Ground.guard }], guard := some (2, false) }) rfl (fun K hK => ?_) AllReadyH.nil
      go_simp
      refine hBy.mono ?_
      rintro en w6 ⟨A6, n6, rfl, o6, h6⟩
      have b6 : Below u5.heap.size u5 w6 := undrew h6
      have s6 := strs o6.same w6 (Below.refl _ _)
      dsimp only
      refine hK.out _ _ ?_ (fun hHeld => ?_)
      · exact b6
      clear hK K
      refine wpAnyH_ready (rs := [5]) (by kernel_rfl) (by simp) ?_
      refine AllReadyH.cons (o := { dst := some 122, op := Op.convert 23 9 (Operand.tmp 121), type := 9, pos := "ref.go:92", after := #[{ on := 4, ground := Ground.data }, { on := 2, ground := Ground.guard }], guard := some (2, false) }) rfl (fun K hK => ?_) AllReadyH.nil
      go_simp
      refine hK.out _ _ ?_ (fun hHeld => ?_)
      · exact b6
      clear hK K
      clear s6
      refine wpAnyH_take (i := 8) (oi := { dst := some 125, op := Op.binOp BinOp.neq 9 (Operand.tmp 122) (Operand.tmp 124) 9, type := 4, pos := "ref.go:92", after := #[{ on := 5, ground := Ground.data }, { on := 7, ground := Ground.data }, { on := 2, ground := Ground.guard }], guard := some (2, false) }) (v := ?_) rfl (by kernel_rfl) (by kernel_rfl) (by kernel_rfl) (fun _ _ _ h => h) (Or.inl ⟨by rfl, ?_⟩) (by assumption) ?_
      rotate_left
      · (intro w_ hS_; go_simp; try with_reducible rfl)
      simp only [Act.put, List.setIfInBounds_toArray, List.set_cons_zero, List.set_cons_succ]
      refine wpAnyH_take (i := 9) (oi := { dst := some 126, op := Op.pick (Operand.tmp 119) (Operand.const (Value.bool true)) (Operand.tmp 125), type := 4, pos := "ref.go:92", after := #[{ on := 2, ground := Ground.data }, { on := 8, ground := Ground.data }], guard := none }) (v := ?_) rfl (by kernel_rfl) (by kernel_rfl) (by kernel_rfl) (fun _ _ _ h => h) (Or.inl ⟨by rfl, ?_⟩) (by assumption) ?_
      rotate_left
      · (intro w_ hS_; go_simp; try with_reducible rfl)
      simp only [Act.put, List.setIfInBounds_toArray, List.set_cons_zero, List.set_cons_succ]
      refine wpAnyH_done (by kernel_rfl) ?_ _
      have gs6 := (b6.block _ (blk_ltP gs5)).trans gs5
      have bU6 := bthen bU5 b6
      have gi6 := GI5 w6 b6
      go_wp2_with (first
        | (refine wpList_ldP rfl (.tmp 6) rfl Gb rfl cs sz gi6 ?_)
        | (refine wpList_stI rfl 27 (.tmp 2) (.tmp 128) rfl r cs rfl rfl _ _ gs6 (by rw [sz]; exact info37) (by rw [sz]; rfl) oc ?_
           intro w9 hg9 hbut9 hbel9))
      exact bodyPost_ret (results_cellP rfl _ w9 r cs sz rfl hg9 _ rfl) rfl (by obtain ⟨z1, z2⟩ := HZ.out _ HT.out; rw [z1, z2]; exact ⟨_, rfl, IPB.out w6 w9 (bthen b5 b6) hbut9, hbel9 _ _ bU6 hr0⟩)
    · skip
      have HT : Hid (Pkt.tried q l = none) := hidT (by rw [Pkt.tried, if_neg (fun hh => hbx (HBX.out.symm.trans hh.2))])
      rw [decide_eq_false hbx] at qb
      clear hbx
      have qn : ((str BX).toList != (str l).toList) = true := by simp only [bne, qb]; rfl
      go_wp2_with fail
      refine wp_region_held_drew (S := fun w' => Below u5.heap.size u5 w') (by kernel_rfl) ?_ (fun hHeld => ?_)
      · exact (Below.refl _ _).drew
      refine wpAnyH_take (i := 0) (oi := { dst := some 117, op := Op.move (Operand.tmp 19), type := 4, pos := "ref.go:92", after := #[], guard := none }) (v := ?_) rfl (by kernel_rfl) (by kernel_rfl) (by kernel_rfl) (fun _ _ _ h => h) (Or.inl ⟨by rfl, ?_⟩) (by assumption) ?_
      rotate_left
      · (intro w_ hS_; go_simp; try with_reducible rfl)
      simp only [Act.put, List.setIfInBounds_toArray, List.set_cons_zero, List.set_cons_succ]
      refine wpAnyH_take (i := 1) (oi := { dst := some 118, op := Op.unOp UnOp.not 4 (Operand.tmp 117), type := 4, pos := "ref.go:92", after := #[{ on := 0, ground := Ground.data }], guard := none }) (v := ?_) rfl (by kernel_rfl) (by kernel_rfl) (by kernel_rfl) (fun _ _ _ h => h) (Or.inl ⟨by rfl, ?_⟩) (by assumption) ?_
      rotate_left
      · (intro w_ hS_; go_simp; try with_reducible rfl)
      simp only [Act.put, List.setIfInBounds_toArray, List.set_cons_zero, List.set_cons_succ]
      refine wpAnyH_take (i := 2) (oi := { dst := some 119, op := Op.move (Operand.tmp 118), type := 4, pos := "ref.go:92", after := #[{ on := 1, ground := Ground.data }], guard := none }) (v := ?_) rfl (by kernel_rfl) (by kernel_rfl) (by kernel_rfl) (fun _ _ _ h => h) (Or.inl ⟨by rfl, ?_⟩) (by assumption) ?_
      rotate_left
      · (intro w_ hS_; go_simp; try with_reducible rfl)
      simp only [Act.put, List.setIfInBounds_toArray, List.set_cons_zero, List.set_cons_succ]
      refine wpAnyH_take (i := 3) (oi := { dst := some 120, op := Op.load 27 (Operand.tmp 6), type := 27, pos := "ref.go:92", after := #[{ on := 2, ground := Ground.guard }], guard := some (2, false) }) (v := .agg cs) rfl (by kernel_rfl) (by kernel_rfl) (by kernel_rfl) (fun _ _ _ h => h) (Or.inl ⟨by rfl, fun w_ hS_ => run_ldP (.tmp 6) rfl Gb rfl cs sz (GI5 w_ hS_)⟩) (by assumption) ?_
      simp only [Act.put, List.setIfInBounds_toArray, List.set_cons_zero, List.set_cons_succ]
      refine wpAnyH_take (i := 6) (oi := { dst := some 123, op := Op.move (Operand.tmp 0), type := 23, pos := "ref.go:92", after := #[{ on := 2, ground := Ground.guard }], guard := some (2, false) }) (v := ?_) rfl (by kernel_rfl) (by kernel_rfl) (by kernel_rfl) (fun _ _ _ h => h) (Or.inl ⟨by rfl, ?_⟩) (by assumption) ?_
      rotate_left
      · (intro w_ hS_; go_simp; try with_reducible rfl)
      simp only [Act.put, List.setIfInBounds_toArray, List.set_cons_zero, List.set_cons_succ]
      refine wpAnyH_take (i := 7) (oi := { dst := some 124, op := Op.convert 23 9 (Operand.tmp 123), type := 9, pos := "ref.go:92", after := #[{ on := 6, ground := Ground.data }, { on := 2, ground := Ground.guard }], guard := some (2, false) }) (v := ?_) rfl (by kernel_rfl) (by kernel_rfl) (by kernel_rfl) (fun _ _ _ h => h) (Or.inl ⟨by rfl, ?_⟩) (by assumption) ?_
      rotate_left
      · (intro w_ hS_; go_simp; try with_reducible rfl)
      simp only [Act.put, List.setIfInBounds_toArray, List.set_cons_zero, List.set_cons_succ]
      refine wpAnyH_ready (rs := [4]) (by kernel_rfl) (by simp) ?_
      refine AllReadyH.cons (o := { dst := some 121, op := Op.call { callee := Callee.value (Operand.func 16), args := #[Operand.tmp 120], argTypes := #[27] }, type := 23, pos := "ref.go:92", after := #[{ on := 3, ground := Ground.data }, { on := 2, ground := Ground.chain }, { on := 2, ground := Ground.guard }], guard := some (2, false) }) rfl (fun K hK => ?_) AllReadyH.nil
      go_simp
      refine hBy.mono ?_
      rintro en w6 ⟨A6, n6, rfl, o6, h6⟩
      have b6 : Below u5.heap.size u5 w6 := undrew h6
      have s6 := strs o6.same w6 (Below.refl _ _)
      dsimp only
      refine hK.out _ _ ?_ (fun hHeld => ?_)
      · exact b6
      clear hK K
      refine wpAnyH_ready (rs := [5]) (by kernel_rfl) (by simp) ?_
      refine AllReadyH.cons (o := { dst := some 122, op := Op.convert 23 9 (Operand.tmp 121), type := 9, pos := "ref.go:92", after := #[{ on := 4, ground := Ground.data }, { on := 2, ground := Ground.guard }], guard := some (2, false) }) rfl (fun K hK => ?_) AllReadyH.nil
      go_simp
      refine hK.out _ _ ?_ (fun hHeld => ?_)
      · exact b6
      clear hK K
      clear s6
      refine wpAnyH_take (i := 8) (oi := { dst := some 125, op := Op.binOp BinOp.neq 9 (Operand.tmp 122) (Operand.tmp 124) 9, type := 4, pos := "ref.go:92", after := #[{ on := 5, ground := Ground.data }, { on := 7, ground := Ground.data }, { on := 2, ground := Ground.guard }], guard := some (2, false) }) (v := ?_) rfl (by kernel_rfl) (by kernel_rfl) (by kernel_rfl) (fun _ _ _ h => h) (Or.inl ⟨by rfl, ?_⟩) (by assumption) ?_
      rotate_left
      · (intro w_ hS_; go_simp; try with_reducible rfl)
      simp only [Act.put, List.setIfInBounds_toArray, List.set_cons_zero, List.set_cons_succ]
      refine wpAnyH_take (i := 9) (oi := { dst := some 126, op := Op.pick (Operand.tmp 119) (Operand.const (Value.bool true)) (Operand.tmp 125), type := 4, pos := "ref.go:92", after := #[{ on := 2, ground := Ground.data }, { on := 8, ground := Ground.data }], guard := none }) (v := ?_) rfl (by kernel_rfl) (by kernel_rfl) (by kernel_rfl) (fun _ _ _ h => h) (Or.inl ⟨by rfl, ?_⟩) (by assumption) ?_
      rotate_left
      · (intro w_ hS_; go_simp; try with_reducible rfl)
      simp only [Act.put, List.setIfInBounds_toArray, List.set_cons_zero, List.set_cons_succ]
      refine wpAnyH_done (by kernel_rfl) ?_ _
      have gs6 := (b6.block _ (blk_ltP gs5)).trans gs5
      have bU6 := bthen bU5 b6
      have gi6 := GI5 w6 b6
      go_wp2_with (first
        | (refine wpList_stI rfl 27 (.tmp 2) (.tmp 127) rfl r zpkt rfl rfl _ _ gs6 info37 rfl (all15 rfl rfl rfl rfl rfl rfl rfl rfl rfl rfl rfl rfl rfl rfl rfl) ?_
           intro w9 hg9 hbut9 hbel9))
      exact bodyPost_ret (results_cellP rfl _ w9 r zpkt rfl rfl hg9 _ rfl) rfl (by obtain ⟨z1, z2⟩ := HZ.out _ HT.out; rw [z1, z2]; exact ⟨_, rfl, zero_pkt _, hbel9 _ _ bU6 hr0⟩)
set_option maxRecDepth 100000 in
set_option maxHeartbeats 16000000 in
theorem rpr_2n (A : Option Addr) (n c : Nat) (l : List UInt8) (w : World) (h : Rd w A n c l) (hn : n ≤ 65536) (hc : openCode l = 0) (C : List UInt8) (hC : opened l = C) (hC3 : 3 ≤ C.length) (hC6 : C.length ≤ 65536) (k f : Int) (hk : Item.at_ C 1 = k) (hff : Item.at_ C 2 = f) (hkv : 2 = k) (ht : Item.takeOf (C.drop 3) = none) :
    Calls Tryd.prog 10 #[.slice A n c] w (PRead w ((Pkt.tried (Pkt.refC k f (C.drop 3)) l).getD Pkt.Pk.zero) (if (Pkt.tried (Pkt.refC k f (C.drop 3)) l).isSome = true then 0 else 2)) := by
  obtain ⟨q, hq⟩ : ∃ q, Pkt.refC k f (C.drop 3) = q := ⟨_, rfl⟩
  rw [hq]
  have HQ := hidT hq
  clear hq
  obtain ⟨z, hz⟩ : ∃ z, (Pkt.tried q l).getD Pkt.Pk.zero = z := ⟨_, rfl⟩
  obtain ⟨code, hcode⟩ : ∃ code : Int, (if (Pkt.tried q l).isSome = true then 0 else 2) = code := ⟨_, rfl⟩
  rw [hz, hcode]
  have HZ : Hid (∀ o, Pkt.tried q l = o → z = o.getD Pkt.Pk.zero ∧ code = if o.isSome = true then 0 else 2) := fun o ho => ⟨by rw [← ho, hz], by rw [← ho, hcode]⟩
  clear hz hcode
  obtain ⟨w0, hw0⟩ : ∃ w0, w.alloc (.cells #[.int .i64 0, .int .i64 0, .int .i64 0, .int .i64 0, .int .i64 0, .int .i64 0, .int .i64 0, .int .i64 0, .slice none 0 0, .slice none 0 0, .int .i64 0, .int .i64 0, .int .i64 0, .int .i64 0, .slice none 0 0] 27) = w0 := ⟨_, rfl⟩
  have b0 : Below w.heap.size w w0 := by rw [← hw0]; exact pkeep_alloc (Below.refl _ _) _
  have g0 : w0.heap[w.heap.size]? = some (.cells #[.int .i64 0, .int .i64 0, .int .i64 0, .int .i64 0, .int .i64 0, .int .i64 0, .int .i64 0, .int .i64 0, .slice none 0 0, .slice none 0 0, .int .i64 0, .int .i64 0, .int .i64 0, .int .i64 0, .slice none 0 0] 27 (0, 0)) := by rw [← hw0]; exact alloc_at _ _ _ rfl
  have HW0 := hidT hw0
  clear hw0
  have hO := ropen_any A n c l w0 (h.below b0) hn
  rw [hc, hC] at hO
  obtain ⟨N, hN⟩ : ∃ N, C.length = N := ⟨_, rfl⟩
  obtain ⟨r, hr⟩ : ∃ r, r = w.heap.size := ⟨_, rfl⟩
  rw [← hr] at g0
  have HR := hidT hr
  have hr0 : w.heap.size ≤ r := by omega
  clear hr
  go_enter Tryd.func10, Tryd.ntmps10
  go_wp2_with fail
  rw [HW0.out, ← HR.out]
  clear HW0
  with_reducible refine hO.mono ?_
  rintro en w1 ⟨A1, c1, rfl, r1, b1⟩
  clear hO
  rw [hN] at r1 hC3 hC6 ⊢
  have hcap := r1.2.1
  have hcle : c1 ≤ 9223372036854775807 := by have := r1.2.2.1; unfold maxLen at this; omega
  obtain ⟨b1_, o1, rfl, hcell⟩ := r1.at_ (by omega)
  obtain ⟨z1, hz1, e1⟩ := hcell 1 (by omega)
  obtain ⟨z2, hz2, e2⟩ := hcell 2 (by omega)
  have hzk : (z1.toNat : Int) = k := by rw [← hk, Item.at_, List.getD_eq_getElem?_getD, hz1]; rfl
  have hzf : (z2.toNat : Int) = f := by rw [← hff, Item.at_, List.getD_eq_getElem?_getD, hz2]; rfl
  have kb : 0 ≤ k ∧ k < 256 := by have := Num.byte_lt z1; omega
  have fb : 0 ≤ f ∧ f < 256 := by have := Num.byte_lt z2; omega
  obtain ⟨kb1, kb2⟩ := kb
  obtain ⟨fb1, fb2⟩ := fb
  rw [hzk] at e1
  rw [hzf] at e2
  have hbl := World.block_lt_of_cell? _ _ e1
  dsimp only at hbl
  have HN := hidT hN
  have q3 : decide ((N : Int) < 3) = false := by simp; omega
  have gs1 := (b1.block _ (blk_ltP g0)).trans g0
  have b01 := bthen b0 b1
  have hrl : r < w1.heap.size := blk_ltP gs1
  clear hcell hz1 hz2 hzk hzf hN hk hff g0 b0 b1
  subst hkv
  have i1 : (1 : Int) < (N : Int) := by omega
  have i2 : (2 : Int) < (N : Int) := by omega
  go_wp2
  go_region
  skip
  have hbU : Below w.heap.size w (w1.alloc (.cells #[.int .i64 2, .int .i64 f, .int .i64 0, .int .i64 0, .int .i64 0, .int .i64 0, .int .i64 0, .int .i64 0, .slice none 0 0, .slice none 0 0, .int .i64 0, .int .i64 0, .int .i64 0, .int .i64 0, .slice none 0 0] 27)).drew := (b01.alloc b01.size _).drew
  have gi : (w1.alloc (.cells #[.int .i64 2, .int .i64 f, .int .i64 0, .int .i64 0, .int .i64 0, .int .i64 0, .int .i64 0, .int .i64 0, .slice none 0 0, .slice none 0 0, .int .i64 0, .int .i64 0, .int .i64 0, .int .i64 0, .slice none 0 0] 27)).drew.heap[w1.heap.size]? = some (.cells #[.int .i64 2, .int .i64 f, .int .i64 0, .int .i64 0, .int .i64 0, .int .i64 0, .int .i64 0, .int .i64 0, .slice none 0 0, .slice none 0 0, .int .i64 0, .int .i64 0, .int .i64 0, .int .i64 0, .slice none 0 0] 27 (0, 0)) := alloc_at w1 _ _ rfl
  have gs : (w1.alloc (.cells #[.int .i64 2, .int .i64 f, .int .i64 0, .int .i64 0, .int .i64 0, .int .i64 0, .int .i64 0, .int .i64 0, .slice none 0 0, .slice none 0 0, .int .i64 0, .int .i64 0, .int .i64 0, .int .i64 0, .slice none 0 0] 27)).drew.heap[r]? = some (.cells #[.int .i64 0, .int .i64 0, .int .i64 0, .int .i64 0, .int .i64 0, .int .i64 0, .int .i64 0, .int .i64 0, .slice none 0 0, .slice none 0 0, .int .i64 0, .int .i64 0, .int .i64 0, .int .i64 0, .slice none 0 0] 27 (0, 0)) := (alloc_old w1 _ _ hrl).trans gs1
  have rU : Rd (w1.alloc (.cells #[.int .i64 2, .int .i64 f, .int .i64 0, .int .i64 0, .int .i64 0, .int .i64 0, .int .i64 0, .int .i64 0, .slice none 0 0, .slice none 0 0, .int .i64 0, .int .i64 0, .int .i64 0, .int .i64 0, .slice none 0 0] 27)).drew (some ⟨b1_, o1, none⟩) N c1 C := r1.below ((Below.refl w1.heap.size w1).alloc (Nat.le_refl _) _).drew
  obtain ⟨Gb, hGb⟩ : ∃ Gb, Gb = w1.heap.size := ⟨_, rfl⟩
  rw [← hGb] at gi ⊢
  have hGr : r ≠ Gb := by omega
  have hbG : ¬ b1_ = Gb := by omega
  have hbG2 : ¬ Gb = b1_ := by omega
  have hG0 : w.heap.size ≤ Gb := by have := b01.size; omega
  generalize (w1.alloc (.cells #[.int .i64 2, .int .i64 f, .int .i64 0, .int .i64 0, .int .i64 0, .int .i64 0, .int .i64 0, .int .i64 0, .slice none 0 0, .slice none 0 0, .int .i64 0, .int .i64 0, .int .i64 0, .int .i64 0, .slice none 0 0] 27)).drew = u at hbU gi gs rU ⊢
  clear gs1 b01 hrl hGb r1 e1 e2 hbl
  obtain ⟨M, hM⟩ : ∃ M, N - 3 = M := ⟨_, rfl⟩
  have s3 : (3 : Int) ≤ (N : Int) := by omega
  have hMN : N = M + 3 := by omega
  have HMN := hidT hMN
  clear hMN
  obtain ⟨X, hX⟩ : ∃ X, (if c1 = 3 then some (⟨b1_, o1, none⟩ : Addr) else some ⟨b1_, o1 + 3, none⟩) = X := ⟨_, rfl⟩
  have rd : Rd u X M (c1 - 3) (C.drop 3) := by rw [← hX, ← hM]; exact cut3 rU hC3
  obtain ⟨⟨y0, y1⟩, Y1, Y2⟩ := cells15 gi
  clear Y1 Y2
  have hT := rtakeF_any X M (c1 - 3) (C.drop 3) u rd (by have := HMN.out; omega)
  rw [ht] at hT
  go_wp2_with fail
  with_reducible refine hT.mono ?_
  rintro en u2 ⟨rfl, b2⟩
  clear hT y0 y1
  have hGu : Gb < u.heap.size := blk_ltP gi
  have hru : r < u.heap.size := blk_ltP gs
  have bA : Below u.heap.size u (u2.alloc (.cells zcells 25)) := pkeep_alloc b2 _
  have gi3 := (bA.block _ hGu).trans gi
  have gs3 := (bA.block _ hru).trans gs
  go_wp2_with (
    refine wpList_stP rfl 25 (.tmp 58) (.tmp 57) rfl Gb 2 zcells rfl rfl _ _ #[.int .i64 2, .int .i64 f, .int .i64 0, .int .i64 0, .int .i64 0, .int .i64 0, .int .i64 0, .int .i64 0, .slice none 0 0, .slice none 0 0, .int .i64 0, .int .i64 0, .int .i64 0, .int .i64 0, .slice none 0 0] gi3 info25 (Nat.le_of_ble_eq_true rfl) (all8 rfl rfl rfl rfl rfl rfl rfl rfl) rfl ?_
    intro u9 gi9 but9 bel9
    obtain ⟨⟨y0, y1⟩, ⟨y2, y3, y4, y5, y6, y7, y8, y9⟩, ⟨y10, y11, y12, y13, y14⟩⟩ := cells15 gi9)
  have hb9 := bel9 _ _ (bthen hbU bA) hG0
  have gs9 := (but9.2 r hGr).trans gs3
  clear y0 y1 y2 y3 y4 y5 y6 y7 y8 y9 y10 y11 y12 y13 y14
  obtain ⟨u, rfl⟩ : ∃ u_, u_ = u9 := ⟨_, rfl⟩
  have gi := gi9
  have gs := gs9
  have hbU := hb9
  have hqv : q = ⟨2, f, Item.It.zero, 0, 0, 0, 0, []⟩ := by rw [← HQ.out, Pkt.refC, if_pos (by decide), ht]; rfl
  have ip : IsPkt u (.agg #[.int .i64 2, .int .i64 f, .int .i64 0, .int .i64 0, .int .i64 0, .int .i64 0, .int .i64 0, .int .i64 0, .slice none 0 0, .slice none 0 0, .int .i64 0, .int .i64 0, .int .i64 0, .int .i64 0, .slice none 0 0]) q := by rw [hqv]; exact nil_pk u 2 f 0 0 0 0
  have IPB : Hid (∀ w2 w9, Below u.heap.size u w2 → But r w2 w9 → IsPkt w9 (.agg #[.int .i64 2, .int .i64 f, .int .i64 0, .int .i64 0, .int .i64 0, .int .i64 0, .int .i64 0, .int .i64 0, .slice none 0 0, .slice none 0 0, .int .i64 0, .int .i64 0, .int .i64 0, .int .i64 0, .slice none 0 0]) q) := fun w2 w9 hb2 hbut => by rw [hqv]; exact nil_pk w9 2 f 0 0 0 0
  obtain ⟨cs, hcs⟩ : ∃ cs : Array Value, #[.int .i64 2, .int .i64 f, .int .i64 0, .int .i64 0, .int .i64 0, .int .i64 0, .int .i64 0, .int .i64 0, .slice none 0 0, .slice none 0 0, .int .i64 0, .int .i64 0, .int .i64 0, .int .i64 0, .slice none 0 0] = cs := ⟨_, rfl⟩
  have sz : cs.size = 15 := by rw [← hcs]; rfl
  have oc : cs.all (·.oneCell') = true := by rw [← hcs]; exact (all15 rfl rfl rfl rfl rfl rfl rfl rfl rfl rfl rfl rfl rfl rfl rfl)
  skip
  rw [hcs] at ip IPB ⊢
  have gi := (by rw [hcs] at gi; exact gi : u.heap[Gb]? = some (.cells cs 27 (0, 0)))
  clear hcs
  clear hqv HQ gi9 gs9 hb9 but9 bel9 gi3 gs3
  have hM := rpmay_any _ q u ip
  with_reducible refine hM.mono ?_
  rintro en u5 ⟨rfl, b5⟩
  have gs5 := (b5.block _ (blk_ltP gs)).trans gs
  have gi5 := (b5.block _ (blk_ltP gi)).trans gi
  have bU5 := bthen hbU b5
  have ip5 := ip.below b5
  clear hM gs
  have GI5 := fun w' (hb : Below u5.heap.size u5 w') => (hb.block _ (blk_ltP gi5)).trans gi5
  skip
  cases hm : Pkt.may q with
  | false =>
    have HT : Hid (Pkt.tried q l = none) := hidT (by rw [Pkt.tried, if_neg (by rw [hm]; simp)])
    go_wp2_with fail
    refine wp_region_held_drew (S := fun w' => Below u5.heap.size u5 w') (by kernel_rfl) ?_ (fun hHeld => ?_)
    · exact (Below.refl _ _).drew
    refine wpAnyH_take (i := 0) (oi := { dst := some 117, op := Op.move (Operand.tmp 19), type := 4, pos := "ref.go:92", after := #[], guard := none }) (v := ?_) rfl (by kernel_rfl) (by kernel_rfl) (by kernel_rfl) (fun _ _ _ h => h) (Or.inl ⟨by rfl, ?_⟩) (by assumption) ?_
    rotate_left
    · (intro w_ hS_; go_simp; try with_reducible rfl)
    simp only [Act.put, List.setIfInBounds_toArray, List.set_cons_zero, List.set_cons_succ]
    refine wpAnyH_take (i := 1) (oi := { dst := some 118, op := Op.unOp UnOp.not 4 (Operand.tmp 117), type := 4, pos := "ref.go:92", after := #[{ on := 0, ground := Ground.data }], guard := none }) (v := ?_) rfl (by kernel_rfl) (by kernel_rfl) (by kernel_rfl) (fun _ _ _ h => h) (Or.inl ⟨by rfl, ?_⟩) (by assumption) ?_
    rotate_left
    · (intro w_ hS_; go_simp; try with_reducible rfl)
    simp only [Act.put, List.setIfInBounds_toArray, List.set_cons_zero, List.set_cons_succ]
    refine wpAnyH_take (i := 2) (oi := { dst := some 119, op := Op.move (Operand.tmp 118), type := 4, pos := "ref.go:92", after := #[{ on := 1, ground := Ground.data }], guard := none }) (v := ?_) rfl (by kernel_rfl) (by kernel_rfl) (by kernel_rfl) (fun _ _ _ h => h) (Or.inl ⟨by rfl, ?_⟩) (by assumption) ?_
    rotate_left
    · (intro w_ hS_; go_simp; try with_reducible rfl)
    simp only [Act.put, List.setIfInBounds_toArray, List.set_cons_zero, List.set_cons_succ]
    refine wpAnyH_take (i := 3) (oi := { dst := some 120, op := Op.load 27 (Operand.tmp 6), type := 27, pos := "ref.go:92", after := #[{ on := 2, ground := Ground.guard }], guard := some (2, false) }) (v := undef) rfl (by kernel_rfl) (by kernel_rfl) (by kernel_rfl) (fun _ _ _ h => h) (Or.inr ⟨by rfl, rfl⟩) (by assumption) ?_
    simp only [Act.put, List.setIfInBounds_toArray, List.set_cons_zero, List.set_cons_succ]
    refine wpAnyH_take (i := 4) (oi := { dst := some 121, op := Op.call { callee := Callee.value (Operand.func 16), args := #[Operand.tmp 120], argTypes := #[27] }, type := 23, pos := "ref.go:92", after := #[{ on := 3, ground := Ground.data }, { on := 2, ground := Ground.chain }, { on := 2, ground := Ground.guard }], guard := some (2, false) }) (v := undef) rfl (by kernel_rfl) (by kernel_rfl) (by kernel_rfl) (fun _ _ _ h => h) (Or.inr ⟨by rfl, rfl⟩) (by assumption) ?_
    simp only [Act.put, List.setIfInBounds_toArray, List.set_cons_zero, List.set_cons_succ]
    refine wpAnyH_take (i := 5) (oi := { dst := some 122, op := Op.convert 23 9 (Operand.tmp 121), type := 9, pos := "ref.go:92", after := #[{ on := 4, ground := Ground.data }, { on := 2, ground := Ground.guard }], guard := some (2, false) }) (v := undef) rfl (by kernel_rfl) (by kernel_rfl) (by kernel_rfl) (fun _ _ _ h => h) (Or.inr ⟨by rfl, rfl⟩) (by assumption) ?_
    simp only [Act.put, List.setIfInBounds_toArray, List.set_cons_zero, List.set_cons_succ]
    refine wpAnyH_take (i := 6) (oi := { dst := some 123, op := Op.move (Operand.tmp 0), type := 23, pos := "ref.go:92", after := #[{ on := 2, ground := Ground.guard }], guard := some (2, false) }) (v := undef) rfl (by kernel_rfl) (by kernel_rfl) (by kernel_rfl) (fun _ _ _ h => h) (Or.inr ⟨by rfl, rfl⟩) (by assumption) ?_
    simp only [Act.put, List.setIfInBounds_toArray, List.set_cons_zero, List.set_cons_succ]
    refine wpAnyH_take (i := 7) (oi := { dst := some 124, op := Op.convert 23 9 (Operand.tmp 123), type := 9, pos := "ref.go:92", after := #[{ on := 6, ground := Ground.data }, { on := 2, ground := Ground.guard }], guard := some (2, false) }) (v := undef) rfl (by kernel_rfl) (by kernel_rfl) (by kernel_rfl) (fun _ _ _ h => h) (Or.inr ⟨by rfl, rfl⟩) (by assumption) ?_
    simp only [Act.put, List.setIfInBounds_toArray, List.set_cons_zero, List.set_cons_succ]
    refine wpAnyH_take (i := 8) (oi := { dst := some 125, op := Op.binOp BinOp.neq 9 (Operand.tmp 122) (Operand.tmp 124) 9, type := 4, pos := "ref.go:92", after := #[{ on := 5, ground := Ground.data }, { on := 7, ground := Ground.data }, { on := 2, ground := Ground.guard }], guard := some (2, false) }) (v := undef) rfl (by kernel_rfl) (by kernel_rfl) (by kernel_rfl) (fun _ _ _ h => h) (Or.inr ⟨by rfl, rfl⟩) (by assumption) ?_
    simp only [Act.put, List.setIfInBounds_toArray, List.set_cons_zero, List.set_cons_succ]
    refine wpAnyH_take (i := 9) (oi := { dst := some 126, op := Op.pick (Operand.tmp 119) (Operand.const (Value.bool true)) (Operand.tmp 125), type := 4, pos := "ref.go:92", after := #[{ on := 2, ground := Ground.data }, { on := 8, ground := Ground.data }], guard := none }) (v := ?_) rfl (by kernel_rfl) (by kernel_rfl) (by kernel_rfl) (fun _ _ _ h => h) (Or.inl ⟨by rfl, ?_⟩) (by assumption) ?_
    rotate_left
    · (intro w_ hS_; go_simp; try with_reducible rfl)
    simp only [Act.put, List.setIfInBounds_toArray, List.set_cons_zero, List.set_cons_succ]
    refine wpAnyH_done (by kernel_rfl) ?_ _
    go_wp2_with (first
      | (refine wpList_stI rfl 27 (.tmp 2) (.tmp 127) rfl r zpkt rfl rfl _ _ gs5 info37 rfl (all15 rfl rfl rfl rfl rfl rfl rfl rfl rfl rfl rfl rfl rfl rfl rfl) ?_
         intro w9 hg9 hbut9 hbel9))
    exact bodyPost_ret (results_cellP rfl _ w9 r zpkt rfl rfl hg9 _ rfl) rfl (by obtain ⟨z1, z2⟩ := HZ.out _ HT.out; rw [z1, z2]; exact ⟨_, rfl, zero_pkt _, hbel9 _ _ (bthen bU5 (Below.refl _ _).drew) hr0⟩)
  | true =>
    obtain ⟨BX, HBX⟩ : ∃ BX, Hid (Pkt.bytes q = BX) := ⟨_, hidT rfl⟩
    have hBy := rpbytes_any (.agg cs) q u5.drew ip5
    rw [HBX.out] at hBy
    have sl := fun w' (hb : Below u5.heap.size u5 w') => strs (h.below bU5) w' hb
    have qb := str_beq BX l
    by_cases hbx : BX = l
    · skip
      have HT : Hid (Pkt.tried q l = some q) := hidT (by rw [Pkt.tried, if_pos ⟨hm, HBX.out.trans hbx⟩])
      rw [decide_eq_true hbx] at qb
      clear hbx
      have qn : ((str BX).toList != (str l).toList) = false := by simp only [bne, qb]; rfl
      go_wp2_with fail
      refine wp_region_held_drew (S := fun w' => Below u5.heap.size u5 w') (by kernel_rfl) ?_ (fun hHeld => ?_)
      · exact (Below.refl _ _).drew
      refine wpAnyH_take (i := 0) (oi := { dst := some 117, op := Op.move (Operand.tmp 19), type := 4, pos := "ref.go:92", after := #[], guard := none }) (v := ?_) rfl (by kernel_rfl) (by kernel_rfl) (by kernel_rfl) (fun _ _ _ h => h) (Or.inl ⟨by rfl, ?_⟩) (by assumption) ?_
      rotate_left
      · (intro w_ hS_; go_simp; try with_reducible rfl)
      simp only [Act.put, List.setIfInBounds_toArray, List.set_cons_zero, List.set_cons_succ]
      refine wpAnyH_take (i := 1) (oi := { dst := some 118, op := Op.unOp UnOp.not 4 (Operand.tmp 117), type := 4, pos := "ref.go:92", after := #[{ on := 0, ground := Ground.data }], guard := none }) (v := ?_) rfl (by kernel_rfl) (by kernel_rfl) (by kernel_rfl) (fun _ _ _ h => h) (Or.inl ⟨by rfl, ?_⟩) (by assumption) ?_
      rotate_left
      · (intro w_ hS_; go_simp; try with_reducible rfl)
      simp only [Act.put, List.setIfInBounds_toArray, List.set_cons_zero, List.set_cons_succ]
      refine wpAnyH_take (i := 2) (oi := { dst := some 119, op := Op.move (Operand.tmp 118), type := 4, pos := "ref.go:92", after := #[{ on := 1, ground := Ground.data }], guard := none }) (v := ?_) rfl (by kernel_rfl) (by kernel_rfl) (by kernel_rfl) (fun _ _ _ h => h) (Or.inl ⟨by rfl, ?_⟩) (by assumption) ?_
      rotate_left
      · (intro w_ hS_; go_simp; try with_reducible rfl)
      simp only [Act.put, List.setIfInBounds_toArray, List.set_cons_zero, List.set_cons_succ]
      refine wpAnyH_take (i := 3) (oi := { dst := some 120, op := Op.load 27 (Operand.tmp 6), type := 27, pos := "ref.go:92", after := #[{ on := 2, ground := Ground.guard }], guard := some (2, false) }) (v := .agg cs) rfl (by kernel_rfl) (by kernel_rfl) (by kernel_rfl) (fun _ _ _ h => h) (Or.inl ⟨by rfl, fun w_ hS_ => run_ldP (.tmp 6) rfl Gb rfl cs sz (GI5 w_ hS_)⟩) (by assumption) ?_
      simp only [Act.put, List.setIfInBounds_toArray, List.set_cons_zero, List.set_cons_succ]
      refine wpAnyH_take (i := 6) (oi := { dst := some 123, op := Op.move (Operand.tmp 0), type := 23, pos := "ref.go:92", after := #[{ on := 2, ground := Ground.guard }], guard := some (2, false) }) (v := ?_) rfl (by kernel_rfl) (by kernel_rfl) (by kernel_rfl) (fun _ _ _ h => h) (Or.inl ⟨by rfl, ?_⟩) (by assumption) ?_
      rotate_left
      · (intro w_ hS_; go_simp; try with_reducible rfl)
      simp only [Act.put, List.setIfInBounds_toArray, List.set_cons_zero, List.set_cons_succ]
      refine wpAnyH_take (i := 7) (oi := { dst := some 124, op := Op.convert 23 9 (Operand.tmp 123), type := 9, pos := "ref.go:92", after := #[{ on := 6, ground := Ground.data }, { on := 2, ground := Ground.guard }], guard := some (2, false) }) (v := ?_) rfl (by kernel_rfl) (by kernel_rfl) (by kernel_rfl) (fun _ _ _ h => h) (Or.inl ⟨by rfl, ?_⟩) (by assumption) ?_
      rotate_left
      · (intro w_ hS_; go_simp; try with_reducible rfl)
      simp only [Act.put, List.setIfInBounds_toArray, List.set_cons_zero, List.set_cons_succ]
      refine wpAnyH_ready (rs := [4]) (by kernel_rfl) (by simp) ?_
      refine AllReadyH.cons (o := { dst := some 121, op := Op.call { callee := Callee.value (Operand.func 16), args := #[Operand.tmp 120], argTypes := #[27] }, type := 23, pos := "ref.go:92", after := #[{ on := 3, ground := Ground.data }, { on := 2, ground := Ground.chain }, { on := 2, ground := Ground.guard }], guard := some (2, false) }) rfl (fun K hK => ?_) AllReadyH.nil
      go_simp
      refine hBy.mono ?_
      rintro en w6 ⟨A6, n6, rfl, o6, h6⟩
      have b6 : Below u5.heap.size u5 w6 := undrew h6
      have s6 := strs o6.same w6 (Below.refl _ _)
      dsimp only
      refine hK.out _ _ ?_ (fun hHeld => ?_)
      · exact b6
      clear hK K
      refine wpAnyH_ready (rs := [5]) (by kernel_rfl) (by simp) ?_
      refine AllReadyH.cons (o := { dst := some 122, op := Op.convert 23 9 (Operand.tmp 121), type := 9, pos := "ref.go:92", after := #[{ on := 4, ground := Ground.data }, { on := 2, ground := Ground.guard }], guard := some (2, false) }) rfl (fun K hK => ?_) AllReadyH.nil
      go_simp
      refine hK.out _ _ ?_ (fun hHeld => ?_)
      · exact b6
      clear hK K
      clear s6
      refine wpAnyH_take (i := 8) (oi := { dst := some 125, op := Op.binOp BinOp.neq 9 (Operand.tmp 122) (Operand.tmp 124) 9, type := 4, pos := "ref.go:92", after := #[{ on := 5, ground := Ground.data }, { on := 7, ground := Ground.data }, { on := 2, ground := Ground.guard }], guard := some (2, false) }) (v := ?_) rfl (by kernel_rfl) (by kernel_rfl) (by kernel_rfl) (fun _ _ _ h => h) (Or.inl ⟨by rfl, ?_⟩) (by assumption) ?_
      rotate_left
      · (intro w_ hS_; go_simp; try with_reducible rfl)
      simp only [Act.put, List.setIfInBounds_toArray, List.set_cons_zero, List.set_cons_succ]
      refine wpAnyH_take (i := 9) (oi := { dst := some 126, op := Op.pick (Operand.tmp 119) (Operand.const (Value.bool true)) (Operand.tmp 125), type := 4, pos := "ref.go:92", after := #[{ on := 2, ground := Ground.data }, { on := 8, ground := Ground.data }], guard := none }) (v := ?_) rfl (by kernel_rfl) (by kernel_rfl) (by kernel_rfl) (fun _ _ _ h => h) (Or.inl ⟨by rfl, ?_⟩) (by assumption) ?_
      rotate_left
      · (intro w_ hS_; go_simp; try with_reducible rfl)
      simp only [Act.put, List.setIfInBounds_toArray, List.set_cons_zero, List.set_cons_succ]
      refine wpAnyH_done (by kernel_rfl) ?_ _
      have gs6 := (b6.block _ (blk_ltP gs5)).trans gs5
      have bU6 := bthen bU5 b6
      have gi6 := GI5 w6 b6
      go_wp2_with (first
        | (refine wpList_ldP rfl (.tmp 6) rfl Gb rfl cs sz gi6 ?_)
        | (refine wpList_stI rfl 27 (.tmp 2) (.tmp 128) rfl r cs rfl rfl _ _ gs6 (by rw [sz]; exact info37) (by rw [sz]; rfl) oc ?_
           intro w9 hg9 hbut9 hbel9))
      exact bodyPost_ret (results_cellP rfl _ w9 r cs sz rfl hg9 _ rfl) rfl (by obtain ⟨z1, z2⟩ := HZ.out _ HT.out; rw [z1, z2]; exact ⟨_, rfl, IPB.out w6 w9 (bthen b5 b6) hbut9, hbel9 _ _ bU6 hr0⟩)
    · skip
      have HT : Hid (Pkt.tried q l = none) := hidT (by rw [Pkt.tried, if_neg (fun hh => hbx (HBX.out.symm.trans hh.2))])
      rw [decide_eq_false hbx] at qb
      clear hbx
      have qn : ((str BX).toList != (str l).toList) = true := by simp only [bne, qb]; rfl
      go_wp2_with fail
      refine wp_region_held_drew (S := fun w' => Below u5.heap.size u5 w') (by kernel_rfl) ?_ (fun hHeld => ?_)
      · exact (Below.refl _ _).drew
      refine wpAnyH_take (i := 0) (oi := { dst := some 117, op := Op.move (Operand.tmp 19), type := 4, pos := "ref.go:92", after := #[], guard := none }) (v := ?_) rfl (by kernel_rfl) (by kernel_rfl) (by kernel_rfl) (fun _ _ _ h => h) (Or.inl ⟨by rfl, ?_⟩) (by assumption) ?_
      rotate_left
      · (intro w_ hS_; go_simp; try with_reducible rfl)
      simp only [Act.put, List.setIfInBounds_toArray, List.set_cons_zero, List.set_cons_succ]
      refine wpAnyH_take (i := 1) (oi := { dst := some 118, op := Op.unOp UnOp.not 4 (Operand.tmp 117), type := 4, pos := "ref.go:92", after := #[{ on := 0, ground := Ground.data }], guard := none }) (v := ?_) rfl (by kernel_rfl) (by kernel_rfl) (by kernel_rfl) (fun _ _ _ h => h) (Or.inl ⟨by rfl, ?_⟩) (by assumption) ?_
      rotate_left
      · (intro w_ hS_; go_simp; try with_reducible rfl)
      simp only [Act.put, List.setIfInBounds_toArray, List.set_cons_zero, List.set_cons_succ]
      refine wpAnyH_take (i := 2) (oi := { dst := some 119, op := Op.move (Operand.tmp 118), type := 4, pos := "ref.go:92", after := #[{ on := 1, ground := Ground.data }], guard := none }) (v := ?_) rfl (by kernel_rfl) (by kernel_rfl) (by kernel_rfl) (fun _ _ _ h => h) (Or.inl ⟨by rfl, ?_⟩) (by assumption) ?_
      rotate_left
      · (intro w_ hS_; go_simp; try with_reducible rfl)
      simp only [Act.put, List.setIfInBounds_toArray, List.set_cons_zero, List.set_cons_succ]
      refine wpAnyH_take (i := 3) (oi := { dst := some 120, op := Op.load 27 (Operand.tmp 6), type := 27, pos := "ref.go:92", after := #[{ on := 2, ground := Ground.guard }], guard := some (2, false) }) (v := .agg cs) rfl (by kernel_rfl) (by kernel_rfl) (by kernel_rfl) (fun _ _ _ h => h) (Or.inl ⟨by rfl, fun w_ hS_ => run_ldP (.tmp 6) rfl Gb rfl cs sz (GI5 w_ hS_)⟩) (by assumption) ?_
      simp only [Act.put, List.setIfInBounds_toArray, List.set_cons_zero, List.set_cons_succ]
      refine wpAnyH_take (i := 6) (oi := { dst := some 123, op := Op.move (Operand.tmp 0), type := 23, pos := "ref.go:92", after := #[{ on := 2, ground := Ground.guard }], guard := some (2, false) }) (v := ?_) rfl (by kernel_rfl) (by kernel_rfl) (by kernel_rfl) (fun _ _ _ h => h) (Or.inl ⟨by rfl, ?_⟩) (by assumption) ?_
      rotate_left
      · (intro w_ hS_; go_simp; try with_reducible rfl)
      simp only [Act.put, List.setIfInBounds_toArray, List.set_cons_zero, List.set_cons_succ]
      refine wpAnyH_take (i := 7) (oi := { dst := some 124, op := Op.convert 23 9 (Operand.tmp 123), type := 9, pos := "ref.go:92", after := #[{ on := 6, ground := Ground.data }, { on := 2, ground := Ground.guard }], guard := some (2, false) }) (v := ?_) rfl (by kernel_rfl) (by kernel_rfl) (by kernel_rfl) (fun _ _ _ h => h) (Or.inl ⟨by rfl, ?_⟩) (by assumption) ?_
      rotate_left
      · (intro w_ hS_; go_simp; try with_reducible rfl)
      simp only [Act.put, List.setIfInBounds_toArray, List.set_cons_zero, List.set_cons_succ]
      refine wpAnyH_ready (rs := [4]) (by kernel_rfl) (by simp) ?_
      refine AllReadyH.cons (o := { dst := some 121, op := Op.call { callee := Callee.value (Operand.func 16), args := #[Operand.tmp 120], argTypes := #[27] }, type := 23, pos := "ref.go:92", after := #[{ on := 3, ground := Ground.data }, { on := 2, ground := Ground.chain }, { on := 2, ground := Ground.guard }], guard := some (2, false) }) rfl (fun K hK => ?_) AllReadyH.nil
      go_simp
      refine hBy.mono ?_
      rintro en w6 ⟨A6, n6, rfl, o6, h6⟩
      have b6 : Below u5.heap.size u5 w6 := undrew h6
      have s6 := strs o6.same w6 (Below.refl _ _)
      dsimp only
      refine hK.out _ _ ?_ (fun hHeld => ?_)
      · exact b6
      clear hK K
      refine wpAnyH_ready (rs := [5]) (by kernel_rfl) (by simp) ?_
      refine AllReadyH.cons (o := { dst := some 122, op := Op.convert 23 9 (Operand.tmp 121), type := 9, pos := "ref.go:92", after := #[{ on := 4, ground := Ground.data }, { on := 2, ground := Ground.guard }], guard := some (2, false) }) rfl (fun K hK => ?_) AllReadyH.nil
      go_simp
      refine hK.out _ _ ?_ (fun hHeld => ?_)
      · exact b6
      clear hK K
      clear s6
      refine wpAnyH_take (i := 8) (oi := { dst := some 125, op := Op.binOp BinOp.neq 9 (Operand.tmp 122) (Operand.tmp 124) 9, type := 4, pos := "ref.go:92", after := #[{ on := 5, ground := Ground.data }, { on := 7, ground := Ground.data }, { on := 2, ground := Ground.guard }], guard := some (2, false) }) (v := ?_) rfl (by kernel_rfl) (by kernel_rfl) (by kernel_rfl) (fun _ _ _ h => h) (Or.inl ⟨by rfl, ?_⟩) (by assumption) ?_
      rotate_left
      · (intro w_ hS_; go_simp; try with_reducible rfl)
      simp only [Act.put, List.setIfInBounds_toArray, List.set_cons_zero, List.set_cons_succ]
      refine wpAnyH_take (i := 9) (oi := { dst := some 126, op := Op.pick (Operand.tmp 119) (Operand.const (Value.bool true)) (Operand.tmp 125), type := 4, pos := "ref.go:92", after := #[{ on := 2, ground := Ground.data }, { on := 8, ground := Ground.data }], guard := none }) (v := ?_) rfl (by kernel_rfl) (by kernel_rfl) (by kernel_rfl) (fun _ _ _ h => h) (Or.inl ⟨by rfl, ?_⟩) (by assumption) ?_
      rotate_left
      · (intro w_ hS_; go_simp; try with_reducible rfl)
      simp only [Act.put, List.setIfInBounds_toArray, List.set_cons_zero, List.set_cons_succ]
      refine wpAnyH_done (by kernel_rfl) ?_ _
      have gs6 := (b6.block _ (blk_ltP gs5)).trans gs5
      have bU6 := bthen bU5 b6
      have gi6 := GI5 w6 b6
      go_wp2_with (first
        | (refine wpList_stI rfl 27 (.tmp 2) (.tmp 127) rfl r zpkt rfl rfl _ _ gs6 info37 rfl (all15 rfl rfl rfl rfl rfl rfl rfl rfl rfl rfl rfl rfl rfl rfl rfl) ?_
           intro w9 hg9 hbut9 hbel9))
      exact bodyPost_ret (results_cellP rfl _ w9 r zpkt rfl rfl hg9 _ rfl) rfl (by obtain ⟨z1, z2⟩ := HZ.out _ HT.out; rw [z1, z2]; exact ⟨_, rfl, zero_pkt _, hbel9 _ _ bU6 hr0⟩)
end Go.Proofs.YtahkhideepncfaaDoor
