/- The document's Say. -/
import Derived.Test.YtdchgnmkeefffaaSq6
import Derived.Test.YtdchgnmkeefffaaRBX
import Derived.Test.YtdchgnmkeefffaaSqW
set_option maxRecDepth 100000
namespace Go.Proofs.Ytdchgnmkeefffaa
open Go.RowKit
set_option linter.unusedVariables false

theorem next_mod {me j n wh : Nat} (h : (me + j) % n = wh) (hw : wh < n) : (me + (j + 1)) % n = if wh + 1 = n then 0 else wh + 1 := by
  rw [← Nat.add_assoc, Nat.add_mod, h]
  by_cases h1 : n = 1
  · subst h1
    have : wh = 0 := by omega
    subst this
    simp
  · rw [Nat.mod_eq_of_lt (show 1 < n by omega)]
    split
    · rename_i h2; rw [h2, Nat.mod_self]
    · exact Nat.mod_eq_of_lt (by omega)

set_option maxHeartbeats 16000000 in
theorem rsay_any (t : Seqr.Tn) (A : Option Addr) (n c : Nat) (ls : List Lane.Ln) (me : Nat) (quota : Int) (w : World) (h : RdL (fun _ => True) w A n c ls) (hn : n ≤ 64) (hme : me < n) (hq : 1 ≤ quota ∧ quota ≤ 64) (hu : 0 ≤ t.used ∧ t.used ≤ 2305843009213693952) :
    Calls Try.prog 14 #[.agg #[.int .i64 (t.who : Int), .int .i64 t.used], .slice A n c, .int .i64 (me : Int), .int .i64 quota] w (SayIs w (Seqr.say t ls me quota)) := by
  have hle := h.le
  have HLEN := hidT h.size
  obtain ⟨t1, t2, t3⟩ := two_alloc w (.cells #[.int .i64 (t.who : Int), .int .i64 t.used] 23) (.cells #[.int .i64 0, .int .i64 0, .int .i64 0, .int .i64 0, .int .i64 0, .int .i64 0, .slice none 0 0, .slice none 0 0] 35)
  obtain ⟨W, hW⟩ : ∃ W, (w.alloc (.cells #[.int .i64 (t.who : Int), .int .i64 t.used] 23)).alloc (.cells #[.int .i64 0, .int .i64 0, .int .i64 0, .int .i64 0, .int .i64 0, .int .i64 0, .slice none 0 0, .slice none 0 0] 35) = W := ⟨_, rfl⟩
  have HSW : Hid (W.heap.size = w.heap.size + 2) := by rw [← hW, size_alloc, size_alloc]; exact hidT rfl
  rw [hW] at t1 t2 t3
  have HW := hidT hW
  obtain ⟨q, hqq⟩ : ∃ q, w.heap.size = q := ⟨_, rfl⟩
  have HQ := hidT hqq
  rw [hqq] at t1 t2
  have T1 := hidT t1
  have T2 := hidT t2
  have T3 := hidT t3
  have HR := hidT (h.below t3)
  clear t1 t2 t3 hW h
  go_enter Try.func14, Try.ntmps14
  go_upto_region 1 with fail
  rw [HW.out]
  clear hqq
  obtain ⟨v0, v1⟩ := cells2 T1.out
  by_cases hwho : t.who = me
  · have p1 : ((t.who : Int) != (me : Int)) = false := by simp [hwho]
    have p1' : (t.who != me) = false := by simp [hwho]
    have HWHO := hidT hwho
    obtain ⟨b, o, l, BB, mm, dd, EA, en, ec, rfl, hlx, hil, hcs⟩ := HR.out.told hme
    have hlane : Seqr.laneAt ls me = l := Seqr.laneAt_of hlx
    have hc := rcontrol_any _ l W hil
    obtain ⟨z0, z1, z2, z3, z4⟩ := hcs W (Below.refl _ _)
    have x1 : (0 : Int) ≤ (me : Int) := by omega
    have x2 : (me : Int) < (n : Int) := by omega
    have HLANE := hidT hlane
    obtain ⟨x, hx⟩ : ∃ x, (Lane.control l).getD Lane.En.zero = x := ⟨_, rfl⟩
    obtain ⟨yes, hyes⟩ : ∃ b, (Lane.control l).isSome = b := ⟨_, rfl⟩
    have HYES := hidT hyes
    clear hwho hlx hil hcs hlane
    go_wp2_with fail
    with_reducible refine hc.mono ?_
    rintro e w2 ⟨v2, rfl, hi2, hb2⟩
    rw [hx] at hi2
    rw [hyes]
    obtain ⟨BA, bn, bc, LA, ln, lc, rfl, _, _, _, _⟩ := hi2
    have n3 := nkeep w2 (.cells #[.int .i64 x.k, .int .i64 x.q, .slice BA bn bc, .slice LA ln lc, .bool x.h] 59)
    obtain ⟨w3, hw3⟩ : ∃ w3, w2.alloc (.cells #[.int .i64 x.k, .int .i64 x.q, .slice BA bn bc, .slice LA ln lc, .bool x.h] 59) = w3 := ⟨_, rfl⟩
    have nb3 := bthen hb2 n3
    rw [hw3] at nb3
    have HW3 := hidT hw3
    have B3 := hidT (bthen T3.out nb3)
    have Q3 := hidT (keepH T1.out nb3)
    have P3 := hidT (keepH T2.out nb3)
    have R3 := hidT (HR.out.below nb3)
    clear hc hx hyes hb2 n3 hw3 nb3 z0 z1 z2 z3 z4 v0 v1
    go_upto_region 4 with fail
    rw [HW3.out]
    obtain ⟨v0, v1⟩ := cells2 Q3.out
    cases yes with
    | true =>
      have HSAY : Hid (Seqr.say t ls me quota = none) := hidT (Seqr.say_waits (by rw [HLANE.out]; exact HYES.out))
      have y3 := P3.out
      clear v0 v1
      go_wp2_with (
        refine wpList_stI rfl 35 _ _ rfl (q + 1) #[.int .i64 0, .int .i64 0, .int .i64 0, .int .i64 0, .int .i64 0, .int .i64 0, .slice none 0 0, .slice none 0 0] rfl rfl _ _ y3 infoIt rfl (by simp [Value.oneCell']) ?_
        intro w7 hg7 hbut hbel)
      try simp only [Exit.jump]
      obtain ⟨e0, e1, e2, e3, e4, e5, e6, e7⟩ := cells8x hg7
      have hqq := HQ.out
      exact bodyPost_ret (v := .tuple #[.agg #[.int .i64 0, .int .i64 0, .int .i64 0, .int .i64 0, .int .i64 0, .int .i64 0, .slice none 0 0, .slice none 0 0], .bool false]) (by simp [results, Try.results14, go_sem, e0, e1, e2, e3, e4, e5, e6, e7]) rfl
        (by rw [HSAY.out]; exact ⟨_, rfl, IsItemH.zero' _ _, hbel _ _ B3.out (by omega)⟩)
    | false =>
      obtain ⟨K, hK⟩ : ∃ K, (quota - t.used).toNat = K := ⟨_, rfl⟩
      have HK := hidT hK
      have HSAID : Hid (Seqr.saidL ls me (quota - t.used) = (Seqr.saysOf ls n me n).take K) := hidT (by unfold Seqr.saidL; rw [hK, HLEN.out])
      have u1 := hu.1
      have u2 := hu.2
      have z1 := hq.1
      have z2 := hq.2
      have hKm : K ≤ 64 := by omega
      have y4 := alloc_at w3 (.cells #[.int .i64 2, .int .i64 0, .int .i64 0, .int .i64 0, .int .i64 0, .int .i64 0, .slice none 0 0, .slice none 0 0] 35) _ rfl
      have n4 := nkeep w3 (.cells #[.int .i64 2, .int .i64 0, .int .i64 0, .int .i64 0, .int .i64 0, .int .i64 0, .slice none 0 0, .slice none 0 0] 35)
      obtain ⟨pi, hpi⟩ : ∃ p, w3.heap.size = p := ⟨_, rfl⟩
      have HPI := hidT hpi
      have HS4 : Hid ((w3.alloc (.cells #[.int .i64 2, .int .i64 0, .int .i64 0, .int .i64 0, .int .i64 0, .int .i64 0, .slice none 0 0, .slice none 0 0] 35)).heap.size = pi + 1) := hidT (by rw [size_alloc, hpi])
      rw [hpi] at y4
      have P4 := hidT y4
      have B4 := hidT n4
      obtain ⟨W4, hW4⟩ : ∃ W, w3.alloc (.cells #[.int .i64 2, .int .i64 0, .int .i64 0, .int .i64 0, .int .i64 0, .int .i64 0, .slice none 0 0, .slice none 0 0] 35) = W := ⟨_, rfl⟩
      rw [hW4] at HS4 P4 B4
      have HW4 := hidT hW4
      clear hK y4 n4 hW4 hu hq
      go_wp2_with fail
      rw [HW4.out]
      clear hpi
      go_loopw [13, 14] (fun x13 x14 wr => ∃ (j : Nat) (B : Option Addr) (m d : Nat), j ≤ n ∧ x14 = .int .i64 j ∧ x13 = .int .i64 (((me + j) % n : Nat) : Int) ∧ Hid (wr.heap[pi]? = some (.cells #[.int .i64 2, .int .i64 0, .int .i64 0, .int .i64 0, .int .i64 0, .int .i64 0, .slice B m d, .slice none 0 0] 35 (0, 0))) ∧ Hid (OwnV wr (pi + 1) 3 (.slice B m d) m (is ((Seqr.saysOf ls n me j).take K))) ∧ Hid (Below w3.heap.size w3 wr) ∧ Hid (pi + 1 ≤ wr.heap.size)) (fun _ x14 _ => n - (intOf x14).toNat)
      case atStart => exact ⟨0, none, 0, 0, Nat.zero_le _, rfl, by rw [Nat.add_zero, Nat.mod_eq_of_lt hme], P4, hidT (by rw [Seqr.saysOf_zero, List.take_nil]; exact World.ownsRow_nil _ _ _ _), B4, hidT (by rw [HS4.out]; exact Nat.le_refl _)⟩
      case round =>
        obtain ⟨j, B, m, d, hj, rfl, rfl, HP, HO, XB, HZ⟩ := hrel
        obtain ⟨wo, rfl⟩ : ∃ wo, wo = wr := ⟨_, rfl⟩
        by_cases hjn : j < n
        · obtain ⟨wh, hwh⟩ : ∃ wh, (me + j) % n = wh := ⟨_, rfl⟩
          have hwn : wh < n := by rw [← hwh]; exact Nat.mod_lt _ (by omega)
          rw [hwh]
          obtain ⟨b', o', lw, BB, mm, dd, EA, en, ec, hbo, hxw, hiw, hcw⟩ := R3.out.told hwn
          injection hbo with hbo
          injection hbo with e1 e2
          subst e1 e2
          have hl : Seqr.laneAt ls wh = lw := Seqr.laneAt_of hxw
          obtain ⟨M, hM⟩ : ∃ M, Lane.many lw = M := ⟨_, rfl⟩
          have hMb : M ≤ 9223372036854775807 := by
            obtain ⟨_, _, _, _, _, _, _, hE, _, _⟩ := id hiw
            have h1 := hE.le
            have h2 := hE.size
            have h3 : Lane.many lw ≤ lw.es.length := List.length_filter_le _ _
            omega
          have HS : Hid (Seqr.saysOf ls n me (j + 1) = Seqr.saysOf ls n me j ++ List.replicate M (wh : Int)) := hidT (by rw [Seqr.saysOf_succ, hwh, hl, hM])
          have HNX := hidT (next_mod hwh hwn)
          have y1 : (0 : Int) ≤ (wh : Int) := by omega
          have y2 : (wh : Int) < (n : Int) := by omega
          obtain ⟨c0, c1, c2, c3, c4⟩ := hcw wo XB.out
          have hc := rmany_any _ lw wo (hiw.below XB.out)
          rw [hM] at hc
          clear hxw hiw hcw hl hwh hM v0 v1
          go_wp2_with fail
          with_reducible refine hc.mono ?_
          rintro e w5 ⟨rfl, hb5⟩
          have XB5 := hidT (bthen XB.out hb5)
          have HO5 := hidT (HO.out.later hb5)
          have HP5 := hidT (keepH HP.out hb5)
          have HZ5 : Hid (pi + 1 ≤ w5.heap.size) := hidT (Nat.le_trans HZ.out hb5.size)
          obtain ⟨X, HX⟩ : ∃ X, Hid (Seqr.saysOf ls n me j = X) := ⟨_, rfl⟩
          rw [HX.out] at HO5 HS
          clear hb5 c0 c1 c2 c3 c4 HO hc
          go_wp2_with fail
          go_loopw [16] (fun x16 wr => ∃ (k : Nat) (B : Option Addr) (m d : Nat), k ≤ M ∧ x16 = .int .i64 k ∧ Hid (wr.heap[pi]? = some (.cells #[.int .i64 2, .int .i64 0, .int .i64 0, .int .i64 0, .int .i64 0, .int .i64 0, .slice B m d, .slice none 0 0] 35 (0, 0))) ∧ Hid (OwnV wr (pi + 1) 3 (.slice B m d) m (is ((X ++ List.replicate k (wh : Int)).take K))) ∧ Hid (Below w3.heap.size w3 wr) ∧ Hid (pi + 1 ≤ wr.heap.size)) (fun x16 _ => M - (intOf x16).toNat)
          case atStart => exact ⟨0, B, m, d, Nat.zero_le _, rfl, HP5, hidT (by rw [List.replicate_zero, List.append_nil]; exact HO5.out), XB5, HZ5⟩
          case round =>
            obtain ⟨k, B2, m2, d2, hk, rfl, HP2, XO, XB2, HZ2⟩ := hrel
            obtain ⟨wi, rfl⟩ : ∃ wi, wi = wr := ⟨_, rfl⟩
            have hml := OwnV.size XO.out
            rw [is_length] at hml
            have hmK : m2 ≤ K := by rw [← hml, List.length_take]; omega
            obtain ⟨v0, v1⟩ := cells2 (keepH Q3.out XB2.out)
            obtain ⟨f0, f1, f2, f3, f4, f5, f6, f7⟩ := cells8x HP2.out
            have S1 : Hid (IntKind.i64.wrap (t.used + (m2 : Int)) = t.used + (m2 : Int)) := hidT (IntWalk.i64_in _ (by omega))
            have S1b : Hid (wrap64 (t.used + (m2 : Int)) = t.used + (m2 : Int)) := hidT (IntWalk.wrap64_in _ (by omega))
            have T1w : Hid (IntKind.i64.wrap ((wh : Int) + 1) = (wh : Int) + 1) := hidT (IntWalk.i64_in _ (by omega))
            have T1b : Hid (wrap64 ((wh : Int) + 1) = (wh : Int) + 1) := hidT (IntWalk.wrap64_in _ (by omega))
            by_cases hkM : k < M
            · have r1 : decide ((k : Int) < (M : Int)) = true := by simpa using hkM
              have r1' : decide (k < M) = true := by simpa using hkM
              by_cases hlt : t.used + (m2 : Int) < quota
              · have r2 : decide (t.used + (m2 : Int) < quota) = true := by simpa using hlt
                have hm2 : m2 < K := by have := HK.out; omega
                have HNXT : Hid ((X ++ List.replicate (k + 1) (wh : Int)).take K = (X ++ List.replicate k (wh : Int)).take K ++ [(wh : Int)]) := hidT (by rw [Seqr.rep_snoc, Seqr.take_snocK (by omega)])
                have nL := nkeep wi (.cells #[.int .i64 (wh : Int)] 3)
                have HLIT := hidT (RdV.lit wi 3 (0, 0) #[.int .i64 (wh : Int)] (is [(wh : Int)]) rfl 1 rfl (by decide) wi.heap.size rfl)
                have XO2 := hidT (OwnV.later XO.out nL)
                have XBL := hidT (bthen XB2.out nL)
                have HPL := hidT (keepH HP2.out nL)
                have hsz : pi + 1 ≤ (wi.alloc (.cells #[.int .i64 (wh : Int)] 3)).heap.size := Nat.le_trans HZ2.out nL.size
                have hml2 : m2 + 1 ≤ 1099511627776 := by omega
                have HKM : Hid (k + 1 ≤ M) := hidT hkM
                clear hml nL hkM hlt
                have hkM2 := HKM.out
                have s1 := S1.out
                have s1b := S1b.out
                go_wp2_with (first
                  | (at_builtin
                     refine wpList_appV rfl (.tmp 61) (.tmp 63) 32 rfl (pi + 1) 3 (.int .i64 0) 8 info3 rfl (by omega) Try.underlying32 (.slice B2 m2 d2) m2 _ rfl XO2.out (some ⟨wi.heap.size, 0, none⟩) 1 1 (is [(wh : Int)]) rfl HLIT.out (is_one _) hml2 hsz ?_
                     intro v9 w9 hown hb9 hg9
                     obtain ⟨B9, d9, rfl, hrd9⟩ := OwnV.rd hown
                     have HOWN := hidT hown
                     have hp9 : w9.heap[pi]? = some (.cells #[.int .i64 2, .int .i64 0, .int .i64 0, .int .i64 0, .int .i64 0, .int .i64 0, .slice B2 m2 d2, .slice none 0 0] 35 (0, 0)) := (hb9.block pi (Nat.lt_succ_self _)).trans HPL.out
                     have HB9 : Hid (Below w3.heap.size w3 w9) := hidT (XBL.out.trans (hb9.mono (by have := HPI.out; omega)))
                     have HZ9 : Hid (pi + 1 ≤ w9.heap.size) := hidT (Nat.le_trans hsz hb9.size)
                     have HP9 := hidT hp9
                     obtain ⟨f0, f1, f2, f3, f4, f5, f6, f7⟩ := cells8x hp9
                     have ff := no_frozen hp9 6
                     clear hown hb9 hg9 hrd9 hp9 hsz)
                  | fail)
                clear s1 s1b
                have y9 : (w9.setCell ⟨pi, 6, none⟩ (.slice B9 (m2 + 1) d9)).heap[pi]? = some (.cells #[.int .i64 2, .int .i64 0, .int .i64 0, .int .i64 0, .int .i64 0, .int .i64 0, .slice B9 (m2 + 1) d9, .slice none 0 0] 35 (0, 0)) := heap_setCell_same w9 pi 6 _ _ _ HP9.out
                have zb : But pi w9 (w9.setCell ⟨pi, 6, none⟩ (.slice B9 (m2 + 1) d9)) := But.setCell w9 pi 6 _
                have hown := (HOWN.out.but (Nat.lt_succ_self _) zb)
                rw [← is_append, ← HNXT.out] at hown
                have HOWN2 := hidT hown
                have Y9 := hidT y9
                have XB9 : Hid (Below w3.heap.size w3 (w9.setCell ⟨pi, 6, none⟩ (.slice B9 (m2 + 1) d9))) := hidT (HB9.out.setCell (p := ⟨pi, 6, none⟩) (by show w3.heap.size ≤ pi; rw [HPI.out]; exact Nat.le_refl _) _)
                have HZ10 : Hid (pi + 1 ≤ (w9.setCell ⟨pi, 6, none⟩ (.slice B9 (m2 + 1) d9)).heap.size) := hidT (by rw [zb.1]; exact HZ9.out)
                clear y9 zb hown f0 f1 f2 f3 f4 f5 f6 f7 ff v0 v1 r1 r1' r2
                exact ⟨⟨k + 1, B9, m2 + 1, d9, by omega, by go_num, Y9, HOWN2, XB9, HZ10⟩, by simp [intOf]; omega⟩
              · have r2 : decide (t.used + (m2 : Int) < quota) = false := by simpa using hlt
                have HEQ : Hid ((X ++ List.replicate k (wh : Int)).take K = (Seqr.saysOf ls n me (j + 1)).take K) := hidT (by
                  have hm2 : K ≤ ((X ++ List.replicate k (wh : Int)).take K).length := by have := HK.out; omega
                  rw [← Seqr.take_more (Y := List.replicate (M - k) (wh : Int)) hm2, HS.out, List.append_assoc, List.replicate_append_replicate, show k + (M - k) = M by omega])
                clear hml hkM hlt
                by_cases hnx : wh + 1 = n
                · have q1 : ((wh : Int) + 1 == (n : Int)) = true := by simp; omega
                  have HNX2 : Hid ((me + (j + 1)) % n = 0) := hidT (by rw [HNX.out, if_pos hnx])
                  clear hnx f0 f1 f2 f3 f4 f5 f7
                  have s1 := S1.out
                  have s1b := S1b.out
                  have t1 := T1w.out
                  have t1b := T1b.out
                  go_wp2
                  clear s1 s1b t1 t1b
                  exact ⟨⟨j + 1, B2, m2, d2, by omega, by go_num, by rw [HNX2.out]; rfl, HP2, hidT (by rw [← HEQ.out]; exact XO.out), XB2, HZ2⟩, by simp [intOf]; omega⟩
                · have q1 : ((wh : Int) + 1 == (n : Int)) = false := by simp; omega
                  have HNX2 : Hid ((me + (j + 1)) % n = wh + 1) := hidT (by rw [HNX.out, if_neg hnx])
                  clear hnx f0 f1 f2 f3 f4 f5 f7
                  have s1 := S1.out
                  have s1b := S1b.out
                  have t1 := T1w.out
                  have t1b := T1b.out
                  go_wp2
                  clear s1 s1b t1 t1b
                  exact ⟨⟨j + 1, B2, m2, d2, by omega, by go_num, by rw [HNX2.out]; go_num, HP2, hidT (by rw [← HEQ.out]; exact XO.out), XB2, HZ2⟩, by simp [intOf]; omega⟩
            · obtain rfl : M = k := by omega
              have r1 : decide ((M : Int) < (M : Int)) = false := by simp
              have r1' : decide (M < M) = false := by simp
              have HEQ : Hid ((X ++ List.replicate M (wh : Int)).take K = (Seqr.saysOf ls n me (j + 1)).take K) := hidT (by rw [HS.out])
              clear hml hkM
              by_cases hnx : wh + 1 = n
              · have q1 : ((wh : Int) + 1 == (n : Int)) = true := by simp; omega
                have HNX2 : Hid ((me + (j + 1)) % n = 0) := hidT (by rw [HNX.out, if_pos hnx])
                clear hnx f0 f1 f2 f3 f4 f5 f7
                have s1 := S1.out
                have s1b := S1b.out
                have t1 := T1w.out
                have t1b := T1b.out
                go_wp2
                clear s1 s1b t1 t1b
                exact ⟨⟨j + 1, B2, m2, d2, by omega, by go_num, by rw [HNX2.out]; rfl, HP2, hidT (by rw [← HEQ.out]; exact XO.out), XB2, HZ2⟩, by simp [intOf]; omega⟩
              · have q1 : ((wh : Int) + 1 == (n : Int)) = false := by simp; omega
                have HNX2 : Hid ((me + (j + 1)) % n = wh + 1) := hidT (by rw [HNX.out, if_neg hnx])
                clear hnx f0 f1 f2 f3 f4 f5 f7
                have s1 := S1.out
                have s1b := S1b.out
                have t1 := T1w.out
                have t1b := T1b.out
                go_wp2
                clear s1 s1b t1 t1b
                exact ⟨⟨j + 1, B2, m2, d2, by omega, by go_num, by rw [HNX2.out]; go_num, HP2, hidT (by rw [← HEQ.out]; exact XO.out), XB2, HZ2⟩, by simp [intOf]; omega⟩
        · obtain rfl : n = j := by omega
          obtain ⟨L, hL⟩ : ∃ L, Seqr.saidL ls me (quota - t.used) = L := ⟨_, rfl⟩
          have HO' : Hid (OwnV wo (pi + 1) 3 (.slice B m d) m (is L)) := hidT (by rw [← hL, HSAID.out]; exact HO.out)
          have hml := OwnV.size HO'.out
          rw [is_length] at hml
          have hlK : L.length ≤ 64 := by have := Seqr.saidL_len ls me (quota - t.used); rw [hL] at this; omega
          have HL := hidT hL
          have HML := hidT hml
          obtain ⟨f0, f1, f2, f3, f4, f5, f6, f7⟩ := cells8x HP.out
          have HB6 := hidT (bthen B3.out XB.out)
          have yp := keepH P3.out XB.out
          clear v0 v1 hL
          obtain ⟨v0, v1⟩ := cells2 (keepH Q3.out XB.out)
          have S1 : Hid (IntKind.i64.wrap (t.used + (m : Int)) = t.used + (m : Int)) := hidT (IntWalk.i64_in _ (by omega))
          have S1b : Hid (wrap64 (t.used + (m : Int)) = t.used + (m : Int)) := hidT (IntWalk.wrap64_in _ (by omega))
          have hrd := OwnV.same HO'.out
          have HRD := hidT hrd
          have HAD : Hid (∀ b o, B = some ⟨b, o, none⟩ → pi + 1 ≤ b) := hidT fun b o e => addrV HO'.out (Nat.le_refl _) b o e
          have HPX : Hid (q + 1 < pi) := hidT (by have h1 := blk_lt P3.out; have h2 := HPI.out; omega)
          clear hrd
          by_cases hm0 : m = 0
          · have r1 : ((m : Int) == 0) = true := by simp [hm0]
            have r1' : (m == 0) = true := by simp [hm0]
            have HSAY : Hid (Seqr.say t ls me quota = none) := hidT (Seqr.say_none (by rw [HL.out]; exact List.eq_nil_of_length_eq_zero (by rw [HML.out]; exact hm0)))
            clear hm0 hml
            go_wp2_with (
              refine wpList_stI rfl 35 _ _ rfl (q + 1) #[.int .i64 0, .int .i64 0, .int .i64 0, .int .i64 0, .int .i64 0, .int .i64 0, .slice none 0 0, .slice none 0 0] rfl rfl _ _ yp infoIt rfl (by simp [Value.oneCell']) ?_
              intro w7 hg7 hbut hbel)
            try simp only [Exit.jump]
            obtain ⟨e0, e1, e2, e3, e4, e5, e6, e7⟩ := cells8x hg7
            have hqq := HQ.out
            exact bodyPost_ret (v := .tuple #[.agg #[.int .i64 0, .int .i64 0, .int .i64 0, .int .i64 0, .int .i64 0, .int .i64 0, .slice none 0 0, .slice none 0 0], .bool false]) (by simp [results, Try.results14, go_sem, e0, e1, e2, e3, e4, e5, e6, e7]) rfl
              (by rw [HSAY.out]; exact ⟨_, rfl, IsItemH.zero' _ _, hbel _ _ HB6.out (by omega)⟩)
          · have r1 : ((m : Int) == 0) = false := by simp; omega
            have r1' : (m == 0) = false := by simpa using hm0
            have hsay := Seqr.say_some (quota := quota) HWHO.out (by rw [HLANE.out]; exact HYES.out) (by rw [HL.out]; intro e; rw [e] at hml; simp at hml; omega)
            rw [HL.out, hml] at hsay
            have HSAY := hidT hsay
            clear hm0 hsay
            by_cases hix : quota ≤ t.used + (m : Int)
            · have r2 : decide (quota ≤ t.used + (m : Int)) = true := by simpa using hix
              have HIX := hidT hix
              have ff := no_frozen HP.out 3
              have y9 : (wo.setCell ⟨pi, 3, none⟩ (.int .i64 1)).heap[pi]? = some (.cells #[.int .i64 2, .int .i64 0, .int .i64 0, .int .i64 1, .int .i64 0, .int .i64 0, .slice B m d, .slice none 0 0] 35 (0, 0)) := heap_setCell_same wo pi 3 _ _ _ HP.out
              have zb : But pi wo (wo.setCell ⟨pi, 3, none⟩ (.int .i64 1)) := But.setCell wo pi 3 _
              have hbz : Below w.heap.size w (wo.setCell ⟨pi, 3, none⟩ (.int .i64 1)) := HB6.out.setCell (p := ⟨pi, 3, none⟩) (by show w.heap.size ≤ pi; have h1 := HPX.out; have h2 := HQ.out; omega) _
              have hrz : RdI (wo.setCell ⟨pi, 3, none⟩ (.int .i64 1)) B m d L := RdV.keptS HRD.out (S := fun b => b ≠ pi) (fun h0 b o e => by have h1 := HAD.out b o e; omega) (KeptS.but zb fun b h => h)
              have yz := (zb.2 (q + 1) (by have := HPX.out; omega)).trans yp
              have HBZ := hidT hbz
              have HRZ := hidT hrz
              have YZ := hidT yz
              have Y9 := hidT y9
              clear hix hml zb hbz hrz yz y9 yp
              have s1 := S1.out
              have s1b := S1b.out
              go_upto_region 23 with fail
              generalize wo.setCell ⟨pi, 3, none⟩ (.int .i64 1) = Z at *
              clear f0 f1 f2 f3 f4 f5 f6 f7 v0 v1 s1 s1b r1 r1' r2 ff
              obtain ⟨f0, f1, f2, f3, f4, f5, f6, f7⟩ := cells8x Y9.out
              have yz := YZ.out
              go_wp2_with (
                refine wpList_stI rfl 35 _ _ rfl (q + 1) #[.int .i64 2, .int .i64 0, .int .i64 0, .int .i64 1, .int .i64 0, .int .i64 0, .slice B m d, .slice none 0 0] rfl rfl _ _ yz infoIt rfl (by simp [Value.oneCell']) ?_
                intro w7 hg7 hbut hbel)
              try simp only [Exit.jump]
              obtain ⟨e0, e1, e2, e3, e4, e5, e6, e7⟩ := cells8x hg7
              have hqq := HQ.out
              exact bodyPost_ret (v := .tuple #[.agg #[.int .i64 2, .int .i64 0, .int .i64 0, .int .i64 1, .int .i64 0, .int .i64 0, .slice B m d, .slice none 0 0], .bool true]) (by simp [results, Try.results14, go_sem, e0, e1, e2, e3, e4, e5, e6, e7]) rfl
                (by rw [HSAY.out, if_pos HIX.out]; exact ⟨_, rfl, IsItemH.order _ _ _ _ _ _ _ (RdV.keptS HRZ.out (S := fun b => b ≠ q + 1) (fun h0 b o e => by have h1 := HAD.out b o e; have h2 := HPX.out; omega) (KeptS.but hbut fun b h => h)) (Within.of fun b o e => by have h1 := HAD.out b o e; have h2 := HPX.out; omega), hbel _ _ HBZ.out (by omega)⟩)
            · have r2 : decide (quota ≤ t.used + (m : Int)) = false := by simp; omega
              have HIX := hidT hix
              clear hix hml
              have s1 := S1.out
              have s1b := S1b.out
              go_wp2_with (
                refine wpList_stI rfl 35 _ _ rfl (q + 1) #[.int .i64 2, .int .i64 0, .int .i64 0, .int .i64 0, .int .i64 0, .int .i64 0, .slice B m d, .slice none 0 0] rfl rfl _ _ yp infoIt rfl (by simp [Value.oneCell']) ?_
                intro w7 hg7 hbut hbel)
              try simp only [Exit.jump]
              obtain ⟨e0, e1, e2, e3, e4, e5, e6, e7⟩ := cells8x hg7
              have hqq := HQ.out
              exact bodyPost_ret (v := .tuple #[.agg #[.int .i64 2, .int .i64 0, .int .i64 0, .int .i64 0, .int .i64 0, .int .i64 0, .slice B m d, .slice none 0 0], .bool true]) (by simp [results, Try.results14, go_sem, e0, e1, e2, e3, e4, e5, e6, e7]) rfl
                (by rw [HSAY.out, if_neg (Int.not_le.2 HIX.out)]; exact ⟨_, rfl, IsItemH.order _ _ _ _ _ _ _ (RdV.keptS HRD.out (S := fun b => b ≠ q + 1) (fun h0 b o e => by have h1 := HAD.out b o e; have h2 := HPX.out; omega) (KeptS.but hbut fun b h => h)) (Within.of fun b o e => by have h1 := HAD.out b o e; have h2 := HPX.out; omega), hbel _ _ HB6.out (by omega)⟩)
  · have p1 : ((t.who : Int) != (me : Int)) = true := by simp; omega
    have p1' : (t.who != me) = true := by simpa using hwho
    have HSAY : Hid (Seqr.say t ls me quota = none) := hidT (Seqr.say_no hwho)
    have y2 := T2.out
    clear hwho
    go_wp2_with (
      refine wpList_stI rfl 35 _ _ rfl (q + 1) #[.int .i64 0, .int .i64 0, .int .i64 0, .int .i64 0, .int .i64 0, .int .i64 0, .slice none 0 0, .slice none 0 0] rfl rfl _ _ y2 infoIt rfl (by simp [Value.oneCell']) ?_
      intro w7 hg7 hbut hbel)
    try simp only [Exit.jump]
    obtain ⟨e0, e1, e2, e3, e4, e5, e6, e7⟩ := cells8x hg7
    have hqq := HQ.out
    exact bodyPost_ret (v := .tuple #[.agg #[.int .i64 0, .int .i64 0, .int .i64 0, .int .i64 0, .int .i64 0, .int .i64 0, .slice none 0 0, .slice none 0 0], .bool false]) (by simp [results, Try.results14, go_sem, e0, e1, e2, e3, e4, e5, e6, e7]) rfl
      (by rw [HSAY.out]; exact ⟨_, rfl, IsItemH.zero' _ _, hbel _ _ T3.out (by omega)⟩)
end Go.Proofs.Ytdchgnmkeefffaa
