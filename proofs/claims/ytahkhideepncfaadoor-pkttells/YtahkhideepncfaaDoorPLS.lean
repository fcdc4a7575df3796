import Derived.Test.YtahkhideepncfaaDoorPQ
import Derived.Test.YtahkhideepncfaaDoorPR
import Derived.Test.YtahkhideepncfaaDoorPKA
import Derived.Test.YtahkhideepncfaaDoorIE
set_option maxRecDepth 100000
/- What the document's Read of packets comes to. -/
namespace Go.Proofs.YtahkhideepncfaaDoor
open Go.RowKit
set_option linter.unusedVariables false

theorem seal_opened {l : List UInt8} (h : openCode l = 0) : l = Crc.sealB (opened l) := by
  unfold openCode at h
  unfold opened
  split at h
  · cases h
  · rename_i h4
    rw [if_neg h4]
    split at h
    · rename_i hs
      rw [if_pos hs]
      exact hs
    · cases h
theorem opened_len (l : List UInt8) : (opened l).length ≤ l.length := by
  unfold opened
  split
  · simp
  · split
    · rw [List.length_take]; omega
    · simp

set_option maxRecDepth 100000 in
set_option maxHeartbeats 4000000 in
theorem rpr_shut (A : Option Addr) (n c : Nat) (l : List UInt8) (w : World) (h : Rd w A n c l) (hn : n ≤ 65536) (k : Int) (hk : openCode l = k) (hk0 : k ≠ 0) :
    Calls Tryd.prog 10 #[.slice A n c] w (PRead w Pkt.Pk.zero k) := by
  have t0 : (k != 0) = true := by simpa using hk0
  have t1 : (k == 0) = false := by simpa using hk0
  obtain ⟨w0, hw0⟩ : ∃ w0, w.alloc (.cells #[.int .i64 0, .int .i64 0, .int .i64 0, .int .i64 0, .int .i64 0, .int .i64 0, .int .i64 0, .int .i64 0, .slice none 0 0, .slice none 0 0, .int .i64 0, .int .i64 0, .int .i64 0, .int .i64 0, .slice none 0 0] 27) = w0 := ⟨_, rfl⟩
  have b0 : Below w.heap.size w w0 := by rw [← hw0]; exact pkeep_alloc (Below.refl _ _) _
  have g0 : w0.heap[w.heap.size]? = some (.cells zpkt 27 (0, 0)) := by rw [← hw0]; exact alloc_at _ _ _ rfl
  have HW0 := hidT hw0
  clear hw0
  have hO := ropen_any A n c l w0 (h.below b0) hn
  rw [hk] at hO
  go_enter Tryd.func10, Tryd.ntmps10
  go_wp2_with fail
  rw [HW0.out]
  clear HW0
  with_reducible refine hO.mono ?_
  rintro en w1 ⟨A1, c1, rfl, r1, b1⟩
  clear hO
  have gs1 := (b1.block _ (blk_ltP g0)).trans g0
  go_wp2_with (first
    | (refine wpList_stI rfl 27 (.tmp 2) (.tmp 27) rfl w.heap.size zpkt rfl rfl _ _ gs1 info37 rfl (all15 rfl rfl rfl rfl rfl rfl rfl rfl rfl rfl rfl rfl rfl rfl rfl) ?_
       intro w9 hg9 hbut9 hbel9))
  exact bodyPost_ret (results_cellP rfl _ w9 w.heap.size zpkt rfl rfl hg9 _ rfl) rfl ⟨_, rfl, zero_pkt _, hbel9 _ _ (bthen b0 b1) (Nat.le_refl _)⟩

set_option maxRecDepth 100000 in
set_option maxHeartbeats 4000000 in
theorem rpr_few (A : Option Addr) (n c : Nat) (l : List UInt8) (w : World) (h : Rd w A n c l) (hn : n ≤ 65536) (hc : openCode l = 0) (hC3 : (opened l).length < 3) :
    Calls Tryd.prog 10 #[.slice A n c] w (PRead w Pkt.Pk.zero 2) := by
  obtain ⟨w0, hw0⟩ : ∃ w0, w.alloc (.cells #[.int .i64 0, .int .i64 0, .int .i64 0, .int .i64 0, .int .i64 0, .int .i64 0, .int .i64 0, .int .i64 0, .slice none 0 0, .slice none 0 0, .int .i64 0, .int .i64 0, .int .i64 0, .int .i64 0, .slice none 0 0] 27) = w0 := ⟨_, rfl⟩
  have b0 : Below w.heap.size w w0 := by rw [← hw0]; exact pkeep_alloc (Below.refl _ _) _
  have g0 : w0.heap[w.heap.size]? = some (.cells zpkt 27 (0, 0)) := by rw [← hw0]; exact alloc_at _ _ _ rfl
  have HW0 := hidT hw0
  clear hw0
  have hO := ropen_any A n c l w0 (h.below b0) hn
  rw [hc] at hO
  obtain ⟨C, hC⟩ : ∃ C, opened l = C := ⟨_, rfl⟩
  rw [hC] at hO hC3
  obtain ⟨N, hN⟩ : ∃ N, C.length = N := ⟨_, rfl⟩
  go_enter Tryd.func10, Tryd.ntmps10
  go_wp2_with fail
  rw [HW0.out]
  clear HW0
  with_reducible refine hO.mono ?_
  rintro en w1 ⟨A1, c1, rfl, r1, b1⟩
  rw [hN] at hC3 ⊢
  have q3 : decide ((N : Int) < 3) = true := by simp; omega
  clear hO hN r1
  have gs1 := (b1.block _ (blk_ltP g0)).trans g0
  go_wp2_with (first
    | (refine wpList_stI rfl 27 (.tmp 2) (.tmp 32) rfl w.heap.size zpkt rfl rfl _ _ gs1 info37 rfl (all15 rfl rfl rfl rfl rfl rfl rfl rfl rfl rfl rfl rfl rfl rfl rfl) ?_
       intro w9 hg9 hbut9 hbel9))
  exact bodyPost_ret (results_cellP rfl _ w9 w.heap.size zpkt rfl rfl hg9 _ rfl) rfl ⟨_, rfl, zero_pkt _, hbel9 _ _ (bthen b0 b1) (Nat.le_refl _)⟩

theorem rpread_any (A : Option Addr) (n c : Nat) (l : List UInt8) (w : World) (h : Rd w A n c l) (hn : n ≤ 65536) :
    Calls Tryd.prog 10 #[.slice A n c] w (PRead w ((readOf l).getD Pkt.Pk.zero) (readCode l)) := by
  by_cases hc : openCode l = 0
  · have hse := seal_opened hc
    have hre := refOf_eq hse
    by_cases hC3 : (opened l).length < 3
    · have h0 : Pkt.readC (opened l) = none := by rw [← hre, Pkt.refOf, if_pos hC3]
      rw [(read_none hc h0).1, (read_none hc h0).2]
      exact rpr_few A n c l w h hn hc hC3
    · have h3 : 3 ≤ (opened l).length := by omega
      have h6 : (opened l).length ≤ 65536 := by have := opened_len l; have := h.1; omega
      obtain ⟨C, hC⟩ : ∃ C, opened l = C := ⟨_, rfl⟩
      have e1 : (readOf l).getD Pkt.Pk.zero = (Pkt.tried (Pkt.refC (Item.at_ C 1) (Item.at_ C 2) (C.drop 3)) l).getD Pkt.Pk.zero := by
        unfold readOf
        rw [if_pos hc, ← hre, Pkt.refOf, if_neg hC3, hC]
      have e2 : readCode l = if (Pkt.tried (Pkt.refC (Item.at_ C 1) (Item.at_ C 2) (C.drop 3)) l).isSome = true then 0 else 2 := by
        unfold readCode
        rw [if_pos hc, ← hre, Pkt.refOf, if_neg hC3, hC]
      rw [e1, e2]
      rw [hC] at h3 h6
      by_cases k1 : Item.at_ C 1 = 1
      · rw [k1]
        cases ht : Item.takeOf (C.drop 3) with
        | some x => exact rpr_1s A n c l w h hn hc C hC h3 h6 1 _ k1 rfl rfl x ht
        | none => exact rpr_1n A n c l w h hn hc C hC h3 h6 1 _ k1 rfl rfl ht
      by_cases k2 : Item.at_ C 1 = 2
      · rw [k2]
        cases ht : Item.takeOf (C.drop 3) with
        | some x => exact rpr_2s A n c l w h hn hc C hC h3 h6 2 _ k2 rfl rfl x ht
        | none => exact rpr_2n A n c l w h hn hc C hC h3 h6 2 _ k2 rfl rfl ht
      by_cases k3 : Item.at_ C 1 = 3
      · rw [k3]
        by_cases h13 : C.length = 13
        · exact rpr_3t A n c l w h hn hc C hC h3 h6 3 _ k3 rfl rfl h13
        · exact rpr_3o A n c l w h hn hc C hC h3 h6 3 _ k3 rfl rfl h13
      by_cases k4 : Item.at_ C 1 = 4
      · rw [k4]
        by_cases h11 : 11 ≤ C.length
        · exact rpr_4g A n c l w h hn hc C hC h3 h6 4 _ k4 rfl rfl h11
        · exact rpr_4o A n c l w h hn hc C hC h3 h6 4 _ k4 rfl rfl (by omega)
      · exact rpr_o A n c l w h hn hc C hC h3 h6 _ _ rfl rfl k1 k2 k3 k4
  · rw [(read_shut hc).1, (read_shut hc).2]
    exact rpr_shut A n c l w h hn _ rfl hc
end Go.Proofs.YtahkhideepncfaaDoor
/- The law PktSealed, walked. -/
namespace Go.Proofs.YtahkhideepncfaaDoor
open Go.RowKit
set_option linter.unusedVariables false

theorem seal_code3 (l : List UInt8) : readCode (Crc.sealB l) ≠ 3 := by
  unfold readCode
  rw [if_pos (code_seal l)]
  split <;> decide

set_option maxRecDepth 100000 in
set_option maxHeartbeats 8000000 in
theorem psealed_any (A : Option Addr) (n c : Nat) (l : List UInt8) (w : World) (hw : Wd w) (h : Rd w A n c l) :
    Calls Tryd.prog 4 #[.slice A n c] w (Yes w) := by
  by_cases hn : n ≤ 1300
  · have hq : decide ((1300 : Int) < (n : Int)) = false := by simp; omega
    have hl := h.1
    go_enter Tryd.func4, Tryd.ntmps4
    go_wp2_with fail
    with_reducible refine (pshown_any _ hw).mono ?_
    rintro en w1 ⟨rfl, b1⟩
    have hc := rseal_any A n c l w1 (h.below b1) (by omega)
    obtain ⟨S, hS⟩ : ∃ S, Crc.sealB l = S := ⟨_, rfl⟩
    have hSl : S.length = n + 4 := by rw [← hS, seal_length]; omega
    have h3 : readCode S ≠ 3 := by rw [← hS]; exact seal_code3 l
    rw [hS] at hc
    go_wp2_with fail
    with_reducible refine hc.mono ?_
    rintro en w2 ⟨A2, c2, rfl, o2, b2⟩
    clear hc
    have b02 := bthen b1 b2
    obtain ⟨N, hN⟩ : ∃ N, S.length = N := ⟨_, rfl⟩
    have r2 := o2.same
    rw [hN] at r2 hSl ⊢
    have hN13 : N ≤ 1304 := by omega
    clear hSl
    have hc := pread_any A2 N c2 S w2 (hw.below b02) r2 (by omega)
    obtain ⟨x, hx⟩ : ∃ x, (readOf S).getD Pkt.Pk.zero = x := ⟨_, rfl⟩
    obtain ⟨xe, hxe⟩ : ∃ xe, readCode S = xe := ⟨_, rfl⟩
    rw [hx, hxe] at hc
    go_wp2_with fail
    with_reducible refine hc.mono ?_
    rintro en w3 ⟨v3, rfl, i3, b3⟩
    obtain ⟨cx, rfl, sx, ox, i3⟩ := pk_letters i3
    clear hc o2
    have b03 := bthen b02 b3
    have ak : (w3.alloc (.cells zpkt 27)).heap[w3.heap.size]? = some (.cells zpkt 27 (0, 0)) := alloc_at _ _ _ rfl
    have mk : Below w3.heap.size w3 (w3.alloc (.cells zpkt 27)) := pkeep_alloc (Below.refl _ _) _
    have HX := hidT hx
    have HXE := hidT hxe
    have HS := hidT hS
    have HN := hidT hN
    clear hx hxe hS hN
    go_wp2_with (first
      | (refine wpList_stI rfl 27 (.tmp 4) (.tmp 17) rfl w3.heap.size cx rfl rfl _ _ ak (by rw [sx]; exact info37) (by rw [sx]; rfl) ox ?_
         intro w4 g4 but4 bel4
         have b4 := bel4 _ _ mk (Nat.le_refl _)))
    have b04 := bthen b03 b4
    have hc := rseal_any A n c l w4 (h.below b04) (by omega)
    rw [HS.out] at hc
    with_reducible refine hc.mono ?_
    rintro en w5 ⟨A5, c5, rfl, o5, b5⟩
    clear hc ak mk but4 bel4
    have r5 := o5.same
    rw [HN.out] at r5 ⊢
    have b05 := bthen b04 b5
    have hc := rpread_any A5 N c5 S w5 r5 (by omega)
    rw [HX.out, HXE.out] at hc
    clear o5
    go_wp2_with fail
    with_reducible refine hc.mono ?_
    rintro en w6 ⟨v6, rfl, i6, b6⟩
    obtain ⟨cy, rfl, sy, oy, i6⟩ := pk_letters i6
    clear hc
    have ak : (w6.alloc (.cells zpkt 27)).heap[w6.heap.size]? = some (.cells zpkt 27 (0, 0)) := alloc_at _ _ _ rfl
    have mk : Below w6.heap.size w6 (w6.alloc (.cells zpkt 27)) := pkeep_alloc (Below.refl _ _) _
    have e1 : (xe == xe) = true := by simp
    have e3 : (xe != 3) = true := by have := HXE.out; simp; omega
    have e4 : (xe == 3) = false := by have := HXE.out; simp; omega
    go_wp2_with (first
      | (refine wpList_stI rfl 27 (.tmp 6) (.tmp 23) rfl w6.heap.size cy rfl rfl _ _ ak (by rw [sy]; exact info37) (by rw [sy]; rfl) oy ?_
         intro w7 g7 but7 bel7
         have b7 := bel7 _ _ mk (Nat.le_refl _)
         have g47 := ((bthen b5 (bthen b6 b7)).block _ (blk_ltP g4)).trans g4)
      | (refine wpList_ldP rfl (.tmp 4) rfl w3.heap.size rfl cx sx g47 ?_)
      | (refine wpList_ldP rfl (.tmp 6) rfl w6.heap.size rfl cy sy g7 ?_))
    have b07 := bthen b05 (bthen b6 b7)
    have hc := rpsame_is (.agg cx) (.agg cy) x x w7 (i3.below (bthen b4 (bthen b5 (bthen b6 b7)))) (i6.below b7) true (by simp)
    with_reducible refine hc.mono ?_
    rintro en w8 ⟨rfl, b8⟩
    clear hc
    go_wp2
    go_ret
    exact ⟨rfl, bthen b07 b8⟩
  · have hq : decide ((1300 : Int) < (n : Int)) = true := by simp; omega
    go_enter Tryd.func4, Tryd.ntmps4
    go_wp2_with fail
    with_reducible refine (pshown_any _ hw).mono ?_
    rintro en w1 ⟨rfl, b1⟩
    go_wp2
    go_ret
    exact ⟨rfl, b1⟩
end Go.Proofs.YtahkhideepncfaaDoor
