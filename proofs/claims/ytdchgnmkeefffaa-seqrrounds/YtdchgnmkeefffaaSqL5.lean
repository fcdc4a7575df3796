/- The law SeqrRounds, walked. -/
import Derived.Test.YtdchgnmkeefffaaSqRnd
import Derived.Deep.CutRange
set_option maxRecDepth 100000
namespace Go.Proofs.Ytdchgnmkeefffaa
open Go.RowKit
set_option linter.unusedVariables false

set_option maxHeartbeats 16000000 in
theorem rounds_any (CA : Option Addr) (n cc : Nat) (counts : List UInt8) (qb : Int) (w : World) (h : Rd w CA n cc counts) (hq : 0 ≤ qb ∧ qb < 256) :
    Calls Try.prog 7 #[.slice CA n cc, .int .u8 qb] w (Yes w) := by
  have hncc := h.2.1
  have hccm : cc ≤ 9223372036854775807 := by have := h.2.2.1; unfold maxLen at this; omega
  have HLEN := hidT h.1
  have H := hidT h
  have HQB := hidT hq
  clear h hq
  go_enter Try.func7, Try.ntmps7
  go_wp2_with fail
  with_reducible refine (sqShown_any w).mono ?_
  rintro e w1 ⟨rfl, hb1⟩
  have B1 := hidT hb1
  have C1 := hidT (H.out.below hb1)
  clear hb1
  by_cases hn2 : n < 2
  · have p1 : decide ((n : Int) < 2) = true := by simp; omega
    have p1' : decide (n < 2) = true := by simpa using hn2
    clear hn2
    go_wp2_with fail
    go_ret
    exact ⟨rfl, B1.out⟩
  · have p1 : decide ((n : Int) < 2) = false := by simp; omega
    have p1' : decide (n < 2) = false := by simp; omega
    by_cases hn6 : 6 < n
    · have p2 : decide ((6 : Int) < (n : Int)) = true := by simp; omega
      have p2' : decide (6 < n) = true := by simpa using hn6
      clear hn2 hn6
      go_wp2_with fail
      go_ret
      exact ⟨rfl, B1.out⟩
    · have p2 : decide ((6 : Int) < (n : Int)) = false := by simp; omega
      have p2' : decide (6 < n) = false := by simp; omega
      have hnl : 2 ≤ n := by omega
      have hnu : n ≤ 6 := by omega
      obtain ⟨Rq, hRq⟩ : ∃ Rq : Nat, qb % 9 = (Rq : Int) := ⟨(qb % 9).toNat, by omega⟩
      have hR9 : Rq < 9 := by omega
      have hRq2 : Int.tmod qb 9 = (Rq : Int) := by rw [Int.tmod_eq_emod_of_nonneg HQB.out.1]; exact hRq
      obtain ⟨Qn, hQn⟩ : ∃ Qn : Nat, 1 + (Rq : Int) = (Qn : Int) := ⟨1 + Rq, by omega⟩
      have hQl : 1 ≤ Qn := by omega
      have hQu : Qn ≤ 9 := by omega
      obtain ⟨c, hc⟩ : ∃ c : Nat → Nat, (fun i => (counts.getD i 0).toNat % 9) = c := ⟨_, rfl⟩
      have HC8 : Hid (∀ i, c i ≤ 8) := hidT fun i => by rw [← hc]; show _ % 9 ≤ 8; omega
      have HCV : Hid (∀ i, (counts.getD i 0).toNat % 9 = c i) := hidT fun i => by rw [← hc]
      have qb0 := HQB.out.1
      have qb1 := HQB.out.2
      clear hc hn2 hn6 hR9
      go_wp2_with fail
      clear hRq hRq2 hQn qb0 qb1 p1 p1' p2 p2'
      go_loopw [8, 9, 10] (fun x8 x9 x10 wr => ∃ (i : Nat) (A : Option Addr) (cp : Nat) (rows : List (Array Value)), i ≤ n ∧ x10 = .int .i64 i ∧ x9 = .int .i64 ((Seqr.sumFrom c 0 i : Nat) : Int) ∧ x8 = .slice A i cp ∧ Hid (OwnK 5 wr w1.heap.size 51 (.slice A i cp) i rows) ∧ Hid (AreL (fun b => (Value.slice A i cp).ownBlock ≠ some b) wr rows (Seqr.lanes0 c i)) ∧ Hid (Below w1.heap.size w1 wr)) (fun _ _ x10 _ => n - (intOf x10).toNat)
      case atStart => exact ⟨0, none, 0, [], Nat.zero_le _, rfl, rfl, rfl, hidT (OwnK.nil_ _ _ _ _), hidT (AreL.nil_ _ _), hidT (Below.refl _ _)⟩
      case round =>
        obtain ⟨i, A, cp, rows, hi, rfl, rfl, rfl, HO, HA, XB⟩ := hrel
        obtain ⟨Y, rfl⟩ : ∃ Y, Y = wr := ⟨_, rfl⟩
        by_cases hin : i < n
        · have y0 := alloc_at Y (.cells #[.slice none 0 0, .int .i64 0, .int .i64 0, .int .i64 0, .slice none 0 0] 51) _ rfl
          have n0 := nkeep Y (.cells #[.slice none 0 0, .int .i64 0, .int .i64 0, .int .i64 0, .slice none 0 0] 51)
          have hz0 := size_alloc Y (.cells #[.slice none 0 0, .int .i64 0, .int .i64 0, .int .i64 0, .slice none 0 0] 51)
          obtain ⟨px, hpx⟩ : ∃ p, Y.heap.size = p := ⟨_, rfl⟩
          have HPX := hidT hpx
          rw [hpx] at y0 hz0
          obtain ⟨Y1, hY1⟩ : ∃ Y1, Y.alloc (.cells #[.slice none 0 0, .int .i64 0, .int .i64 0, .int .i64 0, .slice none 0 0] 51) = Y1 := ⟨_, rfl⟩
          rw [hY1] at y0 n0 hz0
          have HY1 := hidT hY1
          have P1 := hidT y0
          have N1 := hidT n0
          have HZ1 : Hid (px + 1 ≤ Y1.heap.size) := hidT (by omega)
          obtain ⟨S0, hS0⟩ : ∃ S0, Seqr.sumFrom c 0 i = S0 := ⟨_, rfl⟩
          have HS0 := hidT hS0
          have hS8 : S0 ≤ 48 := by have := sumFrom_le HC8.out 0 i; omega
          obtain ⟨ci, hci⟩ : ∃ ci, c i = ci := ⟨_, rfl⟩
          have HCI := hidT hci
          have hc8 : ci ≤ 8 := by rw [← hci]; exact HC8.out i
          obtain ⟨x, hx⟩ : ∃ x, counts[i]? = some x := ⟨_, List.getElem?_eq_getElem (by rw [HLEN.out]; exact hin)⟩
          have hcv := HCV.out i
          rw [List.getD_eq_getElem?_getD, hx, Option.getD_some, hci] at hcv
          obtain ⟨b, o, rfl, hcells⟩ := C1.out.2.2.2.2 (show 0 < n by omega)
          have hcell := hcells i x hx
          obtain ⟨X, hX⟩ : ∃ X, x.toNat = X := ⟨_, rfl⟩
          have hX256 : X < 256 := by rw [← hX]; exact x.toNat_lt
          rw [hX] at hcell hcv
          have HCELL := hidT hcell
          have f1 : (X : Int) % 9 = (ci : Int) := by omega
          have f2 : Int.tmod (X : Int) 9 = (ci : Int) := by rw [Int.tmod_eq_emod_of_nonneg (by omega)]; exact f1
          have F1 := hidT f1
          have F2 := hidT f2
          have hix1 : (0 : Int) ≤ (i : Int) := by omega
          have hix2 : (i : Int) < (n : Int) := by omega
          clear y0 n0 hz0 hY1 hS0 hci hx hcv hcells hcell hX f1 f2
          rw [HS0.out]
          go_wp2_with fail
          rw [HY1.out]
          clear hpx
          go_loopw [9, 12] (fun x9 x12 wr => ∃ (k : Nat) (E : Option Addr) (ec : Nat) (rs : List (Array Value)), k ≤ ci ∧ x12 = .int .i64 k ∧ x9 = .int .i64 ((S0 + k : Nat) : Int) ∧ Hid (wr.heap[px]? = some (.cells #[.slice E k ec, .int .i64 0, .int .i64 0, .int .i64 0, .slice none 0 0] 51 (0, 0))) ∧ Hid (OwnK 5 wr (px + 1) 59 (.slice E k ec) k rs) ∧ Hid (AreE (fun b => px < b ∧ (Value.slice E k ec).ownBlock ≠ some b) wr rs ((List.range k).map (Seqr.roundE i))) ∧ Hid (Below Y.heap.size Y wr) ∧ Hid (px + 1 ≤ wr.heap.size)) (fun _ x12 _ => ci - (intOf x12).toNat)
          case atStart => exact ⟨0, none, 0, [], Nat.zero_le _, rfl, rfl, P1, hidT (OwnK.nil_ _ _ _ _), hidT (AreE.nil_ _ _), N1, HZ1⟩
          case round =>
            obtain ⟨k, E, ec, rs, hk, rfl, rfl, HP, HOE, HAE, XE, HZ⟩ := hrel
            obtain ⟨Z, rfl⟩ : ∃ Z, Z = wr := ⟨_, rfl⟩
            have kc := cellC (bthen XB.out XE.out) HCELL.out
            have f1 := F1.out
            have f2 := F2.out
            by_cases hkc : k < ci
            · have r1 : decide ((k : Int) < (ci : Int)) = true := by simpa using hkc
              have r1' : decide (k < ci) = true := by simpa using hkc
              have u1 : IntKind.u8.wrap (i : Int) = (i : Int) := by simp [IntKind.wrap, IntKind.bits, IntKind.signed]; omega
              have u2 : IntKind.u8.wrap (k : Int) = (k : Int) := by simp [IntKind.wrap, IntKind.bits, IntKind.signed]; omega
              obtain ⟨pB, hpB⟩ : ∃ p, Z.heap.size = p := ⟨_, rfl⟩
              have n1 := nkeep Z (.cells #[.int .u8 (i : Int), .int .u8 (k : Int)] 5)
              have n2 := nkeep (Z.alloc (.cells #[.int .u8 (i : Int), .int .u8 (k : Int)] 5)) (.cells #[.int .i64 1, .int .i64 ((k : Int) + 1), .slice (some ⟨pB, 0, none⟩) 2 2, .slice none 0 0, .bool false] 59)
              have nn := bthen n1 n2
              have hLB := Rd.litAt Z 5 (0, 0) #[.int .u8 (i : Int), .int .u8 (k : Int)] [UInt8.ofNat i, UInt8.ofNat k] (two_bytes (by omega) (by omega)) 2 rfl (by simp only [maxLen]; omega) pB hpB
              have HLIT := hidT (RdK.lit (k := 5) (Z.alloc (.cells #[.int .u8 (i : Int), .int .u8 (k : Int)] 5)) 59 (0, 0) #[.int .i64 1, .int .i64 ((k : Int) + 1), .slice (some ⟨pB, 0, none⟩) 2 2, .slice none 0 0, .bool false] [#[.int .i64 1, .int .i64 ((k : Int) + 1), .slice (some ⟨pB, 0, none⟩) 2 2, .slice none 0 0, .bool false]] (AllK.one rfl (by simp [Value.oneCell'])) (by simp [flat]) 1 rfl (by decide) (pB + 1) (by rw [size_alloc, hpB]))
              have hsz2 : ((Z.alloc (.cells #[.int .u8 (i : Int), .int .u8 (k : Int)] 5)).alloc (.cells #[.int .i64 1, .int .i64 ((k : Int) + 1), .slice (some ⟨pB, 0, none⟩) 2 2, .slice none 0 0, .bool false] 59)).heap.size = pB + 2 := by rw [size_alloc, size_alloc, hpB]
              have HOE2 := hidT (HOE.out.later nn)
              have hpxB : px + 1 ≤ pB := by have := HZ.out; omega
              have HWSZ : Hid (px + 1 ≤ ((Z.alloc (.cells #[.int .u8 (i : Int), .int .u8 (k : Int)] 5)).alloc (.cells #[.int .i64 1, .int .i64 ((k : Int) + 1), .slice (some ⟨pB, 0, none⟩) 2 2, .slice none 0 0, .bool false] 59)).heap.size) := hidT (by rw [hsz2]; omega)
              have HP2 := hidT (keepH HP.out nn)
              have HAE2 := hidT (HAE.out.below nn)
              have XE2 := hidT (bthen XE.out nn)
              have HEN : Hid (IsEn (fun b => px < b ∧ (Value.slice E k ec).ownBlock ≠ some b) ((Z.alloc (.cells #[.int .u8 (i : Int), .int .u8 (k : Int)] 5)).alloc (.cells #[.int .i64 1, .int .i64 ((k : Int) + 1), .slice (some ⟨pB, 0, none⟩) 2 2, .slice none 0 0, .bool false] 59)) (.agg #[.int .i64 1, .int .i64 ((k : Int) + 1), .slice (some ⟨pB, 0, none⟩) 2 2, .slice none 0 0, .bool false]) (Seqr.roundE i k)) :=
                hidT ⟨some ⟨pB, 0, none⟩, 2, 2, none, 0, 0, rfl, hLB.below n2, RdV.nil_ _, (fun _ b o e => by
                  injection e with e
                  injection e with e1 e2
                  subst e1
                  exact ⟨by omega, fun e3 => by have := (HOE.out.blk _ e3).2; omega⟩), Within.zero _ _⟩
              obtain ⟨j0, j1, j2, j3, j4⟩ := cells5 HP2.out
              have HPB := hidT hpB
              have hkk : k + 1 ≤ 16777216 := by omega
              have HKC := hidT hkc
              obtain ⟨v0, v1, v2, v3, v4⟩ := cells5 HP.out
              clear n1 n2 nn hLB hsz2 hpxB hkc
              go_wp2_with (first
                | (at_builtin
                   refine wpList_appKW 5 (by omega) rfl (.tmp 56) (.tmp 65) 47 rfl (px + 1) 59 _ 72 infoE rfl (by omega) Try.underlying47 (.slice E k ec) k rs rfl HOE2.out (some ⟨pB + 1, 0, none⟩) 1 1 [#[.int .i64 1, .int .i64 ((k : Int) + 1), .slice (some ⟨pB, 0, none⟩) 2 2, .slice none 0 0, .bool false]] rfl HLIT.out hkk HWSZ.out ?_
                   intro v9 w9 hown hb9 hg9 ho9
                   obtain ⟨E9, e9, rfl, hrd9⟩ := OwnK.rd hown
                   have hno := HOE2.out.blk
                   have hp9 : w9.heap[px]? = some (.cells #[.slice E k ec, .int .i64 0, .int .i64 0, .int .i64 0, .slice none 0 0] 51 (0, 0)) := by
                     rw [hg9.block px (blk_lt HP2.out) (fun e => by have := (hno px e.symm).1; omega)]
                     exact HP2.out
                   have HAE9 := hidT (AreE.app1 HAE2.out HEN.out hg9 ho9)
                   have HOW9 := hidT hown
                   have HB9 := hidT hb9
                   have HP9 := hidT hp9
                   obtain ⟨j0, j1, j2, j3, j4⟩ := cells5 hp9
                   have ff := no_frozen hp9 0
                   clear hown hb9 hg9 ho9 hrd9 hno hp9)
                | fail)
              have hpxy := HPX.out
              have y10 : (w9.setCell ⟨px, 0, none⟩ (.slice E9 (k + 1) e9)).heap[px]? = some (.cells #[.slice E9 (k + 1) e9, .int .i64 0, .int .i64 0, .int .i64 0, .slice none 0 0] 51 (0, 0)) := heap_setCell_same w9 px 0 _ _ _ HP9.out
              have zb : But px w9 (w9.setCell ⟨px, 0, none⟩ (.slice E9 (k + 1) e9)) := But.setCell w9 px 0 _
              have Y10 := hidT y10
              have HO10 := hidT (HOW9.out.butV zb fun b e => by have := (HOW9.out.blk b e).1; omega)
              have HA10 : Hid (AreE (fun b => px < b ∧ (Value.slice E9 (k + 1) e9).ownBlock ≠ some b) (w9.setCell ⟨px, 0, none⟩ (.slice E9 (k + 1) e9)) (rs ++ [#[.int .i64 1, .int .i64 ((k : Int) + 1), .slice (some ⟨pB, 0, none⟩) 2 2, .slice none 0 0, .bool false]]) ((List.range (k + 1)).map (Seqr.roundE i))) := hidT (by
                rw [List.range_succ, List.map_append]
                exact HAE9.out.keptS (KeptS.but zb fun b hb => by have := hb.1; omega))
              have XE10 : Hid (Below Y.heap.size Y (w9.setCell ⟨px, 0, none⟩ (.slice E9 (k + 1) e9))) := hidT ((XE2.out.trans (HB9.out.mono (by omega))).setCell (p := ⟨px, 0, none⟩) (by show Y.heap.size ≤ px; omega) _)
              have HZ10 : Hid (px + 1 ≤ (w9.setCell ⟨px, 0, none⟩ (.slice E9 (k + 1) e9)).heap.size) := hidT (by rw [zb.1]; have h1 := HB9.out.size; have h2 := HWSZ.out; omega)
              have hkc := HKC.out
              clear y10 zb j0 j1 j2 j3 j4 v0 v1 v2 v3 v4 ff kc f1 f2 r1 r1' u1 u2
              exact ⟨⟨k + 1, E9, e9, _, by omega, by go_num, by go_num, Y10, HO10, HA10, XE10, HZ10⟩, by simp [intOf]; omega⟩
            · obtain rfl : ci = k := by omega
              have r1 : decide ((ci : Int) < (ci : Int)) = false := by simp
              have r1' : decide (ci < ci) = false := by simp
              obtain ⟨v0, v1, v2, v3, v4⟩ := cells5 HP.out
              have nL := nkeep Z (.cells #[.slice E ci ec, .int .i64 0, .int .i64 0, .int .i64 0, .slice none 0 0] 51)
              have HLIT := hidT (RdK.lit (k := 5) Z 51 (0, 0) #[.slice E ci ec, .int .i64 0, .int .i64 0, .int .i64 0, .slice none 0 0] [#[.slice E ci ec, .int .i64 0, .int .i64 0, .int .i64 0, .slice none 0 0]] (AllK.one rfl (by simp [Value.oneCell'])) (by simp [flat]) 1 rfl (by decide) Z.heap.size rfl)
              have HOL := hidT ((HO.out.later XE.out).later nL)
              have HAL := hidT ((HA.out.below XE.out).below nL)
              have HWS : Hid (w1.heap.size ≤ (Z.alloc (.cells #[.slice E ci ec, .int .i64 0, .int .i64 0, .int .i64 0, .slice none 0 0] 51)).heap.size) := hidT (bthen (bthen XB.out XE.out) nL).size
              have XBL := hidT (bthen (bthen XB.out XE.out) nL)
              have HLN : Hid (IsLane (fun b => (Value.slice A i cp).ownBlock ≠ some b) (Z.alloc (.cells #[.slice E ci ec, .int .i64 0, .int .i64 0, .int .i64 0, .slice none 0 0] 51)) (.agg #[.slice E ci ec, .int .i64 0, .int .i64 0, .int .i64 0, .slice none 0 0]) (Seqr.roundL i ci)) := hidT (by
                have hpxy := HPX.out
                have hob : ∀ b, px < b → (Value.slice A i cp).ownBlock ≠ some b := fun b hb e => by have := (HO.out.blk b e).2; omega
                exact ⟨E, ci, ec, none, 0, 0, rfl, ⟨rs, HOE.out.same.below nL, (HAE.out.below nL).mono fun b hb => hob b hb.1, fun h0 b o e => hob b (by have := (HOE.out.addr b o e).1; omega)⟩, Rd.nil_ _, Within.zero _ _⟩)
              have hii : i + 1 ≤ 16777216 := by omega
              clear nL hkc
              go_wp2_with (first
                | (at_builtin
                   refine wpList_appKW 5 (by omega) rfl (.tmp 70) (.tmp 72) 24 rfl w1.heap.size 51 _ 72 infoL rfl (by omega) Try.underlying24 (.slice A i cp) i rows rfl HOL.out (some ⟨Z.heap.size, 0, none⟩) 1 1 [#[.slice E ci ec, .int .i64 0, .int .i64 0, .int .i64 0, .slice none 0 0]] rfl HLIT.out hii HWS.out ?_
                   intro v9 w9 hown hb9 hg9 ho9
                   obtain ⟨A9, a9, rfl, hrd9⟩ := OwnK.rd hown
                   have HA9 := hidT (AreL.app1 HAL.out HLN.out hg9 ho9)
                   have HO9 := hidT hown
                   have XB9 := hidT (XBL.out.trans hb9)
                   clear hown hb9 hg9 ho9 hrd9)
                | fail)
              have HA10 : Hid (AreL (fun b => (Value.slice A9 (i + 1) a9).ownBlock ≠ some b) w9 (rows ++ [#[.slice E ci ec, .int .i64 0, .int .i64 0, .int .i64 0, .slice none 0 0]]) (Seqr.lanes0 c (i + 1))) := hidT (by rw [Seqr.lanes0_succ, HCI.out]; exact HA9.out)
              have HS1 : Hid (Seqr.sumFrom c 0 (i + 1) = S0 + ci) := hidT (by show Seqr.sumFrom c 0 i + c (0 + i) = _; rw [Nat.zero_add, HS0.out, HCI.out])
              clear v0 v1 v2 v3 v4 kc f1 f2 r1 r1'
              exact ⟨⟨i + 1, A9, a9, _, by omega, by go_num, by rw [HS1.out]; go_num, rfl, HO9, HA10, XB9⟩, by simp [intOf]; omega⟩
        · obtain rfl : n = i := by omega
          obtain ⟨TOT, hTOT⟩ : ∃ T, Seqr.sumFrom c 0 n = T := ⟨_, rfl⟩
          have HTOT := hidT hTOT
          have hT48 : TOT ≤ 48 := by have := sumFrom_le HC8.out 0 n; omega
          rw [hTOT]
          have y0 := alloc_at Y (.cells #[.int .i64 0, .int .i64 0] 23) _ rfl
          have n0 := nkeep Y (.cells #[.int .i64 0, .int .i64 0] 23)
          have hz0 := size_alloc Y (.cells #[.int .i64 0, .int .i64 0] 23)
          obtain ⟨pt, hpt⟩ : ∃ p, Y.heap.size = p := ⟨_, rfl⟩
          rw [hpt] at y0 hz0
          obtain ⟨W, hW⟩ : ∃ W, Y.alloc (.cells #[.int .i64 0, .int .i64 0] 23) = W := ⟨_, rfl⟩
          rw [hW] at y0 n0 hz0
          have HWW := hidT hW
          have HRR0 : Hid (RR pt (pt + 1) w A n cp (Seqr.lanes0 c n) none 0 0 [] [] ⟨0, 0⟩ W) := hidT (by
            have hsz : w.heap.size ≤ pt := by rw [← hpt]; exact (bthen B1.out XB.out).size
            have hlt := HA.out.ltS
            refine ⟨y0, ⟨rows, RdK.below HO.out.same n0, (hlt.below n0).mono fun b hb => ⟨by have := hb.2; omega, fun e => by cases e⟩, fun h0 b o e => ⟨by have := RdK.ltA (by omega) HO.out.same h0 b o e; omega, fun e => by cases e⟩⟩, OwnK.nil_ _ _ _ _, AreD.nil_ _ _, bthen (bthen B1.out XB.out) n0, hsz, Nat.lt_succ_self _, by omega⟩)
          have HI0 : Hid (Seqr.RInv (Seqr.lanes0 c n) Qn ⟨0, 0⟩ (Seqr.lanes0 c n) []) := hidT (Seqr.lanes0_inv c (by omega))
          clear hTOT y0 n0 hz0 hW HO HA
          go_wp2_with fail
          rw [HWW.out]
          clear hpt
          go_loopw [8, 14, 15, 16] (fun x8 x14 x15 x16 wr => ∃ (j : Nat) (sq : Int) (A : Option Addr) (cl : Nat) (ls : List Lane.Ln) (D : Option Addr) (m d : Nat) (rows : List (Array Value)) (all : List Seqr.Dv) (t : Seqr.Tn), x16 = .int .i64 j ∧ x15 = .int .i64 sq ∧ x8 = .slice A n cl ∧ x14 = .slice D m d ∧ j ≤ all.length ∧ Hid (sq = 100 + (j : Int)) ∧ Hid (RR pt (pt + 1) w A n cl ls D m d rows all t wr) ∧ Hid (Seqr.RInv (Seqr.lanes0 c n) Qn t ls all)) (fun _ _ _ x16 _ => 100 - (intOf x16).toNat)
          case atStart => exact ⟨0, 100, A, cp, Seqr.lanes0 c n, none, 0, 0, [], [], ⟨0, 0⟩, rfl, rfl, rfl, rfl, Nat.zero_le _, hidT rfl, HRR0, HI0⟩
          case round =>
            clear HRR0 HI0
            obtain ⟨j, sq, A, cl, ls, D, m, d, rows, all, t, rfl, rfl, rfl, rfl, hja, HSQ, HR, HI⟩ := hrel
            obtain ⟨X, rfl⟩ : ∃ X, X = wr := ⟨_, rfl⟩
            obtain ⟨hbig, hlast, htot, hlsn⟩ := rinv_small HI.out HC8.out hnu
            have hj48 : j ≤ 48 := by omega
            have hsq1 : 100 ≤ sq := by have := HSQ.out; omega
            have hsq2 : sq ≤ 148 := by have := HSQ.out; omega
            have hsm : SmallLs ls := hbig.small (Nat.zero_le _)
            have hwho : t.who < n := by have := HI.out.1.1; omega
            have hus : 0 ≤ t.used ∧ t.used < (Qn : Int) := by
              have h1 := HI.out.2.2.2.2.2.2.2
              have h2 := Nat.mod_lt all.length (show 0 < Qn by omega)
              omega
            obtain ⟨v0, v1⟩ := cells2 HR.out.1
            have hcs := sqSay_any t A n cl ls t.who (Qn : Int) X HR.out.rd hsm (by omega) hwho ⟨by omega, by omega⟩ ⟨hus.1, by omega⟩
            have r1 : decide ((j : Int) < 100) = true := by simp; omega
            have r1' : decide (j < 100) = true := by simp; omega
            obtain ⟨L, hL⟩ : ∃ L, Seqr.saidL ls t.who ((Qn : Int) - t.used) = L := ⟨_, rfl⟩
            have HBIG := hidT hbig
            have HLAST := hidT hlast
            have HTL := hidT htot
            have HLSN := hidT hlsn
            have HWHO := hidT hwho
            have HUS := hidT hus
            have HJA := hidT hja
            have HL := hidT hL
            clear hbig hlast htot hlsn hsm hwho hus hja hL
            go_wp2_with fail
            with_reducible refine hcs.mono ?_
            rintro e w5 ⟨v, rfl, hi5, hb5⟩
            clear hcs v0 v1
            by_cases hne : L = []
            · have hsay := Seqr.say_none (t := t) (ls := ls) (me := t.who) (quota := (Qn : Int)) (by rw [HL.out]; exact hne)
              have hdone := Seqr.round_done HI.out (by omega) (by rw [HL.out]; exact hne)
              rw [Seqr.lanes0_total, HTOT.out] at hdone
              rw [hsay] at hi5 ⊢
              obtain ⟨LA, ln, lc, BA, bn, bc, rfl, _, _, _⟩ := hi5
              simp only [Option.isSome_none, Option.getD_none]
              obtain ⟨zz, hzz⟩ : ∃ z, Item.It.zero = z := ⟨_, rfl⟩
              rw [hzz]
              clear hzz
              have n6 := nkeep w5 (.cells #[.int .i64 zz.k, .int .i64 zz.q, .int .i64 zz.e, .int .i64 zz.i, .int .i64 zz.t, .int .i64 zz.c, .slice LA ln lc, .slice BA bn bc] 35)
              obtain ⟨X6, hX6⟩ : ∃ X, w5.alloc (.cells #[.int .i64 zz.k, .int .i64 zz.q, .int .i64 zz.e, .int .i64 zz.i, .int .i64 zz.t, .int .i64 zz.c, .slice LA ln lc, .slice BA bn bc] 35) = X := ⟨_, rfl⟩
              rw [hX6] at n6
              have HX6 := hidT hX6
              have HR6 := hidT (HR.out.below (bthen hb5 n6))
              have hm1 : m = all.length := by have h1 := HR.out.2.2.2.1.1; have h2 := HR.out.2.2.1.2.1; omega
              have HDONE := hidT hdone.1
              have HM1 := hidT hm1
              obtain rfl : TOT = m := by omega
              obtain ⟨q1, hq1⟩ : ∃ q, TOT / Qn = q := ⟨_, rfl⟩
              have hwq := HI.out.2.2.2.2.2.2.1
              rw [Seqr.lanes0_length, ← hm1, hq1] at hwq
              have huq := HI.out.2.2.2.2.2.2.2
              rw [← hm1] at huq
              have e1 : (TOT : Int) / (Qn : Int) = (q1 : Int) := by rw [← hq1, Int.natCast_ediv]
              have e1' : Int.tdiv (TOT : Int) (Qn : Int) = (q1 : Int) := by rw [Int.tdiv_eq_ediv_of_nonneg (by omega)]; exact e1
              have e2 : (q1 : Int) % (n : Int) = (t.who : Int) := by rw [hwq, Int.natCast_emod]
              have e2' : Int.tmod (q1 : Int) (n : Int) = (t.who : Int) := by rw [Int.tmod_eq_emod_of_nonneg (by omega)]; exact e2
              have e3 : (TOT : Int) % (Qn : Int) = t.used := by rw [huq, Int.natCast_emod]
              have e3' : Int.tmod (TOT : Int) (Qn : Int) = t.used := by rw [Int.tmod_eq_emod_of_nonneg (by omega)]; exact e3
              have hq1b : q1 ≤ 48 := by rw [← hq1]; exact Nat.le_trans (Nat.div_le_self _ _) hT48
              have E1 := hidT e1
              have E1' := hidT e1'
              have E2 := hidT e2
              have E2' := hidT e2'
              have E3 := hidT e3
              have E3' := hidT e3'
              have W1 : Hid (IntKind.i64.wrap (q1 : Int) = (q1 : Int)) := hidT (IntWalk.i64_in _ (by omega))
              have W2 : Hid (wrap64 (q1 : Int) = (q1 : Int)) := hidT (IntWalk.wrap64_in _ (by omega))
              clear hsay hdone hne hb5 n6 hX6 hm1 hq1 hwq huq e1 e1' e2 e2' e3 e3'
              go_upto_region 34 with fail
              rw [HX6.out]
              obtain ⟨v0, v1⟩ := cells2 HR6.out.1
              have NE := Later.ne X6
              have k0 := Later.cell v0
              have k1 := Later.cell v1
              have e1 := E1.out
              have e1' := E1'.out
              have e2 := E2.out
              have e2' := E2'.out
              have e3 := E3.out
              have e3' := E3'.out
              have g1 := W1.out
              have g2 := W2.out
              have z1 : ¬ (Qn : Int) = 0 := by omega
              have z1b : ((Qn : Int) == 0) = false := by simp; omega
              have z2 : ¬ (n : Int) = 0 := by omega
              have z2b : ((n : Int) == 0) = false := by simp; omega
              have p1 : ((TOT : Int) != (TOT : Int)) = false := by simp
              have p1' : (TOT != TOT) = false := by simp
              have p2 : ((t.who : Int) != (t.who : Int)) = false := by simp
              have p2' : (t.who != t.who) = false := by simp
              have p3 : (t.used != t.used) = false := by simp
              have z3 : ¬ (Qn : Int) = -1 := by omega
              have z3b : ((Qn : Int) == -1) = false := by rw [beq_eq_false_iff_ne]; omega
              have z4 : ¬ (n : Int) = -1 := by omega
              have z4b : ((n : Int) == -1) = false := by rw [beq_eq_false_iff_ne]; omega
              refine wp_later (by kernel_rfl) (by kernel_rfl) ?_
              repeat (go_big_quiet_step (fail))
              refine wpQuiet_nil ?_
              intro w9 hw9
              obtain ⟨⟨w9, hb9⟩, rfl⟩ := hw9
              have HR9 := hidT (HR6.out.below hb9)
              clear NE k0 k1 e1 e1' e2 e2' e3 e3' g1 g2 z1 z1b z2 z2b z3 z3b z4 z4b p1 p1' p2 p2' p3 v0 v1 hb9
              go_wp2_with (first
                | (at_make
                   refine wpList_mkV rfl (.tmp 138) (.tmp 138) 32 rfl 3 (.int .i64 0) 8 info3 rfl (by omega) Try.underlying32 .i64 .i64 (n : Int) n rfl rfl rfl (by omega) ?_
                   intro w8 hown8 hb8
                   rw [cnts_zero all n] at hown8
                   have HOW8 := hidT hown8
                   have HB8 := hidT hb8
                   clear hown8 hb8)
                | fail)
              obtain ⟨ga, hga⟩ : ∃ g, w9.heap.size = g := ⟨_, rfl⟩
              have HOWA : Hid (OwnV w8 ga 3 (.slice (some ⟨ga, 0, none⟩) n n) n (is (cnts all n 0))) := hidT (by have := HOW8.out; rw [hga] at this; exact this)
              have HGA := hidT hga
              rw [hga]
              clear hga
              have HRDD : Hid (RdD (fun _ => True) w9 D TOT d all) := hidT ⟨rows, HR9.out.2.2.1.same, HR9.out.2.2.2.1.mono fun _ _ => trivial, Within.any _ _⟩
              have hdc := HRDD.out.cap
              have hdm := HRDD.out.cmax
              go_loopw [23] (fun x23 wr => ∃ p : Nat, p ≤ TOT ∧ x23 = .int .i64 p ∧ Hid (OwnV wr ga 3 (.slice (some ⟨ga, 0, none⟩) n n) n (is (cnts all n p))) ∧ Hid (Below w9.heap.size w9 wr)) (fun x23 _ => TOT - (intOf x23).toNat)
              case atStart => exact ⟨0, Nat.zero_le _, rfl, HOWA, HB8⟩
              case round =>
                obtain ⟨p, hp, rfl, HOV, XV⟩ := hrel
                obtain ⟨V, rfl⟩ : ∃ V, V = wr := ⟨_, rfl⟩
                by_cases hpt2 : p < TOT
                · obtain ⟨bD, oD, y, BD, bdn, bdc, rfl, hy, hrb, _, hcy⟩ := HRDD.out.told hpt2
                  obtain ⟨i, hsi, hin, hkc, hyb⟩ := Seqr.round_body HI.out HDONE.out hy
                  obtain ⟨k, hk⟩ : ∃ k, (Seqr.delsOf i (all.take p)).length = k := ⟨_, rfl⟩
                  rw [hk] at hkc hyb
                  have hk8 : k < 8 := by have := HC8.out i; omega
                  rw [hyb] at hrb
                  obtain rfl : bdn = 2 := by rw [← hrb.1]; rfl
                  obtain ⟨bB, oB, rfl, hbc2⟩ := hrb.2.2.2.2 (by omega)
                  have hbyte : ∀ n : Nat, n < 256 → ((UInt8.ofNat n).toNat : Int) = (n : Int) := fun n hn => by rw [UInt8.toNat_ofNat', Nat.mod_eq_of_lt (by omega)]
                  have c0 := hbc2 0 (UInt8.ofNat i) rfl
                  have c1 := hbc2 1 (UInt8.ofNat k) rfl
                  rw [hbyte i (by omega)] at c0
                  rw [hbyte k (by omega)] at c1
                  simp only [Nat.add_zero] at c0
                  have hat : (is (cnts all n p))[i]? = some (.int .i64 (k : Int)) := by
                    unfold is
                    rw [List.getElem?_map, cnts_at all hin, hk]; rfl
                  have ca := HOV.out.cellAt hat
                  have ff := HOV.out.frz i
                  have HNX := hidT (cnts_succ hy hsi hin hk)
                  have d0 := (hcy V XV.out).1
                  rw [hsi] at d0
                  have NE := Later.ne V
                  have kd := fun m' : Later V => (hcy m'.w (bthen XV.out m'.h)).2
                  have kb0 := fun m' : Later V => cellC (bthen XV.out m'.h) c0
                  have kb1 := fun m' : Later V => cellC (bthen XV.out m'.h) c1
                  have ka := Later.cell ca
                  have y1 : (0 : Int) ≤ (p : Int) := by omega
                  have y2 : (p : Int) < (TOT : Int) := by omega
                  have x1 : (0 : Int) ≤ (i : Int) := by omega
                  have x2 : (i : Int) < (n : Int) := by omega
                  have q1 : decide ((i : Int) < 0) = false := by simp
                  have q2 : decide ((n : Int) ≤ (i : Int)) = false := by simp; omega
                  have q2' : decide (n ≤ i) = false := by simp; omega
                  have q3 : ((2 : Int) != 2) = false := by simp
                  have q4 : ((i : Int) != (i : Int)) = false := by simp
                  have q4' : (i != i) = false := by simp
                  have q5 : ((k : Int) != (k : Int)) = false := by simp
                  have q5' : (k != k) = false := by simp
                  have g1 : IntKind.i64.wrap (i : Int) = (i : Int) := IntWalk.i64_in _ (by omega)
                  have g2 : IntKind.i64.wrap (k : Int) = (k : Int) := IntWalk.i64_in _ (by omega)
                  have HIN := hidT hin
                  clear hy hrb hcy hsi hkc hyb hbc2 hbyte c0 c1 hat hk
                  go_upto_region 41 with fail
                  refine wp_later (by kernel_rfl) (by kernel_rfl) ?_
                  repeat (go_big_quiet_step (fail))
                  refine wpQuiet_nil ?_
                  intro wl hwl
                  obtain ⟨⟨wl, hbl⟩, rfl⟩ := hwl
                  have HOL := hidT (HOV.out.later hbl)
                  have XL := hidT (bthen XV.out hbl)
                  have cl := cellC hbl ca
                  have fl := HOL.out.frz i
                  clear NE kd kb0 kb1 ka q1 q2 q2' q3 q4 q4' q5 q5' g1 g2 d0 ca ff hbl
                  go_wp2_with fail
                  have HON : Hid (OwnV (wl.setCell ⟨ga, i, none⟩ (.int .i64 ((k : Int) + 1))) ga 3 (.slice (some ⟨ga, 0, none⟩) n n) n (is (cnts all n (p + 1)))) := hidT (by rw [HNX.out]; exact HOL.out.put i _)
                  have XN : Hid (Below w9.heap.size w9 (wl.setCell ⟨ga, i, none⟩ (.int .i64 ((k : Int) + 1)))) := hidT (XL.out.setCell (p := ⟨ga, i, none⟩) (by show w9.heap.size ≤ ga; rw [HGA.out]; exact Nat.le_refl _) _)
                  clear cl fl
                  exact ⟨⟨p + 1, by omega, by go_num, HON, XN⟩, by simp [intOf]; omega⟩
                · obtain rfl : TOT = p := by omega
                  have HBF := hidT (bthen HR9.out.2.2.2.2.1 XV.out)
                  go_wp2_with fail
                  go_ret
                  exact ⟨rfl, HBF.out⟩
            · have hcon : Lane.control (Seqr.laneAt ls t.who) = none := Seqr.ctls_none (HI.out.2.2.1 t.who).1
              have hsay := Seqr.say_some (t := t) (ls := ls) (me := t.who) (quota := (Qn : Int)) rfl (by rw [hcon]; rfl) (by rw [HL.out]; exact hne)
              rw [HL.out] at hsay
              obtain ⟨IX, hIX⟩ : ∃ IX : Int, (if (Qn : Int) ≤ t.used + (L.length : Int) then (1 : Int) else 0) = IX := ⟨_, rfl⟩
              rw [hIX] at hsay
              rw [hsay] at hi5 ⊢
              obtain ⟨LA, ln, lc, BA, bn, bc, rfl, hl5, hbb5, hw5⟩ := hi5
              simp only [Option.isSome_some, Option.getD_some, Seqr.orderOf] at hl5 hbb5 ⊢
              obtain rfl : bn = 0 := by rw [← hbb5.1]; rfl
              have n6 := nkeep w5 (.cells #[.int .i64 2, .int .i64 0, .int .i64 0, .int .i64 IX, .int .i64 0, .int .i64 0, .slice LA ln lc, .slice BA 0 bc] 35)
              have y6 := alloc_at w5 (.cells #[.int .i64 2, .int .i64 0, .int .i64 0, .int .i64 IX, .int .i64 0, .int .i64 0, .slice LA ln lc, .slice BA 0 bc] 35) _ rfl
              obtain ⟨pi, hpi⟩ : ∃ p, w5.heap.size = p := ⟨_, rfl⟩
              rw [hpi] at y6
              obtain ⟨X6, hX6⟩ : ∃ X, w5.alloc (.cells #[.int .i64 2, .int .i64 0, .int .i64 0, .int .i64 IX, .int .i64 0, .int .i64 0, .slice LA ln lc, .slice BA 0 bc] 35) = X := ⟨_, rfl⟩
              rw [hX6] at n6 y6
              have HX6 := hidT hX6
              have P6 := hidT y6
              have HPI := hidT hpi
              have HIX := hidT hIX
              have HNE := hidT hne
              have N6 := hidT n6
              have B56 := hidT (bthen hb5 n6)
              have HXP : Hid (X.heap.size ≤ pi) := hidT (by rw [← hpi]; exact hb5.size)
              have HL5 := hidT hl5
              have HB5 := hidT hbb5
              clear hcon hsay hIX hne n6 y6 hX6 hl5 hbb5 hw5 hb5
              go_upto_region 25 with fail
              rw [HX6.out]
              clear hpi
              obtain ⟨j0, j1, j2, j3, j4, j5, j6, j7⟩ := cells8x P6.out
              have f1 := no_frozen P6.out 1
              have z8 : (X6.setCell ⟨pi, 1, none⟩ (.int .i64 sq)).heap[pi]? = some (.cells #[.int .i64 2, .int .i64 sq, .int .i64 0, .int .i64 IX, .int .i64 0, .int .i64 0, .slice LA ln lc, .slice BA 0 bc] 35 (0, 0)) := heap_setCell_same X6 pi 1 _ _ _ P6.out
              have hXZ : Below X.heap.size X (X6.setCell ⟨pi, 1, none⟩ (.int .i64 sq)) := B56.out.setCell (p := ⟨pi, 1, none⟩) HXP.out _
              have h5Z : Below w5.heap.size w5 (X6.setCell ⟨pi, 1, none⟩ (.int .i64 sq)) := N6.out.setCell (p := ⟨pi, 1, none⟩) (by show w5.heap.size ≤ pi; rw [HPI.out]; exact Nat.le_refl _) _
              have PZ := hidT z8
              have HRZ := hidT (HR.out.below hXZ)
              have LZ5 := hidT (RdV.below HL5.out h5Z)
              have BZ5 := hidT (HB5.out.below h5Z)
              clear z8 hXZ h5Z
              go_upto_region 28 with fail
              generalize X6.setCell ⟨pi, 1, none⟩ (.int .i64 sq) = Z at *
              clear j0 j1 j2 j3 j4 j5 j6 j7 f1 r1 r1'
              have hbig := HBIG.out
              have hlast := HLAST.out
              have hll := Seqr.saidL_len ls t.who ((Qn : Int) - t.used)
              rw [HL.out] at hll
              have hus := HUS.out
              have hwho := HWHO.out
              have hlsn := HLSN.out
              have hix01 : IX = 0 ∨ IX = 1 := by
                rw [← HIX.out]
                split
                · exact .inr rfl
                · exact .inl rfl
              have hmay : Item.may ⟨2, sq, 0, IX, 0, 0, L, []⟩ = true := may_order ⟨by omega, by omega⟩ hix01 HNE.out (by omega) (fun x hx => by
                rw [← HL.out] at hx
                have := Seqr.saidL_mem HI.out.1.1 hx
                omega)
              have hlst : Lane.last (Seqr.laneAt ls t.who) < sq := by have := hlast t.who; omega
              obtain ⟨t', ls', dd, hwalk, hinv, hdne, hokx, hlen'⟩ := Seqr.round_step HI.out (by omega) HL.out HNE.out hlst HIX.out hmay
              have hfit : Seqr.Fit ls [((t.who : Int), ⟨2, sq, 0, IX, 0, 0, L, []⟩)] := ⟨⟨by rw [Int.toNat_natCast]; omega, hmay, by rw [Int.toNat_natCast]; exact hlst⟩, trivial⟩
              have hbx := Seqr.reads_big hbig hfit
              have hsmx := Seqr.reads_small hbig hfit (by simp)
              have hmux := hbx.mu (by simp)
              rw [Seqr.readAll_length] at hmux
              have hitem : IsItem Z (.agg #[.int .i64 2, .int .i64 sq, .int .i64 0, .int .i64 IX, .int .i64 0, .int .i64 0, .slice LA ln lc, .slice BA 0 bc]) ⟨2, sq, 0, IX, 0, 0, L, []⟩ := ⟨LA, ln, lc, BA, 0, bc, rfl, LZ5.out, BZ5.out⟩
              obtain ⟨it, hit⟩ : ∃ it : Item.It, (⟨2, sq, 0, IX, 0, 0, L, []⟩ : Item.It) = it := ⟨_, rfl⟩
              rw [hit] at hwalk hokx hsmx hmux hitem
              have hitb : it.b.length ≤ 65536 ∧ it.l.length ≤ 65536 := by rw [← hit]; exact ⟨Nat.zero_le _, by show L.length ≤ 65536; omega⟩
              obtain ⟨xs, hxs⟩ : ∃ xs, Seqr.readAll ls [((t.who : Int), it)] = xs := ⟨_, rfl⟩
              have HRD : Hid (∀ w' a b, Below Z.heap.size Z w' → w'.heap[a]? = some (.cells #[.int .i64 (t.who : Int)] 3 (0, 0)) → w'.heap[b]? = some (.cells #[.int .i64 2, .int .i64 sq, .int .i64 0, .int .i64 IX, .int .i64 0, .int .i64 0, .slice LA ln lc, .slice BA 0 bc] 35 (0, 0)) → Calls Try.prog 20 #[.slice A n cl, .slice (some ⟨a, 0, none⟩) 1 1, .slice (some ⟨b, 0, none⟩) 1 1] w' (LanesAre w' n xs)) := hidT fun w' a b hb h1 h2 => by
                have h := readAll_any A n cl ls (some ⟨a, 0, none⟩) 1 1 [(t.who : Int)] (some ⟨b, 0, none⟩) 1 [it] w' (HRZ.out.rd.below hb) (rdI_one h1) (rdX_one h2 (hitem.below hb)) (fun x hx => by rw [List.mem_singleton.1 hx]; omega) (fun k _ => hsmx k) (fun x hx => by rw [List.mem_singleton.1 hx]; exact hitb) (by omega) (by omega)
                have e : ([(t.who : Int)] : List Int).zip [it] = [((t.who : Int), it)] := rfl
                rw [e, hxs] at h
                exact h
              rw [hxs] at hwalk hokx hmux
              have hsx : SmallLs xs := by have := hsmx 1; rw [show List.take 1 [((t.who : Int), it)] = [((t.who : Int), it)] from rfl, hxs] at this; exact this
              obtain ⟨qq, hqq⟩ : ∃ q, tc t' = q := ⟨_, rfl⟩
              obtain ⟨hqs, hqa⟩ := tc_two _ _ hqq
              have hl0 : ls'.length = n := by rw [hlen', Seqr.lanes0_length]
              have HC : Hid (∀ A' c' w', RdL (fun _ => True) w' A' n c' xs → Calls Try.prog 11 #[.agg #[.int .i64 (t.who : Int), .int .i64 t.used], .slice A' n c'] w' (WalkQ w' n qq ls' dd)) := hidT fun A' c' w' h =>
                walkQ_any t A' n c' xs w' h hokx hsx (by omega) hus.1 (by omega) (by omega) hwalk hl0 qq hqq
              have HQQ := hidT hqq
              have HINV := hidT hinv
              have hdd : 1 ≤ dd.length := by
                rcases Nat.eq_zero_or_pos dd.length with h | h
                · exact absurd (List.eq_nil_of_length_eq_zero h) hdne
                · exact h
              have HDD := hidT hdd
              have HB_IT : Hid (Below Z.heap.size Z ((Z.alloc (.cells #[.int .i64 (t.who : Int)] 3)).alloc (.cells #[.int .i64 2, .int .i64 sq, .int .i64 0, .int .i64 IX, .int .i64 0, .int .i64 0, .slice LA ln lc, .slice BA 0 bc] 35)).drew) := hidT ((nkeep_alloc (nkeep _ _) _).drew)
              have HR_IT : Hid (Calls Try.prog 20 #[.slice A n cl, .slice (some ⟨Z.heap.size, 0, none⟩) 1 1, .slice (some ⟨Z.heap.size + 1, 0, none⟩) 1 1] ((Z.alloc (.cells #[.int .i64 (t.who : Int)] 3)).alloc (.cells #[.int .i64 2, .int .i64 sq, .int .i64 0, .int .i64 IX, .int .i64 0, .int .i64 0, .slice LA ln lc, .slice BA 0 bc] 35)).drew (LanesAre ((Z.alloc (.cells #[.int .i64 (t.who : Int)] 3)).alloc (.cells #[.int .i64 2, .int .i64 sq, .int .i64 0, .int .i64 IX, .int .i64 0, .int .i64 0, .slice LA ln lc, .slice BA 0 bc] 35)).drew n xs)) := hidT (HRD.out _ _ _ HB_IT.out (keepH (alloc_at Z (.cells #[.int .i64 (t.who : Int)] 3) (Z.heap.size) rfl) ((nkeep _ _).drew)) (keepH (alloc_at (Z.alloc (.cells #[.int .i64 (t.who : Int)] 3)) (.cells #[.int .i64 2, .int .i64 sq, .int .i64 0, .int .i64 IX, .int .i64 0, .int .i64 0, .slice LA ln lc, .slice BA 0 bc] 35) (Z.heap.size + 1) (by simp only [size_alloc])) ((Below.refl _ _).drew)))
              have HB_TI : Hid (Below Z.heap.size Z ((Z.alloc (.cells #[.int .i64 2, .int .i64 sq, .int .i64 0, .int .i64 IX, .int .i64 0, .int .i64 0, .slice LA ln lc, .slice BA 0 bc] 35)).alloc (.cells #[.int .i64 (t.who : Int)] 3)).drew) := hidT ((nkeep_alloc (nkeep _ _) _).drew)
              have HR_TI : Hid (Calls Try.prog 20 #[.slice A n cl, .slice (some ⟨Z.heap.size + 1, 0, none⟩) 1 1, .slice (some ⟨Z.heap.size, 0, none⟩) 1 1] ((Z.alloc (.cells #[.int .i64 2, .int .i64 sq, .int .i64 0, .int .i64 IX, .int .i64 0, .int .i64 0, .slice LA ln lc, .slice BA 0 bc] 35)).alloc (.cells #[.int .i64 (t.who : Int)] 3)).drew (LanesAre ((Z.alloc (.cells #[.int .i64 2, .int .i64 sq, .int .i64 0, .int .i64 IX, .int .i64 0, .int .i64 0, .slice LA ln lc, .slice BA 0 bc] 35)).alloc (.cells #[.int .i64 (t.who : Int)] 3)).drew n xs)) := hidT (HRD.out _ _ _ HB_TI.out (keepH (alloc_at (Z.alloc (.cells #[.int .i64 2, .int .i64 sq, .int .i64 0, .int .i64 IX, .int .i64 0, .int .i64 0, .slice LA ln lc, .slice BA 0 bc] 35)) (.cells #[.int .i64 (t.who : Int)] 3) (Z.heap.size + 1) (by simp only [size_alloc])) ((Below.refl _ _).drew)) (keepH (alloc_at Z (.cells #[.int .i64 2, .int .i64 sq, .int .i64 0, .int .i64 IX, .int .i64 0, .int .i64 0, .slice LA ln lc, .slice BA 0 bc] 35) (Z.heap.size) rfl) ((nkeep _ _).drew)))
              have HB_ZIT : Hid (Below Z.heap.size Z (((Z.alloc (.cells #[.int .i64 0, .int .i64 0] 23)).alloc (.cells #[.int .i64 (t.who : Int)] 3)).alloc (.cells #[.int .i64 2, .int .i64 sq, .int .i64 0, .int .i64 IX, .int .i64 0, .int .i64 0, .slice LA ln lc, .slice BA 0 bc] 35)).drew) := hidT ((nkeep_alloc (nkeep_alloc (nkeep _ _) _) _).drew)
              have HR_ZIT : Hid (Calls Try.prog 20 #[.slice A n cl, .slice (some ⟨Z.heap.size + 1, 0, none⟩) 1 1, .slice (some ⟨Z.heap.size + 1 + 1, 0, none⟩) 1 1] (((Z.alloc (.cells #[.int .i64 0, .int .i64 0] 23)).alloc (.cells #[.int .i64 (t.who : Int)] 3)).alloc (.cells #[.int .i64 2, .int .i64 sq, .int .i64 0, .int .i64 IX, .int .i64 0, .int .i64 0, .slice LA ln lc, .slice BA 0 bc] 35)).drew (LanesAre (((Z.alloc (.cells #[.int .i64 0, .int .i64 0] 23)).alloc (.cells #[.int .i64 (t.who : Int)] 3)).alloc (.cells #[.int .i64 2, .int .i64 sq, .int .i64 0, .int .i64 IX, .int .i64 0, .int .i64 0, .slice LA ln lc, .slice BA 0 bc] 35)).drew n xs)) := hidT (HRD.out _ _ _ HB_ZIT.out (keepH (alloc_at (Z.alloc (.cells #[.int .i64 0, .int .i64 0] 23)) (.cells #[.int .i64 (t.who : Int)] 3) (Z.heap.size + 1) (by simp only [size_alloc])) ((nkeep _ _).drew)) (keepH (alloc_at ((Z.alloc (.cells #[.int .i64 0, .int .i64 0] 23)).alloc (.cells #[.int .i64 (t.who : Int)] 3)) (.cells #[.int .i64 2, .int .i64 sq, .int .i64 0, .int .i64 IX, .int .i64 0, .int .i64 0, .slice LA ln lc, .slice BA 0 bc] 35) (Z.heap.size + 1 + 1) (by simp only [size_alloc])) ((Below.refl _ _).drew)))
              have HY_ZIT : Hid ((((Z.alloc (.cells #[.int .i64 0, .int .i64 0] 23)).alloc (.cells #[.int .i64 (t.who : Int)] 3)).alloc (.cells #[.int .i64 2, .int .i64 sq, .int .i64 0, .int .i64 IX, .int .i64 0, .int .i64 0, .slice LA ln lc, .slice BA 0 bc] 35)).drew.heap[Z.heap.size]? = some (.cells #[.int .i64 0, .int .i64 0] 23 (0, 0))) := hidT (keepH (alloc_at Z (.cells #[.int .i64 0, .int .i64 0] 23) (Z.heap.size) rfl) ((nkeep_alloc (nkeep _ _) _).drew))
              have HB_ZTI : Hid (Below Z.heap.size Z (((Z.alloc (.cells #[.int .i64 0, .int .i64 0] 23)).alloc (.cells #[.int .i64 2, .int .i64 sq, .int .i64 0, .int .i64 IX, .int .i64 0, .int .i64 0, .slice LA ln lc, .slice BA 0 bc] 35)).alloc (.cells #[.int .i64 (t.who : Int)] 3)).drew) := hidT ((nkeep_alloc (nkeep_alloc (nkeep _ _) _) _).drew)
              have HR_ZTI : Hid (Calls Try.prog 20 #[.slice A n cl, .slice (some ⟨Z.heap.size + 1 + 1, 0, none⟩) 1 1, .slice (some ⟨Z.heap.size + 1, 0, none⟩) 1 1] (((Z.alloc (.cells #[.int .i64 0, .int .i64 0] 23)).alloc (.cells #[.int .i64 2, .int .i64 sq, .int .i64 0, .int .i64 IX, .int .i64 0, .int .i64 0, .slice LA ln lc, .slice BA 0 bc] 35)).alloc (.cells #[.int .i64 (t.who : Int)] 3)).drew (LanesAre (((Z.alloc (.cells #[.int .i64 0, .int .i64 0] 23)).alloc (.cells #[.int .i64 2, .int .i64 sq, .int .i64 0, .int .i64 IX, .int .i64 0, .int .i64 0, .slice LA ln lc, .slice BA 0 bc] 35)).alloc (.cells #[.int .i64 (t.who : Int)] 3)).drew n xs)) := hidT (HRD.out _ _ _ HB_ZTI.out (keepH (alloc_at ((Z.alloc (.cells #[.int .i64 0, .int .i64 0] 23)).alloc (.cells #[.int .i64 2, .int .i64 sq, .int .i64 0, .int .i64 IX, .int .i64 0, .int .i64 0, .slice LA ln lc, .slice BA 0 bc] 35)) (.cells #[.int .i64 (t.who : Int)] 3) (Z.heap.size + 1 + 1) (by simp only [size_alloc])) ((Below.refl _ _).drew)) (keepH (alloc_at (Z.alloc (.cells #[.int .i64 0, .int .i64 0] 23)) (.cells #[.int .i64 2, .int .i64 sq, .int .i64 0, .int .i64 IX, .int .i64 0, .int .i64 0, .slice LA ln lc, .slice BA 0 bc] 35) (Z.heap.size + 1) (by simp only [size_alloc])) ((nkeep _ _).drew)))
              have HY_ZTI : Hid ((((Z.alloc (.cells #[.int .i64 0, .int .i64 0] 23)).alloc (.cells #[.int .i64 2, .int .i64 sq, .int .i64 0, .int .i64 IX, .int .i64 0, .int .i64 0, .slice LA ln lc, .slice BA 0 bc] 35)).alloc (.cells #[.int .i64 (t.who : Int)] 3)).drew.heap[Z.heap.size]? = some (.cells #[.int .i64 0, .int .i64 0] 23 (0, 0))) := hidT (keepH (alloc_at Z (.cells #[.int .i64 0, .int .i64 0] 23) (Z.heap.size) rfl) ((nkeep_alloc (nkeep _ _) _).drew))
              have HB_IZT : Hid (Below Z.heap.size Z (((Z.alloc (.cells #[.int .i64 (t.who : Int)] 3)).alloc (.cells #[.int .i64 0, .int .i64 0] 23)).alloc (.cells #[.int .i64 2, .int .i64 sq, .int .i64 0, .int .i64 IX, .int .i64 0, .int .i64 0, .slice LA ln lc, .slice BA 0 bc] 35)).drew) := hidT ((nkeep_alloc (nkeep_alloc (nkeep _ _) _) _).drew)
              have HR_IZT : Hid (Calls Try.prog 20 #[.slice A n cl, .slice (some ⟨Z.heap.size, 0, none⟩) 1 1, .slice (some ⟨Z.heap.size + 1 + 1, 0, none⟩) 1 1] (((Z.alloc (.cells #[.int .i64 (t.who : Int)] 3)).alloc (.cells #[.int .i64 0, .int .i64 0] 23)).alloc (.cells #[.int .i64 2, .int .i64 sq, .int .i64 0, .int .i64 IX, .int .i64 0, .int .i64 0, .slice LA ln lc, .slice BA 0 bc] 35)).drew (LanesAre (((Z.alloc (.cells #[.int .i64 (t.who : Int)] 3)).alloc (.cells #[.int .i64 0, .int .i64 0] 23)).alloc (.cells #[.int .i64 2, .int .i64 sq, .int .i64 0, .int .i64 IX, .int .i64 0, .int .i64 0, .slice LA ln lc, .slice BA 0 bc] 35)).drew n xs)) := hidT (HRD.out _ _ _ HB_IZT.out (keepH (alloc_at Z (.cells #[.int .i64 (t.who : Int)] 3) (Z.heap.size) rfl) ((nkeep_alloc (nkeep _ _) _).drew)) (keepH (alloc_at ((Z.alloc (.cells #[.int .i64 (t.who : Int)] 3)).alloc (.cells #[.int .i64 0, .int .i64 0] 23)) (.cells #[.int .i64 2, .int .i64 sq, .int .i64 0, .int .i64 IX, .int .i64 0, .int .i64 0, .slice LA ln lc, .slice BA 0 bc] 35) (Z.heap.size + 1 + 1) (by simp only [size_alloc])) ((Below.refl _ _).drew)))
              have HY_IZT : Hid ((((Z.alloc (.cells #[.int .i64 (t.who : Int)] 3)).alloc (.cells #[.int .i64 0, .int .i64 0] 23)).alloc (.cells #[.int .i64 2, .int .i64 sq, .int .i64 0, .int .i64 IX, .int .i64 0, .int .i64 0, .slice LA ln lc, .slice BA 0 bc] 35)).drew.heap[Z.heap.size + 1]? = some (.cells #[.int .i64 0, .int .i64 0] 23 (0, 0))) := hidT (keepH (alloc_at (Z.alloc (.cells #[.int .i64 (t.who : Int)] 3)) (.cells #[.int .i64 0, .int .i64 0] 23) (Z.heap.size + 1) (by simp only [size_alloc])) ((nkeep _ _).drew))
              have HB_TZI : Hid (Below Z.heap.size Z (((Z.alloc (.cells #[.int .i64 2, .int .i64 sq, .int .i64 0, .int .i64 IX, .int .i64 0, .int .i64 0, .slice LA ln lc, .slice BA 0 bc] 35)).alloc (.cells #[.int .i64 0, .int .i64 0] 23)).alloc (.cells #[.int .i64 (t.who : Int)] 3)).drew) := hidT ((nkeep_alloc (nkeep_alloc (nkeep _ _) _) _).drew)
              have HR_TZI : Hid (Calls Try.prog 20 #[.slice A n cl, .slice (some ⟨Z.heap.size + 1 + 1, 0, none⟩) 1 1, .slice (some ⟨Z.heap.size, 0, none⟩) 1 1] (((Z.alloc (.cells #[.int .i64 2, .int .i64 sq, .int .i64 0, .int .i64 IX, .int .i64 0, .int .i64 0, .slice LA ln lc, .slice BA 0 bc] 35)).alloc (.cells #[.int .i64 0, .int .i64 0] 23)).alloc (.cells #[.int .i64 (t.who : Int)] 3)).drew (LanesAre (((Z.alloc (.cells #[.int .i64 2, .int .i64 sq, .int .i64 0, .int .i64 IX, .int .i64 0, .int .i64 0, .slice LA ln lc, .slice BA 0 bc] 35)).alloc (.cells #[.int .i64 0, .int .i64 0] 23)).alloc (.cells #[.int .i64 (t.who : Int)] 3)).drew n xs)) := hidT (HRD.out _ _ _ HB_TZI.out (keepH (alloc_at ((Z.alloc (.cells #[.int .i64 2, .int .i64 sq, .int .i64 0, .int .i64 IX, .int .i64 0, .int .i64 0, .slice LA ln lc, .slice BA 0 bc] 35)).alloc (.cells #[.int .i64 0, .int .i64 0] 23)) (.cells #[.int .i64 (t.who : Int)] 3) (Z.heap.size + 1 + 1) (by simp only [size_alloc])) ((Below.refl _ _).drew)) (keepH (alloc_at Z (.cells #[.int .i64 2, .int .i64 sq, .int .i64 0, .int .i64 IX, .int .i64 0, .int .i64 0, .slice LA ln lc, .slice BA 0 bc] 35) (Z.heap.size) rfl) ((nkeep_alloc (nkeep _ _) _).drew)))
              have HY_TZI : Hid ((((Z.alloc (.cells #[.int .i64 2, .int .i64 sq, .int .i64 0, .int .i64 IX, .int .i64 0, .int .i64 0, .slice LA ln lc, .slice BA 0 bc] 35)).alloc (.cells #[.int .i64 0, .int .i64 0] 23)).alloc (.cells #[.int .i64 (t.who : Int)] 3)).drew.heap[Z.heap.size + 1]? = some (.cells #[.int .i64 0, .int .i64 0] 23 (0, 0))) := hidT (keepH (alloc_at (Z.alloc (.cells #[.int .i64 2, .int .i64 sq, .int .i64 0, .int .i64 IX, .int .i64 0, .int .i64 0, .slice LA ln lc, .slice BA 0 bc] 35)) (.cells #[.int .i64 0, .int .i64 0] 23) (Z.heap.size + 1) (by simp only [size_alloc])) ((nkeep _ _).drew))
              have HB_ITZ : Hid (Below Z.heap.size Z (((Z.alloc (.cells #[.int .i64 (t.who : Int)] 3)).alloc (.cells #[.int .i64 2, .int .i64 sq, .int .i64 0, .int .i64 IX, .int .i64 0, .int .i64 0, .slice LA ln lc, .slice BA 0 bc] 35)).alloc (.cells #[.int .i64 0, .int .i64 0] 23)).drew) := hidT ((nkeep_alloc (nkeep_alloc (nkeep _ _) _) _).drew)
              have HR_ITZ : Hid (Calls Try.prog 20 #[.slice A n cl, .slice (some ⟨Z.heap.size, 0, none⟩) 1 1, .slice (some ⟨Z.heap.size + 1, 0, none⟩) 1 1] (((Z.alloc (.cells #[.int .i64 (t.who : Int)] 3)).alloc (.cells #[.int .i64 2, .int .i64 sq, .int .i64 0, .int .i64 IX, .int .i64 0, .int .i64 0, .slice LA ln lc, .slice BA 0 bc] 35)).alloc (.cells #[.int .i64 0, .int .i64 0] 23)).drew (LanesAre (((Z.alloc (.cells #[.int .i64 (t.who : Int)] 3)).alloc (.cells #[.int .i64 2, .int .i64 sq, .int .i64 0, .int .i64 IX, .int .i64 0, .int .i64 0, .slice LA ln lc, .slice BA 0 bc] 35)).alloc (.cells #[.int .i64 0, .int .i64 0] 23)).drew n xs)) := hidT (HRD.out _ _ _ HB_ITZ.out (keepH (alloc_at Z (.cells #[.int .i64 (t.who : Int)] 3) (Z.heap.size) rfl) ((nkeep_alloc (nkeep _ _) _).drew)) (keepH (alloc_at (Z.alloc (.cells #[.int .i64 (t.who : Int)] 3)) (.cells #[.int .i64 2, .int .i64 sq, .int .i64 0, .int .i64 IX, .int .i64 0, .int .i64 0, .slice LA ln lc, .slice BA 0 bc] 35) (Z.heap.size + 1) (by simp only [size_alloc])) ((nkeep _ _).drew)))
              have HY_ITZ : Hid ((((Z.alloc (.cells #[.int .i64 (t.who : Int)] 3)).alloc (.cells #[.int .i64 2, .int .i64 sq, .int .i64 0, .int .i64 IX, .int .i64 0, .int .i64 0, .slice LA ln lc, .slice BA 0 bc] 35)).alloc (.cells #[.int .i64 0, .int .i64 0] 23)).drew.heap[Z.heap.size + 1 + 1]? = some (.cells #[.int .i64 0, .int .i64 0] 23 (0, 0))) := hidT (keepH (alloc_at ((Z.alloc (.cells #[.int .i64 (t.who : Int)] 3)).alloc (.cells #[.int .i64 2, .int .i64 sq, .int .i64 0, .int .i64 IX, .int .i64 0, .int .i64 0, .slice LA ln lc, .slice BA 0 bc] 35)) (.cells #[.int .i64 0, .int .i64 0] 23) (Z.heap.size + 1 + 1) (by simp only [size_alloc])) ((Below.refl _ _).drew))
              have HB_TIZ : Hid (Below Z.heap.size Z (((Z.alloc (.cells #[.int .i64 2, .int .i64 sq, .int .i64 0, .int .i64 IX, .int .i64 0, .int .i64 0, .slice LA ln lc, .slice BA 0 bc] 35)).alloc (.cells #[.int .i64 (t.who : Int)] 3)).alloc (.cells #[.int .i64 0, .int .i64 0] 23)).drew) := hidT ((nkeep_alloc (nkeep_alloc (nkeep _ _) _) _).drew)
              have HR_TIZ : Hid (Calls Try.prog 20 #[.slice A n cl, .slice (some ⟨Z.heap.size + 1, 0, none⟩) 1 1, .slice (some ⟨Z.heap.size, 0, none⟩) 1 1] (((Z.alloc (.cells #[.int .i64 2, .int .i64 sq, .int .i64 0, .int .i64 IX, .int .i64 0, .int .i64 0, .slice LA ln lc, .slice BA 0 bc] 35)).alloc (.cells #[.int .i64 (t.who : Int)] 3)).alloc (.cells #[.int .i64 0, .int .i64 0] 23)).drew (LanesAre (((Z.alloc (.cells #[.int .i64 2, .int .i64 sq, .int .i64 0, .int .i64 IX, .int .i64 0, .int .i64 0, .slice LA ln lc, .slice BA 0 bc] 35)).alloc (.cells #[.int .i64 (t.who : Int)] 3)).alloc (.cells #[.int .i64 0, .int .i64 0] 23)).drew n xs)) := hidT (HRD.out _ _ _ HB_TIZ.out (keepH (alloc_at (Z.alloc (.cells #[.int .i64 2, .int .i64 sq, .int .i64 0, .int .i64 IX, .int .i64 0, .int .i64 0, .slice LA ln lc, .slice BA 0 bc] 35)) (.cells #[.int .i64 (t.who : Int)] 3) (Z.heap.size + 1) (by simp only [size_alloc])) ((nkeep _ _).drew)) (keepH (alloc_at Z (.cells #[.int .i64 2, .int .i64 sq, .int .i64 0, .int .i64 IX, .int .i64 0, .int .i64 0, .slice LA ln lc, .slice BA 0 bc] 35) (Z.heap.size) rfl) ((nkeep_alloc (nkeep _ _) _).drew)))
              have HY_TIZ : Hid ((((Z.alloc (.cells #[.int .i64 2, .int .i64 sq, .int .i64 0, .int .i64 IX, .int .i64 0, .int .i64 0, .slice LA ln lc, .slice BA 0 bc] 35)).alloc (.cells #[.int .i64 (t.who : Int)] 3)).alloc (.cells #[.int .i64 0, .int .i64 0] 23)).drew.heap[Z.heap.size + 1 + 1]? = some (.cells #[.int .i64 0, .int .i64 0] 23 (0, 0))) := hidT (keepH (alloc_at ((Z.alloc (.cells #[.int .i64 2, .int .i64 sq, .int .i64 0, .int .i64 IX, .int .i64 0, .int .i64 0, .slice LA ln lc, .slice BA 0 bc] 35)).alloc (.cells #[.int .i64 (t.who : Int)] 3)) (.cells #[.int .i64 0, .int .i64 0] 23) (Z.heap.size + 1 + 1) (by simp only [size_alloc])) ((Below.refl _ _).drew))
              have v0 := fun w' (hb : Below Z.heap.size Z w') => (cells2 (keepH HRZ.out.1 hb)).1
              have v1 := fun w' (hb : Below Z.heap.size Z w') => (cells2 (keepH HRZ.out.1 hb)).2
              have k0 := fun w' (hb : Below Z.heap.size Z w') => (cells8x (keepH PZ.out hb)).1
              have k1 := fun w' (hb : Below Z.heap.size Z w') => (cells8x (keepH PZ.out hb)).2.1
              have k2 := fun w' (hb : Below Z.heap.size Z w') => (cells8x (keepH PZ.out hb)).2.2.1
              have k3 := fun w' (hb : Below Z.heap.size Z w') => (cells8x (keepH PZ.out hb)).2.2.2.1
              have k4 := fun w' (hb : Below Z.heap.size Z w') => (cells8x (keepH PZ.out hb)).2.2.2.2.1
              have k5 := fun w' (hb : Below Z.heap.size Z w') => (cells8x (keepH PZ.out hb)).2.2.2.2.2.1
              have k6 := fun w' (hb : Below Z.heap.size Z w') => (cells8x (keepH PZ.out hb)).2.2.2.2.2.2.1
              have k7 := fun w' (hb : Below Z.heap.size Z w') => (cells8x (keepH PZ.out hb)).2.2.2.2.2.2.2
              clear hbig hlast hll hus hwho hlsn hix01 hmay hlst hwalk hinv hdne hokx hlen' hfit hbx hsmx hmux hitem hit hitb hxs hsx hqq hl0 hdd
              go_cut [19, 20, 21] from 75 to 115 (fun x y z wc => PartH Z n qq ls' dd x y z wc)
              case first =>
                go_region_held_law (fun w' => Below Z.heap.size Z w')
                  (first | exact (Below.refl _ _).drew | exact hbF | exact hb5 | exact hb4 | exact bthen hb5 (nkeep _ _) | exact bthen hb4 (nkeep _ _) | exact (nkeep _ _).drew | exact (nkeep_alloc (nkeep _ _) _).drew | exact (nkeep_alloc (nkeep_alloc (nkeep _ _) _) _).drew)
                  (first
                      | (go_at_call 20; ((with_reducible refine (HR_IT.out).mono ?_); rintro e4 w4 ⟨A4, c4, rfl, hx4, hb4'⟩; have hb4 : Below Z.heap.size Z w4 := bthen HB_IT.out hb4'))
                      | (go_at_call 20; ((with_reducible refine (HR_TI.out).mono ?_); rintro e4 w4 ⟨A4, c4, rfl, hx4, hb4'⟩; have hb4 : Below Z.heap.size Z w4 := bthen HB_TI.out hb4'))
                      | (go_at_call 20; ((with_reducible refine (HR_ZIT.out).mono ?_); rintro e4 w4 ⟨A4, c4, rfl, hx4, hb4'⟩; have hb4 : Below Z.heap.size Z w4 := bthen HB_ZIT.out hb4'; have y4 := keepH HY_ZIT.out hb4'; have hXg4 : Z.heap.size ≤ Z.heap.size := (by omega); have hlt4 := blk_lt y4))
                      | (go_at_call 20; ((with_reducible refine (HR_ZTI.out).mono ?_); rintro e4 w4 ⟨A4, c4, rfl, hx4, hb4'⟩; have hb4 : Below Z.heap.size Z w4 := bthen HB_ZTI.out hb4'; have y4 := keepH HY_ZTI.out hb4'; have hXg4 : Z.heap.size ≤ Z.heap.size := (by omega); have hlt4 := blk_lt y4))
                      | (go_at_call 20; ((with_reducible refine (HR_IZT.out).mono ?_); rintro e4 w4 ⟨A4, c4, rfl, hx4, hb4'⟩; have hb4 : Below Z.heap.size Z w4 := bthen HB_IZT.out hb4'; have y4 := keepH HY_IZT.out hb4'; have hXg4 : Z.heap.size ≤ Z.heap.size + 1 := (by omega); have hlt4 := blk_lt y4))
                      | (go_at_call 20; ((with_reducible refine (HR_TZI.out).mono ?_); rintro e4 w4 ⟨A4, c4, rfl, hx4, hb4'⟩; have hb4 : Below Z.heap.size Z w4 := bthen HB_TZI.out hb4'; have y4 := keepH HY_TZI.out hb4'; have hXg4 : Z.heap.size ≤ Z.heap.size + 1 := (by omega); have hlt4 := blk_lt y4))
                      | (go_at_call 20; ((with_reducible refine (HR_ITZ.out).mono ?_); rintro e4 w4 ⟨A4, c4, rfl, hx4, hb4'⟩; have hb4 : Below Z.heap.size Z w4 := bthen HB_ITZ.out hb4'; have y4 := keepH HY_ITZ.out hb4'; have hXg4 : Z.heap.size ≤ Z.heap.size + 1 + 1 := (by omega); have hlt4 := blk_lt y4))
                      | (go_at_call 20; ((with_reducible refine (HR_TIZ.out).mono ?_); rintro e4 w4 ⟨A4, c4, rfl, hx4, hb4'⟩; have hb4 : Below Z.heap.size Z w4 := bthen HB_TIZ.out hb4'; have y4 := keepH HY_TIZ.out hb4'; have hXg4 : Z.heap.size ≤ Z.heap.size + 1 + 1 := (by omega); have hlt4 := blk_lt y4))
                      | (go_at_call 11; ((with_reducible refine (HC.out _ _ _ hx4).mono ?_); rintro e5 w5 ⟨A5, c5, E5, m5, k5, rfl, hl5, hd5, hb5'⟩; have y45 := keepH y4 hb5'; have h45 := hlt4; have hXg5 := hXg4; have hb5 : Below Z.heap.size Z w5 := bthen hb4 hb5'; obtain ⟨wx, hrunx, hpx, hlx, hdx, hbF⟩ := finH_b hqs hqa hb5 y45 hXg5 h45 hl5 hd5))
                      | (go_at_call 11; ((with_reducible refine (HC.out _ _ _ hx4).mono ?_); rintro e5 w5 ⟨A5, c5, E5, m5, k5, rfl, hl5, hd5, hb5'⟩; have hb5 : Below Z.heap.size Z w5 := bthen hb4 hb5'; have hsz5 := hb4.size; obtain ⟨wx, hrunx, hpx, hlx, hdx, hbF⟩ := finH_a hqs hqa hb5 hsz5 hl5 hd5))
                      | (go_at_call 11; ((with_reducible refine (HC.out _ _ _ (hx4.below (nkeep _ _))).mono ?_); rintro e5 w5 ⟨A5, c5, E5, m5, k5, rfl, hl5, hd5, hb5'⟩; have hb5 : Below Z.heap.size Z w5 := bthen (bthen hb4 (nkeep _ _)) hb5'; have y45 := keepH (alloc_at w4 (.cells #[.int .i64 0, .int .i64 0] 23) _ rfl) hb5'; have h45 : w4.heap.size < (w4.alloc (.cells #[.int .i64 0, .int .i64 0] 23)).heap.size := (by rw [size_alloc]; omega); have hsz5 := hb4.size; obtain ⟨wx, hrunx, hpx, hlx, hdx, hbF⟩ := finH_b hqs hqa hb5 y45 hsz5 h45 hl5 hd5))
                      | fail)
                all_goals
                  clear hrunx hl5 hd5
                  go_wp2_with fail
                  go_meet
                  exact ⟨_, _, _, _, _, _, rfl, rfl, rfl, hpx.out, hlx.out, hdx.out, hbF⟩
              case rest =>
                clear v0 v1 k0 k1 k2 k3 k4 k5 k6 k7 HC HRD HB_IT HR_IT HB_TI HR_TI HB_ZIT HR_ZIT HY_ZIT HB_ZTI HR_ZTI HY_ZTI HB_IZT HR_IZT HY_IZT HB_TZI HR_TZI HY_TZI HB_ITZ HR_ITZ HY_ITZ HB_TIZ HR_TIZ HY_TIZ
                obtain ⟨pu, A5, c5, E5, me, ce, rfl, rfl, rfl, hpu, hl5, hd5, hbc⟩ := hcut
                obtain ⟨Y9, rfl⟩ : ∃ X, X = wc := ⟨_, rfl⟩
                have HR9 := hidT ((HRZ.out.below hbc).lanes (hl5.mono fun b hb => HRZ.out.fresh hb))
                obtain ⟨re, hre, hae, hwe⟩ := id hd5
                have HRE := hidT hre
                have HWE := hidT hwe
                have HAE := hidT (hae.mono (T := SD pt D m d) fun b hb => HRZ.out.fresh hb)
                have hme : me = dd.length := hd5.size.symm
                have hY9 : Y9.heap[pu]? = some (.cells #[.int .i64 (t'.who : Int), .int .i64 t'.used] 23 (0, 0)) := by rw [hpu, ← HQQ.out]
                have hZp : pt < Z.heap.size := blk_lt HRZ.out.1
                have HZP := hidT hZp
                obtain ⟨a0, a1⟩ := cells2 hY9
                have p0 : ((n : Int) != (n : Int)) = false := by simp
                have p0' : (n != n) = false := by simp
                have y9 := HR9.out.1
                obtain ⟨_, _, hnew, _⟩ := rinv_small HINV.out HC8.out hnu
                have hmm : m = all.length := by have h1 := HR9.out.2.2.2.1.1; have h2 := HR9.out.2.2.1.2.1; omega
                rw [List.length_append] at hnew
                have hm1 : m ≤ 48 := by omega
                have hm2 : me ≤ 48 := by omega
                have HMM := hidT hmm
                have HME := hidT hme
                clear hpu hl5 hd5 hre hae hwe hbc hnew hY9 hmm hme hZp
                go_wp2_with (first
                  | (refine wpList_stI rfl 23 _ _ rfl pt #[.int .i64 (t'.who : Int), .int .i64 t'.used] rfl rfl _ _ y9 sizeTn rfl (by simp [Value.oneCell']) ?_
                     intro w7 hg7 hbut hbel
                     have HRT := hidT (HR9.out.turn t' hbut hbel hg7)
                     have hzp := HZP.out
                     have HREW := hidT (HRE.out.keptS HWE.out (KeptS.hi hbut hzp))
                     have HAEW := hidT (HAE.out.keptS (KeptS.but hbut fun b hb => hb.1))
                     clear hg7 hbut hbel hzp a0 a1)
                  | (at_builtin
                     refine wpList_appKW 2 (by omega) rfl (.tmp 113) (.tmp 114) 29 rfl (pt + 1) 55 _ 32 infoDv rfl (by omega) Try.underlying29 (.slice D m d) m rows rfl HRT.out.2.2.1 E5 me ce re rfl HREW.out (by omega) HRT.out.2.2.2.2.2.2.2 ?_
                     intro v9 w9 hown hb9 hg9 ho9
                     obtain ⟨D9, d9, rfl, _⟩ := OwnK.rd hown
                     have HRF := hidT (RR.app HRT.out hown hg9 ho9 HAEW.out hb9)
                     clear hown hb9 hg9 ho9)
                  | fail)
                have HJ2 : Hid (j + 1 ≤ (all ++ dd).length) := hidT (by rw [List.length_append]; have h1 := HJA.out; have h2 := HDD.out; omega)
                have HS2 : Hid (sq + 1 = 100 + ((j + 1 : Nat) : Int)) := hidT (by have := HSQ.out; omega)
                clear p0 p0' y9
                exact ⟨⟨j + 1, sq + 1, A5, c5, ls', D9, m + me, d9, _, all ++ dd, t', by go_num, by first | rfl | go_num, rfl, rfl, HJ2.out, HS2, HRF, HINV⟩, by simp [intOf]; omega⟩
end Go.Proofs.Ytdchgnmkeefffaa
