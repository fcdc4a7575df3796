/- What senders comes to. -/
import Derived.Test.YtdchgnmkeefffaaSqMem
import Derived.Test.YtdchgnmkeefffaaSqSay
import Derived.Test.YtdchgnmkeefffaaLRX
set_option maxRecDepth 100000
namespace Go.Proofs.Ytdchgnmkeefffaa
open Go.RowKit
set_option linter.unusedVariables false

def RowIs (w : World) (l : List Int) (e : Ending) (w' : World) : Prop := ∃ B m d, e = .returned (.slice B m d) ∧ OwnV w' w.heap.size 3 (.slice B m d) m (is l) ∧ Below w.heap.size w w'
set_option maxHeartbeats 8000000 in
theorem senders_any {S : Nat → Prop} (A : Option Addr) (n c : Nat) (ls : List Lane.Ln) (me : Nat) (most : Int) (w : World) (h : RdL S w A n c ls) (hn : n ≤ 64) (hme : me < n) (hmost : most ≤ 1000) :
    Calls Try.prog 36 #[.slice A n c, .int .i64 (me : Int), .int .i64 most] w (RowIs w (Seqr.saidL ls me most)) := by
  have HLEN := hidT h.size
  have H := hidT h
  obtain ⟨K, hK⟩ : ∃ K, most.toNat = K := ⟨_, rfl⟩
  have HK := hidT hK
  have HSAID : Hid (Seqr.saidL ls me most = (Seqr.saysOf ls n me n).take K) := hidT (by unfold Seqr.saidL; rw [hK, HLEN.out])
  have hKm : K ≤ 1000 := by omega
  clear h hK
  go_enter Try.func36, Try.ntmps36
  go_wp2_with fail
  go_loopw [7, 13] (fun x i wr => ∃ (j : Nat) (B : Option Addr) (m d : Nat), j ≤ n ∧ i = .int .i64 j ∧ x = .slice B m d ∧ Hid (OwnV wr w.heap.size 3 (.slice B m d) m (is ((Seqr.saysOf ls n me j).take K))) ∧ Hid (Below w.heap.size w wr)) (fun x i _ => n - (intOf i).toNat)
  case atStart => exact ⟨0, none, 0, 0, Nat.zero_le _, rfl, rfl, hidT (by rw [Seqr.saysOf_zero, List.take_nil]; exact World.ownsRow_nil _ _ _ _), hidT (Below.refl _ _)⟩
  case round =>
    obtain ⟨j, B, m, d, hj, rfl, rfl, HO, HB⟩ := hrel
    obtain ⟨wo, rfl⟩ : ∃ wo, wo = wr := ⟨_, rfl⟩
    by_cases hjn : j < n
    · obtain ⟨wh, hwh⟩ : ∃ wh, (me + j) % n = wh := ⟨_, rfl⟩
      have hwn : wh < n := by rw [← hwh]; exact Nat.mod_lt _ (by omega)
      have q0 : ((me : Int) + (j : Int)) % (n : Int) = (wh : Int) := by rw [← hwh, Int.natCast_emod, Int.natCast_add]
      have q1 : ¬ (n : Int) = 0 := by omega
      have q2 : (0 : Int) ≤ (me : Int) + (j : Int) := by omega
      obtain ⟨b, o, l, BB, mm, dd, EA, en, ec, rfl, hx, hi, hcs⟩ := H.out.told hwn
      have hl : Seqr.laneAt ls wh = l := Seqr.laneAt_of hx
      obtain ⟨M, hM⟩ : ∃ M, Lane.many l = M := ⟨_, rfl⟩
      have hMb : M ≤ 9223372036854775807 := by
        obtain ⟨_, _, _, _, _, _, _, hE, _, _⟩ := id hi
        have h1 := hE.le
        have h2 := hE.size
        have h3 : Lane.many l ≤ l.es.length := List.length_filter_le _ _
        omega
      have HS : Hid (Seqr.saysOf ls n me (j + 1) = Seqr.saysOf ls n me j ++ List.replicate M (wh : Int)) := hidT (by rw [Seqr.saysOf_succ, hwh, hl, hM])
      have x1 : (0 : Int) ≤ (wh : Int) := by omega
      have x2 : (wh : Int) < (n : Int) := by omega
      obtain ⟨c0, c1, c2, c3, c4⟩ := hcs wo HB.out
      have hc := many_any _ l wo (hi.below HB.out)
      rw [hM] at hc
      have HC := hidT hc
      clear hx hi hcs hl hwh hc hM
      go_wp2_with fail
      with_reducible refine HC.out.mono ?_
      rintro e w5 ⟨rfl, hb5⟩
      have HB5 := hidT (bthen HB.out hb5)
      have HO5 := hidT (HO.out.later hb5)
      obtain ⟨X, HX⟩ : ∃ X, Hid (Seqr.saysOf ls n me j = X) := ⟨_, rfl⟩
      rw [HX.out] at HO5 HS
      clear hb5 c0 c1 c2 c3 c4 HO HB HC
      go_wp2_with fail
      go_loopw [7, 10] (fun x i wr => ∃ (k : Nat) (B : Option Addr) (m d : Nat), k ≤ M ∧ i = .int .i64 k ∧ x = .slice B m d ∧ Hid (OwnV wr w.heap.size 3 (.slice B m d) m (is ((X ++ List.replicate (M - k) (wh : Int)).take K))) ∧ Hid (Below w.heap.size w wr)) (fun x i _ => (intOf i).toNat)
      case atStart => exact ⟨M, B, m, d, Nat.le_refl _, rfl, rfl, hidT (by rw [Nat.sub_self]; simpa using HO5.out), HB5⟩
      case round =>
        obtain ⟨k, B2, m2, d2, hk, rfl, rfl, XO, XB⟩ := hrel
        have hml := OwnV.size XO.out
        rw [is_length] at hml
        by_cases hk0 : 0 < k
        · have r1 : decide ((0 : Int) < (k : Int)) = true := by simp; omega
          have r1' : decide (0 < k) = true := by simpa using hk0
          by_cases hlt : (m2 : Int) < most
          · have r2 : decide ((m2 : Int) < most) = true := by simpa using hlt
            have hm2 : m2 < K := by have := HK.out; omega
            have HNX : Hid ((X ++ List.replicate (M - (k - 1)) (wh : Int)).take K = (X ++ List.replicate (M - k) (wh : Int)).take K ++ [(wh : Int)]) := hidT (by
              rw [show M - (k - 1) = (M - k) + 1 by omega, Seqr.rep_snoc, Seqr.take_snocK (by omega)])
            have S1 : Hid (wrap64 ((k : Int) - 1) = (k : Int) - 1) := hidT (IntWalk.wrap64_in _ (by omega))
            have nL := nkeep wr (.cells #[.int .i64 (wh : Int)] 3)
            have HLIT := hidT (RdV.lit wr 3 (0, 0) #[.int .i64 (wh : Int)] (is [(wh : Int)]) rfl 1 rfl (by decide) wr.heap.size rfl)
            have XO2 := hidT (OwnV.later XO.out nL)
            have XB2 := hidT (bthen XB.out nL)
            have hsz : w.heap.size ≤ (wr.alloc (.cells #[.int .i64 (wh : Int)] 3)).heap.size := XB2.out.size
            clear hml nL
            go_wp2_with (first
              | (at_builtin
                 refine wpList_appV rfl (.tmp 37) (.tmp 39) 32 rfl w.heap.size 3 (.int .i64 0) 8 info3 rfl (by omega) Try.underlying32 (.slice B2 m2 d2) m2 _ rfl XO2.out (some ⟨wr.heap.size, 0, none⟩) 1 1 (is [(wh : Int)]) rfl HLIT.out (is_one _) (by omega) hsz ?_
                 intro v9 w9 hown hb9 hg9
                 obtain ⟨B9, d9, rfl, hrd9⟩ := OwnV.rd hown
                 have HOWN := hidT hown
                 have HB9 := hidT (XB2.out.trans hb9)
                 clear hown hb9 hg9 hrd9)
              | fail)
            have hown := HOWN.out
            rw [← is_append, ← HNX.out] at hown
            have HOWN2 := hidT hown
            clear hown HOWN
            exact ⟨⟨k - 1, B9, m2 + 1, d9, by omega, by first | (rw [S1.out]; congr 1; omega) | (congr 1; omega), rfl, HOWN2, HB9⟩, by simp only [intOf]; first | (rw [S1.out]; omega) | omega⟩
          · have r2 : decide ((m2 : Int) < most) = false := by simpa using hlt
            have HEQ : Hid ((X ++ List.replicate (M - k) (wh : Int)).take K = (Seqr.saysOf ls n me (j + 1)).take K) := hidT (by
              have hm2 : K ≤ ((X ++ List.replicate (M - k) (wh : Int)).take K).length := by have := HK.out; omega
              rw [← Seqr.take_more (Y := List.replicate k (wh : Int)) hm2, HS.out, List.append_assoc, List.replicate_append_replicate, show M - k + k = M by omega])
            go_wp2
            exact ⟨⟨j + 1, B2, m2, d2, by omega, by go_num, rfl, hidT (by rw [← HEQ.out]; exact XO.out), XB⟩, by simp [intOf]; omega⟩
        · obtain rfl : k = 0 := by omega
          have r1 : decide ((0 : Int) < ((0 : Nat) : Int)) = false := by decide
          have HEQ : Hid ((X ++ List.replicate (M - 0) (wh : Int)).take K = (Seqr.saysOf ls n me (j + 1)).take K) := hidT (by rw [HS.out, Nat.sub_zero])
          go_wp2
          exact ⟨⟨j + 1, B2, m2, d2, by omega, by go_num, rfl, hidT (by rw [← HEQ.out]; exact XO.out), XB⟩, by simp [intOf]; omega⟩
    · obtain rfl : n = j := by omega
      go_wp2
      go_ret
      exact ⟨B, m, d, rfl, by rw [HSAID.out]; exact HO.out, HB.out⟩
end Go.Proofs.Ytdchgnmkeefffaa
