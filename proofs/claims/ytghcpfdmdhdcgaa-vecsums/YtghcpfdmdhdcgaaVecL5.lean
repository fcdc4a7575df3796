/- VecSums, walked. -/
import Derived.Test.YtghcpfdmdhdcgaaVecShown
set_option maxRecDepth 100000
namespace Go.Proofs.Ytghcpfdmdhdcgaa
open Go.RowKit
set_option linter.unusedVariables false

set_option maxHeartbeats 4000000 in
theorem sums_any (A : Option Addr) (n c : Nat) (a : List Int) (B : Option Addr) (m d : Nat) (b : List Int) (L : Option Addr) (k e0 : Nat) (rs : List Rw) (x : Nat) (hx256 : x < 256) (w : World) (ra : RdI w A n c a) (rb : RdI w B m d b) (rl : RdR w L k e0 rs) :
    Calls Try.prog 7 #[.agg #[.slice A n c, .slice B m d, .slice L k e0, .int .u8 (x : Int)]] w (Yes w) := by
  by_cases hn : 100 < n
  · have q : decide (100 < n) = true := by simpa using hn
    have q' : decide ((100 : Int) < (n : Int)) = true := by simp; omega
    go_enter Try.func7, Try.ntmps7
    go_wp2_with fail
    with_reducible refine (shown_any _).mono ?_
    rintro e w1 ⟨rfl, hx⟩
    have hb := bthen (nkeep w _) hx
    go_wp2
    go_ret
    exact ⟨rfl, hb⟩
  have qn : decide (100 < n) = false := by simpa using hn
  have qn' : decide ((100 : Int) < (n : Int)) = false := by simp; omega
  by_cases hm : 100 < m
  · have q : decide (100 < m) = true := by simpa using hm
    have q' : decide ((100 : Int) < (m : Int)) = true := by simp; omega
    go_enter Try.func7, Try.ntmps7
    go_wp2_with fail
    with_reducible refine (shown_any _).mono ?_
    rintro e w1 ⟨rfl, hx⟩
    have hb := bthen (nkeep w _) hx
    go_wp2
    go_ret
    exact ⟨rfl, hb⟩
  have qm : decide (100 < m) = false := by simpa using hm
  have qm' : decide ((100 : Int) < (m : Int)) = false := by simp; omega
  have ka : n ≤ 100 := by omega
  have kb : m ≤ 100 := by omega
  have HA := hidT (RdI.size ra)
  have HB := hidT (RdI.size rb)
  obtain ⟨t, ht⟩ : ∃ t, fewOf (bs' rs) = t := ⟨_, rfl⟩
  have HT := hidT ht
  clear ht
  go_enter Try.func7, Try.ntmps7
  go_wp2_with fail
  with_reducible refine (shown_any _).mono ?_
  rintro e w1 ⟨rfl, hx⟩
  have hb := bthen (nkeep w _) hx
  clear hx
  replace ra := RdV.below ra hb
  replace rb := RdV.below rb hb
  replace rl := RdR.below rl hb
  have p := few_any _ _ _ _ _ rl t HT.out
  go_wp2_with fail
  with_reducible refine p.mono ?_
  clear p
  rintro e w2 ⟨rfl, rfl⟩
  cases t
  · go_wp2
    go_ret
    exact ⟨rfl, hb⟩
  have hk50 : k ≤ 50 := by have := (fewOf_iff HT.out).1; have := RdR.sizeB rl; omega
  by_cases hk : k < 1
  · have q : decide (k < 1) = true := by simpa using hk
    have q' : decide ((k : Int) < 1) = true := by simp; omega
    go_wp2
    go_ret
    exact ⟨rfl, hb⟩
  have q : decide (k < 1) = false := by simpa using hk
  have q' : decide ((k : Int) < 1) = false := by simp; omega
  obtain ⟨P, hP60, qp⟩ : ∃ P : Nat, P < 60 ∧ (x : Int) % 60 = (P : Int) := ⟨x % 60, by omega, by omega⟩
  obtain ⟨z, HZ⟩ : ∃ z, Hid (lst (bs' rs) (P : Int) = z) := ⟨_, hidT rfl⟩
  have p := least_any _ _ _ _ (P : Int) _ rl
  rw [HZ.out] at p
  go_wp2_with fail
  with_reducible refine p.mono ?_
  clear p
  rintro e w3 ⟨rfl, rfl⟩
  go_wp2
  clear qp
  go_loopw [10] (fun i w' => ∃ j : Nat, j ≤ k ∧ i = .int .i64 ((j : Int) + 1) ∧ w3 = w') (fun i _ => k - ((intOf i).toNat - 1))
  case atStart => exact ⟨0, Nat.zero_le _, rfl, rfl⟩
  case round =>
    obtain ⟨j, hj, rfl, rfl⟩ := hrel
    by_cases hjk : j < k
    · obtain ⟨bb, o, r, rfl, hr, hbr, hR, hcr⟩ := rl.at_ hjk
      have hcap := rl.1.2.1
      have hmax := rl.1.2.2.1
      have p1 := least_any _ _ _ _ (P : Int) _ (rl.take (k := j + 1) (by omega))
      have p2 := least_any _ _ _ _ (P : Int) _ (rl.drop (k := j) (by omega))
      have l1 := lst_take (bs' rs) (P : Int) (k := j + 1) (take_ne_nil (by omega) (by rw [RdR.sizeB rl]; omega))
      have l2 := lst_drop (bs' rs) (P : Int) (k := j) (by
        intro h
        have := congrArg List.length h
        rw [List.length_drop, RdR.sizeB rl, List.length_nil] at this
        omega)
      rw [bs_take] at p1
      rw [bs_drop] at p2
      rw [HZ.out] at l1 l2
      generalize lst ((bs' rs).take (j + 1)) (P : Int) = z1 at p1 l1
      generalize lst ((bs' rs).drop j) (P : Int) = z2 at p2 l2
      have t1 : decide (z1 < z) = false := by simp; omega
      have t2 : decide (z2 < z) = false := by simp; omega
      clear hr hbr hR hcr l1 l2
      go_wp2_with fail
      with_reducible refine p1.mono ?_
      rintro e w4 ⟨rfl, rfl⟩
      go_wp2_with fail
      with_reducible refine p2.mono ?_
      rintro e w5 ⟨rfl, rfl⟩
      go_wp2
      exact ⟨⟨j + 1, by omega, by go_num, trivial⟩, by simp [intOf]; omega⟩
    · obtain rfl : j = k := by omega
      have ho0 : OwnV (w3.alloc (.cells #[] 3)) w3.heap.size 3 (.slice (some ⟨w3.heap.size, 0, none⟩) 0 0) 0 [] := World.ownsRow_lit w3 #[] 0 (Nat.le_refl _) (by simp only [maxLen]; omega) rfl
      have hs0 := (nkeep w3 (.cells #[] 3)).size
      have ra0 := RdV.alloc ra (.cells #[] 3)
      go_wp2_with (refine wpList_appV rfl (.tmp 70) (.tmp 71) 22 rfl w3.heap.size 3 (.int .i64 0) 8 info3 rfl (by omega) Try.underlying22 _ 0 [] rfl ho0 A n c (is a) rfl ra0 (is_one a) (by omega) hs0 ?_)
      intro v4 w4 ho4 hb4 _
      have ho4' : OwnV w4 w3.heap.size 3 v4 n (is a) := by simpa using ho4
      have hx := (nkeep w3 (.cells #[] 3)).trans hb4
      have rb4 := RdV.below rb hx
      have hs4 := hx.size
      clear ho4 hb4 ho0 hs0 ra0
      go_wp2_with (refine wpList_appV rfl (.tmp 72) (.tmp 73) 22 rfl w3.heap.size 3 (.int .i64 0) 8 info3 rfl (by omega) Try.underlying22 _ n (is a) rfl ho4' B m d (is b) rfl rb4 (is_one b) (by omega) hs4 ?_)
      intro v5 w5 ho5 hb5 _
      obtain ⟨A5, c5, rfl, r5⟩ := OwnV.rd ho5
      rw [← is_append] at r5
      replace hx := hx.trans hb5
      clear ho4' rb4 hs4 hb5 ho5
      replace ra := RdV.below ra hx
      replace rb := RdV.below rb hx
      replace hb := bthen hb hx
      clear hx
      have HO := hidT (sm_append a b)
      obtain ⟨s0, HS0⟩ : ∃ z, Hid (sm (a ++ b) = z) := ⟨_, hidT rfl⟩
      obtain ⟨s1, HS1⟩ : ∃ z, Hid (sm a = z) := ⟨_, hidT rfl⟩
      obtain ⟨s2, HS2⟩ : ∃ z, Hid (sm b = z) := ⟨_, hidT rfl⟩
      rw [HS0.out, HS1.out, HS2.out] at HO
      have qo : wrap64 (s1 + s2) = s0 := HO.out.symm
      have p := sum_any _ _ _ _ _ r5
      rw [HS0.out] at p
      go_wp2_with fail
      with_reducible refine p.mono ?_
      clear p
      rintro e w6 ⟨rfl, rfl⟩
      have p := sum_any _ _ _ _ _ ra
      rw [HS1.out] at p
      go_wp2_with fail
      with_reducible refine p.mono ?_
      clear p
      rintro e w7 ⟨rfl, rfl⟩
      have p := sum_any _ _ _ _ _ rb
      rw [HS2.out] at p
      go_wp2_with fail
      with_reducible refine p.mono ?_
      clear p
      rintro e w8 ⟨rfl, rfl⟩
      clear r5
      have p := max_any _ _ _ _ _ _ _ _ _ ra ra ka ka
      go_wp2_with fail
      with_reducible refine p.mono ?_
      clear p
      intro e w9 hG
      obtain ⟨A9, c9, rfl, r1, hx⟩ := hG.open_ n (by rw [jn_length, HA.out, Nat.max_self])
      clear hG
      replace ra := RdV.below ra hx
      replace rb := RdV.below rb hx
      replace hb := bthen hb hx
      clear hx
      have p := rsame_is _ _ _ _ _ _ _ _ _ r1 ra true (decide_eq_true (mx_self a))
      go_wp2_with fail
      with_reducible refine p.mono ?_
      clear p
      rintro e w10 ⟨rfl, hx⟩
      replace ra := RdV.below ra hx
      replace rb := RdV.below rb hx
      replace r1 := RdV.below r1 hx
      replace hb := bthen hb hx
      clear hx
      clear r1
      have p := min_any _ _ _ _ _ _ _ _ _ ra ra ka ka
      go_wp2_with fail
      with_reducible refine p.mono ?_
      clear p
      intro e w11 hG
      obtain ⟨A11, c11, rfl, r1, hx⟩ := hG.open_ n (by rw [jn_length, HA.out, Nat.max_self])
      clear hG
      replace ra := RdV.below ra hx
      replace rb := RdV.below rb hx
      replace hb := bthen hb hx
      clear hx
      have p := rsame_is _ _ _ _ _ _ _ _ _ r1 ra true (decide_eq_true (mn_self a))
      go_wp2_with fail
      with_reducible refine p.mono ?_
      clear p
      rintro e w12 ⟨rfl, hx⟩
      replace ra := RdV.below ra hx
      replace rb := RdV.below rb hx
      replace r1 := RdV.below r1 hx
      replace hb := bthen hb hx
      clear hx
      clear r1
      go_wp2
      go_ret
      exact ⟨rfl, hb⟩
end Go.Proofs.Ytghcpfdmdhdcgaa
