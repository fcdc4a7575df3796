/- VecTells, walked. -/
import Derived.Test.YtghcpfdmdhdcgaaVecShown
set_option maxRecDepth 100000
namespace Go.Proofs.Ytghcpfdmdhdcgaa
open Go.RowKit
set_option linter.unusedVariables false

set_option maxHeartbeats 4000000 in
theorem tells_any (A : Option Addr) (n c : Nat) (a : List Int) (B : Option Addr) (m d : Nat) (b : List Int) (L : Option Addr) (k e0 : Nat) (rs : List Rw) (i : Int) (w : World) (ra : RdI w A n c a) (rb : RdI w B m d b) (rl : RdR w L k e0 rs) :
    Calls Try.prog 3 #[.agg #[.slice A n c, .slice B m d, .slice L k e0, .int .i64 i]] w (Yes w) := by
  by_cases hn : 100 < n
  · have q : decide (100 < n) = true := by simpa using hn
    have q' : decide ((100 : Int) < (n : Int)) = true := by simp; omega
    go_enter Try.func3, Try.ntmps3
    have p := shown_any (w.alloc (.cells #[.slice A n c, .slice B m d, .slice L k e0, .int .i64 i] 25))
    go_wp2_with fail
    with_reducible refine p.mono ?_
    clear p
    rintro e w1 ⟨rfl, hx⟩
    have hb := bthen (nkeep w (.cells #[.slice A n c, .slice B m d, .slice L k e0, .int .i64 i] 25)) hx
    clear hx
    replace ra := RdV.below ra hb
    replace rb := RdV.below rb hb
    replace rl := RdR.below rl hb
    go_wp2
    go_ret
    exact ⟨rfl, hb⟩
  have qn : decide (100 < n) = false := by simpa using hn
  have qn' : decide ((100 : Int) < (n : Int)) = false := by simp; omega
  by_cases hm : 100 < m
  · have q : decide (100 < m) = true := by simpa using hm
    have q' : decide ((100 : Int) < (m : Int)) = true := by simp; omega
    go_enter Try.func3, Try.ntmps3
    have p := shown_any (w.alloc (.cells #[.slice A n c, .slice B m d, .slice L k e0, .int .i64 i] 25))
    go_wp2_with fail
    with_reducible refine p.mono ?_
    clear p
    rintro e w1 ⟨rfl, hx⟩
    have hb := bthen (nkeep w (.cells #[.slice A n c, .slice B m d, .slice L k e0, .int .i64 i] 25)) hx
    clear hx
    replace ra := RdV.below ra hb
    replace rb := RdV.below rb hb
    replace rl := RdR.below rl hb
    go_wp2
    go_ret
    exact ⟨rfl, hb⟩
  have qm : decide (100 < m) = false := by simpa using hm
  have qm' : decide ((100 : Int) < (m : Int)) = false := by simp; omega
  have ka : n ≤ 100 := by omega
  have kb : m ≤ 100 := by omega
  have HA := hidT (RdI.size ra)
  have HB := hidT (RdI.size rb)
  obtain ⟨t, ht⟩ : ∃ t, fewOf (bs' rs) = t := ⟨_, rfl⟩
  have HT := hidT ht
  clear ht
  go_enter Try.func3, Try.ntmps3
  have p := shown_any (w.alloc (.cells #[.slice A n c, .slice B m d, .slice L k e0, .int .i64 i] 25))
  go_wp2_with fail
  with_reducible refine p.mono ?_
  clear p
  rintro e w1 ⟨rfl, hx⟩
  have hb := bthen (nkeep w (.cells #[.slice A n c, .slice B m d, .slice L k e0, .int .i64 i] 25)) hx
  clear hx
  replace ra := RdV.below ra hb
  replace rb := RdV.below rb hb
  replace rl := RdR.below rl hb
  have p := few_any _ _ _ _ _ rl t HT.out
  go_wp2_with fail
  with_reducible refine p.mono ?_
  clear p
  rintro e w2 ⟨rfl, rfl⟩
  cases t
  · go_wp2
    go_ret
    exact ⟨rfl, hb⟩
  have p := max_any _ _ _ _ _ _ _ _ _ ra rb ka kb
  go_wp2_with fail
  with_reducible refine p.mono ?_
  clear p
  intro e w3 hG
  obtain ⟨A3, c3, rfl, r1, hx⟩ := hG.open_ (max n m) (by rw [jn_length, HA.out, HB.out])
  clear hG
  replace ra := RdV.below ra hx
  replace rb := RdV.below rb hx
  replace rl := RdR.below rl hx
  replace hb := bthen hb hx
  clear hx
  have p := rmax_any _ _ _ _ _ _ _ _ _ ra rb ka kb
  go_wp2_with fail
  with_reducible refine p.mono ?_
  clear p
  intro e w4 hG
  obtain ⟨A4, c4, rfl, r2, hx⟩ := hG.open_ (max n m) (by rw [jn_length, HA.out, HB.out])
  clear hG
  replace ra := RdV.below ra hx
  replace rb := RdV.below rb hx
  replace rl := RdR.below rl hx
  replace r1 := RdV.below r1 hx
  replace hb := bthen hb hx
  clear hx
  have p := rsame_is _ _ _ _ _ _ _ _ _ r1 r2 true (decide_eq_true (rfl))
  go_wp2_with fail
  with_reducible refine p.mono ?_
  clear p
  rintro e w5 ⟨rfl, hx⟩
  replace ra := RdV.below ra hx
  replace rb := RdV.below rb hx
  replace rl := RdR.below rl hx
  replace r1 := RdV.below r1 hx
  replace r2 := RdV.below r2 hx
  replace hb := bthen hb hx
  clear hx
  clear r1 r2
  have p := min_any _ _ _ _ _ _ _ _ _ ra rb ka kb
  go_wp2_with fail
  with_reducible refine p.mono ?_
  clear p
  intro e w6 hG
  obtain ⟨A6, c6, rfl, r1, hx⟩ := hG.open_ (max n m) (by rw [jn_length, HA.out, HB.out])
  clear hG
  replace ra := RdV.below ra hx
  replace rb := RdV.below rb hx
  replace rl := RdR.below rl hx
  replace hb := bthen hb hx
  clear hx
  have p := rmin_any _ _ _ _ _ _ _ _ _ ra rb ka kb
  go_wp2_with fail
  with_reducible refine p.mono ?_
  clear p
  intro e w7 hG
  obtain ⟨A7, c7, rfl, r2, hx⟩ := hG.open_ (max n m) (by rw [jn_length, HA.out, HB.out])
  clear hG
  replace ra := RdV.below ra hx
  replace rb := RdV.below rb hx
  replace rl := RdR.below rl hx
  replace r1 := RdV.below r1 hx
  replace hb := bthen hb hx
  clear hx
  have p := rsame_is _ _ _ _ _ _ _ _ _ r1 r2 true (decide_eq_true (rfl))
  go_wp2_with fail
  with_reducible refine p.mono ?_
  clear p
  rintro e w8 ⟨rfl, hx⟩
  replace ra := RdV.below ra hx
  replace rb := RdV.below rb hx
  replace rl := RdR.below rl hx
  replace r1 := RdV.below r1 hx
  replace r2 := RdV.below r2 hx
  replace hb := bthen hb hx
  clear hx
  clear r1 r2
  obtain ⟨s, hs⟩ : ∃ s, blw a b = s := ⟨_, rfl⟩
  have HS := hidT hs
  clear hs
  obtain ⟨z, HZ⟩ : ∃ z, Hid (lst (bs' rs) i = z) := ⟨_, hidT rfl⟩
  obtain ⟨y, HY⟩ : ∃ z, Hid (sm a = z) := ⟨_, hidT rfl⟩
  have p := below_any _ _ _ _ _ _ _ _ _ ra rb s HS.out
  go_wp2_with fail
  with_reducible refine p.mono ?_
  clear p
  rintro e w9 ⟨rfl, rfl⟩
  have p := rbelow_any _ _ _ _ _ _ _ _ _ ra rb s HS.out
  go_wp2_with fail
  with_reducible refine p.mono ?_
  clear p
  rintro e w10 ⟨rfl, rfl⟩
  have p := least_any _ _ _ _ i _ rl
  rw [HZ.out] at p
  go_wp2_with fail
  with_reducible refine p.mono ?_
  clear p
  rintro e w11 ⟨rfl, rfl⟩
  have p := rleast_any _ _ _ _ i _ rl
  rw [HZ.out] at p
  go_wp2_with fail
  with_reducible refine p.mono ?_
  clear p
  rintro e w12 ⟨rfl, rfl⟩
  have p := sum_any _ _ _ _ _ ra
  rw [HY.out] at p
  go_wp2_with fail
  with_reducible refine p.mono ?_
  clear p
  rintro e w13 ⟨rfl, rfl⟩
  have p := rsum_any _ _ _ _ _ ra
  rw [HY.out] at p
  go_wp2_with fail
  with_reducible refine p.mono ?_
  clear p
  rintro e w14 ⟨rfl, rfl⟩
  go_wp2
  go_ret
  exact ⟨rfl, hb⟩
end Go.Proofs.Ytghcpfdmdhdcgaa
