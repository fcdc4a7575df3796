/- VecOrder, walked. -/
import Derived.Test.YtghcpfdmdhdcgaaVecShown
set_option maxRecDepth 100000
namespace Go.Proofs.Ytghcpfdmdhdcgaa
open Go.RowKit
set_option linter.unusedVariables false

set_option maxHeartbeats 4000000 in
theorem order_any (A : Option Addr) (n c : Nat) (a : List Int) (B : Option Addr) (m d : Nat) (b : List Int) (C : Option Addr) (k e0 : Nat) (cc : List Int) (w : World) (ra : RdI w A n c a) (rb : RdI w B m d b) (rc : RdI w C k e0 cc) :
    Calls Try.prog 5 #[.slice A n c, .slice B m d, .slice C k e0] w (Yes w) := by
  by_cases hn : 100 < n
  · have q : decide (100 < n) = true := by simpa using hn
    have q' : decide ((100 : Int) < (n : Int)) = true := by simp; omega
    go_enter Try.func5, Try.ntmps5
    go_wp2_with fail
    with_reducible refine (shown_any w).mono ?_
    rintro e w1 ⟨rfl, hb⟩
    go_wp2
    go_ret
    exact ⟨rfl, hb⟩
  have qn : decide (100 < n) = false := by simpa using hn
  have qn' : decide ((100 : Int) < (n : Int)) = false := by simp; omega
  by_cases hm : 100 < m
  · have q : decide (100 < m) = true := by simpa using hm
    have q' : decide ((100 : Int) < (m : Int)) = true := by simp; omega
    go_enter Try.func5, Try.ntmps5
    go_wp2_with fail
    with_reducible refine (shown_any w).mono ?_
    rintro e w1 ⟨rfl, hb⟩
    go_wp2
    go_ret
    exact ⟨rfl, hb⟩
  have qm : decide (100 < m) = false := by simpa using hm
  have qm' : decide ((100 : Int) < (m : Int)) = false := by simp; omega
  by_cases hk : 100 < k
  · have q : decide (100 < k) = true := by simpa using hk
    have q' : decide ((100 : Int) < (k : Int)) = true := by simp; omega
    go_enter Try.func5, Try.ntmps5
    go_wp2_with fail
    with_reducible refine (shown_any w).mono ?_
    rintro e w1 ⟨rfl, hb⟩
    go_wp2
    go_ret
    exact ⟨rfl, hb⟩
  have qk : decide (100 < k) = false := by simpa using hk
  have qk' : decide ((100 : Int) < (k : Int)) = false := by simp; omega
  have ka : n ≤ 100 := by omega
  have kb : m ≤ 100 := by omega
  have kc : k ≤ 100 := by omega
  have HA := hidT (RdI.size ra)
  have HB := hidT (RdI.size rb)
  have HC := hidT (RdI.size rc)
  have hnm : max n m ≤ 100 := by omega
  go_enter Try.func5, Try.ntmps5
  have p := shown_any w
  go_wp2_with fail
  with_reducible refine p.mono ?_
  clear p
  rintro e w1 ⟨rfl, hb⟩
  replace ra := RdV.below ra hb
  replace rb := RdV.below rb hb
  replace rc := RdV.below rc hb
  obtain ⟨N1, hnmk, HN1⟩ : ∃ N, N ≤ 100 ∧ Hid (max (max n m) k = N) := ⟨_, by omega, hidT rfl⟩
  obtain ⟨N2, hmk, HN2⟩ : ∃ N, N ≤ 100 ∧ Hid (max m k = N) := ⟨_, by omega, hidT rfl⟩
  have p := max_any _ _ _ _ _ _ _ _ _ ra rb ka kb
  go_wp2_with fail
  with_reducible refine p.mono ?_
  clear p
  intro e w2 hG
  obtain ⟨A2, c2, rfl, r1, hx⟩ := hG.open_ (max n m) (by rw [jn_length, HA.out, HB.out])
  clear hG
  replace ra := RdV.below ra hx
  replace rb := RdV.below rb hx
  replace rc := RdV.below rc hx
  replace hb := bthen hb hx
  clear hx
  have p := max_any _ _ _ _ _ _ _ _ _ rb ra kb ka
  go_wp2_with fail
  with_reducible refine p.mono ?_
  clear p
  intro e w3 hG
  obtain ⟨A3, c3, rfl, r2, hx⟩ := hG.open_ (max n m) (by rw [jn_length, HA.out, HB.out, Nat.max_comm])
  clear hG
  replace ra := RdV.below ra hx
  replace rb := RdV.below rb hx
  replace rc := RdV.below rc hx
  replace r1 := RdV.below r1 hx
  replace hb := bthen hb hx
  clear hx
  have p := rsame_is _ _ _ _ _ _ _ _ _ r1 r2 true (decide_eq_true (mx_comm a b))
  go_wp2_with fail
  with_reducible refine p.mono ?_
  clear p
  rintro e w4 ⟨rfl, hx⟩
  replace ra := RdV.below ra hx
  replace rb := RdV.below rb hx
  replace rc := RdV.below rc hx
  replace r1 := RdV.below r1 hx
  replace r2 := RdV.below r2 hx
  replace hb := bthen hb hx
  clear hx
  clear r1 r2
  have p := min_any _ _ _ _ _ _ _ _ _ ra rb ka kb
  go_wp2_with fail
  with_reducible refine p.mono ?_
  clear p
  intro e w5 hG
  obtain ⟨A5, c5, rfl, r1, hx⟩ := hG.open_ (max n m) (by rw [jn_length, HA.out, HB.out])
  clear hG
  replace ra := RdV.below ra hx
  replace rb := RdV.below rb hx
  replace rc := RdV.below rc hx
  replace hb := bthen hb hx
  clear hx
  have p := min_any _ _ _ _ _ _ _ _ _ rb ra kb ka
  go_wp2_with fail
  with_reducible refine p.mono ?_
  clear p
  intro e w6 hG
  obtain ⟨A6, c6, rfl, r2, hx⟩ := hG.open_ (max n m) (by rw [jn_length, HA.out, HB.out, Nat.max_comm])
  clear hG
  replace ra := RdV.below ra hx
  replace rb := RdV.below rb hx
  replace rc := RdV.below rc hx
  replace r1 := RdV.below r1 hx
  replace hb := bthen hb hx
  clear hx
  have p := rsame_is _ _ _ _ _ _ _ _ _ r1 r2 true (decide_eq_true (mn_comm a b))
  go_wp2_with fail
  with_reducible refine p.mono ?_
  clear p
  rintro e w7 ⟨rfl, hx⟩
  replace ra := RdV.below ra hx
  replace rb := RdV.below rb hx
  replace rc := RdV.below rc hx
  replace r1 := RdV.below r1 hx
  replace r2 := RdV.below r2 hx
  replace hb := bthen hb hx
  clear hx
  clear r1 r2
  have p := max_any _ _ _ _ _ _ _ _ _ ra rb ka kb
  go_wp2_with fail
  with_reducible refine p.mono ?_
  clear p
  intro e w8 hG
  obtain ⟨A8, c8, rfl, r1, hx⟩ := hG.open_ (max n m) (by rw [jn_length, HA.out, HB.out])
  clear hG
  replace ra := RdV.below ra hx
  replace rb := RdV.below rb hx
  replace rc := RdV.below rc hx
  replace hb := bthen hb hx
  clear hx
  have p := max_any _ _ _ _ _ _ _ _ _ r1 rc hnm kc
  go_wp2_with fail
  with_reducible refine p.mono ?_
  clear p
  intro e w9 hG
  obtain ⟨A9, c9, rfl, r2, hx⟩ := hG.open_ N1 (by rw [jn_length, jn_length, HA.out, HB.out, HC.out, HN1.out])
  clear hG
  replace ra := RdV.below ra hx
  replace rb := RdV.below rb hx
  replace rc := RdV.below rc hx
  replace r1 := RdV.below r1 hx
  replace hb := bthen hb hx
  clear hx
  have p := max_any _ _ _ _ _ _ _ _ _ rb rc kb kc
  go_wp2_with fail
  with_reducible refine p.mono ?_
  clear p
  intro e w10 hG
  obtain ⟨A10, c10, rfl, r3, hx⟩ := hG.open_ N2 (by rw [jn_length, HB.out, HC.out, HN2.out])
  clear hG
  replace ra := RdV.below ra hx
  replace rb := RdV.below rb hx
  replace rc := RdV.below rc hx
  replace r1 := RdV.below r1 hx
  replace r2 := RdV.below r2 hx
  replace hb := bthen hb hx
  clear hx
  have p := max_any _ _ _ _ _ _ _ _ _ ra r3 ka hmk
  go_wp2_with fail
  with_reducible refine p.mono ?_
  clear p
  intro e w11 hG
  obtain ⟨A11, c11, rfl, r4, hx⟩ := hG.open_ N1 (by rw [jn_length, jn_length, HA.out, HB.out, HC.out, ← HN1.out, Nat.max_assoc])
  clear hG
  replace ra := RdV.below ra hx
  replace rb := RdV.below rb hx
  replace rc := RdV.below rc hx
  replace r1 := RdV.below r1 hx
  replace r2 := RdV.below r2 hx
  replace r3 := RdV.below r3 hx
  replace hb := bthen hb hx
  clear hx
  have p := rsame_is _ _ _ _ _ _ _ _ _ r2 r4 true (decide_eq_true (mx_assoc a b cc))
  go_wp2_with fail
  with_reducible refine p.mono ?_
  clear p
  rintro e w12 ⟨rfl, hx⟩
  replace ra := RdV.below ra hx
  replace rb := RdV.below rb hx
  replace rc := RdV.below rc hx
  replace r1 := RdV.below r1 hx
  replace r2 := RdV.below r2 hx
  replace r3 := RdV.below r3 hx
  replace r4 := RdV.below r4 hx
  replace hb := bthen hb hx
  clear hx
  clear r1 r2 r3 r4
  have p := min_any _ _ _ _ _ _ _ _ _ ra rb ka kb
  go_wp2_with fail
  with_reducible refine p.mono ?_
  clear p
  intro e w13 hG
  obtain ⟨A13, c13, rfl, r1, hx⟩ := hG.open_ (max n m) (by rw [jn_length, HA.out, HB.out])
  clear hG
  replace ra := RdV.below ra hx
  replace rb := RdV.below rb hx
  replace rc := RdV.below rc hx
  replace hb := bthen hb hx
  clear hx
  have p := min_any _ _ _ _ _ _ _ _ _ r1 rc hnm kc
  go_wp2_with fail
  with_reducible refine p.mono ?_
  clear p
  intro e w14 hG
  obtain ⟨A14, c14, rfl, r2, hx⟩ := hG.open_ N1 (by rw [jn_length, jn_length, HA.out, HB.out, HC.out, HN1.out])
  clear hG
  replace ra := RdV.below ra hx
  replace rb := RdV.below rb hx
  replace rc := RdV.below rc hx
  replace r1 := RdV.below r1 hx
  replace hb := bthen hb hx
  clear hx
  have p := min_any _ _ _ _ _ _ _ _ _ rb rc kb kc
  go_wp2_with fail
  with_reducible refine p.mono ?_
  clear p
  intro e w15 hG
  obtain ⟨A15, c15, rfl, r3, hx⟩ := hG.open_ N2 (by rw [jn_length, HB.out, HC.out, HN2.out])
  clear hG
  replace ra := RdV.below ra hx
  replace rb := RdV.below rb hx
  replace rc := RdV.below rc hx
  replace r1 := RdV.below r1 hx
  replace r2 := RdV.below r2 hx
  replace hb := bthen hb hx
  clear hx
  have p := min_any _ _ _ _ _ _ _ _ _ ra r3 ka hmk
  go_wp2_with fail
  with_reducible refine p.mono ?_
  clear p
  intro e w16 hG
  obtain ⟨A16, c16, rfl, r4, hx⟩ := hG.open_ N1 (by rw [jn_length, jn_length, HA.out, HB.out, HC.out, ← HN1.out, Nat.max_assoc])
  clear hG
  replace ra := RdV.below ra hx
  replace rb := RdV.below rb hx
  replace rc := RdV.below rc hx
  replace r1 := RdV.below r1 hx
  replace r2 := RdV.below r2 hx
  replace r3 := RdV.below r3 hx
  replace hb := bthen hb hx
  clear hx
  have p := rsame_is _ _ _ _ _ _ _ _ _ r2 r4 true (decide_eq_true (mn_assoc a b cc))
  go_wp2_with fail
  with_reducible refine p.mono ?_
  clear p
  rintro e w17 ⟨rfl, hx⟩
  replace ra := RdV.below ra hx
  replace rb := RdV.below rb hx
  replace rc := RdV.below rc hx
  replace r1 := RdV.below r1 hx
  replace r2 := RdV.below r2 hx
  replace r3 := RdV.below r3 hx
  replace r4 := RdV.below r4 hx
  replace hb := bthen hb hx
  clear hx
  clear r1 r2 r3 r4
  have p := below_any _ _ _ _ _ _ _ _ _ ra ra true (blw_self a)
  go_wp2_with fail
  with_reducible refine p.mono ?_
  clear p
  rintro e w18 ⟨rfl, rfl⟩
  obtain ⟨s, hs⟩ : ∃ s, blw a b = s := ⟨_, rfl⟩
  obtain ⟨t, ht⟩ : ∃ t, blw b cc = t := ⟨_, rfl⟩
  obtain ⟨u, hu⟩ : ∃ u, blw b a = u := ⟨_, rfl⟩
  have HS := hidT hs
  have HT := hidT ht
  have HU := hidT hu
  clear hs ht hu
  have HO := hidT (sm_order a b)
  obtain ⟨s1, HS1⟩ : ∃ z, Hid (sm (mx a b) = z) := ⟨_, hidT rfl⟩
  obtain ⟨s2, HS2⟩ : ∃ z, Hid (sm (mn a b) = z) := ⟨_, hidT rfl⟩
  obtain ⟨s3, HS3⟩ : ∃ z, Hid (sm a = z) := ⟨_, hidT rfl⟩
  obtain ⟨s4, HS4⟩ : ∃ z, Hid (sm b = z) := ⟨_, hidT rfl⟩
  rw [HS1.out, HS2.out, HS3.out, HS4.out] at HO
  obtain ⟨z, HZ⟩ : ∃ z, Hid (wrap64 (s3 + s4) = z) := ⟨_, hidT rfl⟩
  rw [HZ.out] at HO
  have qo := HO.out
  have qz := HZ.out
  cases s <;> cases t <;> cases u
  · have p := below_any _ _ _ _ _ _ _ _ _ ra rb false HS.out
    go_wp2_with fail
    with_reducible refine p.mono ?_
    clear p
    rintro e w19 ⟨rfl, rfl⟩
    have p := below_any _ _ _ _ _ _ _ _ _ ra rb false HS.out
    go_wp2_with fail
    with_reducible refine p.mono ?_
    clear p
    rintro e w20 ⟨rfl, rfl⟩
    have p := max_any _ _ _ _ _ _ _ _ _ ra rb ka kb
    go_wp2_with fail
    with_reducible refine p.mono ?_
    clear p
    intro e w21 hG
    obtain ⟨A21, c21, rfl, r1, hx⟩ := hG.open_ (max n m) (by rw [jn_length, HA.out, HB.out])
    clear hG
    replace ra := RdV.below ra hx
    replace rb := RdV.below rb hx
    replace rc := RdV.below rc hx
    replace hb := bthen hb hx
    clear hx
    have p := sum_any _ _ _ _ _ r1
    rw [HS1.out] at p
    go_wp2_with fail
    with_reducible refine p.mono ?_
    clear p
    rintro e w22 ⟨rfl, rfl⟩
    have p := min_any _ _ _ _ _ _ _ _ _ ra rb ka kb
    go_wp2_with fail
    with_reducible refine p.mono ?_
    clear p
    intro e w23 hG
    obtain ⟨A23, c23, rfl, r2, hx⟩ := hG.open_ (max n m) (by rw [jn_length, HA.out, HB.out])
    clear hG
    replace ra := RdV.below ra hx
    replace rb := RdV.below rb hx
    replace rc := RdV.below rc hx
    replace r1 := RdV.below r1 hx
    replace hb := bthen hb hx
    clear hx
    have p := sum_any _ _ _ _ _ r2
    rw [HS2.out] at p
    go_wp2_with fail
    with_reducible refine p.mono ?_
    clear p
    rintro e w24 ⟨rfl, rfl⟩
    have p := sum_any _ _ _ _ _ ra
    rw [HS3.out] at p
    go_wp2_with fail
    with_reducible refine p.mono ?_
    clear p
    rintro e w25 ⟨rfl, rfl⟩
    have p := sum_any _ _ _ _ _ rb
    rw [HS4.out] at p
    go_wp2_with fail
    with_reducible refine p.mono ?_
    clear p
    rintro e w26 ⟨rfl, rfl⟩
    go_wp2
    go_ret
    exact ⟨rfl, hb⟩
  · have p := below_any _ _ _ _ _ _ _ _ _ ra rb false HS.out
    go_wp2_with fail
    with_reducible refine p.mono ?_
    clear p
    rintro e w19 ⟨rfl, rfl⟩
    have p := below_any _ _ _ _ _ _ _ _ _ ra rb false HS.out
    go_wp2_with fail
    with_reducible refine p.mono ?_
    clear p
    rintro e w20 ⟨rfl, rfl⟩
    have p := max_any _ _ _ _ _ _ _ _ _ ra rb ka kb
    go_wp2_with fail
    with_reducible refine p.mono ?_
    clear p
    intro e w21 hG
    obtain ⟨A21, c21, rfl, r1, hx⟩ := hG.open_ (max n m) (by rw [jn_length, HA.out, HB.out])
    clear hG
    replace ra := RdV.below ra hx
    replace rb := RdV.below rb hx
    replace rc := RdV.below rc hx
    replace hb := bthen hb hx
    clear hx
    have p := sum_any _ _ _ _ _ r1
    rw [HS1.out] at p
    go_wp2_with fail
    with_reducible refine p.mono ?_
    clear p
    rintro e w22 ⟨rfl, rfl⟩
    have p := min_any _ _ _ _ _ _ _ _ _ ra rb ka kb
    go_wp2_with fail
    with_reducible refine p.mono ?_
    clear p
    intro e w23 hG
    obtain ⟨A23, c23, rfl, r2, hx⟩ := hG.open_ (max n m) (by rw [jn_length, HA.out, HB.out])
    clear hG
    replace ra := RdV.below ra hx
    replace rb := RdV.below rb hx
    replace rc := RdV.below rc hx
    replace r1 := RdV.below r1 hx
    replace hb := bthen hb hx
    clear hx
    have p := sum_any _ _ _ _ _ r2
    rw [HS2.out] at p
    go_wp2_with fail
    with_reducible refine p.mono ?_
    clear p
    rintro e w24 ⟨rfl, rfl⟩
    have p := sum_any _ _ _ _ _ ra
    rw [HS3.out] at p
    go_wp2_with fail
    with_reducible refine p.mono ?_
    clear p
    rintro e w25 ⟨rfl, rfl⟩
    have p := sum_any _ _ _ _ _ rb
    rw [HS4.out] at p
    go_wp2_with fail
    with_reducible refine p.mono ?_
    clear p
    rintro e w26 ⟨rfl, rfl⟩
    go_wp2
    go_ret
    exact ⟨rfl, hb⟩
  · have p := below_any _ _ _ _ _ _ _ _ _ ra rb false HS.out
    go_wp2_with fail
    with_reducible refine p.mono ?_
    clear p
    rintro e w19 ⟨rfl, rfl⟩
    have p := below_any _ _ _ _ _ _ _ _ _ ra rb false HS.out
    go_wp2_with fail
    with_reducible refine p.mono ?_
    clear p
    rintro e w20 ⟨rfl, rfl⟩
    have p := max_any _ _ _ _ _ _ _ _ _ ra rb ka kb
    go_wp2_with fail
    with_reducible refine p.mono ?_
    clear p
    intro e w21 hG
    obtain ⟨A21, c21, rfl, r1, hx⟩ := hG.open_ (max n m) (by rw [jn_length, HA.out, HB.out])
    clear hG
    replace ra := RdV.below ra hx
    replace rb := RdV.below rb hx
    replace rc := RdV.below rc hx
    replace hb := bthen hb hx
    clear hx
    have p := sum_any _ _ _ _ _ r1
    rw [HS1.out] at p
    go_wp2_with fail
    with_reducible refine p.mono ?_
    clear p
    rintro e w22 ⟨rfl, rfl⟩
    have p := min_any _ _ _ _ _ _ _ _ _ ra rb ka kb
    go_wp2_with fail
    with_reducible refine p.mono ?_
    clear p
    intro e w23 hG
    obtain ⟨A23, c23, rfl, r2, hx⟩ := hG.open_ (max n m) (by rw [jn_length, HA.out, HB.out])
    clear hG
    replace ra := RdV.below ra hx
    replace rb := RdV.below rb hx
    replace rc := RdV.below rc hx
    replace r1 := RdV.below r1 hx
    replace hb := bthen hb hx
    clear hx
    have p := sum_any _ _ _ _ _ r2
    rw [HS2.out] at p
    go_wp2_with fail
    with_reducible refine p.mono ?_
    clear p
    rintro e w24 ⟨rfl, rfl⟩
    have p := sum_any _ _ _ _ _ ra
    rw [HS3.out] at p
    go_wp2_with fail
    with_reducible refine p.mono ?_
    clear p
    rintro e w25 ⟨rfl, rfl⟩
    have p := sum_any _ _ _ _ _ rb
    rw [HS4.out] at p
    go_wp2_with fail
    with_reducible refine p.mono ?_
    clear p
    rintro e w26 ⟨rfl, rfl⟩
    go_wp2
    go_ret
    exact ⟨rfl, hb⟩
  · have p := below_any _ _ _ _ _ _ _ _ _ ra rb false HS.out
    go_wp2_with fail
    with_reducible refine p.mono ?_
    clear p
    rintro e w19 ⟨rfl, rfl⟩
    have p := below_any _ _ _ _ _ _ _ _ _ ra rb false HS.out
    go_wp2_with fail
    with_reducible refine p.mono ?_
    clear p
    rintro e w20 ⟨rfl, rfl⟩
    have p := max_any _ _ _ _ _ _ _ _ _ ra rb ka kb
    go_wp2_with fail
    with_reducible refine p.mono ?_
    clear p
    intro e w21 hG
    obtain ⟨A21, c21, rfl, r1, hx⟩ := hG.open_ (max n m) (by rw [jn_length, HA.out, HB.out])
    clear hG
    replace ra := RdV.below ra hx
    replace rb := RdV.below rb hx
    replace rc := RdV.below rc hx
    replace hb := bthen hb hx
    clear hx
    have p := sum_any _ _ _ _ _ r1
    rw [HS1.out] at p
    go_wp2_with fail
    with_reducible refine p.mono ?_
    clear p
    rintro e w22 ⟨rfl, rfl⟩
    have p := min_any _ _ _ _ _ _ _ _ _ ra rb ka kb
    go_wp2_with fail
    with_reducible refine p.mono ?_
    clear p
    intro e w23 hG
    obtain ⟨A23, c23, rfl, r2, hx⟩ := hG.open_ (max n m) (by rw [jn_length, HA.out, HB.out])
    clear hG
    replace ra := RdV.below ra hx
    replace rb := RdV.below rb hx
    replace rc := RdV.below rc hx
    replace r1 := RdV.below r1 hx
    replace hb := bthen hb hx
    clear hx
    have p := sum_any _ _ _ _ _ r2
    rw [HS2.out] at p
    go_wp2_with fail
    with_reducible refine p.mono ?_
    clear p
    rintro e w24 ⟨rfl, rfl⟩
    have p := sum_any _ _ _ _ _ ra
    rw [HS3.out] at p
    go_wp2_with fail
    with_reducible refine p.mono ?_
    clear p
    rintro e w25 ⟨rfl, rfl⟩
    have p := sum_any _ _ _ _ _ rb
    rw [HS4.out] at p
    go_wp2_with fail
    with_reducible refine p.mono ?_
    clear p
    rintro e w26 ⟨rfl, rfl⟩
    go_wp2
    go_ret
    exact ⟨rfl, hb⟩
  · have p := below_any _ _ _ _ _ _ _ _ _ ra rb true HS.out
    go_wp2_with fail
    with_reducible refine p.mono ?_
    clear p
    rintro e w19 ⟨rfl, rfl⟩
    have p := below_any _ _ _ _ _ _ _ _ _ rb rc false HT.out
    go_wp2_with fail
    with_reducible refine p.mono ?_
    clear p
    rintro e w20 ⟨rfl, rfl⟩
    have p := below_any _ _ _ _ _ _ _ _ _ ra rb true HS.out
    go_wp2_with fail
    with_reducible refine p.mono ?_
    clear p
    rintro e w21 ⟨rfl, rfl⟩
    have p := below_any _ _ _ _ _ _ _ _ _ rb ra false HU.out
    go_wp2_with fail
    with_reducible refine p.mono ?_
    clear p
    rintro e w22 ⟨rfl, rfl⟩
    have p := max_any _ _ _ _ _ _ _ _ _ ra rb ka kb
    go_wp2_with fail
    with_reducible refine p.mono ?_
    clear p
    intro e w23 hG
    obtain ⟨A23, c23, rfl, r1, hx⟩ := hG.open_ (max n m) (by rw [jn_length, HA.out, HB.out])
    clear hG
    replace ra := RdV.below ra hx
    replace rb := RdV.below rb hx
    replace rc := RdV.below rc hx
    replace hb := bthen hb hx
    clear hx
    have p := sum_any _ _ _ _ _ r1
    rw [HS1.out] at p
    go_wp2_with fail
    with_reducible refine p.mono ?_
    clear p
    rintro e w24 ⟨rfl, rfl⟩
    have p := min_any _ _ _ _ _ _ _ _ _ ra rb ka kb
    go_wp2_with fail
    with_reducible refine p.mono ?_
    clear p
    intro e w25 hG
    obtain ⟨A25, c25, rfl, r2, hx⟩ := hG.open_ (max n m) (by rw [jn_length, HA.out, HB.out])
    clear hG
    replace ra := RdV.below ra hx
    replace rb := RdV.below rb hx
    replace rc := RdV.below rc hx
    replace r1 := RdV.below r1 hx
    replace hb := bthen hb hx
    clear hx
    have p := sum_any _ _ _ _ _ r2
    rw [HS2.out] at p
    go_wp2_with fail
    with_reducible refine p.mono ?_
    clear p
    rintro e w26 ⟨rfl, rfl⟩
    have p := sum_any _ _ _ _ _ ra
    rw [HS3.out] at p
    go_wp2_with fail
    with_reducible refine p.mono ?_
    clear p
    rintro e w27 ⟨rfl, rfl⟩
    have p := sum_any _ _ _ _ _ rb
    rw [HS4.out] at p
    go_wp2_with fail
    with_reducible refine p.mono ?_
    clear p
    rintro e w28 ⟨rfl, rfl⟩
    go_wp2
    go_ret
    exact ⟨rfl, hb⟩
  · have p := below_any _ _ _ _ _ _ _ _ _ ra rb true HS.out
    go_wp2_with fail
    with_reducible refine p.mono ?_
    clear p
    rintro e w19 ⟨rfl, rfl⟩
    have p := below_any _ _ _ _ _ _ _ _ _ rb rc false HT.out
    go_wp2_with fail
    with_reducible refine p.mono ?_
    clear p
    rintro e w20 ⟨rfl, rfl⟩
    have p := below_any _ _ _ _ _ _ _ _ _ ra rb true HS.out
    go_wp2_with fail
    with_reducible refine p.mono ?_
    clear p
    rintro e w21 ⟨rfl, rfl⟩
    have p := below_any _ _ _ _ _ _ _ _ _ rb ra true HU.out
    go_wp2_with fail
    with_reducible refine p.mono ?_
    clear p
    rintro e w22 ⟨rfl, rfl⟩
    have p := max_any _ _ _ _ _ _ _ _ _ ra rb ka kb
    go_wp2_with fail
    with_reducible refine p.mono ?_
    clear p
    intro e w23 hG
    obtain ⟨A23, c23, rfl, r1, hx⟩ := hG.open_ (max n m) (by rw [jn_length, HA.out, HB.out])
    clear hG
    replace ra := RdV.below ra hx
    replace rb := RdV.below rb hx
    replace rc := RdV.below rc hx
    replace hb := bthen hb hx
    clear hx
    have p := min_any _ _ _ _ _ _ _ _ _ ra rb ka kb
    go_wp2_with fail
    with_reducible refine p.mono ?_
    clear p
    intro e w24 hG
    obtain ⟨A24, c24, rfl, r2, hx⟩ := hG.open_ (max n m) (by rw [jn_length, HA.out, HB.out])
    clear hG
    replace ra := RdV.below ra hx
    replace rb := RdV.below rb hx
    replace rc := RdV.below rc hx
    replace r1 := RdV.below r1 hx
    replace hb := bthen hb hx
    clear hx
    have p := rsame_is _ _ _ _ _ _ _ _ _ r1 r2 true (decide_eq_true (blw_both HS.out HU.out))
    go_wp2_with fail
    with_reducible refine p.mono ?_
    clear p
    rintro e w25 ⟨rfl, hx⟩
    replace ra := RdV.below ra hx
    replace rb := RdV.below rb hx
    replace rc := RdV.below rc hx
    replace r1 := RdV.below r1 hx
    replace r2 := RdV.below r2 hx
    replace hb := bthen hb hx
    clear hx
    clear r1 r2
    have p := max_any _ _ _ _ _ _ _ _ _ ra rb ka kb
    go_wp2_with fail
    with_reducible refine p.mono ?_
    clear p
    intro e w26 hG
    obtain ⟨A26, c26, rfl, r1, hx⟩ := hG.open_ (max n m) (by rw [jn_length, HA.out, HB.out])
    clear hG
    replace ra := RdV.below ra hx
    replace rb := RdV.below rb hx
    replace rc := RdV.below rc hx
    replace hb := bthen hb hx
    clear hx
    have p := sum_any _ _ _ _ _ r1
    rw [HS1.out] at p
    go_wp2_with fail
    with_reducible refine p.mono ?_
    clear p
    rintro e w27 ⟨rfl, rfl⟩
    have p := min_any _ _ _ _ _ _ _ _ _ ra rb ka kb
    go_wp2_with fail
    with_reducible refine p.mono ?_
    clear p
    intro e w28 hG
    obtain ⟨A28, c28, rfl, r2, hx⟩ := hG.open_ (max n m) (by rw [jn_length, HA.out, HB.out])
    clear hG
    replace ra := RdV.below ra hx
    replace rb := RdV.below rb hx
    replace rc := RdV.below rc hx
    replace r1 := RdV.below r1 hx
    replace hb := bthen hb hx
    clear hx
    have p := sum_any _ _ _ _ _ r2
    rw [HS2.out] at p
    go_wp2_with fail
    with_reducible refine p.mono ?_
    clear p
    rintro e w29 ⟨rfl, rfl⟩
    have p := sum_any _ _ _ _ _ ra
    rw [HS3.out] at p
    go_wp2_with fail
    with_reducible refine p.mono ?_
    clear p
    rintro e w30 ⟨rfl, rfl⟩
    have p := sum_any _ _ _ _ _ rb
    rw [HS4.out] at p
    go_wp2_with fail
    with_reducible refine p.mono ?_
    clear p
    rintro e w31 ⟨rfl, rfl⟩
    go_wp2
    go_ret
    exact ⟨rfl, hb⟩
  · have p := below_any _ _ _ _ _ _ _ _ _ ra rb true HS.out
    go_wp2_with fail
    with_reducible refine p.mono ?_
    clear p
    rintro e w19 ⟨rfl, rfl⟩
    have p := below_any _ _ _ _ _ _ _ _ _ rb rc true HT.out
    go_wp2_with fail
    with_reducible refine p.mono ?_
    clear p
    rintro e w20 ⟨rfl, rfl⟩
    have p := below_any _ _ _ _ _ _ _ _ _ ra rc true (blw_trans HS.out HT.out)
    go_wp2_with fail
    with_reducible refine p.mono ?_
    clear p
    rintro e w21 ⟨rfl, rfl⟩
    have p := below_any _ _ _ _ _ _ _ _ _ ra rb true HS.out
    go_wp2_with fail
    with_reducible refine p.mono ?_
    clear p
    rintro e w22 ⟨rfl, rfl⟩
    have p := below_any _ _ _ _ _ _ _ _ _ rb ra false HU.out
    go_wp2_with fail
    with_reducible refine p.mono ?_
    clear p
    rintro e w23 ⟨rfl, rfl⟩
    have p := max_any _ _ _ _ _ _ _ _ _ ra rb ka kb
    go_wp2_with fail
    with_reducible refine p.mono ?_
    clear p
    intro e w24 hG
    obtain ⟨A24, c24, rfl, r1, hx⟩ := hG.open_ (max n m) (by rw [jn_length, HA.out, HB.out])
    clear hG
    replace ra := RdV.below ra hx
    replace rb := RdV.below rb hx
    replace rc := RdV.below rc hx
    replace hb := bthen hb hx
    clear hx
    have p := sum_any _ _ _ _ _ r1
    rw [HS1.out] at p
    go_wp2_with fail
    with_reducible refine p.mono ?_
    clear p
    rintro e w25 ⟨rfl, rfl⟩
    have p := min_any _ _ _ _ _ _ _ _ _ ra rb ka kb
    go_wp2_with fail
    with_reducible refine p.mono ?_
    clear p
    intro e w26 hG
    obtain ⟨A26, c26, rfl, r2, hx⟩ := hG.open_ (max n m) (by rw [jn_length, HA.out, HB.out])
    clear hG
    replace ra := RdV.below ra hx
    replace rb := RdV.below rb hx
    replace rc := RdV.below rc hx
    replace r1 := RdV.below r1 hx
    replace hb := bthen hb hx
    clear hx
    have p := sum_any _ _ _ _ _ r2
    rw [HS2.out] at p
    go_wp2_with fail
    with_reducible refine p.mono ?_
    clear p
    rintro e w27 ⟨rfl, rfl⟩
    have p := sum_any _ _ _ _ _ ra
    rw [HS3.out] at p
    go_wp2_with fail
    with_reducible refine p.mono ?_
    clear p
    rintro e w28 ⟨rfl, rfl⟩
    have p := sum_any _ _ _ _ _ rb
    rw [HS4.out] at p
    go_wp2_with fail
    with_reducible refine p.mono ?_
    clear p
    rintro e w29 ⟨rfl, rfl⟩
    go_wp2
    go_ret
    exact ⟨rfl, hb⟩
  · have p := below_any _ _ _ _ _ _ _ _ _ ra rb true HS.out
    go_wp2_with fail
    with_reducible refine p.mono ?_
    clear p
    rintro e w19 ⟨rfl, rfl⟩
    have p := below_any _ _ _ _ _ _ _ _ _ rb rc true HT.out
    go_wp2_with fail
    with_reducible refine p.mono ?_
    clear p
    rintro e w20 ⟨rfl, rfl⟩
    have p := below_any _ _ _ _ _ _ _ _ _ ra rc true (blw_trans HS.out HT.out)
    go_wp2_with fail
    with_reducible refine p.mono ?_
    clear p
    rintro e w21 ⟨rfl, rfl⟩
    have p := below_any _ _ _ _ _ _ _ _ _ ra rb true HS.out
    go_wp2_with fail
    with_reducible refine p.mono ?_
    clear p
    rintro e w22 ⟨rfl, rfl⟩
    have p := below_any _ _ _ _ _ _ _ _ _ rb ra true HU.out
    go_wp2_with fail
    with_reducible refine p.mono ?_
    clear p
    rintro e w23 ⟨rfl, rfl⟩
    have p := max_any _ _ _ _ _ _ _ _ _ ra rb ka kb
    go_wp2_with fail
    with_reducible refine p.mono ?_
    clear p
    intro e w24 hG
    obtain ⟨A24, c24, rfl, r1, hx⟩ := hG.open_ (max n m) (by rw [jn_length, HA.out, HB.out])
    clear hG
    replace ra := RdV.below ra hx
    replace rb := RdV.below rb hx
    replace rc := RdV.below rc hx
    replace hb := bthen hb hx
    clear hx
    have p := min_any _ _ _ _ _ _ _ _ _ ra rb ka kb
    go_wp2_with fail
    with_reducible refine p.mono ?_
    clear p
    intro e w25 hG
    obtain ⟨A25, c25, rfl, r2, hx⟩ := hG.open_ (max n m) (by rw [jn_length, HA.out, HB.out])
    clear hG
    replace ra := RdV.below ra hx
    replace rb := RdV.below rb hx
    replace rc := RdV.below rc hx
    replace r1 := RdV.below r1 hx
    replace hb := bthen hb hx
    clear hx
    have p := rsame_is _ _ _ _ _ _ _ _ _ r1 r2 true (decide_eq_true (blw_both HS.out HU.out))
    go_wp2_with fail
    with_reducible refine p.mono ?_
    clear p
    rintro e w26 ⟨rfl, hx⟩
    replace ra := RdV.below ra hx
    replace rb := RdV.below rb hx
    replace rc := RdV.below rc hx
    replace r1 := RdV.below r1 hx
    replace r2 := RdV.below r2 hx
    replace hb := bthen hb hx
    clear hx
    clear r1 r2
    have p := max_any _ _ _ _ _ _ _ _ _ ra rb ka kb
    go_wp2_with fail
    with_reducible refine p.mono ?_
    clear p
    intro e w27 hG
    obtain ⟨A27, c27, rfl, r1, hx⟩ := hG.open_ (max n m) (by rw [jn_length, HA.out, HB.out])
    clear hG
    replace ra := RdV.below ra hx
    replace rb := RdV.below rb hx
    replace rc := RdV.below rc hx
    replace hb := bthen hb hx
    clear hx
    have p := sum_any _ _ _ _ _ r1
    rw [HS1.out] at p
    go_wp2_with fail
    with_reducible refine p.mono ?_
    clear p
    rintro e w28 ⟨rfl, rfl⟩
    have p := min_any _ _ _ _ _ _ _ _ _ ra rb ka kb
    go_wp2_with fail
    with_reducible refine p.mono ?_
    clear p
    intro e w29 hG
    obtain ⟨A29, c29, rfl, r2, hx⟩ := hG.open_ (max n m) (by rw [jn_length, HA.out, HB.out])
    clear hG
    replace ra := RdV.below ra hx
    replace rb := RdV.below rb hx
    replace rc := RdV.below rc hx
    replace r1 := RdV.below r1 hx
    replace hb := bthen hb hx
    clear hx
    have p := sum_any _ _ _ _ _ r2
    rw [HS2.out] at p
    go_wp2_with fail
    with_reducible refine p.mono ?_
    clear p
    rintro e w30 ⟨rfl, rfl⟩
    have p := sum_any _ _ _ _ _ ra
    rw [HS3.out] at p
    go_wp2_with fail
    with_reducible refine p.mono ?_
    clear p
    rintro e w31 ⟨rfl, rfl⟩
    have p := sum_any _ _ _ _ _ rb
    rw [HS4.out] at p
    go_wp2_with fail
    with_reducible refine p.mono ?_
    clear p
    rintro e w32 ⟨rfl, rfl⟩
    go_wp2
    go_ret
    exact ⟨rfl, hb⟩
end Go.Proofs.Ytghcpfdmdhdcgaa
