/- VecBounds, walked. -/
import Derived.Test.YtghcpfdmdhdcgaaVecShown
set_option maxRecDepth 100000
namespace Go.Proofs.Ytghcpfdmdhdcgaa
open Go.RowKit
set_option linter.unusedVariables false

set_option maxHeartbeats 4000000 in
theorem bounds_any (A : Option Addr) (n c : Nat) (a : List Int) (B : Option Addr) (m d : Nat) (b : List Int) (C : Option Addr) (k e0 : Nat) (cc : List Int) (w : World) (ra : RdI w A n c a) (rb : RdI w B m d b) (rc : RdI w C k e0 cc) :
    Calls Try.prog 4 #[.slice A n c, .slice B m d, .slice C k e0] w (Yes w) := by
  by_cases hn : 100 < n
  · have q : decide (100 < n) = true := by simpa using hn
    have q' : decide ((100 : Int) < (n : Int)) = true := by simp; omega
    go_enter Try.func4, Try.ntmps4
    go_wp2_with fail
    with_reducible refine (shown_any w).mono ?_
    rintro e w1 ⟨rfl, hb⟩
    go_wp2
    go_ret
    exact ⟨rfl, hb⟩
  have qn : decide (100 < n) = false := by simpa using hn
  have qn' : decide ((100 : Int) < (n : Int)) = false := by simp; omega
  by_cases hm : 100 < m
  · have q : decide (100 < m) = true := by simpa using hm
    have q' : decide ((100 : Int) < (m : Int)) = true := by simp; omega
    go_enter Try.func4, Try.ntmps4
    go_wp2_with fail
    with_reducible refine (shown_any w).mono ?_
    rintro e w1 ⟨rfl, hb⟩
    go_wp2
    go_ret
    exact ⟨rfl, hb⟩
  have qm : decide (100 < m) = false := by simpa using hm
  have qm' : decide ((100 : Int) < (m : Int)) = false := by simp; omega
  by_cases hk : 100 < k
  · have q : decide (100 < k) = true := by simpa using hk
    have q' : decide ((100 : Int) < (k : Int)) = true := by simp; omega
    go_enter Try.func4, Try.ntmps4
    go_wp2_with fail
    with_reducible refine (shown_any w).mono ?_
    rintro e w1 ⟨rfl, hb⟩
    go_wp2
    go_ret
    exact ⟨rfl, hb⟩
  have qk : decide (100 < k) = false := by simpa using hk
  have qk' : decide ((100 : Int) < (k : Int)) = false := by simp; omega
  have ka : n ≤ 100 := by omega
  have kb : m ≤ 100 := by omega
  have kc : k ≤ 100 := by omega
  have HA := hidT (RdI.size ra)
  have HB := hidT (RdI.size rb)
  have HC := hidT (RdI.size rc)
  have hnm : max n m ≤ 100 := by omega
  go_enter Try.func4, Try.ntmps4
  have p := shown_any w
  go_wp2_with fail
  with_reducible refine p.mono ?_
  clear p
  rintro e w1 ⟨rfl, hb⟩
  replace ra := RdV.below ra hb
  replace rb := RdV.below rb hb
  replace rc := RdV.below rc hb
  have p := max_any _ _ _ _ _ _ _ _ _ ra rb ka kb
  go_wp2_with fail
  with_reducible refine p.mono ?_
  clear p
  intro e w2 hG
  obtain ⟨A2, c2, rfl, rx, hx⟩ := hG.open_ (max n m) (by rw [jn_length, HA.out, HB.out])
  clear hG
  replace ra := RdV.below ra hx
  replace rb := RdV.below rb hx
  replace rc := RdV.below rc hx
  replace hb := bthen hb hx
  clear hx
  have p := min_any _ _ _ _ _ _ _ _ _ ra rb ka kb
  go_wp2_with fail
  with_reducible refine p.mono ?_
  clear p
  intro e w3 hG
  obtain ⟨A3, c3, rfl, ry, hx⟩ := hG.open_ (max n m) (by rw [jn_length, HA.out, HB.out])
  clear hG
  replace ra := RdV.below ra hx
  replace rb := RdV.below rb hx
  replace rc := RdV.below rc hx
  replace rx := RdV.below rx hx
  replace hb := bthen hb hx
  clear hx
  have p := below_any _ _ _ _ _ _ _ _ _ ra rx true (blw_mx1 a b)
  go_wp2_with fail
  with_reducible refine p.mono ?_
  clear p
  rintro e w4 ⟨rfl, rfl⟩
  have p := below_any _ _ _ _ _ _ _ _ _ rb rx true (blw_mx2 a b)
  go_wp2_with fail
  with_reducible refine p.mono ?_
  clear p
  rintro e w5 ⟨rfl, rfl⟩
  have p := below_any _ _ _ _ _ _ _ _ _ ry ra true (blw_mn1 a b)
  go_wp2_with fail
  with_reducible refine p.mono ?_
  clear p
  rintro e w6 ⟨rfl, rfl⟩
  have p := below_any _ _ _ _ _ _ _ _ _ ry rb true (blw_mn2 a b)
  go_wp2_with fail
  with_reducible refine p.mono ?_
  clear p
  rintro e w7 ⟨rfl, rfl⟩
  have HX := hidT (blw_mx a b cc)
  have HY := hidT (blw_mn a b cc)
  obtain ⟨s, hs⟩ : ∃ s, blw a cc = s := ⟨_, rfl⟩
  obtain ⟨t, ht⟩ : ∃ t, blw b cc = t := ⟨_, rfl⟩
  obtain ⟨u, hu⟩ : ∃ u, blw cc a = u := ⟨_, rfl⟩
  obtain ⟨v, hv⟩ : ∃ v, blw cc b = v := ⟨_, rfl⟩
  have HS := hidT hs
  have HT := hidT ht
  have HU := hidT hu
  have HV := hidT hv
  rw [hs, ht] at HX
  rw [hu, hv] at HY
  clear hs ht hu hv
  cases s <;> cases t <;> cases u <;> cases v
  · have p := below_any _ _ _ _ _ _ _ _ _ rx rc false HX.out
    go_wp2_with fail
    with_reducible refine p.mono ?_
    clear p
    rintro e w8 ⟨rfl, rfl⟩
    have p := below_any _ _ _ _ _ _ _ _ _ ra rc false HS.out
    go_wp2_with fail
    with_reducible refine p.mono ?_
    clear p
    rintro e w9 ⟨rfl, rfl⟩
    have p := below_any _ _ _ _ _ _ _ _ _ rc ry false HY.out
    go_wp2_with fail
    with_reducible refine p.mono ?_
    clear p
    rintro e w10 ⟨rfl, rfl⟩
    have p := below_any _ _ _ _ _ _ _ _ _ rc ra false HU.out
    go_wp2_with fail
    with_reducible refine p.mono ?_
    clear p
    rintro e w11 ⟨rfl, rfl⟩
    go_wp2
    go_ret
    exact ⟨rfl, hb⟩
  · have p := below_any _ _ _ _ _ _ _ _ _ rx rc false HX.out
    go_wp2_with fail
    with_reducible refine p.mono ?_
    clear p
    rintro e w8 ⟨rfl, rfl⟩
    have p := below_any _ _ _ _ _ _ _ _ _ ra rc false HS.out
    go_wp2_with fail
    with_reducible refine p.mono ?_
    clear p
    rintro e w9 ⟨rfl, rfl⟩
    have p := below_any _ _ _ _ _ _ _ _ _ rc ry false HY.out
    go_wp2_with fail
    with_reducible refine p.mono ?_
    clear p
    rintro e w10 ⟨rfl, rfl⟩
    have p := below_any _ _ _ _ _ _ _ _ _ rc ra false HU.out
    go_wp2_with fail
    with_reducible refine p.mono ?_
    clear p
    rintro e w11 ⟨rfl, rfl⟩
    go_wp2
    go_ret
    exact ⟨rfl, hb⟩
  · have p := below_any _ _ _ _ _ _ _ _ _ rx rc false HX.out
    go_wp2_with fail
    with_reducible refine p.mono ?_
    clear p
    rintro e w8 ⟨rfl, rfl⟩
    have p := below_any _ _ _ _ _ _ _ _ _ ra rc false HS.out
    go_wp2_with fail
    with_reducible refine p.mono ?_
    clear p
    rintro e w9 ⟨rfl, rfl⟩
    have p := below_any _ _ _ _ _ _ _ _ _ rc ry false HY.out
    go_wp2_with fail
    with_reducible refine p.mono ?_
    clear p
    rintro e w10 ⟨rfl, rfl⟩
    have p := below_any _ _ _ _ _ _ _ _ _ rc ra true HU.out
    go_wp2_with fail
    with_reducible refine p.mono ?_
    clear p
    rintro e w11 ⟨rfl, rfl⟩
    have p := below_any _ _ _ _ _ _ _ _ _ rc rb false HV.out
    go_wp2_with fail
    with_reducible refine p.mono ?_
    clear p
    rintro e w12 ⟨rfl, rfl⟩
    go_wp2
    go_ret
    exact ⟨rfl, hb⟩
  · have p := below_any _ _ _ _ _ _ _ _ _ rx rc false HX.out
    go_wp2_with fail
    with_reducible refine p.mono ?_
    clear p
    rintro e w8 ⟨rfl, rfl⟩
    have p := below_any _ _ _ _ _ _ _ _ _ ra rc false HS.out
    go_wp2_with fail
    with_reducible refine p.mono ?_
    clear p
    rintro e w9 ⟨rfl, rfl⟩
    have p := below_any _ _ _ _ _ _ _ _ _ rc ry true HY.out
    go_wp2_with fail
    with_reducible refine p.mono ?_
    clear p
    rintro e w10 ⟨rfl, rfl⟩
    have p := below_any _ _ _ _ _ _ _ _ _ rc ra true HU.out
    go_wp2_with fail
    with_reducible refine p.mono ?_
    clear p
    rintro e w11 ⟨rfl, rfl⟩
    have p := below_any _ _ _ _ _ _ _ _ _ rc rb true HV.out
    go_wp2_with fail
    with_reducible refine p.mono ?_
    clear p
    rintro e w12 ⟨rfl, rfl⟩
    go_wp2
    go_ret
    exact ⟨rfl, hb⟩
  · have p := below_any _ _ _ _ _ _ _ _ _ rx rc false HX.out
    go_wp2_with fail
    with_reducible refine p.mono ?_
    clear p
    rintro e w8 ⟨rfl, rfl⟩
    have p := below_any _ _ _ _ _ _ _ _ _ ra rc false HS.out
    go_wp2_with fail
    with_reducible refine p.mono ?_
    clear p
    rintro e w9 ⟨rfl, rfl⟩
    have p := below_any _ _ _ _ _ _ _ _ _ rc ry false HY.out
    go_wp2_with fail
    with_reducible refine p.mono ?_
    clear p
    rintro e w10 ⟨rfl, rfl⟩
    have p := below_any _ _ _ _ _ _ _ _ _ rc ra false HU.out
    go_wp2_with fail
    with_reducible refine p.mono ?_
    clear p
    rintro e w11 ⟨rfl, rfl⟩
    go_wp2
    go_ret
    exact ⟨rfl, hb⟩
  · have p := below_any _ _ _ _ _ _ _ _ _ rx rc false HX.out
    go_wp2_with fail
    with_reducible refine p.mono ?_
    clear p
    rintro e w8 ⟨rfl, rfl⟩
    have p := below_any _ _ _ _ _ _ _ _ _ ra rc false HS.out
    go_wp2_with fail
    with_reducible refine p.mono ?_
    clear p
    rintro e w9 ⟨rfl, rfl⟩
    have p := below_any _ _ _ _ _ _ _ _ _ rc ry false HY.out
    go_wp2_with fail
    with_reducible refine p.mono ?_
    clear p
    rintro e w10 ⟨rfl, rfl⟩
    have p := below_any _ _ _ _ _ _ _ _ _ rc ra false HU.out
    go_wp2_with fail
    with_reducible refine p.mono ?_
    clear p
    rintro e w11 ⟨rfl, rfl⟩
    go_wp2
    go_ret
    exact ⟨rfl, hb⟩
  · have p := below_any _ _ _ _ _ _ _ _ _ rx rc false HX.out
    go_wp2_with fail
    with_reducible refine p.mono ?_
    clear p
    rintro e w8 ⟨rfl, rfl⟩
    have p := below_any _ _ _ _ _ _ _ _ _ ra rc false HS.out
    go_wp2_with fail
    with_reducible refine p.mono ?_
    clear p
    rintro e w9 ⟨rfl, rfl⟩
    have p := below_any _ _ _ _ _ _ _ _ _ rc ry false HY.out
    go_wp2_with fail
    with_reducible refine p.mono ?_
    clear p
    rintro e w10 ⟨rfl, rfl⟩
    have p := below_any _ _ _ _ _ _ _ _ _ rc ra true HU.out
    go_wp2_with fail
    with_reducible refine p.mono ?_
    clear p
    rintro e w11 ⟨rfl, rfl⟩
    have p := below_any _ _ _ _ _ _ _ _ _ rc rb false HV.out
    go_wp2_with fail
    with_reducible refine p.mono ?_
    clear p
    rintro e w12 ⟨rfl, rfl⟩
    go_wp2
    go_ret
    exact ⟨rfl, hb⟩
  · have p := below_any _ _ _ _ _ _ _ _ _ rx rc false HX.out
    go_wp2_with fail
    with_reducible refine p.mono ?_
    clear p
    rintro e w8 ⟨rfl, rfl⟩
    have p := below_any _ _ _ _ _ _ _ _ _ ra rc false HS.out
    go_wp2_with fail
    with_reducible refine p.mono ?_
    clear p
    rintro e w9 ⟨rfl, rfl⟩
    have p := below_any _ _ _ _ _ _ _ _ _ rc ry true HY.out
    go_wp2_with fail
    with_reducible refine p.mono ?_
    clear p
    rintro e w10 ⟨rfl, rfl⟩
    have p := below_any _ _ _ _ _ _ _ _ _ rc ra true HU.out
    go_wp2_with fail
    with_reducible refine p.mono ?_
    clear p
    rintro e w11 ⟨rfl, rfl⟩
    have p := below_any _ _ _ _ _ _ _ _ _ rc rb true HV.out
    go_wp2_with fail
    with_reducible refine p.mono ?_
    clear p
    rintro e w12 ⟨rfl, rfl⟩
    go_wp2
    go_ret
    exact ⟨rfl, hb⟩
  · have p := below_any _ _ _ _ _ _ _ _ _ rx rc false HX.out
    go_wp2_with fail
    with_reducible refine p.mono ?_
    clear p
    rintro e w8 ⟨rfl, rfl⟩
    have p := below_any _ _ _ _ _ _ _ _ _ ra rc true HS.out
    go_wp2_with fail
    with_reducible refine p.mono ?_
    clear p
    rintro e w9 ⟨rfl, rfl⟩
    have p := below_any _ _ _ _ _ _ _ _ _ rb rc false HT.out
    go_wp2_with fail
    with_reducible refine p.mono ?_
    clear p
    rintro e w10 ⟨rfl, rfl⟩
    have p := below_any _ _ _ _ _ _ _ _ _ rc ry false HY.out
    go_wp2_with fail
    with_reducible refine p.mono ?_
    clear p
    rintro e w11 ⟨rfl, rfl⟩
    have p := below_any _ _ _ _ _ _ _ _ _ rc ra false HU.out
    go_wp2_with fail
    with_reducible refine p.mono ?_
    clear p
    rintro e w12 ⟨rfl, rfl⟩
    go_wp2
    go_ret
    exact ⟨rfl, hb⟩
  · have p := below_any _ _ _ _ _ _ _ _ _ rx rc false HX.out
    go_wp2_with fail
    with_reducible refine p.mono ?_
    clear p
    rintro e w8 ⟨rfl, rfl⟩
    have p := below_any _ _ _ _ _ _ _ _ _ ra rc true HS.out
    go_wp2_with fail
    with_reducible refine p.mono ?_
    clear p
    rintro e w9 ⟨rfl, rfl⟩
    have p := below_any _ _ _ _ _ _ _ _ _ rb rc false HT.out
    go_wp2_with fail
    with_reducible refine p.mono ?_
    clear p
    rintro e w10 ⟨rfl, rfl⟩
    have p := below_any _ _ _ _ _ _ _ _ _ rc ry false HY.out
    go_wp2_with fail
    with_reducible refine p.mono ?_
    clear p
    rintro e w11 ⟨rfl, rfl⟩
    have p := below_any _ _ _ _ _ _ _ _ _ rc ra false HU.out
    go_wp2_with fail
    with_reducible refine p.mono ?_
    clear p
    rintro e w12 ⟨rfl, rfl⟩
    go_wp2
    go_ret
    exact ⟨rfl, hb⟩
  · have p := below_any _ _ _ _ _ _ _ _ _ rx rc false HX.out
    go_wp2_with fail
    with_reducible refine p.mono ?_
    clear p
    rintro e w8 ⟨rfl, rfl⟩
    have p := below_any _ _ _ _ _ _ _ _ _ ra rc true HS.out
    go_wp2_with fail
    with_reducible refine p.mono ?_
    clear p
    rintro e w9 ⟨rfl, rfl⟩
    have p := below_any _ _ _ _ _ _ _ _ _ rb rc false HT.out
    go_wp2_with fail
    with_reducible refine p.mono ?_
    clear p
    rintro e w10 ⟨rfl, rfl⟩
    have p := below_any _ _ _ _ _ _ _ _ _ rc ry false HY.out
    go_wp2_with fail
    with_reducible refine p.mono ?_
    clear p
    rintro e w11 ⟨rfl, rfl⟩
    have p := below_any _ _ _ _ _ _ _ _ _ rc ra true HU.out
    go_wp2_with fail
    with_reducible refine p.mono ?_
    clear p
    rintro e w12 ⟨rfl, rfl⟩
    have p := below_any _ _ _ _ _ _ _ _ _ rc rb false HV.out
    go_wp2_with fail
    with_reducible refine p.mono ?_
    clear p
    rintro e w13 ⟨rfl, rfl⟩
    go_wp2
    go_ret
    exact ⟨rfl, hb⟩
  · have p := below_any _ _ _ _ _ _ _ _ _ rx rc false HX.out
    go_wp2_with fail
    with_reducible refine p.mono ?_
    clear p
    rintro e w8 ⟨rfl, rfl⟩
    have p := below_any _ _ _ _ _ _ _ _ _ ra rc true HS.out
    go_wp2_with fail
    with_reducible refine p.mono ?_
    clear p
    rintro e w9 ⟨rfl, rfl⟩
    have p := below_any _ _ _ _ _ _ _ _ _ rb rc false HT.out
    go_wp2_with fail
    with_reducible refine p.mono ?_
    clear p
    rintro e w10 ⟨rfl, rfl⟩
    have p := below_any _ _ _ _ _ _ _ _ _ rc ry true HY.out
    go_wp2_with fail
    with_reducible refine p.mono ?_
    clear p
    rintro e w11 ⟨rfl, rfl⟩
    have p := below_any _ _ _ _ _ _ _ _ _ rc ra true HU.out
    go_wp2_with fail
    with_reducible refine p.mono ?_
    clear p
    rintro e w12 ⟨rfl, rfl⟩
    have p := below_any _ _ _ _ _ _ _ _ _ rc rb true HV.out
    go_wp2_with fail
    with_reducible refine p.mono ?_
    clear p
    rintro e w13 ⟨rfl, rfl⟩
    go_wp2
    go_ret
    exact ⟨rfl, hb⟩
  · have p := below_any _ _ _ _ _ _ _ _ _ rx rc true HX.out
    go_wp2_with fail
    with_reducible refine p.mono ?_
    clear p
    rintro e w8 ⟨rfl, rfl⟩
    have p := below_any _ _ _ _ _ _ _ _ _ ra rc true HS.out
    go_wp2_with fail
    with_reducible refine p.mono ?_
    clear p
    rintro e w9 ⟨rfl, rfl⟩
    have p := below_any _ _ _ _ _ _ _ _ _ rb rc true HT.out
    go_wp2_with fail
    with_reducible refine p.mono ?_
    clear p
    rintro e w10 ⟨rfl, rfl⟩
    have p := below_any _ _ _ _ _ _ _ _ _ rc ry false HY.out
    go_wp2_with fail
    with_reducible refine p.mono ?_
    clear p
    rintro e w11 ⟨rfl, rfl⟩
    have p := below_any _ _ _ _ _ _ _ _ _ rc ra false HU.out
    go_wp2_with fail
    with_reducible refine p.mono ?_
    clear p
    rintro e w12 ⟨rfl, rfl⟩
    go_wp2
    go_ret
    exact ⟨rfl, hb⟩
  · have p := below_any _ _ _ _ _ _ _ _ _ rx rc true HX.out
    go_wp2_with fail
    with_reducible refine p.mono ?_
    clear p
    rintro e w8 ⟨rfl, rfl⟩
    have p := below_any _ _ _ _ _ _ _ _ _ ra rc true HS.out
    go_wp2_with fail
    with_reducible refine p.mono ?_
    clear p
    rintro e w9 ⟨rfl, rfl⟩
    have p := below_any _ _ _ _ _ _ _ _ _ rb rc true HT.out
    go_wp2_with fail
    with_reducible refine p.mono ?_
    clear p
    rintro e w10 ⟨rfl, rfl⟩
    have p := below_any _ _ _ _ _ _ _ _ _ rc ry false HY.out
    go_wp2_with fail
    with_reducible refine p.mono ?_
    clear p
    rintro e w11 ⟨rfl, rfl⟩
    have p := below_any _ _ _ _ _ _ _ _ _ rc ra false HU.out
    go_wp2_with fail
    with_reducible refine p.mono ?_
    clear p
    rintro e w12 ⟨rfl, rfl⟩
    go_wp2
    go_ret
    exact ⟨rfl, hb⟩
  · have p := below_any _ _ _ _ _ _ _ _ _ rx rc true HX.out
    go_wp2_with fail
    with_reducible refine p.mono ?_
    clear p
    rintro e w8 ⟨rfl, rfl⟩
    have p := below_any _ _ _ _ _ _ _ _ _ ra rc true HS.out
    go_wp2_with fail
    with_reducible refine p.mono ?_
    clear p
    rintro e w9 ⟨rfl, rfl⟩
    have p := below_any _ _ _ _ _ _ _ _ _ rb rc true HT.out
    go_wp2_with fail
    with_reducible refine p.mono ?_
    clear p
    rintro e w10 ⟨rfl, rfl⟩
    have p := below_any _ _ _ _ _ _ _ _ _ rc ry false HY.out
    go_wp2_with fail
    with_reducible refine p.mono ?_
    clear p
    rintro e w11 ⟨rfl, rfl⟩
    have p := below_any _ _ _ _ _ _ _ _ _ rc ra true HU.out
    go_wp2_with fail
    with_reducible refine p.mono ?_
    clear p
    rintro e w12 ⟨rfl, rfl⟩
    have p := below_any _ _ _ _ _ _ _ _ _ rc rb false HV.out
    go_wp2_with fail
    with_reducible refine p.mono ?_
    clear p
    rintro e w13 ⟨rfl, rfl⟩
    go_wp2
    go_ret
    exact ⟨rfl, hb⟩
  · have p := below_any _ _ _ _ _ _ _ _ _ rx rc true HX.out
    go_wp2_with fail
    with_reducible refine p.mono ?_
    clear p
    rintro e w8 ⟨rfl, rfl⟩
    have p := below_any _ _ _ _ _ _ _ _ _ ra rc true HS.out
    go_wp2_with fail
    with_reducible refine p.mono ?_
    clear p
    rintro e w9 ⟨rfl, rfl⟩
    have p := below_any _ _ _ _ _ _ _ _ _ rb rc true HT.out
    go_wp2_with fail
    with_reducible refine p.mono ?_
    clear p
    rintro e w10 ⟨rfl, rfl⟩
    have p := below_any _ _ _ _ _ _ _ _ _ rc ry true HY.out
    go_wp2_with fail
    with_reducible refine p.mono ?_
    clear p
    rintro e w11 ⟨rfl, rfl⟩
    have p := below_any _ _ _ _ _ _ _ _ _ rc ra true HU.out
    go_wp2_with fail
    with_reducible refine p.mono ?_
    clear p
    rintro e w12 ⟨rfl, rfl⟩
    have p := below_any _ _ _ _ _ _ _ _ _ rc rb true HV.out
    go_wp2_with fail
    with_reducible refine p.mono ?_
    clear p
    rintro e w13 ⟨rfl, rfl⟩
    go_wp2
    go_ret
    exact ⟨rfl, hb⟩
end Go.Proofs.Ytghcpfdmdhdcgaa
