/- The law FragMany, walked. -/
import Derived.Test.YtapdlcfaghbjhaaFragShown
set_option maxRecDepth 100000
namespace Go.Proofs.Ytapdlcfaghbjhaa
open Go.RowKit
set_option linter.unusedVariables false

theorem manyN_ge (n m : Nat) (hm : 1 ≤ m) : n ≤ manyN n m * m := by
  have hp := manyN_pos n m
  have hmid := Mid.of (n := n) (m := m) (k := manyN n m - 1) hm (by omega)
  rcases Nat.lt_or_ge m (n - (manyN n m - 1) * m) with h | h
  · have := (hmid.next h).lt hm
    omega
  · have e : manyN n m = (manyN n m - 1) + 1 := by omega
    rw [e, Nat.succ_mul]
    omega
theorem manyN_lt (n m : Nat) (hm : 1 ≤ m) (h : 1 < manyN n m) : (manyN n m - 1) * m < n := by
  rcases Mid.of (n := n) (m := m) (k := manyN n m - 1) hm (by omega) with h2 | h2
  · omega
  · exact h2
theorem manyN_more (n e m : Nat) : manyN n m ≤ manyN (n + e) m := by
  unfold manyN
  split
  · split
    · exact Nat.le_refl _
    · exact Nat.le_add_left _ _
  · rw [if_neg (by omega)]
    exact Nat.succ_le_succ (Nat.div_le_div_right (by omega))
theorem manyN_wider (n e m : Nat) (hm : 1 ≤ m) : manyN n (m + e) ≤ manyN n m := by
  unfold manyN
  split
  · exact Nat.le_refl _
  · exact Nat.succ_le_succ (Nat.div_le_div_left (by omega) (by omega))
theorem many_nat (n m : Nat) (w : World) (hm : 1 ≤ m) (hn : n ≤ 9223372036854775807) (hmm : m ≤ 9223372036854775807) (N M : Int) (hN : N = n) (hM : M = m) (k : Nat) (hk : manyN n m = k) :
    Calls Try.prog 13 #[.int .i64 N, .int .i64 M] w (JustN w (k : Int)) := by
  subst hN; subst hM; subst hk
  rw [← manyI_nat n m hm]
  exact many_any n m w ⟨by omega, by omega⟩ ⟨by omega, by omega⟩

set_option maxRecDepth 100000 in
set_option maxHeartbeats 4000000 in
theorem fmany_any (b t e : Nat) (w : World) (hb : b < 4294967296) (ht : t < 65536) (he : e < 65536) :
    Calls Try.prog 7 #[.int .u32 (b : Int), .int .u16 (t : Int), .int .u16 (e : Int)] w (Yes w) := by
  obtain ⟨k, hk⟩ : ∃ k, manyN b (1 + t) = k := ⟨_, rfl⟩
  obtain ⟨k1, hk1⟩ : ∃ k1, manyN (b + e) (1 + t) = k1 := ⟨_, rfl⟩
  obtain ⟨k2, hk2⟩ : ∃ k2, manyN b (1 + t + e) = k2 := ⟨_, rfl⟩
  have m1 := fun w => many_nat b (1 + t) w (by omega) (by omega) (by omega) (b : Int) (1 + (t : Int)) rfl (by omega) k hk
  have m2 := fun w => many_nat (b + e) (1 + t) w (by omega) (by omega) (by omega) ((b : Int) + (e : Int)) (1 + (t : Int)) (by omega) (by omega) k1 hk1
  have m3 := fun w => many_nat b (1 + t + e) w (by omega) (by omega) (by omega) (b : Int) (1 + (t : Int) + (e : Int)) rfl (by omega) k2 hk2
  have f1 : 1 ≤ k := by rw [← hk]; exact manyN_pos _ _
  have f2 : b ≤ k * (1 + t) := by rw [← hk]; exact manyN_ge _ _ (by omega)
  have f3 : 1 < k → (k - 1) * (1 + t) < b := by rw [← hk]; exact manyN_lt _ _ (by omega)
  have f4 : k ≤ k1 := by rw [← hk, ← hk1]; exact manyN_more _ _ _
  have f5 : k2 ≤ k := by rw [← hk, ← hk2]; exact manyN_wider _ _ _ (by omega)
  have f6 : k ≤ b + 1 := by rw [← hk]; exact manyN_le _ _ (by omega)
  clear hk hk1 hk2
  obtain ⟨km, hkm⟩ : ∃ km : Nat, k * (1 + t) = km := ⟨_, rfl⟩
  have f7 : km ≤ b + 1 + t ∨ k = 1 := by
    by_cases h : 1 < k
    · have := f3 h
      have e : k = (k - 1) + 1 := by omega
      rw [e, Nat.succ_mul] at hkm
      omega
    · omega
  have f8 : km ≤ 4295032833 := by
    rcases f7 with h | h
    · omega
    · subst h; omega
  have z1 : (k : Int) * (1 + (t : Int)) = (km : Int) := by rw [← hkm]; push_cast; rfl
  have q1 : decide ((k : Int) < 1) = false := by simp; omega
  have q2 : decide ((km : Int) < (b : Int)) = false := by simp; omega
  have q5 : decide ((k : Int) ≤ (k1 : Int)) = true := by simp; omega
  have q6 : decide ((k2 : Int) ≤ (k : Int)) = true := by simp; omega
  have p2 : decide (km < b) = false := by simp; omega
  have p5 : decide (k ≤ k1) = true := by simp; omega
  have p6 : decide (k2 ≤ k) = true := by simp; omega
  have w1 : IntKind.i64.wrap (km : Int) = (km : Int) := IntWalk.i64_in _ (by omega)
  have M1 := hidT m1
  have M2 := hidT m2
  have M3 := hidT m3
  clear m1 m2 m3
  by_cases h1 : 1 < k
  · have q3 : decide ((1 : Int) < (k : Int)) = true := by simp; omega
    obtain ⟨kp, hkp⟩ : ∃ kp : Nat, (k - 1) * (1 + t) = kp := ⟨_, rfl⟩
    have z2 : ((k : Int) - 1) * (1 + (t : Int)) = (kp : Int) := by
      have e1 : ((k - 1 : Nat) : Int) = (k : Int) - 1 := by omega
      have e2 : ((1 + t : Nat) : Int) = 1 + (t : Int) := by omega
      rw [← hkp, Int.natCast_mul, e1, e2]
    have f9 := f3 h1
    have q4 : decide ((b : Int) ≤ (kp : Int)) = false := by simp; omega
    have p4 : decide (b ≤ kp) = false := by simp; omega
    have w2 : IntKind.i64.wrap (kp : Int) = (kp : Int) := IntWalk.i64_in _ (by omega)
    clear f3 hkm f2 hkp
    go_enter Try.func7, Try.ntmps7
    go_wp2_with fail
    with_reducible refine (fshown_any _).mono ?_
    rintro e' w1 ⟨rfl, hb1⟩
    go_wp2_with fail
    with_reducible refine (M1.out _).mono ?_
    rintro e' w' ⟨rfl, hww⟩
    obtain rfl : w1 = w' := hww.symm
    clear hww
    go_wp2_with fail
    with_reducible refine (M2.out _).mono ?_
    rintro e' w' ⟨rfl, hww⟩
    obtain rfl : w1 = w' := hww.symm
    clear hww
    go_wp2_with fail
    with_reducible refine (M3.out _).mono ?_
    rintro e' w' ⟨rfl, hww⟩
    obtain rfl : w1 = w' := hww.symm
    clear hww
    go_wp2
    go_ret
    exact ⟨rfl, hb1⟩
  · have q3 : decide ((1 : Int) < (k : Int)) = false := by simp; omega
    clear f3 hkm f2
    go_enter Try.func7, Try.ntmps7
    go_wp2_with fail
    with_reducible refine (fshown_any _).mono ?_
    rintro e' w1 ⟨rfl, hb1⟩
    go_wp2_with fail
    with_reducible refine (M1.out _).mono ?_
    rintro e' w' ⟨rfl, hww⟩
    obtain rfl : w1 = w' := hww.symm
    clear hww
    go_wp2_with fail
    with_reducible refine (M2.out _).mono ?_
    rintro e' w' ⟨rfl, hww⟩
    obtain rfl : w1 = w' := hww.symm
    clear hww
    go_wp2_with fail
    with_reducible refine (M3.out _).mono ?_
    rintro e' w' ⟨rfl, hww⟩
    obtain rfl : w1 = w' := hww.symm
    clear hww
    go_wp2
    go_ret
    exact ⟨rfl, hb1⟩
end Go.Proofs.Ytapdlcfaghbjhaa
