/- What the document's own most, Fits, Put and Same come to. -/
import Derived.Test.YtpahkkblkdkefaaDoorNum3
import Derived.Deep.QuietTactic
import Derived.BigQuiet
namespace Go.Proofs.YtpahkkblkdkefaaDoor
open Go.RowKit
set_option linter.unusedVariables false

theorem rmost_any (k : Int) (w : World) :
    Calls Tryd.prog 37 #[.int .i64 k] w fun e w' => e = .returned (.int .i64 (Num.most k)) ∧ w = w' := by
  rcases Num.most_cases k with ⟨rfl, e⟩ | ⟨rfl, e⟩ | ⟨rfl, e⟩ | ⟨h1, h2, h8, e⟩
  · rw [e]
    go_enter Tryd.func37, Tryd.ntmps37
    go_wp2
    go_ret
    exact ⟨rfl, rfl⟩
  · rw [e]
    go_enter Tryd.func37, Tryd.ntmps37
    go_wp2
    go_ret
    exact ⟨rfl, rfl⟩
  · rw [e]
    go_enter Tryd.func37, Tryd.ntmps37
    go_wp2
    go_ret
    exact ⟨rfl, rfl⟩
  · rw [e]
    have q1 : (k == 1) = false := by simpa using h1
    have q2 : (k == 2) = false := by simpa using h2
    have q8 : (k == 8) = false := by simpa using h8
    clear e h1 h2 h8
    go_enter Tryd.func37, Tryd.ntmps37
    go_wp2
    go_ret
    exact ⟨rfl, rfl⟩

theorem rfits_is (n k : Int) (b : Bool) (w : World) (h : Num.fits n k = b) :
    Calls Tryd.prog 53 #[.int .i64 n, .int .i64 k] w fun e w' => e = .returned (.bool b) ∧ w = w' := by
  unfold Num.fits at h
  by_cases h0 : 0 ≤ n
  · have q0 : decide (0 ≤ n) = true := by simpa using h0
    rw [q0, Bool.true_and] at h
    go_enter Tryd.func53, Tryd.ntmps53
    go_wp2_with (go_at_call 37; ((with_reducible refine (rmost_any _ _).mono ?_); rintro e w1 ⟨rfl, rfl⟩))
    go_ret
    exact ⟨rfl, rfl⟩
  · have q0 : decide (0 ≤ n) = false := by simpa using h0
    rw [q0, Bool.false_and] at h
    subst h
    go_enter Tryd.func53, Tryd.ntmps53
    go_wp2
    go_ret
    exact ⟨rfl, rfl⟩

/-- The last so many bytes are laid. -/
def lastOf (k x j : Nat) : List UInt8 := List.replicate (k - j) 0 ++ (Num.be k x).drop (k - j)
theorem lastOf_zero (k x : Nat) : lastOf k x 0 = List.replicate k 0 := by
  unfold lastOf
  rw [List.drop_eq_nil_of_le (by rw [Num.be_length]; omega)]
  simp
theorem lastOf_full (k x : Nat) : lastOf k x k = Num.be k x := by
  unfold lastOf
  simp
theorem lastOf_succ {k x j : Nat} (hj : j < k) : lastOf k x (j + 1) = (lastOf k x j).set (k - 1 - j) (UInt8.ofNat (x / 256 ^ j)) := by
  unfold lastOf
  have hg := Num.be_get (k := k) (i := k - 1 - j) x (by omega)
  rw [show k - 1 - (k - 1 - j) = j from by omega] at hg
  rw [List.set_append_left _ _ (by simp; omega)]
  rw [show k - j = (k - (j + 1)) + 1 from by omega, List.replicate_succ', List.set_append_right _ _ (by simp; omega), List.length_replicate, show k - 1 - j - (k - (j + 1)) = 0 from by omega, List.set_cons_zero, List.append_assoc]
  congr 1
  have hlt : k - (j + 1) < (Num.be k x).length := by rw [Num.be_length]; omega
  rw [List.drop_eq_getElem_cons hlt]
  rw [show k - 1 - j = k - (j + 1) from by omega, List.getElem?_eq_getElem hlt] at hg
  injection hg with hg
  rw [hg]
  rfl
theorem lastOf_length (k x j : Nat) (hj : j ≤ k) : (lastOf k x j).length = k := by
  unfold lastOf
  rw [List.length_append, List.length_replicate, List.length_drop, Num.be_length]
  omega

set_option maxHeartbeats 1000000 in
theorem rput_yes (x k : Nat) (w : World) (hk : Num.IsW k) (hf : Num.fits x k = true) (hx : x ≤ 4611686018427387904) :
    Calls Tryd.prog 34 #[.int .i64 (x : Int), .int .i64 (k : Int)] w (Gives w 5 (Num.put x k)) := by
  have hk8 := hk.pos
  have HP : Hid (Num.put x k = Num.be k x) := by rw [Num.put, if_pos hf, Int.toNat_natCast, Int.toNat_natCast]; exact hidT rfl
  have HF := hidT hf
  clear hf
  go_enter Tryd.func34, Tryd.ntmps34
  go_wp2_with fail
  with_reducible refine (rfits_is _ _ true _ HF.out).mono ?_
  rintro e w1 ⟨rfl, rfl⟩
  go_wp2_with (
    at_make
    refine wpList_mkV rfl (.tmp 13) (.tmp 13) 23 rfl 5 (.int .u8 0) 1 info5 rfl (by omega) Tryd.underlying23 _ _ _ k rfl rfl rfl (by omega) ?_
    intro w2 hown2 hb2)
  go_loopw [0, 7] (fun v i w' => ∃ j y : Nat, j ≤ k ∧ i = .int .i64 ((k : Int) - 1 - j) ∧ v = .int .i64 (y : Int) ∧ y ≤ 4611686018427387904 ∧ Hid (y = x / 256 ^ j) ∧ Own w' w.heap.size 5 (.slice (some ⟨w.heap.size, 0, none⟩) k k) k (lastOf k x j) ∧ Below w.heap.size w w') (fun _ i _ => (intOf i + 1).toNat)
  case atStart =>
    refine ⟨0, x, Nat.zero_le _, by simp, rfl, hx, hidT (by simp), ?_, hb2⟩
    rw [lastOf_zero]
    simpa [Own, bs] using hown2
  case round =>
    obtain ⟨j, y, hj, rfl, rfl, hy, HY, hown, hb⟩ := hrel
    by_cases hjk : j < k
    · have q1 : decide ((0 : Int) ≤ (k : Int) - 1 - j) = true := by simp; omega
      obtain ⟨z, hz⟩ : ∃ z, (lastOf k x j)[k - 1 - j]? = some z := ⟨_, List.getElem?_eq_getElem (by rw [lastOf_length _ _ _ (by omega)]; omega)⟩
      have hcz := hown.cell hz
      have hfz := hown.frozen (k - 1 - j)
      have e1 : ((k : Int) - 1 - j) = ((k - 1 - j : Nat) : Int) := by omega
      clear hz
      have HS := hidT (lastOf_succ (x := x) hjk)
      have HB : Hid (((y : Int) % 256) = ((UInt8.ofNat (x / 256 ^ j)).toNat : Int)) := by
        rw [Num.u8_ofNat, ← HY.out]
        exact hidT (by omega)
      go_wp2
      refine ⟨⟨j + 1, y / 256, by omega, congrArg _ (by omega), congrArg _ (by omega), by omega, ?_, ?_, hb.setCell (p := ⟨w.heap.size, k - 1 - j, none⟩) (Nat.le_refl _) _⟩, by simp [intOf]; omega⟩
      · rw [HY.out, Nat.div_div_eq_div_mul, Nat.pow_succ]
        exact hidT rfl
      · rw [HS.out, HB.out]
        exact hown.set_ _ _
    · have q1 : decide ((0 : Int) ≤ (k : Int) - 1 - j) = false := by simp; omega
      obtain rfl : j = k := by omega
      rw [lastOf_full] at hown
      go_wp2
      go_ret
      rw [HP.out]
      exact Own.gives hown hb

theorem rput_any (x k : Int) (w : World) :
    Calls Tryd.prog 34 #[.int .i64 x, .int .i64 k] w (Gives w 5 (Num.put x k)) := by
  by_cases hf : Num.fits x k = true
  · obtain ⟨j, rfl, hj⟩ := Num.fits_width hf
    obtain ⟨m, rfl, _, _, hm⟩ := Num.fits_nat hj hf
    exact rput_yes m j w hj hf hm
  · have hf2 : Num.fits x k = false := by simpa using hf
    rw [Num.put_not hf2]
    go_enter Tryd.func34, Tryd.ntmps34
    go_wp2_with fail
    with_reducible refine (rfits_is _ _ false _ hf2).mono ?_
    rintro e w1 ⟨rfl, rfl⟩
    go_wp2
    go_ret
    exact ⟨none, 0, rfl, World.ownsRow_nil _ _ _ _, Below.refl _ _⟩

theorem take_ne {a b : List Int} {j : Nat} {x y : Int} (ha : a[j]? = some x) (hb : b[j]? = some y) (h : x ≠ y) : decide (a = b) = false := by
  rw [decide_eq_false_iff_not]
  rintro rfl
  rw [ha] at hb
  injection hb with hb
  exact h hb
theorem take_snocI {a b : List Int} {j : Nat} {x : Int} (ha : a[j]? = some x) (hb : b[j]? = some x) (h : a.take j = b.take j) : a.take (j + 1) = b.take (j + 1) := by
  rw [List.take_add_one, List.take_add_one, h, ha, hb]

set_option maxHeartbeats 400000 in
theorem rsame_any (A : Option Addr) (n c : Nat) (a : List Int) (B : Option Addr) (m d : Nat) (b : List Int) (w : World) (ha : RdI w A n c a) (hb : RdI w B m d b) :
    Calls Tryd.prog 28 #[.slice A n c, .slice B m d] w fun e w' => e = .returned (.bool (decide (a = b))) ∧ ∃ k, w' = w.drewN k := by
  have hn := RdV.le ha
  have hla := RdI.size ha
  have hlb := RdI.size hb
  by_cases hnm : n = m
  · subst hnm
    have HA := hidT hla
    have HB := hidT hlb
    clear hla hlb
    go_enter Tryd.func28, Tryd.ntmps28
    go_wp2
    go_loopw [5] (fun i w' => ∃ j : Nat, j ≤ n ∧ i = .int .i64 j ∧ Hid (a.take j = b.take j) ∧ ∃ k, w' = w.drewN k) (fun i _ => n - (intOf i).toNat)
    case atStart => exact ⟨0, Nat.zero_le _, rfl, hidT rfl, 0, rfl⟩
    case round =>
      obtain ⟨j, hj, rfl, HT, kk, rfl⟩ := hrel
      by_cases hjn : j < n
      · obtain ⟨b1, o1, x, rfl, hx, hcx⟩ := RdI.at_ ha hjn
        obtain ⟨b2, o2, y, rfl, hy, hcy⟩ := RdI.at_ hb hjn
        have HX := hidT hx
        have HY := hidT hy
        clear hx hy
        by_cases hxy : x = y
        · subst hxy
          go_wp2
          go_quiet (fail)
          go_wp2
          exact ⟨⟨j + 1, by omega, by go_num, hidT (take_snocI HX.out HY.out HT.out), _, rfl⟩, by simp [intOf]; omega⟩
        · have q1 : (x != y) = true := by simpa using hxy
          have q2 : (x == y) = false := by simpa using hxy
          go_wp2
          go_quiet (fail)
          have HD := hidT (take_ne HX.out HY.out hxy)
          go_wp2
          go_ret
          rw [HD.out]
          exact ⟨rfl, _, World.drewN_drewN _ _ _⟩
      · obtain rfl : j = n := by omega
        have HD : Hid (decide (a = b) = true) := by
          have h1 := HT.out
          rw [List.take_of_length_le (by rw [HA.out]; omega), List.take_of_length_le (by rw [HB.out]; omega)] at h1
          exact hidT (by simpa using h1)
        go_wp2
        go_ret
        rw [HD.out]
        exact ⟨rfl, _, rfl⟩
  · have HD : Hid (decide (a = b) = false) := by
      refine hidT ?_
      rw [decide_eq_false_iff_not]
      rintro rfl
      omega
    have q1 : ((n : Int) != (m : Int)) = true := by simp; omega
    have q2 : ((n : Int) == (m : Int)) = false := by simp; omega
    have q3 : (n == m) = false := by simpa using hnm
    have q4 : (n != m) = true := by simpa using hnm
    clear hla hlb
    go_enter Tryd.func28, Tryd.ntmps28
    go_wp2
    go_ret
    rw [HD.out]
    exact ⟨rfl, 0, rfl⟩

theorem rsame_is (A : Option Addr) (n c : Nat) (a : List Int) (B : Option Addr) (m d : Nat) (b : List Int) (w : World) (ha : RdI w A n c a) (hb : RdI w B m d b) (t : Bool) (ht : decide (a = b) = t) :
    Calls Tryd.prog 28 #[.slice A n c, .slice B m d] w fun e w' => e = .returned (.bool t) ∧ Below w.heap.size w w' := by
  refine (rsame_any A n c a B m d b w ha hb).mono ?_
  rintro e w' ⟨rfl, k, rfl⟩
  rw [ht]
  exact ⟨rfl, drawn_below _ _⟩
end Go.Proofs.YtpahkkblkdkefaaDoor
