/- What crc's Spoil comes to, for every slice of at most 65536 bytes, every place, and every bytes to spoil by. -/
import Derived.Test.YtenefjkgnkelgaaCrcMath
import Derived.Test.YtenefjkgnkelgaaBA
import Derived.IntWalk
import Derived.Deep.QuietTactic
import Derived.BigQuiet
import Derived.Deep.RegionHeld3
import Derived.Deep.DeepCutAuto
set_option maxRecDepth 100000
namespace Go.Proofs.Ytenefjkgnkelgaa
open Go.RowKit
set_option linter.unusedVariables false

theorem spoil_out (A : Option Addr) (n c : Nat) (l : List UInt8) (at_ : Int) (B : Option Addr) (m d : Nat) (w : World) (h : Rd w A n c l) (hn : n ≤ 65536)
    (hat : at_ < 0 ∨ (n : Int) ≤ at_) :
    Calls Try.prog 27 #[.slice A n c, .int .i64 at_, .slice B m d] w (Gives w 5 l) := by
  go_enter Try.func27, Try.ntmps27
  go_wp2_with fail
  with_reducible refine (clone_any A n c l _ h hn).mono ?_
  rintro e w1 ⟨A1, c1, rfl, ho1, hb1⟩
  rcases hat with hat | hat
  · have q : decide (at_ < 0) = true := by simpa using hat
    go_wp2
    go_ret
    exact ⟨A1, c1, rfl, ho1, hb1⟩
  · have q : decide (at_ < 0) = false := by simp; omega
    go_wp2
    go_ret
    exact ⟨A1, c1, rfl, ho1, hb1⟩

set_option maxHeartbeats 1000000 in
theorem spoil_in (A : Option Addr) (n c : Nat) (l : List UInt8) (p : Nat) (B : Option Addr) (m d : Nat) (b : List UInt8) (w : World) (h : Rd w A n c l) (hB : Rd w B m d b) (hn : n ≤ 65536)
    (hp : p < n) (r : Nat) (hr : min 4 (min m (n - p)) = r) :
    Calls Try.prog 27 #[.slice A n c, .int .i64 (p : Int), .slice B m d] w (Gives w 5 (Crc.spk l p b r)) := by
  have hm := hB.le
  have q1 : decide ((p : Int) < 0) = false := by simp
  have q2 : decide ((n : Int) ≤ (p : Int)) = false := by simp; omega
  have q3 : (if ((n : Int) - p) < (if (m : Int) < 4 then (m : Int) else 4) then ((n : Int) - p) else (if (m : Int) < 4 then (m : Int) else 4)) = (r : Int) := by
    split <;> split <;> omega
  have hr1 : r ≤ 4 := by omega
  have hr2 : r ≤ m := by omega
  have hr3 : r ≤ n - p := by omega
  clear hr
  go_enter Try.func27, Try.ntmps27
  go_wp2_with fail
  with_reducible refine (clone_any A n c l _ h hn).mono ?_
  rintro e w1 ⟨A1, c1, rfl, ho1, hb1⟩
  obtain ⟨g, c2, hv, hg, hlt, hc2, hc3⟩ := ho1.form (by have := h.1; omega)
  injection hv with hv1 _ hv2
  subst hv1
  subst hv2
  have HL := hidT h.1
  have hBr := hB.below hb1
  go_wp2
  clear q3
  go_loopw [27] (fun i wr => ∃ k : Nat, k ≤ r ∧ i = .int .i64 k ∧ Own wr w.heap.size 5 (.slice (some ⟨g, 0, none⟩) l.length c1) l.length (Crc.spk l p b k) ∧ Below w.heap.size w wr) (fun i _ => r - (intOf i).toNat)
  case atStart => exact ⟨0, Nat.zero_le _, rfl, ho1, hb1⟩
  case round =>
    obtain ⟨k, hk, rfl, hown, hbel⟩ := hrel
    by_cases hkr : k < r
    · obtain ⟨x, hx⟩ : ∃ x, (Crc.spk l p b k)[p + k]? = some x := ⟨_, List.getElem?_eq_getElem (by rw [Crc.spk_length, HL.out]; omega)⟩
      obtain ⟨bb, bo, rfl, hcb⟩ := (hB.below hbel).at_ (by omega)
      obtain ⟨y, hy, hcy⟩ := hcb k (by omega)
      clear hcb
      have hcx := hown.cell hx
      have hfx := hown.frozen (p + k)
      have HS : Hid (Crc.spk l p b (k + 1) = (Crc.spk l p b k).set (p + k) (x ^^^ y)) := by
        rw [Crc.spk, List.getD_eq_getElem?_getD, hx, List.getD_eq_getElem?_getD, hy]; rfl
      have HXY : Hid (bits .xor .u8 (x.toNat : Int) (y.toNat : Int) = ((x ^^^ y).toNat : Int)) := by
        rw [u8_xor_nat _ _ (Crc.byte_lt x) (Crc.byte_lt y), UInt8.toNat_xor]; rfl
      have t1 : (0 : Int) ≤ (p : Int) + (k : Int) := by omega
      have t2 : (p : Int) + (k : Int) < (l.length : Int) := by have := HL.out; omega
      have t3 : (0 : Int) ≤ (k : Int) := by omega
      have t4 : (k : Int) < (m : Int) := by omega
      clear hx hy
      go_wp2
      go_region
      all_goals go_wp2
      refine ⟨⟨k + 1, by omega, by go_num, ?_, ?_⟩, by simp [intOf]; omega⟩
      · rw [HXY.out, HS.out]
        exact hown.set_ (p + k) (x ^^^ y)
      · exact (hbel.setCell (p := ⟨g, p + k, none⟩) hg _).drew
    · have hkk : k = r := by omega
      subst hkk
      go_wp2
      go_ret
      exact hown.gives hbel

theorem spoil_any (A : Option Addr) (n c : Nat) (l : List UInt8) (at_ : Int) (B : Option Addr) (m d : Nat) (b : List UInt8) (w : World) (h : Rd w A n c l) (hB : Rd w B m d b) (hn : n ≤ 65536) :
    Calls Try.prog 27 #[.slice A n c, .int .i64 at_, .slice B m d] w (Gives w 5 (Crc.spoil l at_ b)) := by
  unfold Crc.spoil
  by_cases hat : 0 ≤ at_ ∧ at_ < l.length
  · rw [if_pos hat]
    obtain ⟨p, rfl⟩ := Int.eq_ofNat_of_zero_le hat.1
    have hl := h.1
    have hm := hB.1
    exact spoil_in A n c l p B m d b w h hB hn (by omega) _ (by rw [hl, hm, Int.toNat_natCast])
  · rw [if_neg hat]
    have hl := h.1
    exact spoil_out A n c l at_ B m d w h hn (by omega)
end Go.Proofs.Ytenefjkgnkelgaa
