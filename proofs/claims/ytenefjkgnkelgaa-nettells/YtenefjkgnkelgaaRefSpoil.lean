/- What the document's own Spoil comes to, for every slices of at most 65536 bytes, every place that is an int. -/
import Derived.Test.YtenefjkgnkelgaaCrcMath
import Derived.Test.YtenefjkgnkelgaaBA
import Derived.IntWalk
import Derived.Deep.QuietTactic
import Derived.BigQuiet
import Derived.Deep.RegionHeld3
import Derived.Deep.DeepCutAuto
set_option maxRecDepth 100000
namespace Go.Proofs.Ytenefjkgnkelgaa
open Go.RowKit
set_option linter.unusedVariables false

theorem rspoil_neg (A : Option Addr) (n c : Nat) (l : List UInt8) (at_ : Int) (B : Option Addr) (m d : Nat) (w : World) (h : Rd w A n c l) (hn : n ≤ 65536) (hat : at_ < 0) :
    Calls Try.prog 29 #[.slice A n c, .int .i64 at_, .slice B m d] w (Gives w 5 l) := by
  have q : decide (at_ < 0) = true := by simpa using hat
  go_enter Try.func29, Try.ntmps29
  go_wp2_with (first
    | (at_builtin
       refine wpList_app rfl (.tmp 9) (.tmp 10) 23 rfl w.heap.size 5 info5 Try.underlying23 (.slice (some ⟨w.heap.size, 0, none⟩) 0 0) 0 [] rfl ?_ A n c l rfl (h.alloc _) (by omega) (by simp) ?_
       · exact World.ownsRow_made (base := w.heap.size) (e := 5) (size := 1) w #[] 0 (Nat.le_refl _) (Nat.zero_le _) rfl
       intro v2 w2 hown2 hb2))
  go_ret
  exact Own.gives hown2 (((Below.refl w.heap.size w).alloc (Nat.le_refl _) (.cells #[] 5)).trans hb2)

set_option maxHeartbeats 1000000 in
theorem rspoil_pos (A : Option Addr) (n c : Nat) (l : List UInt8) (p : Nat) (B : Option Addr) (m d : Nat) (b : List UInt8) (w : World) (h : Rd w A n c l) (hB : Rd w B m d b) (hn : n ≤ 65536) (hm : m ≤ 65536) (hp : p ≤ 9223372036854775807) :
    Calls Try.prog 29 #[.slice A n c, .int .i64 (p : Int), .slice B m d] w (Gives w 5 (Crc.spk l p b (min (min 4 m) (n - p)))) := by
  have q : decide ((p : Int) < 0) = false := by simp
  have HL := hidT h.1
  go_enter Try.func29, Try.ntmps29
  go_wp2_with (first
    | (at_builtin
       refine wpList_app rfl (.tmp 9) (.tmp 10) 23 rfl w.heap.size 5 info5 Try.underlying23 (.slice (some ⟨w.heap.size, 0, none⟩) 0 0) 0 [] rfl ?_ A n c l rfl (h.alloc _) (by omega) (by simp) ?_
       · exact World.ownsRow_made (base := w.heap.size) (e := 5) (size := 1) w #[] 0 (Nat.le_refl _) (Nat.zero_le _) rfl
       intro v2 w2 hown2' hb2'))
  have hb2 := ((Below.refl w.heap.size w).alloc (Nat.le_refl _) (.cells #[] 5)).trans hb2'
  clear hb2'
  obtain ⟨A2, c2, rfl, hr2⟩ := hown2'.rd
  have hown2 : Own w2 w.heap.size 5 (.slice A2 n c2) n l := by
    rw [Nat.zero_add] at hown2'
    exact hown2'
  clear hown2'
  rw [Nat.zero_add]
  go_loopw [8] (fun i wr => ∃ k : Nat, k ≤ min 4 m ∧ i = .int .i64 k ∧ Own wr w.heap.size 5 (.slice A2 n c2) n (Crc.spk l p b (min k (n - p))) ∧ Below w.heap.size w wr) (fun i _ => 4 - (intOf i).toNat)
  case atStart => exact ⟨0, Nat.zero_le _, rfl, by rw [Nat.zero_min]; exact hown2, hb2⟩
  case round =>
    obtain ⟨k, hk, rfl, hown, hbel⟩ := hrel
    by_cases hk4 : k < 4
    · have e1 : decide ((k : Int) < 4) = true := by simp; omega
      by_cases hkm : k < m
      · have e2 : decide ((k : Int) < (m : Int)) = true := by simp; omega
        by_cases hpk : p + k < n
        · have e3 : decide ((p : Int) < (n : Int) - (k : Int)) = true := by simp; omega
          have em : min k (n - p) = k := by omega
          have em1 : Hid (min (k + 1) (n - p) = k + 1) := by unfold Hid; omega
          rw [em] at hown
          clear em
          obtain ⟨g, c2', hv, hg, hlt, hc2, hc3⟩ := hown.form (by omega)
          injection hv with hv1 _ hv2
          subst hv1
          subst hv2
          obtain ⟨x, hx⟩ : ∃ x, (Crc.spk l p b k)[p + k]? = some x := ⟨_, List.getElem?_eq_getElem (by rw [Crc.spk_length, HL.out]; omega)⟩
          obtain ⟨bb, bo, rfl, hcb⟩ := (hB.below hbel).at_ (by omega)
          obtain ⟨y, hy, hcy⟩ := hcb k (by omega)
          clear hcb
          have hcx := hown.cell hx
          have hfx := hown.frozen (p + k)
          have HS : Hid (Crc.spk l p b (k + 1) = (Crc.spk l p b k).set (p + k) (x ^^^ y)) := by
            rw [Crc.spk, List.getD_eq_getElem?_getD, hx, List.getD_eq_getElem?_getD, hy]; rfl
          have HXY : Hid (bits .xor .u8 (x.toNat : Int) (y.toNat : Int) = ((x ^^^ y).toNat : Int)) := by
            rw [u8_xor_nat _ _ (Crc.byte_lt x) (Crc.byte_lt y), UInt8.toNat_xor]; rfl
          have t1 : (0 : Int) ≤ (p : Int) + (k : Int) := by omega
          have t2 : (p : Int) + (k : Int) < (n : Int) := by omega
          have t3 : (0 : Int) ≤ (k : Int) := by omega
          have t4 : (k : Int) < (m : Int) := by omega
          clear hx hy
          go_wp2
          go_region
          all_goals go_wp2
          refine ⟨⟨k + 1, by omega, by go_num, ?_, ?_⟩, by simp [intOf]; omega⟩
          · rw [HXY.out, em1.out, HS.out]
            exact hown.set_ (p + k) (x ^^^ y)
          · exact (hbel.setCell (p := ⟨g, p + k, none⟩) hg _).drew
        · have e3 : decide ((p : Int) < (n : Int) - (k : Int)) = false := by simp; omega
          have em1 : Hid (min (k + 1) (n - p) = min k (n - p)) := by unfold Hid; omega
          go_wp2
          refine ⟨⟨k + 1, by omega, by go_num, ?_, hbel⟩, by simp [intOf]; omega⟩
          rw [em1.out]
          exact hown
      · have e2 : decide ((k : Int) < (m : Int)) = false := by simp; omega
        have ek : Hid (min k (n - p) = min (min 4 m) (n - p)) := by unfold Hid; omega
        go_wp2
        go_ret
        try rw [← Nat.min_assoc]
        rw [← ek.out]
        exact hown.gives hbel
    · have e1 : decide ((k : Int) < 4) = false := by simp; omega
      have ek : Hid (min k (n - p) = min (min 4 m) (n - p)) := by unfold Hid; omega
      go_wp2
      go_ret
      try rw [← Nat.min_assoc]
      rw [← ek.out]
      exact hown.gives hbel

theorem rspoil_any (A : Option Addr) (n c : Nat) (l : List UInt8) (at_ : Int) (B : Option Addr) (m d : Nat) (b : List UInt8) (w : World) (h : Rd w A n c l) (hB : Rd w B m d b) (hn : n ≤ 65536) (hm : m ≤ 65536) (ha : at_ ≤ 9223372036854775807) :
    Calls Try.prog 29 #[.slice A n c, .int .i64 at_, .slice B m d] w (Gives w 5 (Crc.spoil l at_ b)) := by
  have hl := h.1
  have hbl := hB.1
  by_cases h0 : 0 ≤ at_
  · obtain ⟨p, rfl⟩ := Int.eq_ofNat_of_zero_le h0
    have hr := rspoil_pos A n c l p B m d b w h hB hn hm (by omega)
    have e : Crc.spoil l (p : Int) b = Crc.spk l p b (min (min 4 m) (n - p)) := by
      unfold Crc.spoil
      by_cases h1 : (p : Int) < l.length
      · rw [if_pos ⟨h0, h1⟩, Int.toNat_natCast, hl, hbl, show min 4 (min m (n - p)) = min (min 4 m) (n - p) from by omega]
      · rw [if_neg (by omega), show min (min 4 m) (n - p) = 0 from by omega]
        rfl
    rw [e]
    exact hr
  · have e : Crc.spoil l at_ b = l := by unfold Crc.spoil; rw [if_neg (by omega)]
    rw [e]
    exact rspoil_neg A n c l at_ B m d w h hn (by omega)
end Go.Proofs.Ytenefjkgnkelgaa
