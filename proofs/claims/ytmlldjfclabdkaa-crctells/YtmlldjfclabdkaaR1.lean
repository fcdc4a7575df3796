/- What the document's own Sum, four and Seal come to, for every slice of at most 65536 bytes (Sum: of any length). -/
import Derived.Test.YtmlldjfclabdkaaT4
import Derived.IntWalk
namespace Go.Proofs.Ytmlldjfclabdkaa
open Go.RowKit
set_option linter.unusedVariables false

theorem rstp_odd {s : Nat} (hs : s < 4294967296) (h : ((s : Int) % 2 == 1) = true) : bits .xor .u32 ((s : Int) / 2) 3988292384 = (Crc.stp s : Nat) := by
  rw [beq_iff_eq] at h
  have h1 : s % 2 = 1 := by omega
  have h2 := u32_xor_nat (s / 2) 3988292384 (by omega) (by omega)
  unfold Crc.stp
  rw [if_pos h1, ← h2]
  rfl
theorem rstp_even {s : Nat} (h : ((s : Int) % 2 == 1) = false) : (s : Int) / 2 = (Crc.stp s : Nat) := by
  rw [beq_eq_false_iff_ne] at h
  have h1 : ¬ s % 2 = 1 := by omega
  unfold Crc.stp
  rw [if_neg h1]
  omega
theorem ones_xor (r : Nat) (h : r < 4294967296) : 4294967295 ^^^ r = 4294967295 - r := by
  have e := congrArg BitVec.toNat (BitVec.allOnes_xor (x := BitVec.ofNat 32 r))
  rw [BitVec.toNat_xor, BitVec.toNat_allOnes, BitVec.toNat_not, BitVec.toNat_ofNat, Nat.mod_eq_of_lt (by omega)] at e
  exact e

set_option maxRecDepth 100000 in
set_option maxHeartbeats 1000000 in
theorem rsum_any (A : Option Addr) (n c : Nat) (l : List UInt8) (w : World) (h : Rd w A n c l) :
    Calls Try.prog 14 #[.slice A n c] w fun e w' => e = .returned (.int .u32 (Crc.sum l : Nat)) ∧ w = w' := by
  have hn := h.le
  go_enter Try.func14, Try.ntmps14
  go_wp2
  go_loop [3, 4] (fun s i => ∃ k : Nat, k ≤ n ∧ i = .int .i64 k ∧ s = .int .u32 (Crc.run 4294967295 (l.take k) : Nat)) (fun _ i => n - (intOf i).toNat)
  case atStart => exact ⟨0, Nat.zero_le _, rfl, rfl⟩
  case round =>
    obtain ⟨k, hk, rfl, rfl⟩ := hrel
    have hlt : Crc.run 4294967295 (l.take k) < 4294967296 := Crc.run_lt _ (by omega)
    by_cases hkn : k < n
    · obtain ⟨b, o, rfl, hcell⟩ := h.at_ (by omega)
      obtain ⟨x, hx, hc⟩ := hcell k hkn
      clear hcell
      have HS : Hid (Crc.run 4294967295 (l.take (k + 1)) = Crc.stpN 8 (Crc.run 4294967295 (l.take k) ^^^ x.toNat)) := by rw [take_snoc hx, Crc.run_snoc]; rfl
      have HB := Crc.byte_lt x
      have HX : Hid (bits .xor .u32 (Crc.run 4294967295 (l.take k) : Nat) (x.toNat : Int) = ((Crc.run 4294967295 (l.take k) ^^^ x.toNat : Nat) : Int)) := sum_byte hlt x
      have HL : Crc.run 4294967295 (l.take k) ^^^ x.toNat < 4294967296 := Crc.xor_lt hlt (by omega)
      clear hx
      go_wp2
      rw [HX.out]
      go_loop [3, 5] (fun s i => ∃ j : Nat, j ≤ 8 ∧ i = .int .i64 j ∧ s = .int .u32 (Crc.stpN j (Crc.run 4294967295 (l.take k) ^^^ x.toNat) : Nat)) (fun _ i => 8 - (intOf i).toNat)
      case atStart => exact ⟨0, Nat.zero_le _, rfl, rfl⟩
      case round =>
        obtain ⟨j, hj, rfl, rfl⟩ := hrel
        have hlj := Crc.stpN_lt j HL
        have hn : Hid (Crc.stpN (j + 1) (Crc.run 4294967295 (l.take k) ^^^ x.toNat) = Crc.stp (Crc.stpN j (Crc.run 4294967295 (l.take k) ^^^ x.toNat))) := Crc.stpN_succ' j _
        by_cases hj8 : j < 8
        · go_wp2
          · rw [rstp_odd hlj ‹_›, ← hn.out]
            exact ⟨⟨j + 1, by omega, by go_num, rfl⟩, by simp [intOf]; omega⟩
          · rw [rstp_even ‹_›, ← hn.out]
            exact ⟨⟨j + 1, by omega, by go_num, rfl⟩, by simp [intOf]; omega⟩
        · have hj9 : j = 8 := by omega
          subst hj9
          go_wp2
          rw [← HS.out]
          exact ⟨⟨k + 1, by omega, by go_num, rfl⟩, by simp [intOf]; omega⟩
    · have hkk : k = n := by omega
      subst hkk
      have HT : Hid (Crc.sum l = 4294967295 - Crc.run 4294967295 (l.take k)) := by
        rw [List.take_of_length_le (by rw [h.1]; omega), ← ones_xor _ (Crc.run_lt _ (by omega))]; rfl
      go_wp2
      go_ret
      rw [HT.out, show ((4294967295 - Crc.run 4294967295 (l.take k) : Nat) : Int) = 4294967295 - (Crc.run 4294967295 (l.take k) : Int) from by omega]
      exact ⟨rfl, rfl⟩

theorem four_any (s : Nat) (hs : s < 4294967296) (w : World) :
    Calls Try.prog 21 #[.int .u32 (s : Int)] w (Gives w 5 (Crc.le4 s)) := by
  have e0 : ((s % 256 : Nat) : Int) = (s : Int) % 256 := by omega
  have e1 : ((s / 256 % 256 : Nat) : Int) = (s : Int) / 256 % 256 := by omega
  have e2 : ((s / 65536 % 256 : Nat) : Int) = (s : Int) / 65536 % 256 := by omega
  have e3 : ((s / 16777216 % 256 : Nat) : Int) = (s : Int) / 16777216 := by omega
  have HE : Hid (#[.int .u8 ((s : Int) % 256), .int .u8 ((s : Int) / 256 % 256), .int .u8 ((s : Int) / 65536 % 256), .int .u8 ((s : Int) / 16777216)] = (bs (Crc.le4 s)).toArray) := by
    unfold Crc.le4 bs
    simp only [List.map_cons, List.map_nil, Crc.u8_toNat]
    rw [e0, e1, e2, e3]
    rfl
  clear e0 e1 e2 e3
  go_enter Try.func21, Try.ntmps21
  go_wp2
  go_ret
  rw [HE.out]
  exact ⟨_, _, rfl, World.ownsRow_lit w _ 4 (Nat.le_refl _) (by decide) rfl, (Below.refl _ _).alloc (Nat.le_refl _) _⟩

set_option maxHeartbeats 1000000 in
theorem rseal_any (A : Option Addr) (n c : Nat) (l : List UInt8) (w : World) (h : Rd w A n c l) (hn : n ≤ 65536) :
    Calls Try.prog 16 #[.slice A n c] w (Gives w 5 (Crc.sealB l)) := by
  go_enter Try.func16, Try.ntmps16
  go_wp2_with (first
    | (at_builtin
       refine wpList_app rfl (.tmp 3) (.tmp 4) 22 rfl w.heap.size 5 info5 Try.underlying22 (.slice (some ⟨w.heap.size, 0, none⟩) 0 0) 0 [] rfl ?_ A n c l rfl (h.alloc _) (by omega) (by simp) ?_
       · exact World.ownsRow_made (base := w.heap.size) (e := 5) (size := 1) w #[] 0 (Nat.le_refl _) (Nat.zero_le _) rfl
       intro v2 w2 hown2 hb2'))
  have hb2 := ((Below.refl w.heap.size w).alloc (Nat.le_refl _) (.cells #[] 5)).trans hb2'
  with_reducible refine (rsum_any _ _ _ l _ (h.below hb2)).mono ?_
  rintro e w3 ⟨rfl, rfl⟩
  go_wp2_with fail
  with_reducible refine (four_any _ (Crc.sum_lt l) _).mono ?_
  rintro e w3 ⟨A3, c3, rfl, ho3, hb3⟩
  have hown3 : Own w3 w.heap.size 5 v2 (0 + n) ([] ++ l) := Own.later hown2 hb3
  go_wp2_with (first
    | (at_builtin
       refine wpList_app rfl (.tmp 5) (.tmp 8) 22 rfl w.heap.size 5 info5 Try.underlying22 v2 (0 + n) ([] ++ l) rfl hown3 A3 _ c3 (Crc.le4 (Crc.sum l)) rfl ho3.same ?_ ?_ ?_
       · show 0 + n + 4 ≤ _; omega
       · exact Nat.le_trans hb2.size hb3.size
       intro v4 w4 hown4 hb4))
  go_ret
  exact Own.gives hown4 ((bthen hb2 hb3).trans hb4)
end Go.Proofs.Ytmlldjfclabdkaa
