import Derived.Test.YtahkhideepncfaaDoorCA
import Derived.IntWalk
set_option maxRecDepth 100000
/- What the document's own Sum, four and Seal come to, for every slice of at most 65536 bytes (Sum: of any length). -/
namespace Go.Proofs.YtahkhideepncfaaDoor
open Go.RowKit
set_option linter.unusedVariables false

theorem rstp_odd {s : Nat} (hs : s < 4294967296) (h : ((s : Int) % 2 == 1) = true) : bits .xor .u32 ((s : Int) / 2) 3988292384 = (Crc.stp s : Nat) := by
  rw [beq_iff_eq] at h
  have h1 : s % 2 = 1 := by omega
  have h2 := u32_xor_nat (s / 2) 3988292384 (by omega) (by omega)
  unfold Crc.stp
  rw [if_pos h1, ← h2]
  rfl
theorem rstp_even {s : Nat} (h : ((s : Int) % 2 == 1) = false) : (s : Int) / 2 = (Crc.stp s : Nat) := by
  rw [beq_eq_false_iff_ne] at h
  have h1 : ¬ s % 2 = 1 := by omega
  unfold Crc.stp
  rw [if_neg h1]
  omega
theorem ones_xor (r : Nat) (h : r < 4294967296) : 4294967295 ^^^ r = 4294967295 - r := by
  have e := congrArg BitVec.toNat (BitVec.allOnes_xor (x := BitVec.ofNat 32 r))
  rw [BitVec.toNat_xor, BitVec.toNat_allOnes, BitVec.toNat_not, BitVec.toNat_ofNat, Nat.mod_eq_of_lt (by omega)] at e
  exact e

set_option maxRecDepth 100000 in
set_option maxHeartbeats 1000000 in
theorem rsum_any (A : Option Addr) (n c : Nat) (l : List UInt8) (w : World) (h : Rd w A n c l) :
    Calls Tryd.prog 42 #[.slice A n c] w fun e w' => e = .returned (.int .u32 (Crc.sum l : Nat)) ∧ w = w' := by
  have hn := h.le
  go_enter Tryd.func42, Tryd.ntmps42
  go_wp2
  go_loop [3, 4] (fun s i => ∃ k : Nat, k ≤ n ∧ i = .int .i64 k ∧ s = .int .u32 (Crc.run 4294967295 (l.take k) : Nat)) (fun _ i => n - (intOf i).toNat)
  case atStart => exact ⟨0, Nat.zero_le _, rfl, rfl⟩
  case round =>
    obtain ⟨k, hk, rfl, rfl⟩ := hrel
    have hlt : Crc.run 4294967295 (l.take k) < 4294967296 := Crc.run_lt _ (by omega)
    by_cases hkn : k < n
    · obtain ⟨b, o, rfl, hcell⟩ := h.at_ (by omega)
      obtain ⟨x, hx, hc⟩ := hcell k hkn
      clear hcell
      have HS : Hid (Crc.run 4294967295 (l.take (k + 1)) = Crc.stpN 8 (Crc.run 4294967295 (l.take k) ^^^ x.toNat)) := by rw [take_snoc hx, Crc.run_snoc]; rfl
      have HB := Crc.byte_lt x
      have HX : Hid (bits .xor .u32 (Crc.run 4294967295 (l.take k) : Nat) (x.toNat : Int) = ((Crc.run 4294967295 (l.take k) ^^^ x.toNat : Nat) : Int)) := sum_byte hlt x
      have HL : Crc.run 4294967295 (l.take k) ^^^ x.toNat < 4294967296 := Crc.xor_lt hlt (by omega)
      clear hx
      go_wp2
      rw [HX.out]
      go_loop [3, 5] (fun s i => ∃ j : Nat, j ≤ 8 ∧ i = .int .i64 j ∧ s = .int .u32 (Crc.stpN j (Crc.run 4294967295 (l.take k) ^^^ x.toNat) : Nat)) (fun _ i => 8 - (intOf i).toNat)
      case atStart => exact ⟨0, Nat.zero_le _, rfl, rfl⟩
      case round =>
        obtain ⟨j, hj, rfl, rfl⟩ := hrel
        have hlj := Crc.stpN_lt j HL
        have hn : Hid (Crc.stpN (j + 1) (Crc.run 4294967295 (l.take k) ^^^ x.toNat) = Crc.stp (Crc.stpN j (Crc.run 4294967295 (l.take k) ^^^ x.toNat))) := Crc.stpN_succ' j _
        by_cases hj8 : j < 8
        · go_wp2
          · rw [rstp_odd hlj ‹_›, ← hn.out]
            exact ⟨⟨j + 1, by omega, by go_num, rfl⟩, by simp [intOf]; omega⟩
          · rw [rstp_even ‹_›, ← hn.out]
            exact ⟨⟨j + 1, by omega, by go_num, rfl⟩, by simp [intOf]; omega⟩
        · have hj9 : j = 8 := by omega
          subst hj9
          go_wp2
          rw [← HS.out]
          exact ⟨⟨k + 1, by omega, by go_num, rfl⟩, by simp [intOf]; omega⟩
    · have hkk : k = n := by omega
      subst hkk
      have HT : Hid (Crc.sum l = 4294967295 - Crc.run 4294967295 (l.take k)) := by
        rw [List.take_of_length_le (by rw [h.1]; omega), ← ones_xor _ (Crc.run_lt _ (by omega))]; rfl
      go_wp2
      go_ret
      rw [HT.out, show ((4294967295 - Crc.run 4294967295 (l.take k) : Nat) : Int) = 4294967295 - (Crc.run 4294967295 (l.take k) : Int) from by omega]
      exact ⟨rfl, rfl⟩

theorem four_any (s : Nat) (hs : s < 4294967296) (w : World) :
    Calls Tryd.prog 41 #[.int .u32 (s : Int)] w (Gives w 5 (Crc.le4 s)) := by
  have e0 : ((s % 256 : Nat) : Int) = (s : Int) % 256 := by omega
  have e1 : ((s / 256 % 256 : Nat) : Int) = (s : Int) / 256 % 256 := by omega
  have e2 : ((s / 65536 % 256 : Nat) : Int) = (s : Int) / 65536 % 256 := by omega
  have e3 : ((s / 16777216 % 256 : Nat) : Int) = (s : Int) / 16777216 := by omega
  have HE : Hid (#[.int .u8 ((s : Int) % 256), .int .u8 ((s : Int) / 256 % 256), .int .u8 ((s : Int) / 65536 % 256), .int .u8 ((s : Int) / 16777216)] = (bs (Crc.le4 s)).toArray) := by
    unfold Crc.le4 bs
    simp only [List.map_cons, List.map_nil, Crc.u8_toNat]
    rw [e0, e1, e2, e3]
    rfl
  clear e0 e1 e2 e3
  go_enter Tryd.func41, Tryd.ntmps41
  go_wp2
  go_ret
  rw [HE.out]
  exact ⟨_, _, rfl, World.ownsRow_lit w _ 4 (Nat.le_refl _) (by decide) rfl, (Below.refl _ _).alloc (Nat.le_refl _) _⟩

set_option maxHeartbeats 1000000 in
theorem rseal_any (A : Option Addr) (n c : Nat) (l : List UInt8) (w : World) (h : Rd w A n c l) (hn : n ≤ 65536) :
    Calls Tryd.prog 17 #[.slice A n c] w (Gives w 5 (Crc.sealB l)) := by
  go_enter Tryd.func17, Tryd.ntmps17
  go_wp2_with (first
    | (at_builtin
       refine wpList_app rfl (.tmp 3) (.tmp 4) 23 rfl w.heap.size 5 info5 Tryd.underlying23 (.slice (some ⟨w.heap.size, 0, none⟩) 0 0) 0 [] rfl ?_ A n c l rfl (h.alloc _) (by omega) (by simp) ?_
       · exact World.ownsRow_made (base := w.heap.size) (e := 5) (size := 1) w #[] 0 (Nat.le_refl _) (Nat.zero_le _) rfl
       intro v2 w2 hown2 hb2'))
  have hb2 := ((Below.refl w.heap.size w).alloc (Nat.le_refl _) (.cells #[] 5)).trans hb2'
  with_reducible refine (rsum_any _ _ _ l _ (h.below hb2)).mono ?_
  rintro e w3 ⟨rfl, rfl⟩
  go_wp2_with fail
  with_reducible refine (four_any _ (Crc.sum_lt l) _).mono ?_
  rintro e w3 ⟨A3, c3, rfl, ho3, hb3⟩
  have hown3 : Own w3 w.heap.size 5 v2 (0 + n) ([] ++ l) := Own.later hown2 hb3
  go_wp2_with (first
    | (at_builtin
       refine wpList_app rfl (.tmp 5) (.tmp 8) 23 rfl w.heap.size 5 info5 Tryd.underlying23 v2 (0 + n) ([] ++ l) rfl hown3 A3 _ c3 (Crc.le4 (Crc.sum l)) rfl ho3.same ?_ ?_ ?_
       · show 0 + n + 4 ≤ _; omega
       · exact Nat.le_trans hb2.size hb3.size
       intro v4 w4 hown4 hb4))
  go_ret
  exact Own.gives hown4 ((bthen hb2 hb3).trans hb4)
end Go.Proofs.YtahkhideepncfaaDoor
/- What the document's own Open and Spoil come to, for every slices of at most 65536 bytes, every place that is an int. -/
namespace Go.Proofs.YtahkhideepncfaaDoor
open Go.RowKit
set_option linter.unusedVariables false

theorem ropen_short (A : Option Addr) (n c : Nat) (l : List UInt8) (w : World) (h : Rd w A n c l) (hn : n < 4) :
    Calls Tryd.prog 22 #[.slice A n c] w (OpensTo w [] 2) := by
  go_enter Tryd.func22, Tryd.ntmps22
  go_wp2
  go_ret2
  exact ⟨none, 0, rfl, Rd.nil_ _, Below.refl _ _⟩

/-- The last four bytes of a slice. -/
theorem Rd.tail4 {w : World} {b o k c : Nat} {p : List UInt8} {x0 x1 x2 x3 : UInt8} (h : Rd w (some ⟨b, o, none⟩) (k + 4) c (p ++ [x0, x1, x2, x3])) (hk : p.length = k) :
    Rd w (some ⟨b, o + k, none⟩) 4 (c - k) [x0, x1, x2, x3] := by
  obtain ⟨_, h2, h3, h4, h5⟩ := h
  refine ⟨rfl, by omega, by omega, (fun h => by cases h), fun _ => ⟨b, o + k, rfl, fun i x hx => ?_⟩⟩
  obtain ⟨b', o', hA, hcell⟩ := h5 (by omega)
  injection hA with hA
  injection hA with e1 e2
  subst e1; subst e2
  rw [Nat.add_assoc]
  refine hcell (k + i) x ?_
  rw [List.getElem?_append_right (by omega), hk, Nat.add_sub_cancel_left]
  exact hx

set_option maxHeartbeats 1000000 in
theorem ropen_long (A : Option Addr) (k c : Nat) (p : List UInt8) (x0 x1 x2 x3 : UInt8) (w : World) (h : Rd w A (k + 4) c (p ++ [x0, x1, x2, x3])) (hm : k + 4 ≤ 65536) (hp : p.length = k) :
    Calls Tryd.prog 22 #[.slice A (k + 4 : Nat) c] w (if Crc.le4 (Crc.sum p) = [x0, x1, x2, x3] then OpensTo w p 0 else OpensTo w [] 3) := by
  have hc := h.2.1
  obtain ⟨b, o, rfl, hcell⟩ := h.at_ (by omega)
  clear hcell
  have hs := Crc.sum_lt p
  have hcc : ¬ c = k := by omega
  have hrp : Rd w (some ⟨b, o, none⟩) k c p := by
    have := h.take (k := k) (by omega)
    rwa [List.take_left' hp] at this
  have s0 := strs (h.tail4 hp)
  have HP := hidT hp
  clear hp
  have q0 : (0 : Int) ≤ (k : Int) := by omega
  have q1 : (k : Int) ≤ (k : Int) + 4 := by omega
  have q2 : (k : Int) ≤ (c : Int) := by omega
  have q3 : decide ((k : Int) + 4 < 4) = false := by simp; omega
  by_cases hst : Crc.le4 (Crc.sum p) = [x0, x1, x2, x3]
  · rw [if_pos hst]
    have e1 := str_same hst
    clear hst
    go_enter Tryd.func22, Tryd.ntmps22
    go_wp2
    go_region_held (fun w' => Below w.heap.size w w')
      (first | exact (Below.refl _ _).drew | exact undrew hb3)
      (first | (go_at_call 42; ((with_reducible refine (rsum_any _ _ _ p _ hrp.drew).mono ?_); rintro e w2 ⟨rfl, rfl⟩)) | (go_at_call 41; ((with_reducible refine (four_any _ hs _).mono ?_); rintro e w3 ⟨A3, c3, rfl, ho3, hb3⟩; have s4 := strs ho3.same w3 (Below.refl _ _))))
    have hb3' := undrew hb3
    go_wp2_with (first
      | (at_builtin
         refine wpList_app rfl (.tmp 22) (.tmp 25) 23 rfl w3.heap.size 5 info5 Tryd.underlying23 (.slice (some ⟨w3.heap.size, 0, none⟩) 0 0) 0 [] rfl ?_ (some ⟨b, o, none⟩) k c p rfl ((hrp.below hb3').alloc _) (by omega) (by simp) ?_
         · exact World.ownsRow_made (base := w3.heap.size) (e := 5) (size := 1) w3 #[] 0 (Nat.le_refl _) (Nat.zero_le _) rfl
         intro v5 w5 hown5 hb5))
    go_ret2
    obtain ⟨A5, c5, rfl, hr5⟩ := hown5.rd
    have hl : p.length = 0 + k := by rw [HP.out]; omega
    rw [← hl] at hr5
    refine ⟨A5, c5, ?_, hr5, bthen hb3' (((Below.refl w3.heap.size w3).alloc (Nat.le_refl _) _).trans hb5)⟩
    rw [hl]
    rfl
  · rw [if_neg hst]
    have e1 := str_other hst
    clear hst
    go_enter Tryd.func22, Tryd.ntmps22
    go_wp2
    go_region_held (fun w' => Below w.heap.size w w')
      (first | exact (Below.refl _ _).drew | exact undrew hb3)
      (first | (go_at_call 42; ((with_reducible refine (rsum_any _ _ _ p _ hrp.drew).mono ?_); rintro e w2 ⟨rfl, rfl⟩)) | (go_at_call 41; ((with_reducible refine (four_any _ hs _).mono ?_); rintro e w3 ⟨A3, c3, rfl, ho3, hb3⟩; have s4 := strs ho3.same w3 (Below.refl _ _))))
    go_wp2
    go_ret2
    exact ⟨none, 0, rfl, Rd.nil_ _, undrew hb3⟩

theorem ropen_any (A : Option Addr) (n c : Nat) (l : List UInt8) (w : World) (h : Rd w A n c l) (hm : n ≤ 65536) :
    Calls Tryd.prog 22 #[.slice A n c] w (OpensTo w (opened l) (openCode l)) := by
  have hl := h.1
  by_cases h4 : l.length < 4
  · unfold opened openCode
    rw [if_pos h4, if_pos h4]
    exact ropen_short A n c l w h (by omega)
  · obtain ⟨k, rfl⟩ : ∃ k, n = k + 4 := ⟨n - 4, by omega⟩
    obtain ⟨p, x0, x1, x2, x3, hp, hlp⟩ := split4 l k hl
    have ht : l.take (l.length - 4) = p := by rw [hl, hlp, Nat.add_sub_cancel]; exact List.take_left' hp
    rw [hlp] at h
    have hr := ropen_long A k c p x0 x1 x2 x3 w h hm hp
    unfold opened openCode
    rw [if_neg h4, if_neg h4, ht]
    by_cases hs : Crc.le4 (Crc.sum p) = [x0, x1, x2, x3]
    · have hs2 : l = Crc.sealB p := by rw [hlp, ← hs]; rfl
      rw [if_pos hs] at hr
      rw [if_pos hs2, if_pos hs2]
      exact hr
    · have hs2 : ¬ l = Crc.sealB p := fun e => hs (by rw [hlp] at e; exact (List.append_cancel_left e).symm)
      rw [if_neg hs] at hr
      rw [if_neg hs2, if_neg hs2]
      exact hr
end Go.Proofs.YtahkhideepncfaaDoor
