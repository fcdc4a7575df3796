import Derived.Test.YtcppbfjdilpjgaaDoorCA
import Derived.IntWalk
set_option maxRecDepth 100000
/- What the document's own Sum, four and Seal come to, for every slice of at most 65536 bytes (Sum: of any length). -/
namespace Go.Proofs.YtcppbfjdilpjgaaDoor
open Go.RowKit
set_option linter.unusedVariables false

theorem rstp_odd {s : Nat} (hs : s < 4294967296) (h : ((s : Int) % 2 == 1) = true) : bits .xor .u32 ((s : Int) / 2) 3988292384 = (Crc.stp s : Nat) := by
  rw [beq_iff_eq] at h
  have h1 : s % 2 = 1 := by omega
  have h2 := u32_xor_nat (s / 2) 3988292384 (by omega) (by omega)
  unfold Crc.stp
  rw [if_pos h1, ← h2]
  rfl
theorem rstp_even {s : Nat} (h : ((s : Int) % 2 == 1) = false) : (s : Int) / 2 = (Crc.stp s : Nat) := by
  rw [beq_eq_false_iff_ne] at h
  have h1 : ¬ s % 2 = 1 := by omega
  unfold Crc.stp
  rw [if_neg h1]
  omega
theorem ones_xor (r : Nat) (h : r < 4294967296) : 4294967295 ^^^ r = 4294967295 - r := by
  have e := congrArg BitVec.toNat (BitVec.allOnes_xor (x := BitVec.ofNat 32 r))
  rw [BitVec.toNat_xor, BitVec.toNat_allOnes, BitVec.toNat_not, BitVec.toNat_ofNat, Nat.mod_eq_of_lt (by omega)] at e
  exact e

set_option maxRecDepth 100000 in
set_option maxHeartbeats 1000000 in
theorem rsum_any (A : Option Addr) (n c : Nat) (l : List UInt8) (w : World) (h : Rd w A n c l) :
    Calls Tryd.prog 58 #[.slice A n c] w fun e w' => e = .returned (.int .u32 (Crc.sum l : Nat)) ∧ w = w' := by
  have hn := h.le
  go_enter Tryd.func58, Tryd.ntmps58
  go_wp2
  go_loop [3, 4] (fun s i => ∃ k : Nat, k ≤ n ∧ i = .int .i64 k ∧ s = .int .u32 (Crc.run 4294967295 (l.take k) : Nat)) (fun _ i => n - (intOf i).toNat)
  case atStart => exact ⟨0, Nat.zero_le _, rfl, rfl⟩
  case round =>
    obtain ⟨k, hk, rfl, rfl⟩ := hrel
    have hlt : Crc.run 4294967295 (l.take k) < 4294967296 := Crc.run_lt _ (by omega)
    by_cases hkn : k < n
    · obtain ⟨b, o, rfl, hcell⟩ := h.at_ (by omega)
      obtain ⟨x, hx, hc⟩ := hcell k hkn
      clear hcell
      have HS : Hid (Crc.run 4294967295 (l.take (k + 1)) = Crc.stpN 8 (Crc.run 4294967295 (l.take k) ^^^ x.toNat)) := by rw [take_snoc hx, Crc.run_snoc]; rfl
      have HB := Crc.byte_lt x
      have HX : Hid (bits .xor .u32 (Crc.run 4294967295 (l.take k) : Nat) (x.toNat : Int) = ((Crc.run 4294967295 (l.take k) ^^^ x.toNat : Nat) : Int)) := sum_byte hlt x
      have HL : Crc.run 4294967295 (l.take k) ^^^ x.toNat < 4294967296 := Crc.xor_lt hlt (by omega)
      clear hx
      go_wp2
      rw [HX.out]
      go_loop [3, 5] (fun s i => ∃ j : Nat, j ≤ 8 ∧ i = .int .i64 j ∧ s = .int .u32 (Crc.stpN j (Crc.run 4294967295 (l.take k) ^^^ x.toNat) : Nat)) (fun _ i => 8 - (intOf i).toNat)
      case atStart => exact ⟨0, Nat.zero_le _, rfl, rfl⟩
      case round =>
        obtain ⟨j, hj, rfl, rfl⟩ := hrel
        have hlj := Crc.stpN_lt j HL
        have hn : Hid (Crc.stpN (j + 1) (Crc.run 4294967295 (l.take k) ^^^ x.toNat) = Crc.stp (Crc.stpN j (Crc.run 4294967295 (l.take k) ^^^ x.toNat))) := Crc.stpN_succ' j _
        by_cases hj8 : j < 8
        · go_wp2
          · rw [rstp_odd hlj ‹_›, ← hn.out]
            exact ⟨⟨j + 1, by omega, by go_num, rfl⟩, by simp [intOf]; omega⟩
          · rw [rstp_even ‹_›, ← hn.out]
            exact ⟨⟨j + 1, by omega, by go_num, rfl⟩, by simp [intOf]; omega⟩
        · have hj9 : j = 8 := by omega
          subst hj9
          go_wp2
          rw [← HS.out]
          exact ⟨⟨k + 1, by omega, by go_num, rfl⟩, by simp [intOf]; omega⟩
    · have hkk : k = n := by omega
      subst hkk
      have HT : Hid (Crc.sum l = 4294967295 - Crc.run 4294967295 (l.take k)) := by
        rw [List.take_of_length_le (by rw [h.1]; omega), ← ones_xor _ (Crc.run_lt _ (by omega))]; rfl
      go_wp2
      go_ret
      rw [HT.out, show ((4294967295 - Crc.run 4294967295 (l.take k) : Nat) : Int) = 4294967295 - (Crc.run 4294967295 (l.take k) : Int) from by omega]
      exact ⟨rfl, rfl⟩

theorem four_any (s : Nat) (hs : s < 4294967296) (w : World) :
    Calls Tryd.prog 57 #[.int .u32 (s : Int)] w (Gives w 5 (Crc.le4 s)) := by
  have e0 : ((s % 256 : Nat) : Int) = (s : Int) % 256 := by omega
  have e1 : ((s / 256 % 256 : Nat) : Int) = (s : Int) / 256 % 256 := by omega
  have e2 : ((s / 65536 % 256 : Nat) : Int) = (s : Int) / 65536 % 256 := by omega
  have e3 : ((s / 16777216 % 256 : Nat) : Int) = (s : Int) / 16777216 := by omega
  have HE : Hid (#[.int .u8 ((s : Int) % 256), .int .u8 ((s : Int) / 256 % 256), .int .u8 ((s : Int) / 65536 % 256), .int .u8 ((s : Int) / 16777216)] = (bs (Crc.le4 s)).toArray) := by
    unfold Crc.le4 bs
    simp only [List.map_cons, List.map_nil, Crc.u8_toNat]
    rw [e0, e1, e2, e3]
    rfl
  clear e0 e1 e2 e3
  go_enter Tryd.func57, Tryd.ntmps57
  go_wp2
  go_ret
  rw [HE.out]
  exact ⟨_, _, rfl, World.ownsRow_lit w _ 4 (Nat.le_refl _) (by decide) rfl, (Below.refl _ _).alloc (Nat.le_refl _) _⟩

set_option maxHeartbeats 1000000 in
theorem rseal_any (A : Option Addr) (n c : Nat) (l : List UInt8) (w : World) (h : Rd w A n c l) (hn : n ≤ 65536) :
    Calls Tryd.prog 30 #[.slice A n c] w (Gives w 5 (Crc.sealB l)) := by
  go_enter Tryd.func30, Tryd.ntmps30
  go_wp2_with (first
    | (at_builtin
       refine wpList_app rfl (.tmp 3) (.tmp 4) 23 rfl w.heap.size 5 info5 Tryd.underlying23 (.slice (some ⟨w.heap.size, 0, none⟩) 0 0) 0 [] rfl ?_ A n c l rfl (h.alloc _) (by omega) (by simp) ?_
       · exact World.ownsRow_made (base := w.heap.size) (e := 5) (size := 1) w #[] 0 (Nat.le_refl _) (Nat.zero_le _) rfl
       intro v2 w2 hown2 hb2'))
  have hb2 := ((Below.refl w.heap.size w).alloc (Nat.le_refl _) (.cells #[] 5)).trans hb2'
  with_reducible refine (rsum_any _ _ _ l _ (h.below hb2)).mono ?_
  rintro e w3 ⟨rfl, rfl⟩
  go_wp2_with fail
  with_reducible refine (four_any _ (Crc.sum_lt l) _).mono ?_
  rintro e w3 ⟨A3, c3, rfl, ho3, hb3⟩
  have hown3 : Own w3 w.heap.size 5 v2 (0 + n) ([] ++ l) := Own.later hown2 hb3
  go_wp2_with (first
    | (at_builtin
       refine wpList_app rfl (.tmp 5) (.tmp 8) 23 rfl w.heap.size 5 info5 Tryd.underlying23 v2 (0 + n) ([] ++ l) rfl hown3 A3 _ c3 (Crc.le4 (Crc.sum l)) rfl ho3.same ?_ ?_ ?_
       · show 0 + n + 4 ≤ _; omega
       · exact Nat.le_trans hb2.size hb3.size
       intro v4 w4 hown4 hb4))
  go_ret
  exact Own.gives hown4 ((bthen hb2 hb3).trans hb4)
end Go.Proofs.YtcppbfjdilpjgaaDoor
/- What the document's own Open and Spoil come to, for every slices of at most 65536 bytes, every place that is an int. -/
namespace Go.Proofs.YtcppbfjdilpjgaaDoor
open Go.RowKit
set_option linter.unusedVariables false

theorem ropen_short (A : Option Addr) (n c : Nat) (l : List UInt8) (w : World) (h : Rd w A n c l) (hn : n < 4) :
    Calls Tryd.prog 51 #[.slice A n c] w (OpensTo w [] 2) := by
  go_enter Tryd.func51, Tryd.ntmps51
  go_wp2
  go_ret2
  exact ⟨none, 0, rfl, Rd.nil_ _, Below.refl _ _⟩

/-- The last four bytes of a slice. -/
theorem Rd.tail4 {w : World} {b o k c : Nat} {p : List UInt8} {x0 x1 x2 x3 : UInt8} (h : Rd w (some ⟨b, o, none⟩) (k + 4) c (p ++ [x0, x1, x2, x3])) (hk : p.length = k) :
    Rd w (some ⟨b, o + k, none⟩) 4 (c - k) [x0, x1, x2, x3] := by
  obtain ⟨_, h2, h3, h4, h5⟩ := h
  refine ⟨rfl, by omega, by omega, (fun h => by cases h), fun _ => ⟨b, o + k, rfl, fun i x hx => ?_⟩⟩
  obtain ⟨b', o', hA, hcell⟩ := h5 (by omega)
  injection hA with hA
  injection hA with e1 e2
  subst e1; subst e2
  rw [Nat.add_assoc]
  refine hcell (k + i) x ?_
  rw [List.getElem?_append_right (by omega), hk, Nat.add_sub_cancel_left]
  exact hx

set_option maxHeartbeats 1000000 in
theorem ropen_long (A : Option Addr) (k c : Nat) (p : List UInt8) (x0 x1 x2 x3 : UInt8) (w : World) (h : Rd w A (k + 4) c (p ++ [x0, x1, x2, x3])) (hm : k + 4 ≤ 65536) (hp : p.length = k) :
    Calls Tryd.prog 51 #[.slice A (k + 4 : Nat) c] w (if Crc.le4 (Crc.sum p) = [x0, x1, x2, x3] then OpensTo w p 0 else OpensTo w [] 3) := by
  have hc := h.2.1
  obtain ⟨b, o, rfl, hcell⟩ := h.at_ (by omega)
  clear hcell
  have hs := Crc.sum_lt p
  have hcc : ¬ c = k := by omega
  have hrp : Rd w (some ⟨b, o, none⟩) k c p := by
    have := h.take (k := k) (by omega)
    rwa [List.take_left' hp] at this
  have s0 := strs (h.tail4 hp)
  have HP := hidT hp
  clear hp
  have q0 : (0 : Int) ≤ (k : Int) := by omega
  have q1 : (k : Int) ≤ (k : Int) + 4 := by omega
  have q2 : (k : Int) ≤ (c : Int) := by omega
  have q3 : decide ((k : Int) + 4 < 4) = false := by simp; omega
  by_cases hst : Crc.le4 (Crc.sum p) = [x0, x1, x2, x3]
  · rw [if_pos hst]
    have e1 := str_same hst
    clear hst
    go_enter Tryd.func51, Tryd.ntmps51
    go_wp2
    go_region_held (fun w' => Below w.heap.size w w')
      (first | exact (Below.refl _ _).drew | exact undrew hb3)
      (first | (go_at_call 58; ((with_reducible refine (rsum_any _ _ _ p _ hrp.drew).mono ?_); rintro e w2 ⟨rfl, rfl⟩)) | (go_at_call 57; ((with_reducible refine (four_any _ hs _).mono ?_); rintro e w3 ⟨A3, c3, rfl, ho3, hb3⟩; have s4 := strs ho3.same w3 (Below.refl _ _))))
    have hb3' := undrew hb3
    go_wp2_with (first
      | (at_builtin
         refine wpList_app rfl (.tmp 22) (.tmp 25) 23 rfl w3.heap.size 5 info5 Tryd.underlying23 (.slice (some ⟨w3.heap.size, 0, none⟩) 0 0) 0 [] rfl ?_ (some ⟨b, o, none⟩) k c p rfl ((hrp.below hb3').alloc _) (by omega) (by simp) ?_
         · exact World.ownsRow_made (base := w3.heap.size) (e := 5) (size := 1) w3 #[] 0 (Nat.le_refl _) (Nat.zero_le _) rfl
         intro v5 w5 hown5 hb5))
    go_ret2
    obtain ⟨A5, c5, rfl, hr5⟩ := hown5.rd
    have hl : p.length = 0 + k := by rw [HP.out]; omega
    rw [← hl] at hr5
    refine ⟨A5, c5, ?_, hr5, bthen hb3' (((Below.refl w3.heap.size w3).alloc (Nat.le_refl _) _).trans hb5)⟩
    rw [hl]
    rfl
  · rw [if_neg hst]
    have e1 := str_other hst
    clear hst
    go_enter Tryd.func51, Tryd.ntmps51
    go_wp2
    go_region_held (fun w' => Below w.heap.size w w')
      (first | exact (Below.refl _ _).drew | exact undrew hb3)
      (first | (go_at_call 58; ((with_reducible refine (rsum_any _ _ _ p _ hrp.drew).mono ?_); rintro e w2 ⟨rfl, rfl⟩)) | (go_at_call 57; ((with_reducible refine (four_any _ hs _).mono ?_); rintro e w3 ⟨A3, c3, rfl, ho3, hb3⟩; have s4 := strs ho3.same w3 (Below.refl _ _))))
    go_wp2
    go_ret2
    exact ⟨none, 0, rfl, Rd.nil_ _, undrew hb3⟩

theorem ropen_any (A : Option Addr) (n c : Nat) (l : List UInt8) (w : World) (h : Rd w A n c l) (hm : n ≤ 65536) :
    Calls Tryd.prog 51 #[.slice A n c] w (OpensTo w (opened l) (openCode l)) := by
  have hl := h.1
  by_cases h4 : l.length < 4
  · unfold opened openCode
    rw [if_pos h4, if_pos h4]
    exact ropen_short A n c l w h (by omega)
  · obtain ⟨k, rfl⟩ : ∃ k, n = k + 4 := ⟨n - 4, by omega⟩
    obtain ⟨p, x0, x1, x2, x3, hp, hlp⟩ := split4 l k hl
    have ht : l.take (l.length - 4) = p := by rw [hl, hlp, Nat.add_sub_cancel]; exact List.take_left' hp
    rw [hlp] at h
    have hr := ropen_long A k c p x0 x1 x2 x3 w h hm hp
    unfold opened openCode
    rw [if_neg h4, if_neg h4, ht]
    by_cases hs : Crc.le4 (Crc.sum p) = [x0, x1, x2, x3]
    · have hs2 : l = Crc.sealB p := by rw [hlp, ← hs]; rfl
      rw [if_pos hs] at hr
      rw [if_pos hs2, if_pos hs2]
      exact hr
    · have hs2 : ¬ l = Crc.sealB p := fun e => hs (by rw [hlp] at e; exact (List.append_cancel_left e).symm)
      rw [if_neg hs] at hr
      rw [if_neg hs2, if_neg hs2]
      exact hr

theorem rspoil_neg (A : Option Addr) (n c : Nat) (l : List UInt8) (at_ : Int) (B : Option Addr) (m d : Nat) (w : World) (h : Rd w A n c l) (hn : n ≤ 65536) (hat : at_ < 0) :
    Calls Tryd.prog 31 #[.slice A n c, .int .i64 at_, .slice B m d] w (Gives w 5 l) := by
  have q : decide (at_ < 0) = true := by simpa using hat
  go_enter Tryd.func31, Tryd.ntmps31
  go_wp2_with (first
    | (at_builtin
       refine wpList_app rfl (.tmp 9) (.tmp 10) 23 rfl w.heap.size 5 info5 Tryd.underlying23 (.slice (some ⟨w.heap.size, 0, none⟩) 0 0) 0 [] rfl ?_ A n c l rfl (h.alloc _) (by omega) (by simp) ?_
       · exact World.ownsRow_made (base := w.heap.size) (e := 5) (size := 1) w #[] 0 (Nat.le_refl _) (Nat.zero_le _) rfl
       intro v2 w2 hown2 hb2))
  go_ret
  exact Own.gives hown2 (((Below.refl w.heap.size w).alloc (Nat.le_refl _) (.cells #[] 5)).trans hb2)

set_option maxHeartbeats 1000000 in
theorem rspoil_pos (A : Option Addr) (n c : Nat) (l : List UInt8) (p : Nat) (B : Option Addr) (m d : Nat) (b : List UInt8) (w : World) (h : Rd w A n c l) (hB : Rd w B m d b) (hn : n ≤ 65536) (hm : m ≤ 65536) (hp : p ≤ 9223372036854775807) :
    Calls Tryd.prog 31 #[.slice A n c, .int .i64 (p : Int), .slice B m d] w (Gives w 5 (Crc.spk l p b (min (min 4 m) (n - p)))) := by
  have q : decide ((p : Int) < 0) = false := by simp
  have HL := hidT h.1
  go_enter Tryd.func31, Tryd.ntmps31
  go_wp2_with (first
    | (at_builtin
       refine wpList_app rfl (.tmp 9) (.tmp 10) 23 rfl w.heap.size 5 info5 Tryd.underlying23 (.slice (some ⟨w.heap.size, 0, none⟩) 0 0) 0 [] rfl ?_ A n c l rfl (h.alloc _) (by omega) (by simp) ?_
       · exact World.ownsRow_made (base := w.heap.size) (e := 5) (size := 1) w #[] 0 (Nat.le_refl _) (Nat.zero_le _) rfl
       intro v2 w2 hown2' hb2'))
  have hb2 := ((Below.refl w.heap.size w).alloc (Nat.le_refl _) (.cells #[] 5)).trans hb2'
  clear hb2'
  obtain ⟨A2, c2, rfl, hr2⟩ := hown2'.rd
  have hown2 : Own w2 w.heap.size 5 (.slice A2 n c2) n l := by
    rw [Nat.zero_add] at hown2'
    exact hown2'
  clear hown2'
  rw [Nat.zero_add]
  go_loopw [8] (fun i wr => ∃ k : Nat, k ≤ min 4 m ∧ i = .int .i64 k ∧ Own wr w.heap.size 5 (.slice A2 n c2) n (Crc.spk l p b (min k (n - p))) ∧ Below w.heap.size w wr) (fun i _ => 4 - (intOf i).toNat)
  case atStart => exact ⟨0, Nat.zero_le _, rfl, by rw [Nat.zero_min]; exact hown2, hb2⟩
  case round =>
    obtain ⟨k, hk, rfl, hown, hbel⟩ := hrel
    by_cases hk4 : k < 4
    · have e1 : decide ((k : Int) < 4) = true := by simp; omega
      by_cases hkm : k < m
      · have e2 : decide ((k : Int) < (m : Int)) = true := by simp; omega
        by_cases hpk : p + k < n
        · have e3 : decide ((p : Int) < (n : Int) - (k : Int)) = true := by simp; omega
          have em : min k (n - p) = k := by omega
          have em1 : Hid (min (k + 1) (n - p) = k + 1) := by unfold Hid; omega
          rw [em] at hown
          clear em
          obtain ⟨g, c2', hv, hg, hlt, hc2, hc3⟩ := hown.form (by omega)
          injection hv with hv1 _ hv2
          subst hv1
          subst hv2
          obtain ⟨x, hx⟩ : ∃ x, (Crc.spk l p b k)[p + k]? = some x := ⟨_, List.getElem?_eq_getElem (by rw [Crc.spk_length, HL.out]; omega)⟩
          obtain ⟨bb, bo, rfl, hcb⟩ := (hB.below hbel).at_ (by omega)
          obtain ⟨y, hy, hcy⟩ := hcb k (by omega)
          clear hcb
          have hcx := hown.cell hx
          have hfx := hown.frozen (p + k)
          have HS : Hid (Crc.spk l p b (k + 1) = (Crc.spk l p b k).set (p + k) (x ^^^ y)) := by
            rw [Crc.spk, List.getD_eq_getElem?_getD, hx, List.getD_eq_getElem?_getD, hy]; rfl
          have HXY : Hid (bits .xor .u8 (x.toNat : Int) (y.toNat : Int) = ((x ^^^ y).toNat : Int)) := by
            rw [u8_xor_nat _ _ (Crc.byte_lt x) (Crc.byte_lt y), UInt8.toNat_xor]; rfl
          have t1 : (0 : Int) ≤ (p : Int) + (k : Int) := by omega
          have t2 : (p : Int) + (k : Int) < (n : Int) := by omega
          have t3 : (0 : Int) ≤ (k : Int) := by omega
          have t4 : (k : Int) < (m : Int) := by omega
          clear hx hy
          go_wp2
          go_region
          all_goals go_wp2
          refine ⟨⟨k + 1, by omega, by go_num, ?_, ?_⟩, by simp [intOf]; omega⟩
          · rw [HXY.out, em1.out, HS.out]
            exact hown.set_ (p + k) (x ^^^ y)
          · exact (hbel.setCell (p := ⟨g, p + k, none⟩) hg _).drew
        · have e3 : decide ((p : Int) < (n : Int) - (k : Int)) = false := by simp; omega
          have em1 : Hid (min (k + 1) (n - p) = min k (n - p)) := by unfold Hid; omega
          go_wp2
          refine ⟨⟨k + 1, by omega, by go_num, ?_, hbel⟩, by simp [intOf]; omega⟩
          rw [em1.out]
          exact hown
      · have e2 : decide ((k : Int) < (m : Int)) = false := by simp; omega
        have ek : Hid (min k (n - p) = min (min 4 m) (n - p)) := by unfold Hid; omega
        go_wp2
        go_ret
        try rw [← Nat.min_assoc]
        rw [← ek.out]
        exact hown.gives hbel
    · have e1 : decide ((k : Int) < 4) = false := by simp; omega
      have ek : Hid (min k (n - p) = min (min 4 m) (n - p)) := by unfold Hid; omega
      go_wp2
      go_ret
      try rw [← Nat.min_assoc]
      rw [← ek.out]
      exact hown.gives hbel

theorem rspoil_any (A : Option Addr) (n c : Nat) (l : List UInt8) (at_ : Int) (B : Option Addr) (m d : Nat) (b : List UInt8) (w : World) (h : Rd w A n c l) (hB : Rd w B m d b) (hn : n ≤ 65536) (hm : m ≤ 65536) (ha : at_ ≤ 9223372036854775807) :
    Calls Tryd.prog 31 #[.slice A n c, .int .i64 at_, .slice B m d] w (Gives w 5 (Crc.spoil l at_ b)) := by
  have hl := h.1
  have hbl := hB.1
  by_cases h0 : 0 ≤ at_
  · obtain ⟨p, rfl⟩ := Int.eq_ofNat_of_zero_le h0
    have hr := rspoil_pos A n c l p B m d b w h hB hn hm (by omega)
    have e : Crc.spoil l (p : Int) b = Crc.spk l p b (min (min 4 m) (n - p)) := by
      unfold Crc.spoil
      by_cases h1 : (p : Int) < l.length
      · rw [if_pos ⟨h0, h1⟩, Int.toNat_natCast, hl, hbl, show min 4 (min m (n - p)) = min (min 4 m) (n - p) from by omega]
      · rw [if_neg (by omega), show min (min 4 m) (n - p) = 0 from by omega]
        rfl
    rw [e]
    exact hr
  · have e : Crc.spoil l at_ b = l := by unfold Crc.spoil; rw [if_neg (by omega)]
    rw [e]
    exact rspoil_neg A n c l at_ B m d w h hn (by omega)
end Go.Proofs.YtcppbfjdilpjgaaDoor
