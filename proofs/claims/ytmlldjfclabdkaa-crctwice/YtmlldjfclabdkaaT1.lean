/- What crc's shiftByte, Sum, lowFirst and Seal, and bytes.Clone, come to, for every slice of at most 65536 bytes (Sum: of any length). -/
import Derived.Test.YtmlldjfclabdkaaRows
import Derived.Test.YtmlldjfclabdkaaMath
import Derived.Test.YtmlldjfclabdkaaMem
import Derived.WalkKit
import Derived.WalkLawsBesides
import Derived.Lib.SliceRun
import Derived.WalkMore
import Derived.ScopeJumps
namespace Go.Proofs.Ytmlldjfclabdkaa
open Go.RowKit

theorem and1 (s : Nat) (hs : s < 4294967296) : bits .and .u32 (s : Int) 1 = ((s % 2 : Nat) : Int) := by
  have h := u32_and_nat s 1 hs (by omega)
  rw [nat_mask1] at h
  exact h
theorem stp_odd {s : Nat} (hs : s < 4294967296) (h : (bits .and .u32 (s : Int) 1 == 1) = true) : bits .xor .u32 ((s : Int) / 2) 3988292384 = (Crc.stp s : Nat) := by
  rw [and1 s hs, beq_iff_eq] at h
  have h1 : s % 2 = 1 := by omega
  have h2 := u32_xor_nat (s / 2) 3988292384 (by omega) (by omega)
  unfold Crc.stp
  rw [if_pos h1, ← h2]
  rfl
theorem stp_even {s : Nat} (hs : s < 4294967296) (h : (bits .and .u32 (s : Int) 1 == 1) = false) : (s : Int) / 2 = (Crc.stp s : Nat) := by
  rw [and1 s hs, beq_eq_false_iff_ne] at h
  have h1 : ¬ s % 2 = 1 := by omega
  unfold Crc.stp
  rw [if_neg h1]
  omega

set_option maxRecDepth 100000 in
theorem shift_any (s : Nat) (hs : s < 4294967296) (w : World) :
    Calls Try.prog 22 #[.int .u32 (s : Int)] w fun e w' => e = .returned (.int .u32 (Crc.stpN 8 s : Nat)) ∧ w = w' := by
  go_enter Try.func22, Try.ntmps22
  go_wp2
  refine wp_scope_jumps 0 (fun a' w' => w = w' ∧ ∃ (j : Nat) (u4 u5 u6 u7 u8 u9 u10 u11 u12 u13 u14 u15 u16 : Value), a' = { tmps := #[.int .u32 (Crc.stpN j s : Nat), undef, .int .u32 0, .int .i64 (8 - (j : Int)), u4, u5, u6, u7, u8, u9, u10, u11, u12, u13, u14, u15, u16, undef], defers := [] } ∧ 1 ≤ j ∧ j ≤ 7) (fun a' _ => (intOf (a'.tmps.getD 3 undef)).toNat) rfl ?_ ?_
  · go_wp2
    go_step3
    go_wp2
    · rw [stp_odd hs ‹_›]
      go_step3
      exact ⟨rfl, rfl, 1, _, _, _, _, _, _, _, _, _, _, _, _, _, rfl, by omega, by omega⟩
    · rw [stp_even hs ‹_›]
      go_step3
      exact ⟨rfl, rfl, 1, _, _, _, _, _, _, _, _, _, _, _, _, _, rfl, by omega, by omega⟩
  · rintro a' w' ⟨rfl, j, u4, u5, u6, u7, u8, u9, u10, u11, u12, u13, u14, u15, u16, rfl, hj1, hj2⟩
    have hlt := Crc.stpN_lt j hs
    have hn : Hid (Crc.stpN (j + 1) s = Crc.stp (Crc.stpN j s)) := Crc.stpN_succ' j s
    go_wp2
    · rw [stp_odd hlt ‹_›, ← hn.out, show (8 : Int) - (j : Int) - 1 = 8 - ((j + 1 : Nat) : Int) from by omega]
      go_step3
      refine ⟨rfl, ⟨rfl, j + 1, _, _, _, _, _, _, _, _, _, _, _, _, _, rfl, by omega, by omega⟩, ?_⟩
      simp [intOf]
      omega
    · have hj : j = 7 := by omega
      subst hj
      rw [stp_odd hlt ‹_›, ← hn.out]
      simp only [Exit.jump]
      go_ret
      exact ⟨rfl, rfl⟩
    · rw [stp_even hlt ‹_›, ← hn.out, show (8 : Int) - (j : Int) - 1 = 8 - ((j + 1 : Nat) : Int) from by omega]
      go_step3
      refine ⟨rfl, ⟨rfl, j + 1, _, _, _, _, _, _, _, _, _, _, _, _, _, rfl, by omega, by omega⟩, ?_⟩
      simp [intOf]
      omega
    · have hj : j = 7 := by omega
      subst hj
      rw [stp_even hlt ‹_›, ← hn.out]
      simp only [Exit.jump]
      go_ret
      exact ⟨rfl, rfl⟩

theorem sum_byte {s : Nat} (hs : s < 4294967296) (x : UInt8) : bits .xor .u32 (s : Int) (x.toNat : Int) = ((s ^^^ x.toNat : Nat) : Int) :=
  u32_xor_nat s x.toNat hs (by have := Crc.byte_lt x; omega)
theorem take_snoc {l : List UInt8} {k : Nat} {x : UInt8} (h : l[k]? = some x) : l.take (k + 1) = l.take k ++ [x] := by
  rw [List.take_add_one, h]; rfl

set_option maxRecDepth 100000 in
set_option maxHeartbeats 400000 in
theorem sum_any (A : Option Addr) (n c : Nat) (l : List UInt8) (w : World) (h : Rd w A n c l) :
    Calls Try.prog 13 #[.slice A n c] w fun e w' => e = .returned (.int .u32 (Crc.sum l : Nat)) ∧ w = w' := by
  have hn : n ≤ 9223372036854775807 := by have := h.2.1; have := h.2.2.1; unfold maxLen at this; omega
  go_enter Try.func13, Try.ntmps13
  go_wp2
  go_loop [3, 8] (fun s i => ∃ k : Nat, k ≤ n ∧ i = .int .i64 k ∧ s = .int .u32 (Crc.run 4294967295 (l.take k) : Nat)) (fun _ i => n - (intOf i).toNat)
  case atStart => exact ⟨0, Nat.zero_le _, rfl, rfl⟩
  case round =>
    obtain ⟨k, hk, rfl, rfl⟩ := hrel
    have hlt : Crc.run 4294967295 (l.take k) < 4294967296 := Crc.run_lt _ (by omega)
    by_cases hkn : k < n
    · obtain ⟨b, o, rfl, hcell⟩ := h.at_ (by omega)
      obtain ⟨x, hx, hc⟩ := hcell k hkn
      clear hcell
      have HS : Hid (Crc.run 4294967295 (l.take (k + 1)) = Crc.stpN 8 (Crc.run 4294967295 (l.take k) ^^^ x.toNat)) := by rw [take_snoc hx, Crc.run_snoc]; rfl
      have HB := Crc.byte_lt x
      have HX : Hid (bits .xor .u32 (Crc.run 4294967295 (l.take k) : Nat) (x.toNat : Int) = ((Crc.run 4294967295 (l.take k) ^^^ x.toNat : Nat) : Int)) := sum_byte hlt x
      have HL : Crc.run 4294967295 (l.take k) ^^^ x.toNat < 4294967296 := Crc.xor_lt hlt (by omega)
      clear hx
      go_wp2_with fail
      rw [HX.out]
      with_reducible refine (shift_any _ HL _).mono ?_
      rintro e w' ⟨rfl, rfl⟩
      rw [← HS.out]
      go_wp2
      go_round
      case rel => exact ⟨k + 1, by omega, by go_num, rfl⟩
      case measure => simp [intOf]; omega
    · have hkk : k = n := by omega
      subst hkk
      have HT : Hid (Crc.sum l = 4294967295 ^^^ Crc.run 4294967295 (l.take k)) := by rw [List.take_of_length_le (by rw [h.1]; omega)]; rfl
      have HX : Hid (bits .xor .u32 IntKind.u32.max (Crc.run 4294967295 (l.take k) : Nat) = ((4294967295 ^^^ Crc.run 4294967295 (l.take k) : Nat) : Int)) := u32_xor_nat 4294967295 _ (by omega) hlt
      go_wp2
      go_ret
      rw [HX.out, HT.out]
      exact ⟨rfl, rfl⟩

theorem low_any (s : Nat) (hs : s < 4294967296) (b0 b1 b2 b3 : UInt8) (hb : Crc.le4 s = [b0, b1, b2, b3]) (w : World) :
    Calls Try.prog 19 #[.int .u32 (s : Int)] w fun e w' => e = .returned (.agg #[.int .u8 (b0.toNat : Int), .int .u8 (b1.toNat : Int), .int .u8 (b2.toNat : Int), .int .u8 (b3.toNat : Int)]) ∧ Below w.heap.size w w' := by
  unfold Crc.le4 at hb
  simp only [List.cons.injEq, and_true] at hb
  obtain ⟨rfl, rfl, rfl, rfl⟩ := hb
  simp only [Crc.u8_toNat]
  have e0 : ((s % 256 : Nat) : Int) = (s : Int) % 256 := by omega
  have e1 : ((s / 256 % 256 : Nat) : Int) = (s : Int) / 256 % 256 := by omega
  have e2 : ((s / 65536 % 256 : Nat) : Int) = (s : Int) / 65536 % 256 := by omega
  have e3 : ((s / 16777216 % 256 : Nat) : Int) = (s : Int) / 16777216 := by omega
  rw [e0, e1, e2, e3]
  clear e0 e1 e2 e3
  go_enter Try.func19, Try.ntmps19
  go_wp2
  exact bodyPost_ret (v := .agg #[.int .u8 ((s : Int) % 256), .int .u8 ((s : Int) / 256 % 256), .int .u8 ((s : Int) / 65536 % 256), .int .u8 ((s : Int) / 16777216)]) (by simp [results, Try.results19, go_sem]) rfl ⟨rfl, (Below.refl _ _).alloc (Nat.le_refl _) _⟩

theorem info5 : (Try.prog.info? 5).map (fun i => (i.zero, i.size, i.bytes)) = some (some (.int .u8 0), 1, 1) := by kernel_rfl

theorem clone_any (A : Option Addr) (n c : Nat) (l : List UInt8) (w : World) (h : Rd w A n c l) (hn : n ≤ 65536) :
    Calls Try.prog 20 #[.slice A n c] w (Gives w 5 l) := by
  have hq := fun w => Lib.run_eql_slice_nil (P := Try.prog) w 22 5 A n c 0 0 Try.underlying22
  cases A with
  | none =>
    obtain ⟨rfl, rfl, rfl⟩ := h.nilA
    go_enter Try.func20, Try.ntmps20
    go_wp2
    go_ret
    exact ⟨none, 0, rfl, World.ownsRow_nil _ _ _ _, Below.refl _ _⟩
  | some ad =>
    go_enter Try.func20, Try.ntmps20
    go_wp2_with (
      at_builtin
      refine wpList_app rfl (.tmp 5) (.tmp 6) 22 rfl w.heap.size 5 info5 Try.underlying22 (.slice (some ⟨w.heap.size, 0, none⟩) 0 0) 0 [] rfl ?own (some ad) n c l rfl ?rd ?h63 ?hb ?_
      case own => exact World.ownsRow_made (base := w.heap.size) (e := 5) (size := 1) w #[] 0 (Nat.le_refl _) (Nat.zero_le _) rfl
      case rd => exact h.alloc _
      case h63 => omega
      case hb => simp
      intro v1 w1 hown hb)
    go_ret
    exact Own.gives hown (((Below.refl _ _).alloc (Nat.le_refl _) _).trans hb)

set_option maxHeartbeats 400000 in
theorem seal_any (A : Option Addr) (n c : Nat) (l : List UInt8) (w : World) (h : Rd w A n c l) (hn : n ≤ 65536) :
    Calls Try.prog 15 #[.slice A n c] w (Gives w 5 (Crc.sealB l)) := by
  obtain ⟨b0, b1, b2, b3, hb⟩ : ∃ b0 b1 b2 b3, Crc.le4 (Crc.sum l) = [b0, b1, b2, b3] := ⟨_, _, _, _, rfl⟩
  have hs := Crc.sum_lt l
  have hc := h.2.1
  have HB := hidT hb
  clear hb
  go_enter Try.func15, Try.ntmps15
  go_wp2_with fail
  with_reducible refine (sum_any A n c l _ h).mono ?_
  rintro e w' ⟨rfl, rfl⟩
  go_wp2_with fail
  with_reducible refine (low_any _ hs b0 b1 b2 b3 HB.out _).mono ?_
  rintro e w1 ⟨rfl, hb1⟩
  have hr1 : Rd (w1.alloc (.cells (bs (Crc.le4 (Crc.sum l))).toArray 35)) (some ⟨w1.heap.size, 0, none⟩) 4 4 (Crc.le4 (Crc.sum l)) := Rd.new w1 35 _ (by show 4 ≤ maxLen; decide)
  rw [show (bs (Crc.le4 (Crc.sum l))).toArray = #[.int .u8 (b0.toNat : Int), .int .u8 (b1.toNat : Int), .int .u8 (b2.toNat : Int), .int .u8 (b3.toNat : Int)] from by rw [HB.out]; rfl] at hr1
  have hw1 := hb1.size
  have hbx : Below w.heap.size w (w1.alloc (.cells #[.int .u8 (b0.toNat : Int), .int .u8 (b1.toNat : Int), .int .u8 (b2.toNat : Int), .int .u8 (b3.toNat : Int)] 35)) := hb1.alloc hw1 _
  have hrx := h.below hbx
  go_wp2_with (first
    | (at_make
       refine wpList_mk rfl _ _ 22 rfl 5 info5 Try.underlying22 _ _ _ (n + 4) rfl rfl (by omega) (by omega) ?_
       intro v2 w2 hown2 hb2)
    | (at_builtin
       refine wpList_app rfl (.tmp 12) (.tmp 13) 22 rfl _ 5 info5 Try.underlying22 _ 0 [] rfl hown2 A n c l rfl (hrx.below hb2) (by omega) hb2.size ?_
       intro v3 w3 hown3 hb3)
    | (at_builtin
       refine wpList_app rfl (.tmp 15) (.tmp 16) 22 rfl _ 5 info5 Try.underlying22 v3 (0 + n) ([] ++ l) rfl hown3 _ 4 4 (Crc.le4 (Crc.sum l)) rfl (hr1.below (hb2.trans hb3)) (by omega) (hb2.trans hb3).size ?_
       intro v4 w4 hown4 hb4))
  go_ret
  have hle : w.heap.size ≤ (w1.alloc (.cells #[.int .u8 (b0.toNat : Int), .int .u8 (b1.toNat : Int), .int .u8 (b2.toNat : Int), .int .u8 (b3.toNat : Int)] 35)).heap.size := hbx.size
  have hown5 : Own w4 w.heap.size 5 v4 (0 + n + 4) (Crc.sealB l) := hown4.mono hle
  exact Own.gives hown5 (hbx.trans (((hb2.trans hb3).trans hb4).mono hle))
end Go.Proofs.Ytmlldjfclabdkaa
