import Derived.Test.YtahkhideepncfaaDoorRows
import Derived.Test.YtahkhideepncfaaDoorCrcMath
import Derived.Test.YtahkhideepncfaaDoorBA
import Derived.WalkKit
import Derived.WalkLawsBesides
import Derived.Lib.SliceRun
import Derived.WalkMore
import Derived.ScopeJumps
import Derived.Deep.QuietTactic
import Derived.BigQuiet
import Derived.Deep.RegionHeld3
set_option maxRecDepth 100000
/- What crc's shiftByte, Sum, lowFirst and Seal, and bytes.Clone, come to, for every slice of at most 65536 bytes (Sum: of any length). -/
namespace Go.Proofs.YtahkhideepncfaaDoor
open Go.RowKit

theorem and1 (s : Nat) (hs : s < 4294967296) : bits .and .u32 (s : Int) 1 = ((s % 2 : Nat) : Int) := by
  have h := u32_and_nat s 1 hs (by omega)
  rw [nat_mask1] at h
  exact h
theorem stp_odd {s : Nat} (hs : s < 4294967296) (h : (bits .and .u32 (s : Int) 1 == 1) = true) : bits .xor .u32 ((s : Int) / 2) 3988292384 = (Crc.stp s : Nat) := by
  rw [and1 s hs, beq_iff_eq] at h
  have h1 : s % 2 = 1 := by omega
  have h2 := u32_xor_nat (s / 2) 3988292384 (by omega) (by omega)
  unfold Crc.stp
  rw [if_pos h1, ← h2]
  rfl
theorem stp_even {s : Nat} (hs : s < 4294967296) (h : (bits .and .u32 (s : Int) 1 == 1) = false) : (s : Int) / 2 = (Crc.stp s : Nat) := by
  rw [and1 s hs, beq_eq_false_iff_ne] at h
  have h1 : ¬ s % 2 = 1 := by omega
  unfold Crc.stp
  rw [if_neg h1]
  omega

set_option maxRecDepth 100000 in
theorem shift_any (s : Nat) (hs : s < 4294967296) (w : World) :
    Calls Tryd.prog 61 #[.int .u32 (s : Int)] w fun e w' => e = .returned (.int .u32 (Crc.stpN 8 s : Nat)) ∧ w = w' := by
  go_enter Tryd.func61, Tryd.ntmps61
  go_wp2
  refine wp_scope_jumps 0 (fun a' w' => w = w' ∧ ∃ (j : Nat) (u4 u5 u6 u7 u8 u9 u10 u11 u12 u13 u14 u15 u16 : Value), a' = { tmps := #[.int .u32 (Crc.stpN j s : Nat), undef, .int .u32 0, .int .i64 (8 - (j : Int)), u4, u5, u6, u7, u8, u9, u10, u11, u12, u13, u14, u15, u16, undef], defers := [] } ∧ 1 ≤ j ∧ j ≤ 7) (fun a' _ => (intOf (a'.tmps.getD 3 undef)).toNat) rfl ?_ ?_
  · go_wp2
    go_step3
    go_wp2
    · rw [stp_odd hs ‹_›]
      go_step3
      exact ⟨rfl, rfl, 1, _, _, _, _, _, _, _, _, _, _, _, _, _, rfl, by omega, by omega⟩
    · rw [stp_even hs ‹_›]
      go_step3
      exact ⟨rfl, rfl, 1, _, _, _, _, _, _, _, _, _, _, _, _, _, rfl, by omega, by omega⟩
  · rintro a' w' ⟨rfl, j, u4, u5, u6, u7, u8, u9, u10, u11, u12, u13, u14, u15, u16, rfl, hj1, hj2⟩
    have hlt := Crc.stpN_lt j hs
    have hn : Hid (Crc.stpN (j + 1) s = Crc.stp (Crc.stpN j s)) := Crc.stpN_succ' j s
    go_wp2
    · rw [stp_odd hlt ‹_›, ← hn.out, show (8 : Int) - (j : Int) - 1 = 8 - ((j + 1 : Nat) : Int) from by omega]
      go_step3
      refine ⟨rfl, ⟨rfl, j + 1, _, _, _, _, _, _, _, _, _, _, _, _, _, rfl, by omega, by omega⟩, ?_⟩
      simp [intOf]
      omega
    · have hj : j = 7 := by omega
      subst hj
      rw [stp_odd hlt ‹_›, ← hn.out]
      simp only [Exit.jump]
      go_ret
      exact ⟨rfl, rfl⟩
    · rw [stp_even hlt ‹_›, ← hn.out, show (8 : Int) - (j : Int) - 1 = 8 - ((j + 1 : Nat) : Int) from by omega]
      go_step3
      refine ⟨rfl, ⟨rfl, j + 1, _, _, _, _, _, _, _, _, _, _, _, _, _, rfl, by omega, by omega⟩, ?_⟩
      simp [intOf]
      omega
    · have hj : j = 7 := by omega
      subst hj
      rw [stp_even hlt ‹_›, ← hn.out]
      simp only [Exit.jump]
      go_ret
      exact ⟨rfl, rfl⟩

theorem sum_byte {s : Nat} (hs : s < 4294967296) (x : UInt8) : bits .xor .u32 (s : Int) (x.toNat : Int) = ((s ^^^ x.toNat : Nat) : Int) :=
  u32_xor_nat s x.toNat hs (by have := Crc.byte_lt x; omega)
theorem take_snoc {l : List UInt8} {k : Nat} {x : UInt8} (h : l[k]? = some x) : l.take (k + 1) = l.take k ++ [x] := by
  rw [List.take_add_one, h]; rfl

set_option maxRecDepth 100000 in
set_option maxHeartbeats 400000 in
theorem sum_any (A : Option Addr) (n c : Nat) (l : List UInt8) (w : World) (h : Rd w A n c l) :
    Calls Tryd.prog 44 #[.slice A n c] w fun e w' => e = .returned (.int .u32 (Crc.sum l : Nat)) ∧ w = w' := by
  have hn : n ≤ 9223372036854775807 := by have := h.2.1; have := h.2.2.1; unfold maxLen at this; omega
  go_enter Tryd.func44, Tryd.ntmps44
  go_wp2
  go_loop [3, 8] (fun s i => ∃ k : Nat, k ≤ n ∧ i = .int .i64 k ∧ s = .int .u32 (Crc.run 4294967295 (l.take k) : Nat)) (fun _ i => n - (intOf i).toNat)
  case atStart => exact ⟨0, Nat.zero_le _, rfl, rfl⟩
  case round =>
    obtain ⟨k, hk, rfl, rfl⟩ := hrel
    have hlt : Crc.run 4294967295 (l.take k) < 4294967296 := Crc.run_lt _ (by omega)
    by_cases hkn : k < n
    · obtain ⟨b, o, rfl, hcell⟩ := h.at_ (by omega)
      obtain ⟨x, hx, hc⟩ := hcell k hkn
      clear hcell
      have HS : Hid (Crc.run 4294967295 (l.take (k + 1)) = Crc.stpN 8 (Crc.run 4294967295 (l.take k) ^^^ x.toNat)) := by rw [take_snoc hx, Crc.run_snoc]; rfl
      have HB := Crc.byte_lt x
      have HX : Hid (bits .xor .u32 (Crc.run 4294967295 (l.take k) : Nat) (x.toNat : Int) = ((Crc.run 4294967295 (l.take k) ^^^ x.toNat : Nat) : Int)) := sum_byte hlt x
      have HL : Crc.run 4294967295 (l.take k) ^^^ x.toNat < 4294967296 := Crc.xor_lt hlt (by omega)
      clear hx
      go_wp2_with fail
      rw [HX.out]
      with_reducible refine (shift_any _ HL _).mono ?_
      rintro e w' ⟨rfl, rfl⟩
      rw [← HS.out]
      go_wp2
      go_round
      case rel => exact ⟨k + 1, by omega, by go_num, rfl⟩
      case measure => simp [intOf]; omega
    · have hkk : k = n := by omega
      subst hkk
      have HT : Hid (Crc.sum l = 4294967295 ^^^ Crc.run 4294967295 (l.take k)) := by rw [List.take_of_length_le (by rw [h.1]; omega)]; rfl
      have HX : Hid (bits .xor .u32 IntKind.u32.max (Crc.run 4294967295 (l.take k) : Nat) = ((4294967295 ^^^ Crc.run 4294967295 (l.take k) : Nat) : Int)) := u32_xor_nat 4294967295 _ (by omega) hlt
      go_wp2
      go_ret
      rw [HX.out, HT.out]
      exact ⟨rfl, rfl⟩

theorem low_any (s : Nat) (hs : s < 4294967296) (b0 b1 b2 b3 : UInt8) (hb : Crc.le4 s = [b0, b1, b2, b3]) (w : World) :
    Calls Tryd.prog 43 #[.int .u32 (s : Int)] w fun e w' => e = .returned (.agg #[.int .u8 (b0.toNat : Int), .int .u8 (b1.toNat : Int), .int .u8 (b2.toNat : Int), .int .u8 (b3.toNat : Int)]) ∧ Below w.heap.size w w' := by
  unfold Crc.le4 at hb
  simp only [List.cons.injEq, and_true] at hb
  obtain ⟨rfl, rfl, rfl, rfl⟩ := hb
  simp only [Crc.u8_toNat]
  have e0 : ((s % 256 : Nat) : Int) = (s : Int) % 256 := by omega
  have e1 : ((s / 256 % 256 : Nat) : Int) = (s : Int) / 256 % 256 := by omega
  have e2 : ((s / 65536 % 256 : Nat) : Int) = (s : Int) / 65536 % 256 := by omega
  have e3 : ((s / 16777216 % 256 : Nat) : Int) = (s : Int) / 16777216 := by omega
  rw [e0, e1, e2, e3]
  clear e0 e1 e2 e3
  go_enter Tryd.func43, Tryd.ntmps43
  go_wp2
  exact bodyPost_ret (v := .agg #[.int .u8 ((s : Int) % 256), .int .u8 ((s : Int) / 256 % 256), .int .u8 ((s : Int) / 65536 % 256), .int .u8 ((s : Int) / 16777216)]) (by simp [results, Tryd.results43, go_sem]) rfl ⟨rfl, (Below.refl _ _).alloc (Nat.le_refl _) _⟩

set_option maxHeartbeats 400000 in
theorem seal_any (A : Option Addr) (n c : Nat) (l : List UInt8) (w : World) (h : Rd w A n c l) (hn : n ≤ 65536) :
    Calls Tryd.prog 35 #[.slice A n c] w (Gives w 5 (Crc.sealB l)) := by
  obtain ⟨b0, b1, b2, b3, hb⟩ : ∃ b0 b1 b2 b3, Crc.le4 (Crc.sum l) = [b0, b1, b2, b3] := ⟨_, _, _, _, rfl⟩
  have hs := Crc.sum_lt l
  have hc := h.2.1
  have HB := hidT hb
  clear hb
  go_enter Tryd.func35, Tryd.ntmps35
  go_wp2_with fail
  with_reducible refine (sum_any A n c l _ h).mono ?_
  rintro e w' ⟨rfl, rfl⟩
  go_wp2_with fail
  with_reducible refine (low_any _ hs b0 b1 b2 b3 HB.out _).mono ?_
  rintro e w1 ⟨rfl, hb1⟩
  have hr1 : Rd (w1.alloc (.cells (bs (Crc.le4 (Crc.sum l))).toArray 68)) (some ⟨w1.heap.size, 0, none⟩) 4 4 (Crc.le4 (Crc.sum l)) := Rd.new w1 68 _ (by show 4 ≤ maxLen; decide)
  rw [show (bs (Crc.le4 (Crc.sum l))).toArray = #[.int .u8 (b0.toNat : Int), .int .u8 (b1.toNat : Int), .int .u8 (b2.toNat : Int), .int .u8 (b3.toNat : Int)] from by rw [HB.out]; rfl] at hr1
  have hw1 := hb1.size
  have hbx : Below w.heap.size w (w1.alloc (.cells #[.int .u8 (b0.toNat : Int), .int .u8 (b1.toNat : Int), .int .u8 (b2.toNat : Int), .int .u8 (b3.toNat : Int)] 68)) := hb1.alloc hw1 _
  have hrx := h.below hbx
  go_wp2_with (first
    | (at_make
       refine wpList_mk rfl _ _ 23 rfl 5 info5 Tryd.underlying23 _ _ _ (n + 4) rfl rfl (by omega) (by omega) ?_
       intro v2 w2 hown2 hb2)
    | (at_builtin
       refine wpList_app rfl (.tmp 12) (.tmp 13) 23 rfl _ 5 info5 Tryd.underlying23 _ 0 [] rfl hown2 A n c l rfl (hrx.below hb2) (by omega) hb2.size ?_
       intro v3 w3 hown3 hb3)
    | (at_builtin
       refine wpList_app rfl (.tmp 15) (.tmp 16) 23 rfl _ 5 info5 Tryd.underlying23 v3 (0 + n) ([] ++ l) rfl hown3 _ 4 4 (Crc.le4 (Crc.sum l)) rfl (hr1.below (hb2.trans hb3)) (by omega) (hb2.trans hb3).size ?_
       intro v4 w4 hown4 hb4))
  go_ret
  have hle : w.heap.size ≤ (w1.alloc (.cells #[.int .u8 (b0.toNat : Int), .int .u8 (b1.toNat : Int), .int .u8 (b2.toNat : Int), .int .u8 (b3.toNat : Int)] 68)).heap.size := hbx.size
  have hown5 : Own w4 w.heap.size 5 v4 (0 + n + 4) (Crc.sealB l) := hown4.mono hle
  exact Own.gives hown5 (hbx.trans (((hb2.trans hb3).trans hb4).mono hle))
end Go.Proofs.YtahkhideepncfaaDoor
/- What crc's Open comes to, for every slice of at most 65536 bytes. -/
namespace Go.Proofs.YtahkhideepncfaaDoor
open Go.RowKit
set_option linter.unusedVariables false

/-- Bytes and a code. -/
def OpensTo (w : World) (m : List UInt8) (k : Int) (e : Ending) (w' : World) : Prop :=
  ∃ A c, e = .returned (.tuple #[.slice A m.length c, .int .i64 k]) ∧ Rd w' A m.length c m ∧ Below w.heap.size w w'
/-- What the document says that Open answers. -/
def opened (l : List UInt8) : List UInt8 := if l.length < 4 then [] else if l = Crc.sealB (l.take (l.length - 4)) then l.take (l.length - 4) else []
def openCode (l : List UInt8) : Int := if l.length < 4 then 2 else if l = Crc.sealB (l.take (l.length - 4)) then 0 else 3

theorem open_short (A : Option Addr) (n c : Nat) (l : List UInt8) (w : World) (h : Rd w A n c l) (hn : n < 4) :
    Calls Tryd.prog 19 #[.slice A n c] w (OpensTo w [] 2) := by
  go_enter Tryd.func19, Tryd.ntmps19
  go_wp2
  go_ret2
  exact ⟨none, 0, rfl, Rd.nil_ _, Below.refl _ _⟩

theorem eqInt (a b : Int) (w : World) : (Op.equalIn 9999 5 (.int .u8 a) (.int .u8 b)).run Tryd.prog w = .ok (a == b) w := run_equalIn_int (P := Tryd.prog) w 9998 5 .u8 .u8 a b Tryd.underlying5
theorem neq4 (x0 x1 x2 x3 y0 y1 y2 y3 : Int) (w : World) :
   (binOp .neq 68 (.agg #[.int .u8 x0, .int .u8 x1, .int .u8 x2, .int .u8 x3]) (.agg #[.int .u8 y0, .int .u8 y1, .int .u8 y2, .int .u8 y3])).run Tryd.prog w = .ok (.bool !(x0 == y0 && x1 == y1 && x2 == y2 && x3 == y3)) w := by
  rw [run_neq_struct]
  unfold Op.equalIn
  simp [run_underlying Tryd.underlying68, List.range', part, go_sem, eqInt]
  by_cases h0 : x0 = y0 <;> by_cases h1 : x1 = y1 <;> by_cases h2 : x2 = y2 <;> by_cases h3 : x3 = y3 <;> simp [h0, h1, h2, h3]
theorem neq4_yes {x0 x1 x2 x3 y0 y1 y2 y3 : UInt8} (h : [x0, x1, x2, x3] ≠ [y0, y1, y2, y3]) (w : World) :
   (binOp .neq 68 (.agg #[.int .u8 (x0.toNat : Int), .int .u8 (x1.toNat : Int), .int .u8 (x2.toNat : Int), .int .u8 (x3.toNat : Int)]) (.agg #[.int .u8 (y0.toNat : Int), .int .u8 (y1.toNat : Int), .int .u8 (y2.toNat : Int), .int .u8 (y3.toNat : Int)])).run Tryd.prog w = .ok (.bool true) w := by
  rw [neq4]
  have e : (((x0.toNat : Int) == y0.toNat) && ((x1.toNat : Int) == y1.toNat) && ((x2.toNat : Int) == y2.toNat) && ((x3.toNat : Int) == y3.toNat)) = false := by
    rw [Bool.eq_false_iff]
    intro hh
    simp only [Bool.and_eq_true, beq_iff_eq, Int.natCast_inj, UInt8.toNat_inj] at hh
    obtain ⟨⟨⟨rfl, rfl⟩, rfl⟩, rfl⟩ := hh
    exact h rfl
  rw [e]
  rfl
theorem neq4_no (y0 y1 y2 y3 : Int) (w : World) :
   (binOp .neq 68 (.agg #[.int .u8 y0, .int .u8 y1, .int .u8 y2, .int .u8 y3]) (.agg #[.int .u8 y0, .int .u8 y1, .int .u8 y2, .int .u8 y3])).run Tryd.prog w = .ok (.bool false) w := by
  rw [neq4]
  simp

theorem split4 (l : List UInt8) (k : Nat) (h : l.length = k + 4) : ∃ p x0 x1 x2 x3, p.length = k ∧ l = p ++ [x0, x1, x2, x3] := by
  have h2 : (l.drop k).length = 4 := by rw [List.length_drop]; omega
  match hd : l.drop k, h2 with
  | [x0, x1, x2, x3], _ => exact ⟨l.take k, x0, x1, x2, x3, by rw [List.length_take]; omega, by rw [← hd, List.take_append_drop]⟩

/-- Four bytes at a place of a slice, as the cells have them. -/
theorem Rd.four {w : World} {b o n c : Nat} {p : List UInt8} {x0 x1 x2 x3 : UInt8} (h : Rd w (some ⟨b, o, none⟩) n c (p ++ [x0, x1, x2, x3])) {k : Nat} (hk : p.length = k) :
    w.cell? ⟨b, o + k, none⟩ = some (.int .u8 (x0.toNat : Int)) ∧ w.cell? ⟨b, o + k + 1, none⟩ = some (.int .u8 (x1.toNat : Int)) ∧ w.cell? ⟨b, o + k + 2, none⟩ = some (.int .u8 (x2.toNat : Int)) ∧ w.cell? ⟨b, o + k + 3, none⟩ = some (.int .u8 (x3.toNat : Int)) := by
  subst hk
  obtain ⟨hl, _, _, _, hc⟩ := h
  obtain ⟨b', o', hA, hcell⟩ := hc (by rw [← hl]; simp)
  injection hA with hA
  injection hA with h1 h2
  subst h1; subst h2
  refine ⟨hcell _ _ (by simp), ?_, ?_, ?_⟩
  · exact hcell (p.length + 1) _ (by simp)
  · exact hcell (p.length + 2) _ (by simp)
  · exact hcell (p.length + 3) _ (by simp)

set_option maxHeartbeats 800000 in
theorem open_bad (A : Option Addr) (k c : Nat) (p : List UInt8) (x0 x1 x2 x3 : UInt8) (w : World) (h : Rd w A (k + 4) c (p ++ [x0, x1, x2, x3])) (hm : k + 4 ≤ 65536) (hp : p.length = k)
    (hne : [x0, x1, x2, x3] ≠ Crc.le4 (Crc.sum p)) :
    Calls Tryd.prog 19 #[.slice A (k + 4 : Nat) c] w fun e w' => e = .returned (.tuple #[.slice none 0 0, .int .i64 3]) ∧ Below w.heap.size w w' := by
  have hc := h.2.1
  obtain ⟨b, o, rfl, hcell⟩ := h.at_ (by omega)
  clear hcell
  obtain ⟨c0, c1, c2, c3⟩ := h.four hp
  obtain ⟨y0, y1, y2, y3, hy⟩ : ∃ y0 y1 y2 y3, Crc.le4 (Crc.sum p) = [y0, y1, y2, y3] := ⟨_, _, _, _, rfl⟩
  have hs := Crc.sum_lt p
  have hcc : ¬ c = k := by omega
  have hrp : Rd w (some ⟨b, o, none⟩) k c p := by
    have := h.take (k := k) (by omega)
    rwa [List.take_left' hp] at this
  rw [hy] at hne
  have hq := neq4_yes hne
  have HY := hidT hy
  clear hy hp hne
  have q0 : (0 : Int) ≤ (k : Int) := by omega
  have q1 : (k : Int) ≤ (k : Int) + 4 := by omega
  have q2 : (k : Int) ≤ (c : Int) := by omega
  have q3 : decide ((k : Int) + 4 < 4) = false := by simp; omega
  have harr : ∀ (w' : World), Sem.run Tryd.prog (Instr.arrayAt 68 (.slice (some ⟨b, o + k, none⟩) 4 (c - k))) w' = .ok (.pointer (some ⟨b, o + k, none⟩)) w' := fun w' => by
    simp [Instr.arrayAt, run_underlying Tryd.underlying68]
  go_enter Tryd.func19, Tryd.ntmps19
  go_wp2
  go_region_held3 (fun w' => w'.cell? ⟨b, o + k, none⟩ = some (.int .u8 (x0.toNat : Int)) ∧ w'.cell? ⟨b, o + k + 1, none⟩ = some (.int .u8 (x1.toNat : Int)) ∧ w'.cell? ⟨b, o + k + 2, none⟩ = some (.int .u8 (x2.toNat : Int)) ∧ w'.cell? ⟨b, o + k + 3, none⟩ = some (.int .u8 (x3.toNat : Int)))
    (first | exact ⟨c0, c1, c2, c3⟩ | exact ⟨(hb1.cell (World.block_lt_of_cell? _ _ c0)).trans c0, (hb1.cell (World.block_lt_of_cell? _ _ c1)).trans c1, (hb1.cell (World.block_lt_of_cell? _ _ c2)).trans c2, (hb1.cell (World.block_lt_of_cell? _ _ c3)).trans c3⟩)
    (first | (go_at_call 44; ((with_reducible refine (sum_any _ _ _ p _ hrp.drew).mono ?_); rintro e w' ⟨rfl, rfl⟩)) | (go_at_call 43; ((with_reducible refine (low_any _ hs y0 y1 y2 y3 HY.out _).mono ?_); rintro e w1 ⟨rfl, hb1⟩)))
  all_goals
    go_wp2
    go_ret2
    exact ⟨rfl, undrew hb1⟩
set_option maxHeartbeats 800000 in
theorem open_good (A : Option Addr) (k c : Nat) (p : List UInt8) (w : World) (h : Rd w A (k + 4) c (Crc.sealB p)) (hm : k + 4 ≤ 65536) (hp : p.length = k) :
    Calls Tryd.prog 19 #[.slice A (k + 4 : Nat) c] w fun e w' => ∃ A' c', e = .returned (.tuple #[.slice A' k c', .int .i64 0]) ∧ Own w' w.heap.size 5 (.slice A' k c') k p ∧ Below w.heap.size w w' := by
  have hc := h.2.1
  obtain ⟨b, o, rfl, hcell⟩ := h.at_ (by omega)
  clear hcell
  obtain ⟨y0, y1, y2, y3, hy⟩ : ∃ y0 y1 y2 y3, Crc.le4 (Crc.sum p) = [y0, y1, y2, y3] := ⟨_, _, _, _, rfl⟩
  unfold Crc.sealB at h
  rw [hy] at h
  obtain ⟨c0, c1, c2, c3⟩ := h.four hp
  have hs := Crc.sum_lt p
  have hcc : ¬ c = k := by omega
  have hrp : Rd w (some ⟨b, o, none⟩) k c p := by
    have := h.take (k := k) (by omega)
    rwa [List.take_left' hp] at this
  have hq := neq4_no (y0.toNat : Int) (y1.toNat : Int) (y2.toNat : Int) (y3.toNat : Int)
  have HY := hidT hy
  have HP := hidT hp
  clear hy hp
  have q0 : (0 : Int) ≤ (k : Int) := by omega
  have q1 : (k : Int) ≤ (k : Int) + 4 := by omega
  have q2 : (k : Int) ≤ (c : Int) := by omega
  have q3 : decide ((k : Int) + 4 < 4) = false := by simp; omega
  have harr : ∀ (w' : World), Sem.run Tryd.prog (Instr.arrayAt 68 (.slice (some ⟨b, o + k, none⟩) 4 (c - k))) w' = .ok (.pointer (some ⟨b, o + k, none⟩)) w' := fun w' => by
    simp [Instr.arrayAt, run_underlying Tryd.underlying68]
  go_enter Tryd.func19, Tryd.ntmps19
  go_wp2
  go_region_held3 (fun w' => w'.cell? ⟨b, o + k, none⟩ = some (.int .u8 (y0.toNat : Int)) ∧ w'.cell? ⟨b, o + k + 1, none⟩ = some (.int .u8 (y1.toNat : Int)) ∧ w'.cell? ⟨b, o + k + 2, none⟩ = some (.int .u8 (y2.toNat : Int)) ∧ w'.cell? ⟨b, o + k + 3, none⟩ = some (.int .u8 (y3.toNat : Int)))
    (first | exact ⟨c0, c1, c2, c3⟩ | exact ⟨(hb1.cell (World.block_lt_of_cell? _ _ c0)).trans c0, (hb1.cell (World.block_lt_of_cell? _ _ c1)).trans c1, (hb1.cell (World.block_lt_of_cell? _ _ c2)).trans c2, (hb1.cell (World.block_lt_of_cell? _ _ c3)).trans c3⟩)
    (first | (go_at_call 44; ((with_reducible refine (sum_any _ _ _ p _ hrp.drew).mono ?_); rintro e w' ⟨rfl, rfl⟩)) | (go_at_call 43; ((with_reducible refine (low_any _ hs y0 y1 y2 y3 HY.out _).mono ?_); rintro e w1 ⟨rfl, hb1⟩)))
  all_goals
    go_wp2_with fail
    with_reducible refine (clone_any _ _ _ p _ (hrp.below (undrew hb1)) (by omega)).mono ?_
    rintro e w2 ⟨A2, c2', rfl, ho2, hb2⟩
    rw [HP.out] at ho2 ⊢
    go_wp2
    go_ret2
    exact ⟨A2, c2', rfl, ho2.mono (undrew hb1).size, bthen (undrew hb1) hb2⟩

theorem open_any (A : Option Addr) (n c : Nat) (l : List UInt8) (w : World) (h : Rd w A n c l) (hm : n ≤ 65536) :
    Calls Tryd.prog 19 #[.slice A n c] w (OpensTo w (opened l) (openCode l)) := by
  have hl := h.1
  by_cases h4 : l.length < 4
  · unfold opened openCode
    rw [if_pos h4, if_pos h4]
    exact open_short A n c l w h (by omega)
  · obtain ⟨k, rfl⟩ : ∃ k, n = k + 4 := ⟨n - 4, by omega⟩
    obtain ⟨p, x0, x1, x2, x3, hp, hlp⟩ := split4 l k hl
    have ht : l.take (l.length - 4) = p := by rw [hl, hlp, Nat.add_sub_cancel]; exact List.take_left' hp
    unfold opened openCode
    rw [if_neg h4, if_neg h4, ht]
    by_cases hs : l = Crc.sealB p
    · rw [if_pos hs, if_pos hs]
      rw [hs] at h
      refine (open_good A k c p w h hm hp).mono ?_
      rintro e w' ⟨A', c', rfl, ho, hb⟩
      subst hp
      exact ⟨A', c', rfl, ho.same, hb⟩
    · rw [if_neg hs, if_neg hs]
      rw [hlp] at h
      refine (open_bad A k c p x0 x1 x2 x3 w h hm hp (fun e => hs (by rw [hlp, e]; rfl))).mono ?_
      rintro e w' ⟨rfl, hb⟩
      exact ⟨none, 0, rfl, Rd.nil_ _, hb⟩
end Go.Proofs.YtahkhideepncfaaDoor
/- Small facts on what is sealed. No condition. -/
namespace Go.Proofs.YtahkhideepncfaaDoor
open Go.RowKit
set_option linter.unusedVariables false

theorem sum_own {w : World} {base n : Nat} {t : TypeId} {v : Value} {l : List UInt8} (h : Own w base t v n l) :
    Calls Tryd.prog 44 #[v] w fun e w' => e = .returned (.int .u32 (Crc.sum l : Nat)) ∧ w = w' := by
  obtain ⟨A, c, rfl, hr⟩ := h.rd
  exact sum_any A n c l w hr

theorem take_seal (l : List UInt8) : (Crc.sealB l).take ((Crc.sealB l).length - 4) = l := by
  have h : (Crc.sealB l).length = l.length + 4 := by simp [Crc.sealB, Crc.le4]
  rw [h, Nat.add_sub_cancel]
  exact List.take_left' rfl
theorem seal_length (l : List UInt8) : (Crc.sealB l).length = l.length + 4 := by simp [Crc.sealB, Crc.le4]
theorem opened_seal (l : List UInt8) : opened (Crc.sealB l) = l := by
  unfold opened
  rw [if_neg (by rw [seal_length]; omega), take_seal, if_pos rfl]
theorem code_seal (l : List UInt8) : openCode (Crc.sealB l) = 0 := by
  unfold openCode
  rw [if_neg (by rw [seal_length]; omega), take_seal, if_pos rfl]
theorem seal_inj {a b : List UInt8} (h : Crc.sealB a = Crc.sealB b) : a = b := by
  rw [← take_seal a, ← take_seal b, h]

end Go.Proofs.YtahkhideepncfaaDoor
