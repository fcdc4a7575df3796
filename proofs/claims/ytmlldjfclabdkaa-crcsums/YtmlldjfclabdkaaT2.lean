/- What crc's Open comes to, for every slice of at most 65536 bytes. -/
import Derived.Test.YtmlldjfclabdkaaT1
import Derived.Deep.QuietTactic
import Derived.BigQuiet
import Derived.Deep.RegionHeld3
namespace Go.Proofs.Ytmlldjfclabdkaa
open Go.RowKit
set_option linter.unusedVariables false

/-- Bytes and a code. -/
def OpensTo (w : World) (m : List UInt8) (k : Int) (e : Ending) (w' : World) : Prop :=
  ∃ A c, e = .returned (.tuple #[.slice A m.length c, .int .i64 k]) ∧ Rd w' A m.length c m ∧ Below w.heap.size w w'
/-- What the document says that Open answers. -/
def opened (l : List UInt8) : List UInt8 := if l.length < 4 then [] else if l = Crc.sealB (l.take (l.length - 4)) then l.take (l.length - 4) else []
def openCode (l : List UInt8) : Int := if l.length < 4 then 2 else if l = Crc.sealB (l.take (l.length - 4)) then 0 else 3

theorem open_short (A : Option Addr) (n c : Nat) (l : List UInt8) (w : World) (h : Rd w A n c l) (hn : n < 4) :
    Calls Try.prog 11 #[.slice A n c] w (OpensTo w [] 2) := by
  go_enter Try.func11, Try.ntmps11
  go_wp2
  go_ret2
  exact ⟨none, 0, rfl, Rd.nil_ _, Below.refl _ _⟩

theorem eqInt (a b : Int) (w : World) : (Op.equalIn 9999 5 (.int .u8 a) (.int .u8 b)).run Try.prog w = .ok (a == b) w := run_equalIn_int (P := Try.prog) w 9998 5 .u8 .u8 a b Try.underlying5
theorem neq4 (x0 x1 x2 x3 y0 y1 y2 y3 : Int) (w : World) :
   (binOp .neq 35 (.agg #[.int .u8 x0, .int .u8 x1, .int .u8 x2, .int .u8 x3]) (.agg #[.int .u8 y0, .int .u8 y1, .int .u8 y2, .int .u8 y3])).run Try.prog w = .ok (.bool !(x0 == y0 && x1 == y1 && x2 == y2 && x3 == y3)) w := by
  rw [run_neq_struct]
  unfold Op.equalIn
  simp [run_underlying Try.underlying35, List.range', part, go_sem, eqInt]
  by_cases h0 : x0 = y0 <;> by_cases h1 : x1 = y1 <;> by_cases h2 : x2 = y2 <;> by_cases h3 : x3 = y3 <;> simp [h0, h1, h2, h3]
theorem neq4_yes {x0 x1 x2 x3 y0 y1 y2 y3 : UInt8} (h : [x0, x1, x2, x3] ≠ [y0, y1, y2, y3]) (w : World) :
   (binOp .neq 35 (.agg #[.int .u8 (x0.toNat : Int), .int .u8 (x1.toNat : Int), .int .u8 (x2.toNat : Int), .int .u8 (x3.toNat : Int)]) (.agg #[.int .u8 (y0.toNat : Int), .int .u8 (y1.toNat : Int), .int .u8 (y2.toNat : Int), .int .u8 (y3.toNat : Int)])).run Try.prog w = .ok (.bool true) w := by
  rw [neq4]
  have e : (((x0.toNat : Int) == y0.toNat) && ((x1.toNat : Int) == y1.toNat) && ((x2.toNat : Int) == y2.toNat) && ((x3.toNat : Int) == y3.toNat)) = false := by
    rw [Bool.eq_false_iff]
    intro hh
    simp only [Bool.and_eq_true, beq_iff_eq, Int.natCast_inj, UInt8.toNat_inj] at hh
    obtain ⟨⟨⟨rfl, rfl⟩, rfl⟩, rfl⟩ := hh
    exact h rfl
  rw [e]
  rfl
theorem neq4_no (y0 y1 y2 y3 : Int) (w : World) :
   (binOp .neq 35 (.agg #[.int .u8 y0, .int .u8 y1, .int .u8 y2, .int .u8 y3]) (.agg #[.int .u8 y0, .int .u8 y1, .int .u8 y2, .int .u8 y3])).run Try.prog w = .ok (.bool false) w := by
  rw [neq4]
  simp

theorem split4 (l : List UInt8) (k : Nat) (h : l.length = k + 4) : ∃ p x0 x1 x2 x3, p.length = k ∧ l = p ++ [x0, x1, x2, x3] := by
  have h2 : (l.drop k).length = 4 := by rw [List.length_drop]; omega
  match hd : l.drop k, h2 with
  | [x0, x1, x2, x3], _ => exact ⟨l.take k, x0, x1, x2, x3, by rw [List.length_take]; omega, by rw [← hd, List.take_append_drop]⟩

/-- Four bytes at a place of a slice, as the cells have them. -/
theorem Rd.four {w : World} {b o n c : Nat} {p : List UInt8} {x0 x1 x2 x3 : UInt8} (h : Rd w (some ⟨b, o, none⟩) n c (p ++ [x0, x1, x2, x3])) {k : Nat} (hk : p.length = k) :
    w.cell? ⟨b, o + k, none⟩ = some (.int .u8 (x0.toNat : Int)) ∧ w.cell? ⟨b, o + k + 1, none⟩ = some (.int .u8 (x1.toNat : Int)) ∧ w.cell? ⟨b, o + k + 2, none⟩ = some (.int .u8 (x2.toNat : Int)) ∧ w.cell? ⟨b, o + k + 3, none⟩ = some (.int .u8 (x3.toNat : Int)) := by
  subst hk
  obtain ⟨hl, _, _, _, hc⟩ := h
  obtain ⟨b', o', hA, hcell⟩ := hc (by rw [← hl]; simp)
  injection hA with hA
  injection hA with h1 h2
  subst h1; subst h2
  refine ⟨hcell _ _ (by simp), ?_, ?_, ?_⟩
  · exact hcell (p.length + 1) _ (by simp)
  · exact hcell (p.length + 2) _ (by simp)
  · exact hcell (p.length + 3) _ (by simp)

set_option maxHeartbeats 800000 in
theorem open_bad (A : Option Addr) (k c : Nat) (p : List UInt8) (x0 x1 x2 x3 : UInt8) (w : World) (h : Rd w A (k + 4) c (p ++ [x0, x1, x2, x3])) (hm : k + 4 ≤ 65536) (hp : p.length = k)
    (hne : [x0, x1, x2, x3] ≠ Crc.le4 (Crc.sum p)) :
    Calls Try.prog 11 #[.slice A (k + 4 : Nat) c] w fun e w' => e = .returned (.tuple #[.slice none 0 0, .int .i64 3]) ∧ Below w.heap.size w w' := by
  have hc := h.2.1
  obtain ⟨b, o, rfl, hcell⟩ := h.at_ (by omega)
  clear hcell
  obtain ⟨c0, c1, c2, c3⟩ := h.four hp
  obtain ⟨y0, y1, y2, y3, hy⟩ : ∃ y0 y1 y2 y3, Crc.le4 (Crc.sum p) = [y0, y1, y2, y3] := ⟨_, _, _, _, rfl⟩
  have hs := Crc.sum_lt p
  have hcc : ¬ c = k := by omega
  have hrp : Rd w (some ⟨b, o, none⟩) k c p := by
    have := h.take (k := k) (by omega)
    rwa [List.take_left' hp] at this
  rw [hy] at hne
  have hq := neq4_yes hne
  have HY := hidT hy
  clear hy hp hne
  have q0 : (0 : Int) ≤ (k : Int) := by omega
  have q1 : (k : Int) ≤ (k : Int) + 4 := by omega
  have q2 : (k : Int) ≤ (c : Int) := by omega
  have q3 : decide ((k : Int) + 4 < 4) = false := by simp; omega
  have harr : ∀ (w' : World), Sem.run Try.prog (Instr.arrayAt 35 (.slice (some ⟨b, o + k, none⟩) 4 (c - k))) w' = .ok (.pointer (some ⟨b, o + k, none⟩)) w' := fun w' => by
    simp [Instr.arrayAt, run_underlying Try.underlying35]
  go_enter Try.func11, Try.ntmps11
  go_wp2
  go_region_held3 (fun w' => w'.cell? ⟨b, o + k, none⟩ = some (.int .u8 (x0.toNat : Int)) ∧ w'.cell? ⟨b, o + k + 1, none⟩ = some (.int .u8 (x1.toNat : Int)) ∧ w'.cell? ⟨b, o + k + 2, none⟩ = some (.int .u8 (x2.toNat : Int)) ∧ w'.cell? ⟨b, o + k + 3, none⟩ = some (.int .u8 (x3.toNat : Int)))
    (first | exact ⟨c0, c1, c2, c3⟩ | exact ⟨(hb1.cell (World.block_lt_of_cell? _ _ c0)).trans c0, (hb1.cell (World.block_lt_of_cell? _ _ c1)).trans c1, (hb1.cell (World.block_lt_of_cell? _ _ c2)).trans c2, (hb1.cell (World.block_lt_of_cell? _ _ c3)).trans c3⟩)
    (first | (go_at_call 13; ((with_reducible refine (sum_any _ _ _ p _ hrp.drew).mono ?_); rintro e w' ⟨rfl, rfl⟩)) | (go_at_call 19; ((with_reducible refine (low_any _ hs y0 y1 y2 y3 HY.out _).mono ?_); rintro e w1 ⟨rfl, hb1⟩)))
  all_goals
    go_wp2
    go_ret2
    exact ⟨rfl, undrew hb1⟩
set_option maxHeartbeats 800000 in
theorem open_good (A : Option Addr) (k c : Nat) (p : List UInt8) (w : World) (h : Rd w A (k + 4) c (Crc.sealB p)) (hm : k + 4 ≤ 65536) (hp : p.length = k) :
    Calls Try.prog 11 #[.slice A (k + 4 : Nat) c] w fun e w' => ∃ A' c', e = .returned (.tuple #[.slice A' k c', .int .i64 0]) ∧ Own w' w.heap.size 5 (.slice A' k c') k p ∧ Below w.heap.size w w' := by
  have hc := h.2.1
  obtain ⟨b, o, rfl, hcell⟩ := h.at_ (by omega)
  clear hcell
  obtain ⟨y0, y1, y2, y3, hy⟩ : ∃ y0 y1 y2 y3, Crc.le4 (Crc.sum p) = [y0, y1, y2, y3] := ⟨_, _, _, _, rfl⟩
  unfold Crc.sealB at h
  rw [hy] at h
  obtain ⟨c0, c1, c2, c3⟩ := h.four hp
  have hs := Crc.sum_lt p
  have hcc : ¬ c = k := by omega
  have hrp : Rd w (some ⟨b, o, none⟩) k c p := by
    have := h.take (k := k) (by omega)
    rwa [List.take_left' hp] at this
  have hq := neq4_no (y0.toNat : Int) (y1.toNat : Int) (y2.toNat : Int) (y3.toNat : Int)
  have HY := hidT hy
  have HP := hidT hp
  clear hy hp
  have q0 : (0 : Int) ≤ (k : Int) := by omega
  have q1 : (k : Int) ≤ (k : Int) + 4 := by omega
  have q2 : (k : Int) ≤ (c : Int) := by omega
  have q3 : decide ((k : Int) + 4 < 4) = false := by simp; omega
  have harr : ∀ (w' : World), Sem.run Try.prog (Instr.arrayAt 35 (.slice (some ⟨b, o + k, none⟩) 4 (c - k))) w' = .ok (.pointer (some ⟨b, o + k, none⟩)) w' := fun w' => by
    simp [Instr.arrayAt, run_underlying Try.underlying35]
  go_enter Try.func11, Try.ntmps11
  go_wp2
  go_region_held3 (fun w' => w'.cell? ⟨b, o + k, none⟩ = some (.int .u8 (y0.toNat : Int)) ∧ w'.cell? ⟨b, o + k + 1, none⟩ = some (.int .u8 (y1.toNat : Int)) ∧ w'.cell? ⟨b, o + k + 2, none⟩ = some (.int .u8 (y2.toNat : Int)) ∧ w'.cell? ⟨b, o + k + 3, none⟩ = some (.int .u8 (y3.toNat : Int)))
    (first | exact ⟨c0, c1, c2, c3⟩ | exact ⟨(hb1.cell (World.block_lt_of_cell? _ _ c0)).trans c0, (hb1.cell (World.block_lt_of_cell? _ _ c1)).trans c1, (hb1.cell (World.block_lt_of_cell? _ _ c2)).trans c2, (hb1.cell (World.block_lt_of_cell? _ _ c3)).trans c3⟩)
    (first | (go_at_call 13; ((with_reducible refine (sum_any _ _ _ p _ hrp.drew).mono ?_); rintro e w' ⟨rfl, rfl⟩)) | (go_at_call 19; ((with_reducible refine (low_any _ hs y0 y1 y2 y3 HY.out _).mono ?_); rintro e w1 ⟨rfl, hb1⟩)))
  all_goals
    go_wp2_with fail
    with_reducible refine (clone_any _ _ _ p _ (hrp.below (undrew hb1)) (by omega)).mono ?_
    rintro e w2 ⟨A2, c2', rfl, ho2, hb2⟩
    rw [HP.out] at ho2 ⊢
    go_wp2
    go_ret2
    exact ⟨A2, c2', rfl, ho2.mono (undrew hb1).size, bthen (undrew hb1) hb2⟩

theorem open_any (A : Option Addr) (n c : Nat) (l : List UInt8) (w : World) (h : Rd w A n c l) (hm : n ≤ 65536) :
    Calls Try.prog 11 #[.slice A n c] w (OpensTo w (opened l) (openCode l)) := by
  have hl := h.1
  by_cases h4 : l.length < 4
  · unfold opened openCode
    rw [if_pos h4, if_pos h4]
    exact open_short A n c l w h (by omega)
  · obtain ⟨k, rfl⟩ : ∃ k, n = k + 4 := ⟨n - 4, by omega⟩
    obtain ⟨p, x0, x1, x2, x3, hp, hlp⟩ := split4 l k hl
    have ht : l.take (l.length - 4) = p := by rw [hl, hlp, Nat.add_sub_cancel]; exact List.take_left' hp
    unfold opened openCode
    rw [if_neg h4, if_neg h4, ht]
    by_cases hs : l = Crc.sealB p
    · rw [if_pos hs, if_pos hs]
      rw [hs] at h
      refine (open_good A k c p w h hm hp).mono ?_
      rintro e w' ⟨A', c', rfl, ho, hb⟩
      subst hp
      exact ⟨A', c', rfl, ho.same, hb⟩
    · rw [if_neg hs, if_neg hs]
      rw [hlp] at h
      refine (open_bad A k c p x0 x1 x2 x3 w h hm hp (fun e => hs (by rw [hlp, e]; rfl))).mono ?_
      rintro e w' ⟨rfl, hb⟩
      exact ⟨none, 0, rfl, Rd.nil_ _, hb⟩
end Go.Proofs.Ytmlldjfclabdkaa
