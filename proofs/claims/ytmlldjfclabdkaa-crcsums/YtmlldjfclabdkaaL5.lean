/- The walk of CrcSums: it returns true, for every three slices of bytes. -/
import Derived.Test.YtmlldjfclabdkaaT4
namespace Go.Proofs.Ytmlldjfclabdkaa
open Go.RowKit
set_option linter.unusedVariables false

theorem sums_out (A : Option Addr) (n c : Nat) (B : Option Addr) (m d : Nat) (C : Option Addr) (k f : Nat) (w : World)
    (h : 2000 < n ∨ m ≠ n ∨ k ≠ n) :
    Calls Try.prog 7 #[.slice A n c, .slice B m d, .slice C k f] w (Yes w) := by
  go_enter Try.func7, Try.ntmps7
  go_wp2_with fail
  with_reducible refine (shown_any _).mono ?_
  rintro e w1 ⟨rfl, hb1⟩
  by_cases h1 : 2000 < n
  · have q1 : decide ((2000 : Int) < (n : Int)) = true := by simp; omega
    go_wp2
    go_ret
    exact ⟨rfl, hb1⟩
  · have q1 : decide ((2000 : Int) < (n : Int)) = false := by simp; omega
    by_cases h2 : m ≠ n
    · have q2 : ((m : Int) != (n : Int)) = true := by rw [bne_iff_ne]; omega
      go_wp2
      go_ret
      exact ⟨rfl, hb1⟩
    · have q2 : ((m : Int) != (n : Int)) = false := by rw [bne_eq_false_iff_eq]; omega
      have q3 : ((k : Int) != (n : Int)) = true := by rw [bne_iff_ne]; omega
      go_wp2
      go_ret
      exact ⟨rfl, hb1⟩

set_option maxHeartbeats 1000000 in
theorem sums_in (A : Option Addr) (n c : Nat) (B : Option Addr) (d : Nat) (C : Option Addr) (f : Nat) (x y z : List UInt8) (w : World)
    (hx : Rd w A n c x) (hy : Rd w B n d y) (hz : Rd w C n f z) (h1 : n ≤ 2000) :
    Calls Try.prog 7 #[.slice A n c, .slice B n d, .slice C n f] w (Yes w) := by
  have q1 : decide ((2000 : Int) < (n : Int)) = false := by simp; omega
  have q2 : ((n : Int) != (n : Int)) = false := by simp
  go_enter Try.func7, Try.ntmps7
  go_wp2_with fail
  with_reducible refine (shown_any _).mono ?_
  rintro e w1 ⟨rfl, hb1⟩
  have hx1 := hx.below hb1
  have hy1 := hy.below hb1
  have hz1 := hz.below hb1
  have lx := hidT hx.1
  have ly := hidT hy.1
  have lz := hidT hz.1
  clear hx hy hz
  go_wp2
  go_loopw [8, 9] (fun v i wr => ∃ k : Nat, k ≤ n ∧ i = .int .i64 k ∧ Own wr w1.heap.size 5 v k (Crc.xorB (Crc.xorB (x.take k) (y.take k)) (z.take k)) ∧ Below w1.heap.size w1 wr) (fun _ i _ => n - (intOf i).toNat)
  case atStart => exact ⟨0, Nat.zero_le _, rfl, World.ownsRow_nil _ _ _ _, Below.refl _ _⟩
  case round =>
    obtain ⟨k, hk, rfl, hown, hbel⟩ := hrel
    by_cases hkn : k < n
    · obtain ⟨bx, ox, rfl, cx⟩ := hx1.at_ (by omega)
      obtain ⟨by_, oy, rfl, cy⟩ := hy1.at_ (by omega)
      obtain ⟨bz, oz, rfl, cz⟩ := hz1.at_ (by omega)
      obtain ⟨p, hp, hcp⟩ := cx k hkn
      obtain ⟨q, hq, hcq⟩ := cy k hkn
      obtain ⟨r, hr, hcr⟩ := cz k hkn
      clear cx cy cz
      have HX : Hid (bits .xor .u8 (bits .xor .u8 (p.toNat : Int) (q.toNat : Int)) (r.toNat : Int) = (((p ^^^ q) ^^^ r).toNat : Int)) := by
        rw [u8_xor_nat _ _ (Crc.byte_lt p) (Crc.byte_lt q), ← UInt8.toNat_xor, u8_xor_nat _ _ (Crc.byte_lt _) (Crc.byte_lt r), UInt8.toNat_xor (p ^^^ q)]; rfl
      have HS : Hid (Crc.xorB (Crc.xorB (x.take (k + 1)) (y.take (k + 1))) (z.take (k + 1)) = Crc.xorB (Crc.xorB (x.take k) (y.take k)) (z.take k) ++ [(p ^^^ q) ^^^ r]) := by
        rw [Crc.xorB_take, Crc.xorB_snoc _ z k (p ^^^ q) r (by rw [Crc.xorB_get, hp, hq]) hr, ← Crc.xorB_take]; rfl
      have t1 : (0 : Int) ≤ (k : Int) := by omega
      have t2 : (k : Int) < (n : Int) := by omega
      have fp : ∀ w', Below w1.heap.size w1 w' → w'.cell? ⟨bx, ox + k, none⟩ = some (.int .u8 (p.toNat : Int)) := fun w' h => (h.cell (World.block_lt_of_cell? _ _ hcp)).trans hcp
      have fq : ∀ w', Below w1.heap.size w1 w' → w'.cell? ⟨by_, oy + k, none⟩ = some (.int .u8 (q.toNat : Int)) := fun w' h => (h.cell (World.block_lt_of_cell? _ _ hcq)).trans hcq
      have fr : ∀ w', Below w1.heap.size w1 w' → w'.cell? ⟨bz, oz + k, none⟩ = some (.int .u8 (r.toNat : Int)) := fun w' h => (h.cell (World.block_lt_of_cell? _ _ hcr)).trans hcr
      have hsz := hbel.size
      clear hp hq hr hcp hcq hcr
      go_wp2
      go_region_held3 (fun w' => Below w1.heap.size w1 w')
        (first | exact hbel.drew | exact (hbel.alloc hsz _).drew | exact (hbel.alloc hsz _).drew.trans hb9)
        (first | (refine step_app rfl (.tmp 35) (.tmp 50) 22 rfl w1.heap.size 5 info5 Try.underlying22 u8 k _ rfl (World.ownsRow.alloc hown _) _ 1 1 [(p ^^^ q) ^^^ r] rfl ?_ (by omega) ?_ ?_
                  · exact Rd.lit _ _ _ _ _ (by rw [HX.out]; rfl) 1 rfl (by decide)
                  · have := hbel.size; simp; omega
                  intro v9 w9 ho9 hb9))
      go_wp2
      refine ⟨⟨k + 1, by omega, by go_num, ?_, (hbel.alloc hsz _).drew.trans hb9⟩, by simp [intOf]; omega⟩
      rw [HS.out]
      exact ho9
    · have hkk : k = n := by omega
      subst hkk
      have HT : Hid (Crc.xorB (Crc.xorB (x.take k) (y.take k)) (z.take k) = Crc.xorB (Crc.xorB x y) z) := by
        rw [List.take_of_length_le (by rw [lx.out]; omega), List.take_of_length_le (by rw [ly.out]; omega), List.take_of_length_le (by rw [lz.out]; omega)]; rfl
      rw [HT.out] at hown
      have HE : ((Crc.sum (Crc.xorB (Crc.xorB x y) z) : Int) == bits .xor .u32 (bits .xor .u32 (Crc.sum x : Int) (Crc.sum y : Int)) (Crc.sum z : Int)) = true := by
        rw [u32_xor_nat _ _ (Crc.sum_lt x) (Crc.sum_lt y), u32_xor_nat _ _ (Crc.xor_lt (Crc.sum_lt x) (Crc.sum_lt y)) (Crc.sum_lt z), Crc.sums3 x y z (by rw [lx.out, ly.out]) (by rw [lx.out, lz.out])]
        simp
      have hx2 := hx1.below hbel
      have hy2 := hy1.below hbel
      have hz2 := hz1.below hbel
      clear HT hx1 hy1 hz1
      go_wp2_with fail
      with_reducible refine (sum_own hown).mono ?_
      rintro e w2 ⟨rfl, rfl⟩
      go_wp2_with fail
      with_reducible refine (sum_any _ _ _ x _ hx2).mono ?_
      rintro e w2 ⟨rfl, rfl⟩
      go_wp2_with fail
      with_reducible refine (sum_any _ _ _ y _ hy2).mono ?_
      rintro e w2 ⟨rfl, rfl⟩
      go_wp2_with fail
      with_reducible refine (sum_any _ _ _ z _ hz2).mono ?_
      rintro e w2 ⟨rfl, rfl⟩
      go_wp2_with fail
      with_reducible refine (seal_any _ _ _ x _ hx2 (by omega)).mono ?_
      rintro e w3 ⟨A3, c3, rfl, ho3, hb3⟩
      go_wp2_with fail
      with_reducible refine (sum_own ho3).mono ?_
      rw [Crc.sum_seal]
      rintro e w4 ⟨rfl, rfl⟩
      go_wp2
      go_ret
      exact ⟨rfl, bthen (bthen hb1 hbel) hb3⟩

theorem sums_any (A : Option Addr) (n c : Nat) (B : Option Addr) (m d : Nat) (C : Option Addr) (k f : Nat) (x y z : List UInt8) (w : World)
    (hx : Rd w A n c x) (hy : Rd w B m d y) (hz : Rd w C k f z) :
    Calls Try.prog 7 #[.slice A n c, .slice B m d, .slice C k f] w (Yes w) := by
  by_cases h : 2000 < n ∨ m ≠ n ∨ k ≠ n
  · exact sums_out A n c B m d C k f w h
  · have h1 : m = n := by omega
    have h2 : k = n := by omega
    subst h1
    subst h2
    exact sums_in A _ c B d C f x y z w hx hy hz (by omega)
end Go.Proofs.Ytmlldjfclabdkaa
