/- The walk of CrcGoes: it returns true, for every three slices of bytes. -/
import Derived.Test.YtmlldjfclabdkaaT4
namespace Go.Proofs.Ytmlldjfclabdkaa
open Go.RowKit
set_option linter.unusedVariables false

theorem goes_big (A : Option Addr) (n c : Nat) (B : Option Addr) (m d : Nat) (C : Option Addr) (k f : Nat) (w : World)
    (h : 600 < n ∨ 600 < m ∨ 600 < k) :
    Calls Try.prog 8 #[.slice A n c, .slice B m d, .slice C k f] w (Yes w) := by
  go_enter Try.func8, Try.ntmps8
  go_wp2_with fail
  with_reducible refine (shown_any _).mono ?_
  rintro e w1 ⟨rfl, hb1⟩
  by_cases h1 : 600 < n
  · have q1 : decide ((600 : Int) < (n : Int)) = true := by simp; omega
    go_wp2
    go_ret
    exact ⟨rfl, hb1⟩
  · have q1 : decide ((600 : Int) < (n : Int)) = false := by simp; omega
    by_cases h2 : 600 < m
    · have q2 : decide ((600 : Int) < (m : Int)) = true := by simp; omega
      go_wp2
      go_ret
      exact ⟨rfl, hb1⟩
    · have q2 : decide ((600 : Int) < (m : Int)) = false := by simp; omega
      have q3 : decide ((600 : Int) < (k : Int)) = true := by simp; omega
      go_wp2
      go_ret
      exact ⟨rfl, hb1⟩

set_option maxHeartbeats 1000000 in
theorem goes_small (A : Option Addr) (n c : Nat) (B : Option Addr) (m d : Nat) (C : Option Addr) (k f : Nat) (x y z : List UInt8) (w : World)
    (hx : Rd w A n c x) (hy : Rd w B m d y) (hz : Rd w C k f z) (h1 : n ≤ 600) (h2 : m ≤ 600) (h3 : k ≤ 600) :
    Calls Try.prog 8 #[.slice A n c, .slice B m d, .slice C k f] w (Yes w) := by
  have q1 : decide ((600 : Int) < (n : Int)) = false := by simp; omega
  have q2 : decide ((600 : Int) < (m : Int)) = false := by simp; omega
  have q3 : decide ((600 : Int) < (k : Int)) = false := by simp; omega
  go_enter Try.func8, Try.ntmps8
  go_wp2_with fail
  with_reducible refine (shown_any _).mono ?_
  rintro e w1 ⟨rfl, hb1⟩
  have hx1 := hx.below hb1
  have hy1 := hy.below hb1
  have hz1 := hz.below hb1
  clear hx hy hz
  go_wp2_with (first
    | (at_builtin
       refine wpList_app rfl (.tmp 25) (.tmp 26) 22 rfl w1.heap.size 5 info5 Try.underlying22 (.slice (some ⟨w1.heap.size, 0, none⟩) 0 0) 0 [] rfl ?_ A n c x rfl (hx1.alloc _) (by omega) (by simp) ?_
       · exact World.ownsRow_made (base := w1.heap.size) (e := 5) (size := 1) w1 #[] 0 (Nat.le_refl _) (Nat.zero_le _) rfl
       intro v2 w2 hown2 hb2'
       have hb2 := ((Below.refl w1.heap.size w1).alloc (Nat.le_refl _) (.cells #[] 5)).trans hb2'
       clear hb2')
    | (at_builtin
       refine wpList_app rfl (.tmp 27) (.tmp 28) 22 rfl w1.heap.size 5 info5 Try.underlying22 v2 (0 + n) ([] ++ x) rfl hown2 C k f z rfl (hz1.below hb2) (by omega) hb2.size ?_
       intro v3 w3 hown3 hb3))
  with_reducible refine (sum_own hown3).mono ?_
  rintro e w3' ⟨rfl, rfl⟩
  have hy3 := hy1.below (hb2.trans hb3)
  have hz3 := hz1.below (hb2.trans hb3)
  have hx3 := hx1.below (hb2.trans hb3)
  have hb13 := bthen hb1 (hb2.trans hb3)
  clear hx1 hy1 hz1 hb1 hown2 hown3 hb2 hb3
  go_wp2_with (first
    | (at_builtin
       refine wpList_app rfl (.tmp 31) (.tmp 32) 22 rfl w3.heap.size 5 info5 Try.underlying22 (.slice (some ⟨w3.heap.size, 0, none⟩) 0 0) 0 [] rfl ?_ B m d y rfl (hy3.alloc _) (by omega) (by simp) ?_
       · exact World.ownsRow_made (base := w3.heap.size) (e := 5) (size := 1) w3 #[] 0 (Nat.le_refl _) (Nat.zero_le _) rfl
       intro v4 w4 hown4 hb4'
       have hb4 := ((Below.refl w3.heap.size w3).alloc (Nat.le_refl _) (.cells #[] 5)).trans hb4'
       clear hb4')
    | (at_builtin
       refine wpList_app rfl (.tmp 33) (.tmp 34) 22 rfl w3.heap.size 5 info5 Try.underlying22 v4 (0 + m) ([] ++ y) rfl hown4 C k f z rfl (hz3.below hb4) (by omega) hb4.size ?_
       intro v5 w5 hown5 hb5))
  with_reducible refine (sum_own hown5).mono ?_
  rintro e w5' ⟨rfl, rfl⟩
  have hx5 := hx3.below (hb4.trans hb5)
  have hy5 := hy3.below (hb4.trans hb5)
  have hb15 := bthen hb13 (hb4.trans hb5)
  clear hx3 hy3 hz3 hb13 hown4 hown5 hb4 hb5
  simp only [List.nil_append]
  go_wp2_with fail
  with_reducible refine (sum_any _ _ _ x _ hx5).mono ?_
  rintro e w5' ⟨rfl, rfl⟩
  go_wp2_with fail
  with_reducible refine (sum_any _ _ _ y _ hy5).mono ?_
  rintro e w5' ⟨rfl, rfl⟩
  have hg := Crc.goes x y z
  by_cases he : Crc.sum x = Crc.sum y
  · have e1 : ((Crc.sum x : Int) == (Crc.sum y : Int)) = true := by rw [he]; simp
    have e2 : ((Crc.sum (x ++ z) : Int) == (Crc.sum (y ++ z) : Int)) = true := by rw [hg.1 he]; simp
    clear hg he
    go_wp2
    go_ret
    exact ⟨rfl, hb15⟩
  · have e1 : ((Crc.sum x : Int) == (Crc.sum y : Int)) = false := by rw [beq_eq_false_iff_ne]; omega
    have e2 : ((Crc.sum (x ++ z) : Int) == (Crc.sum (y ++ z) : Int)) = false := by
      rw [beq_eq_false_iff_ne]
      intro hh
      exact he (hg.2 (by omega))
    clear hg he
    go_wp2
    go_ret
    exact ⟨rfl, hb15⟩

theorem goes_any (A : Option Addr) (n c : Nat) (B : Option Addr) (m d : Nat) (C : Option Addr) (k f : Nat) (x y z : List UInt8) (w : World)
    (hx : Rd w A n c x) (hy : Rd w B m d y) (hz : Rd w C k f z) :
    Calls Try.prog 8 #[.slice A n c, .slice B m d, .slice C k f] w (Yes w) := by
  by_cases h : 600 < n ∨ 600 < m ∨ 600 < k
  · exact goes_big A n c B m d C k f w h
  · exact goes_small A n c B m d C k f x y z w hx hy hz (by omega) (by omega) (by omega)
end Go.Proofs.Ytmlldjfclabdkaa
