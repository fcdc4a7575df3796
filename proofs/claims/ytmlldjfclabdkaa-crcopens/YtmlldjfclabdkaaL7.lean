/- The walk of CrcOpens: it returns true, for every slice of bytes. -/
import Derived.Test.YtmlldjfclabdkaaT4
import Derived.IntWalk
namespace Go.Proofs.Ytmlldjfclabdkaa
open Go.RowKit
set_option linter.unusedVariables false

theorem opens_out (A : Option Addr) (n c : Nat) (w : World) (h : 2000 < n) :
    Calls Try.prog 9 #[.slice A n c] w (Yes w) := by
  go_enter Try.func9, Try.ntmps9
  go_wp2_with fail
  with_reducible refine (shown_any _).mono ?_
  rintro e w1 ⟨rfl, hb1⟩
  have q1 : decide ((2000 : Int) < (n : Int)) = true := by simp; omega
  go_wp2
  go_ret
  exact ⟨rfl, hb1⟩

theorem opens_short (A : Option Addr) (n c : Nat) (x : List UInt8) (w : World) (hx : Rd w A n c x) (h : n < 4) :
    Calls Try.prog 9 #[.slice A n c] w (Yes w) := by
  have q1 : decide ((2000 : Int) < (n : Int)) = false := by simp; omega
  have q2 : decide ((n : Int) < 4) = true := by simp; omega
  go_enter Try.func9, Try.ntmps9
  go_wp2_with fail
  with_reducible refine (shown_any _).mono ?_
  rintro e w1 ⟨rfl, hb1⟩
  go_wp2_with fail
  with_reducible refine (open_short _ _ _ x _ (hx.below hb1) h).mono ?_
  rintro e w2 ⟨A2, c2, rfl, hr2, hb2⟩
  go_wp2
  go_ret
  exact ⟨rfl, bthen hb1 hb2⟩

set_option maxHeartbeats 1000000 in
theorem opens_good (A : Option Addr) (k c : Nat) (p : List UInt8) (w : World) (hx : Rd w A (k + 4) c (Crc.sealB p)) (hp : p.length = k) (h : k + 4 ≤ 2000) :
    Calls Try.prog 9 #[.slice A (k + 4 : Nat) c] w (Yes w) := by
  have q1 : decide ((2000 : Int) < (k : Int) + 4) = false := by simp; omega
  have q2 : decide ((k : Int) + 4 < 4) = false := by simp; omega
  have hc := hx.2.1
  have hrp : Rd w A k c p := by
    have := hx.take (k := k) (by omega)
    unfold Crc.sealB at this
    rwa [List.take_left' hp] at this
  have HP := hidT hp
  go_enter Try.func9, Try.ntmps9
  go_wp2_with fail
  with_reducible refine (shown_any _).mono ?_
  rintro e w1 ⟨rfl, hb1⟩
  go_wp2_with fail
  with_reducible refine (open_good _ _ _ p _ (hx.below hb1) (by omega) hp).mono ?_
  rintro e w2 ⟨A2, c2, rfl, ho2, hb2⟩
  have hb12 := bthen hb1 hb2
  have s0 := strs (hx.below hb12)
  have s1 := strs (hrp.below hb12)
  have s2 := strs ho2.same
  have hr2 := hrp.below hb12
  clear hp hb1 hb2 ho2 hrp hx
  have q3 : (0 : Int) ≤ (k : Int) := by omega
  have q4 : (k : Int) ≤ (c : Int) := by omega
  have w0 : IntKind.i64.wrap ((k : Int)) = (k : Int) := IntWalk.i64_in _ (by omega)
  have w4 : IntKind.i64.wrap ((k : Int) + 4 - 4) = (k : Int) := by rw [IntWalk.i64_in _ (by omega)]; omega
  go_wp2
  go_region_held (fun w' => Below w2.heap.size w2 w')
    (first | exact (Below.refl _ _).drew | exact undrew hb3)
    (first | (go_at_call 15; ((with_reducible refine (seal_any _ _ _ p _ hr2.drew (by omega)).mono ?_); rintro e w3 ⟨A3, c3, rfl, ho3, hb3⟩; have s4 := strs ho3.same w3 (Below.refl _ _))))
  have hb3' := undrew hb3
  have s0' := later s0 hb3'
  have s1' := later s1 hb3'
  have s2' := later s2 hb3'
  clear s0 s1 s2 s4 hb3 ho3
  go_wp2
  have hdn := drawn_below w3
  go_quiet (fail)
  go_wp2
  go_ret
  exact ⟨rfl, bthen hb12 (bthen hb3' (hdn _))⟩

set_option maxHeartbeats 1000000 in
theorem opens_bad (A : Option Addr) (k c : Nat) (p : List UInt8) (x0 x1 x2 x3 : UInt8) (w : World) (hx : Rd w A (k + 4) c (p ++ [x0, x1, x2, x3])) (hp : p.length = k) (h : k + 4 ≤ 2000) (hne : [x0, x1, x2, x3] ≠ Crc.le4 (Crc.sum p)) :
    Calls Try.prog 9 #[.slice A (k + 4 : Nat) c] w (Yes w) := by
  have q1 : decide ((2000 : Int) < (k : Int) + 4) = false := by simp; omega
  have q2 : decide ((k : Int) + 4 < 4) = false := by simp; omega
  have hc := hx.2.1
  have hrp : Rd w A k c p := by
    have := hx.take (k := k) (by omega)
    rwa [List.take_left' hp] at this
  have HP := hidT hp
  go_enter Try.func9, Try.ntmps9
  go_wp2_with fail
  with_reducible refine (shown_any _).mono ?_
  rintro e w1 ⟨rfl, hb1⟩
  go_wp2_with fail
  with_reducible refine (open_bad _ _ _ p x0 x1 x2 x3 _ (hx.below hb1) (by omega) hp hne).mono ?_
  rintro e w2 ⟨rfl, hb2⟩
  have hb12 := bthen hb1 hb2
  have s0 := strs (hx.below hb12)
  have s1 := strs (hrp.below hb12)
  have hr2 := hrp.below hb12
  have hso : ((str (Crc.sealB p)).toList == (str (p ++ [x0, x1, x2, x3])).toList) = false := str_other (fun e => hne (List.append_cancel_left e.symm))
  clear hp hb1 hb2 hrp hx hne
  have q3 : (0 : Int) ≤ (k : Int) := by omega
  have q4 : (k : Int) ≤ (c : Int) := by omega
  have w0 : IntKind.i64.wrap ((k : Int)) = (k : Int) := IntWalk.i64_in _ (by omega)
  have w4 : IntKind.i64.wrap ((k : Int) + 4 - 4) = (k : Int) := by rw [IntWalk.i64_in _ (by omega)]; omega
  go_wp2
  go_region_held (fun w' => Below w2.heap.size w2 w')
    (first | exact (Below.refl _ _).drew | exact undrew hb3)
    (first | (go_at_call 15; ((with_reducible refine (seal_any _ _ _ p _ hr2.drew (by omega)).mono ?_); rintro e w3 ⟨A3, c3, rfl, ho3, hb3⟩; have s4 := strs ho3.same w3 (Below.refl _ _))))
  have hb3' := undrew hb3
  have s0' := later s0 hb3'
  have s1' := later s1 hb3'
  clear s0 s1 s4 hb3 ho3
  go_wp2
  have hdn := drawn_below w3
  go_quiet (fail)
  go_wp2
  go_ret
  exact ⟨rfl, bthen hb12 (bthen hb3' (hdn _))⟩

theorem opens_any (A : Option Addr) (n c : Nat) (x : List UInt8) (w : World) (hx : Rd w A n c x) :
    Calls Try.prog 9 #[.slice A n c] w (Yes w) := by
  by_cases h : 2000 < n
  · exact opens_out A n c w h
  · by_cases h4 : n < 4
    · exact opens_short A n c x w hx h4
    · obtain ⟨k, rfl⟩ : ∃ k, n = k + 4 := ⟨n - 4, by omega⟩
      obtain ⟨p, x0, x1, x2, x3, hp, rfl⟩ := split4 x k hx.1
      by_cases hs : [x0, x1, x2, x3] = Crc.le4 (Crc.sum p)
      · rw [hs] at hx
        exact opens_good A k c p w hx hp (by omega)
      · exact opens_bad A k c p x0 x1 x2 x3 w hx hp (by omega) hs
end Go.Proofs.Ytmlldjfclabdkaa
