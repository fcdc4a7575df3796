/- What place comes to, by whether an entry is a message, and by its number. -/
import Derived.Test.YtmlmkkfieeaejaaLn1
set_option maxRecDepth 100000
namespace Go.Proofs.Ytmlmkkfieeaejaa
open Go.RowKit
set_option linter.unusedVariables false

set_option maxHeartbeats 1000000 in
theorem placeB_any (A : Option Addr) (n c : Nat) {S : Nat → Prop} (xs : List Lane.En) (t : Bool) (w : World) (h : RdE S w A n c xs) :
    Calls Try.prog 44 #[.slice A n c, .func (.func 45) #[] #[], .bool t] w (IntIs w (xs.findIdx (fun y : Lane.En => Lane.isMsg y == t) : Nat)) := by
  have hle := h.le
  have hlen := h.size
  obtain ⟨v, HV⟩ : ∃ v : Nat, Hid (xs.findIdx (fun y : Lane.En => Lane.isMsg y == t) = v) := ⟨_, rfl⟩
  rw [HV.out]
  have H := hidT h
  clear h
  go_enter Try.func44, Try.ntmps44
  go_wp2
  go_loopw [11] (fun i wr => ∃ j : Nat, j ≤ n ∧ i = .int .i64 j ∧ Hid (∀ i y, i < j → xs[i]? = some y → (fun y : Lane.En => Lane.isMsg y == t) y = false) ∧ Hid (Below w.heap.size w wr)) (fun i _ => n - (intOf i).toNat)
  case atStart => exact ⟨0, Nat.zero_le _, rfl, hidT (fun i y hi => absurd hi (by omega)), hidT (Below.refl _ _)⟩
  case round =>
    obtain ⟨j, hj, rfl, HN, HB⟩ := hrel
    by_cases hjn : j < n
    · obtain ⟨b, o, x, BA, bn, bc, LA, ln, lc, rfl, hx, _, _, _, _, hcs⟩ := H.out.told hjn
      obtain ⟨c0, c1, c2, c3, c4⟩ := hcs wr HB.out
      have y4 := alloc_at wr (.cells #[.int .i64 x.k, .int .i64 x.q, .slice BA bn bc, .slice LA ln lc, .bool x.h] 33) _ rfl
      have n4 := nkeep wr (.cells #[.int .i64 x.k, .int .i64 x.q, .slice BA bn bc, .slice LA ln lc, .bool x.h] 33)
      obtain ⟨f0, f1, f2, f3, f4⟩ := cells5 y4
      have x1 : (0 : Int) ≤ (j : Int) := by omega
      have x2 : (j : Int) < (n : Int) := by omega
      have HX := hidT hx
      have N4 := hidT n4
      clear hcs hx y4 n4
      cases hp : (fun y : Lane.En => Lane.isMsg y == t) x with
      | true =>
        have hv := HV.out
        rw [idx_at HN.out HX.out hp] at hv
        have HVV := hidT hv
        obtain ⟨u, hu⟩ : ∃ u, Lane.isMsg x = u := ⟨_, rfl⟩
        have q : (u == t) = true := by rw [← hu]; exact hp
        have hcl := isMessage_any x BA bn bc LA ln lc (wr.alloc (.cells #[.int .i64 x.k, .int .i64 x.q, .slice BA bn bc, .slice LA ln lc, .bool x.h] 33)) u hu
        clear hu
        clear hv hp
        go_wp2_with fail
        with_reducible refine hcl.mono ?_
        rintro e w5 ⟨rfl, hb5⟩
        go_wp2
        go_ret
        exact ⟨by rw [← HVV.out]; rfl, bthen HB.out (bthen N4.out hb5)⟩
      | false =>
        obtain ⟨u, hu⟩ : ∃ u, Lane.isMsg x = u := ⟨_, rfl⟩
        have q : (u == t) = false := by rw [← hu]; exact hp
        have hcl := isMessage_any x BA bn bc LA ln lc (wr.alloc (.cells #[.int .i64 x.k, .int .i64 x.q, .slice BA bn bc, .slice LA ln lc, .bool x.h] 33)) u hu
        clear hu
        have HPX := hidT hp
        clear hp
        go_wp2_with fail
        with_reducible refine hcl.mono ?_
        rintro e w5 ⟨rfl, hb5⟩
        have HB5 := hidT (bthen HB.out (bthen N4.out hb5))
        clear hb5 c0 c1 c2 c3 c4 f0 f1 f2 f3 f4 hcl
        go_wp2
        refine ⟨⟨j + 1, by omega, by go_num, hidT (fun i y hi hy => ?_), HB5⟩, by simp [intOf]; omega⟩
        by_cases hij : i = j
        · subst hij
          rw [HX.out] at hy
          injection hy with hy
          subst hy
          exact HPX.out
        · exact HN.out i y (by omega) hy
    · obtain rfl : n = j := by omega
      have hv := HV.out
      rw [idx_none (fun i y hi hy => HN.out i y (by omega) hy), hlen] at hv
      have HVV := hidT hv
      clear hv
      go_wp2
      go_ret
      exact ⟨by rw [← HVV.out]; rfl, HB.out⟩

set_option maxHeartbeats 1000000 in
theorem placeI_any (A : Option Addr) (n c : Nat) {S : Nat → Prop} (xs : List Lane.En) (s : Int) (w : World) (h : RdE S w A n c xs) :
    Calls Try.prog 55 #[.slice A n c, .func (.func 46) #[] #[], .int .i64 s] w (IntIs w (xs.findIdx (fun y : Lane.En => decide (y.q = s)) : Nat)) := by
  have hle := h.le
  have hlen := h.size
  obtain ⟨v, HV⟩ : ∃ v : Nat, Hid (xs.findIdx (fun y : Lane.En => decide (y.q = s)) = v) := ⟨_, rfl⟩
  rw [HV.out]
  have H := hidT h
  clear h
  go_enter Try.func55, Try.ntmps55
  go_wp2
  go_loopw [11] (fun i wr => ∃ j : Nat, j ≤ n ∧ i = .int .i64 j ∧ Hid (∀ i y, i < j → xs[i]? = some y → (fun y : Lane.En => decide (y.q = s)) y = false) ∧ Hid (Below w.heap.size w wr)) (fun i _ => n - (intOf i).toNat)
  case atStart => exact ⟨0, Nat.zero_le _, rfl, hidT (fun i y hi => absurd hi (by omega)), hidT (Below.refl _ _)⟩
  case round =>
    obtain ⟨j, hj, rfl, HN, HB⟩ := hrel
    by_cases hjn : j < n
    · obtain ⟨b, o, x, BA, bn, bc, LA, ln, lc, rfl, hx, _, _, _, _, hcs⟩ := H.out.told hjn
      obtain ⟨c0, c1, c2, c3, c4⟩ := hcs wr HB.out
      have y4 := alloc_at wr (.cells #[.int .i64 x.k, .int .i64 x.q, .slice BA bn bc, .slice LA ln lc, .bool x.h] 33) _ rfl
      have n4 := nkeep wr (.cells #[.int .i64 x.k, .int .i64 x.q, .slice BA bn bc, .slice LA ln lc, .bool x.h] 33)
      obtain ⟨f0, f1, f2, f3, f4⟩ := cells5 y4
      have x1 : (0 : Int) ≤ (j : Int) := by omega
      have x2 : (j : Int) < (n : Int) := by omega
      have HX := hidT hx
      have N4 := hidT n4
      clear hcs hx y4 n4
      cases hp : (fun y : Lane.En => decide (y.q = s)) x with
      | true =>
        have hv := HV.out
        rw [idx_at HN.out HX.out hp] at hv
        have HVV := hidT hv
        have q : (x.q == s) = true := by simpa using hp
        have hcl := number_any x BA bn bc LA ln lc (wr.alloc (.cells #[.int .i64 x.k, .int .i64 x.q, .slice BA bn bc, .slice LA ln lc, .bool x.h] 33))
        clear hv hp
        go_wp2_with fail
        with_reducible refine hcl.mono ?_
        rintro e w5 ⟨rfl, hb5⟩
        go_wp2
        go_ret
        exact ⟨by rw [← HVV.out]; rfl, bthen HB.out (bthen N4.out hb5)⟩
      | false =>
        have q : (x.q == s) = false := by simpa using hp
        have hcl := number_any x BA bn bc LA ln lc (wr.alloc (.cells #[.int .i64 x.k, .int .i64 x.q, .slice BA bn bc, .slice LA ln lc, .bool x.h] 33))
        have HPX := hidT hp
        clear hp
        go_wp2_with fail
        with_reducible refine hcl.mono ?_
        rintro e w5 ⟨rfl, hb5⟩
        have HB5 := hidT (bthen HB.out (bthen N4.out hb5))
        clear hb5 c0 c1 c2 c3 c4 f0 f1 f2 f3 f4 hcl
        go_wp2
        refine ⟨⟨j + 1, by omega, by go_num, hidT (fun i y hi hy => ?_), HB5⟩, by simp [intOf]; omega⟩
        by_cases hij : i = j
        · subst hij
          rw [HX.out] at hy
          injection hy with hy
          subst hy
          exact HPX.out
        · exact HN.out i y (by omega) hy
    · obtain rfl : n = j := by omega
      have hv := HV.out
      rw [idx_none (fun i y hi hy => HN.out i y (by omega) hy), hlen] at hv
      have HVV := hidT hv
      clear hv
      go_wp2
      go_ret
      exact ⟨by rw [← HVV.out]; rfl, HB.out⟩
end Go.Proofs.Ytmlmkkfieeaejaa
