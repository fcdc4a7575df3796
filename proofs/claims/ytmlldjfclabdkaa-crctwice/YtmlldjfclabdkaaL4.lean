/- The walk of CrcTwice: it returns true, for every two slices of bytes and every int. -/
import Derived.Test.YtmlldjfclabdkaaT4
import Derived.IntWalk
namespace Go.Proofs.Ytmlldjfclabdkaa
open Go.RowKit
set_option linter.unusedVariables false

theorem twice_out (A : Option Addr) (n c : Nat) (at_ : Int) (B : Option Addr) (m d : Nat) (w : World) (h : 2000 < n ∨ 2000 < m) :
    Calls Try.prog 6 #[.slice A n c, .int .i64 at_, .slice B m d] w (Yes w) := by
  go_enter Try.func6, Try.ntmps6
  go_wp2_with fail
  with_reducible refine (shown_any _).mono ?_
  rintro e w1 ⟨rfl, hb1⟩
  by_cases h1 : 2000 < n
  · have q1 : decide ((2000 : Int) < (n : Int)) = true := by simp; omega
    go_wp2
    go_ret
    exact ⟨rfl, hb1⟩
  · have q1 : decide ((2000 : Int) < (n : Int)) = false := by simp; omega
    have q2 : decide ((2000 : Int) < (m : Int)) = true := by simp; omega
    go_wp2
    go_ret
    exact ⟨rfl, hb1⟩

/-- A byte of a slice, in every later world. -/
theorem cells_later {w : World} {b o n c : Nat} {l : List UInt8} (h : Rd w (some ⟨b, o, none⟩) n c l) {k : Nat} {x : UInt8} (hx : l[k]? = some x) :
    ∀ w', Below w.heap.size w w' → w'.cell? ⟨b, o + k, none⟩ = some (.int .u8 (x.toNat : Int)) := by
  intro w' hb
  have hk : k < l.length := by
    rcases Nat.lt_or_ge k l.length with h | h
    · exact h
    · rw [List.getElem?_eq_none h] at hx; cases hx
  obtain ⟨b', o', hA, hc⟩ := h.2.2.2.2 (by have := h.1; omega)
  injection hA with hA
  injection hA with e1 e2
  subst e1; subst e2
  have := hc k x hx
  exact (hb.cell (World.block_lt_of_cell? _ _ this)).trans this

set_option maxHeartbeats 2000000 in
theorem twice_in (A : Option Addr) (n c : Nat) (at_ : Int) (B : Option Addr) (m d : Nat) (x y : List UInt8) (w : World)
    (hx : Rd w A n c x) (hy : Rd w B m d y) (h1 : n ≤ 2000) (h2 : m ≤ 2000) :
    Calls Try.prog 6 #[.slice A n c, .int .i64 at_, .slice B m d] w (Yes w) := by
  have q1 : decide ((2000 : Int) < (n : Int)) = false := by simp; omega
  have q2 : decide ((2000 : Int) < (m : Int)) = false := by simp; omega
  have lx := hidT hx.1
  go_enter Try.func6, Try.ntmps6
  go_wp2_with fail
  with_reducible refine (shown_any _).mono ?_
  rintro e w1 ⟨rfl, hb1⟩
  go_wp2_with fail
  with_reducible refine (spoil_any _ _ _ x at_ _ _ _ y _ (hx.below hb1) (hy.below hb1) (by omega)).mono ?_
  rintro e w2 ⟨A2, c2, rfl, ho2, hb2⟩
  rw [show (Crc.spoil x at_ y).length = n from by rw [Crc.spoil_length, lx.out]] at ho2 ⊢
  have hb12 := bthen hb1 hb2
  have hx2 := hx.below hb12
  have hy2 := hy.below hb12
  have ht2 := ho2.same
  have s0 := strs hx2
  clear hb1 hb2 ho2 hx hy
  go_wp2
  go_region_held (fun w' => Below w2.heap.size w2 w')
    (first | exact (Below.refl _ _).drew | exact undrew hb3)
    (first | (go_at_call 17; ((with_reducible refine (spoil_any _ _ _ _ at_ _ _ _ y _ ht2.drew hy2.drew (by omega)).mono ?_); rw [Crc.spoil_twice]; rintro e w3 ⟨A3, c3, rfl, ho3, hb3⟩; have s4 := strs ho3.same w3 (Below.refl _ _))))
  have hb3' := undrew hb3
  have hx3 := hx2.below hb3'
  have ht3 := ht2.below hb3'
  clear s0 s4 hb3 ho3 hx2 hy2 ht2
  go_wp2
  go_loopw [9] (fun i wr => ∃ k : Nat, k ≤ n ∧ i = .int .i64 k ∧ Below w3.heap.size w3 wr) (fun i _ => n - (intOf i).toNat)
  case atStart => exact ⟨0, Nat.zero_le _, rfl, Below.refl _ _⟩
  case round =>
    obtain ⟨k, hk, rfl, hbel⟩ := hrel
    by_cases hkn : k < n
    · obtain ⟨bx, ox, rfl, _⟩ := hx3.at_ (by omega)
      obtain ⟨bt, ot, rfl, _⟩ := ht3.at_ (by omega)
      obtain ⟨p, hp⟩ : ∃ p, x[k]? = some p := ⟨_, List.getElem?_eq_getElem (by rw [lx.out]; omega)⟩
      obtain ⟨q, hq⟩ : ∃ q, (Crc.spoil x at_ y)[k]? = some q := ⟨_, List.getElem?_eq_getElem (by rw [Crc.spoil_length, lx.out]; omega)⟩
      have fp := cells_later hx3 hp
      have fq := cells_later ht3 hq
      have hdn : ∀ nq, Below w3.heap.size w3 (wr.drewN nq) := fun nq => bthen hbel (drawn_below wr nq)
      have t1 : (0 : Int) ≤ (k : Int) := by omega
      have t2 : (k : Int) < (n : Int) := by omega
      have hfar : at_ < 0 ∨ (k : Int) < at_ ∨ 3 < (k : Int) - at_ → q = p := fun h => by
        have := Crc.spoil_far x at_ y k h
        rw [hp, hq] at this
        injection this
      clear hp hq
      by_cases c1 : at_ < 0
      · have e1 : decide (at_ < 0) = true := by simpa using c1
        obtain rfl : q = p := hfar (.inl c1)
        clear hfar
        go_wp2
        go_quiet (fail)
        go_wp2
        exact ⟨⟨k + 1, by omega, by go_num, hdn _⟩, by simp [intOf]; omega⟩
      · have e1 : decide (at_ < 0) = false := by simp; omega
        by_cases c2 : (k : Int) < at_
        · have e2 : decide ((k : Int) < at_) = true := by simpa using c2
          obtain rfl : q = p := hfar (.inr (.inl c2))
          clear hfar
          go_wp2
          go_quiet (fail)
          go_wp2
          exact ⟨⟨k + 1, by omega, by go_num, hdn _⟩, by simp [intOf]; omega⟩
        · have e2 : decide ((k : Int) < at_) = false := by simp; omega
          have w0 : IntKind.i64.wrap ((k : Int) - at_) = (k : Int) - at_ := IntWalk.i64_in _ (by omega)
          by_cases c3 : 3 < (k : Int) - at_
          · have e3 : decide (3 < (k : Int) - at_) = true := by simpa using c3
            obtain rfl : q = p := hfar (.inr (.inr c3))
            clear hfar
            go_wp2
            go_quiet (fail)
            go_wp2
            exact ⟨⟨k + 1, by omega, by go_num, hdn _⟩, by simp [intOf]; omega⟩
          · have e3 : decide (3 < (k : Int) - at_) = false := by simp; omega
            clear hfar
            go_wp2
            go_quiet (fail)
            go_wp2
            exact ⟨⟨k + 1, by omega, by go_num, hdn _⟩, by simp [intOf]; omega⟩
    · go_wp2
      go_ret
      exact ⟨rfl, bthen (bthen hb12 hb3') hbel⟩

theorem twice_any (A : Option Addr) (n c : Nat) (at_ : Int) (B : Option Addr) (m d : Nat) (x y : List UInt8) (w : World)
    (hx : Rd w A n c x) (hy : Rd w B m d y) :
    Calls Try.prog 6 #[.slice A n c, .int .i64 at_, .slice B m d] w (Yes w) := by
  by_cases h : 2000 < n ∨ 2000 < m
  · exact twice_out A n c at_ B m d w h
  · exact twice_in A n c at_ B m d x y w hx hy (by omega) (by omega)
end Go.Proofs.Ytmlldjfclabdkaa
