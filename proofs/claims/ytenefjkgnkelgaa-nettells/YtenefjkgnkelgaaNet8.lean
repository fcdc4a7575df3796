/- What net's Same comes to. -/
import Derived.Test.YtenefjkgnkelgaaNet7
set_option maxRecDepth 100000
namespace Go.Proofs.Ytenefjkgnkelgaa
open Go.RowKit
set_option linter.unusedVariables false

set_option maxHeartbeats 4000000 in
theorem same_any (A : Option Addr) (n c : Nat) (la : List Lt) (B : Option Addr) (m d : Nat) (lb : List Lt) (w : World) (h : RdL w A n c la) (h' : RdL w B m d lb) :
    Calls Try.prog 20 #[.slice A n c, .slice B m d] w (Says w (decide (la = lb))) := by
  have hs := h.size
  have hs' := h'.size
  have hle := h.le
  have hle' := h'.le
  by_cases hnm : n = m
  · subst hnm
    go_enter Try.func20, Try.ntmps20
    go_wp2
    go_loopw [17] (fun i wr => ∃ k : Nat, k ≤ n ∧ i = .int .i64 k ∧ la.take k = lb.take k ∧ Below w.heap.size w wr) (fun i _ => n - (intOf i).toNat)
    case atStart => exact ⟨0, Nat.zero_le _, rfl, rfl, Below.refl _ _⟩
    case round =>
      obtain ⟨k, hk, rfl, heq, hbel⟩ := hrel
      by_cases hkn : k < n
      · obtain ⟨b, o, rfl⟩ := h.addr (by omega)
        obtain ⟨b', o', rfl⟩ := h'.addr (by omega)
        obtain ⟨t, x, hx, ht, c1, c2, c3⟩ := (h.below hbel).at_ hkn
        obtain ⟨t', y, hy, ht', c1', c2', c3'⟩ := (h'.below hbel).at_ hkn
        have q1 : (0 : Int) ≤ (k : Int) := by omega
        have q2 : (k : Int) < (n : Int) := by omega
        have HH : Hid (∀ w', Below wr.heap.size wr w' → _) := fun w' hb => sameLetter_is _ _ x y w' (ht.val.below hb) (ht'.val.below hb)
        have k1 := fun o => (cells3 c1 c2 c3 (wr.alloc o) ((Below.refl _ _).alloc (Nat.le_refl _) _))
        have k2 := fun o => (cells3 c1' c2' c3' (wr.alloc o) ((Below.refl _ _).alloc (Nat.le_refl _) _))
        have HX := hidT hx
        have HY := hidT hy
        have HE := hidT heq
        clear hx hy heq ht ht'
        by_cases hxy : x = y
        · have e : decide (x = y) = true := by simpa using hxy
          go_wp2_with fail
          with_reducible refine (HH.out _ (nkeep_alloc (nkeep_alloc (Below.refl _ _) _) _)).mono ?_
          rw [e]
          rintro e1 w1 ⟨rfl, hb1⟩
          have hb2 := bthen hbel (bthen (nkeep_alloc (nkeep_alloc (Below.refl _ _) _) _) hb1)
          clear e k1 k2 c1 c2 c3 c1' c2' c3' hb1
          go_wp2
          refine ⟨⟨k + 1, by omega, by go_num, ?_, hb2⟩, by simp [intOf]; omega⟩
          rw [take_snocL HX.out, take_snocL HY.out, HE.out, hxy]
        · have e : decide (x = y) = false := by simpa using hxy
          have hr : decide (la = lb) = false := by
            rw [decide_eq_false_iff_not]
            intro hl
            have h1 := HX.out
            rw [hl, HY.out] at h1
            injection h1 with h1
            exact hxy h1.symm
          go_wp2_with fail
          with_reducible refine (HH.out _ (nkeep_alloc (nkeep_alloc (Below.refl _ _) _) _)).mono ?_
          rw [e]
          rintro e1 w1 ⟨rfl, hb1⟩
          have hb2 := bthen hbel (bthen (nkeep_alloc (nkeep_alloc (Below.refl _ _) _) _) hb1)
          clear e k1 k2 c1 c2 c3 c1' c2' c3' hb1
          go_wp2
          go_ret
          rw [hr]
          exact ⟨rfl, hb2⟩
      · obtain rfl : n = k := by omega
        have hr : decide (la = lb) = true := by
          rw [decide_eq_true_eq]
          rw [List.take_of_length_le (by omega), List.take_of_length_le (by omega)] at heq
          exact heq
        clear heq
        go_wp2
        go_ret
        rw [hr]
        exact ⟨rfl, hbel⟩
  · have q : (((n : Nat) : Int) == ((m : Nat) : Int)) = false := by simp; omega
    have hr : decide (la = lb) = false := by
      rw [decide_eq_false_iff_not]
      intro hl
      rw [hl] at hs
      omega
    go_enter Try.func20, Try.ntmps20
    go_wp2
    go_ret
    rw [hr]
    exact ⟨rfl, Below.refl _ _⟩
end Go.Proofs.Ytenefjkgnkelgaa
