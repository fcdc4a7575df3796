/- The law WantEither, walked. -/
import Derived.Test.YtpbkaaljilcecaaWantShown
set_option maxRecDepth 100000
namespace Go.Proofs.Ytpbkaaljilcecaa
open Go.RowKit
set_option linter.unusedVariables false

set_option maxHeartbeats 4000000 in
theorem weither_any (l h o : Int) (w : World) : Calls Try.prog 5 #[.int .i64 l, .int .i64 h, .int .i64 o] w (Yes w) := by
  have h0 := Below.refl w.heap.size w
  have B_0 := hidT (h0)
  clear h0
  go_enter Try.func5, Try.ntmps5
  have hp := wantshown_any w
  go_wp2_with fail
  with_reducible refine hp.mono ?_
  rintro e w1 ⟨rfl, hw1⟩
  have B_1 := hidT (bthen B_0.out hw1)
  clear B_0
  clear hw1 hp
  by_cases hoh : h ≤ o
  ·
    have u1 : decide (h ≤ o) = true := by simpa using hoh
    go_wp2
    go_ret
    exact ⟨rfl, B_1.out⟩
  ·
    have u1 : decide (h ≤ o) = false := by simp; omega
    by_cases h1 : h ≤ l
    ·
      have u2 : decide (h ≤ l) = true := by simp; omega
      have u3 : decide (l ≤ o) = false := by simp; omega
      have ea : Want.asks 0 l h o = true := by rw [Want.asks_seq, u2]
      have eb : Want.asks 1 l h o = false := by rw [Want.asks_pri, u3]
      have HA : Hid (∀ w, Calls Try.prog 11 #[.int .i64 0, .int .i64 l, .int .i64 h, .int .i64 o] w (fun e w' => e = .returned (.bool true) ∧ w' = w)) := hidT fun w => by
        have h := asks_any 0 l h o w (.inl rfl)
        rw [ea] at h
        exact h
      have HB : Hid (∀ w, Calls Try.prog 11 #[.int .i64 1, .int .i64 l, .int .i64 h, .int .i64 o] w (fun e w' => e = .returned (.bool false) ∧ w' = w)) := hidT fun w => by
        have h := asks_any 1 l h o w (.inr rfl)
        rw [eb] at h
        exact h
      have HC : Hid (∀ w, Calls Try.prog 9 #[.agg #[.int .i64 0], .int .i64 0, .int .i64 l, .int .i64 h, .int .i64 o, .int .i64 1] w (StepIs w 0 true)) := hidT fun w => by
        have h := step_any 0 0 l h o 1 w (.inl rfl) (by omega) (by omega)
        rw [ea, show Want.hits true 0 1 = 0 from by decide, show Want.yes true 0 1 = true from by decide] at h
        exact h
      have HD : Hid (∀ w, Calls Try.prog 9 #[.agg #[.int .i64 0], .int .i64 1, .int .i64 l, .int .i64 h, .int .i64 o, .int .i64 1] w (StepIs w 0 false)) := hidT fun w => by
        have h := step_any 0 1 l h o 1 w (.inr rfl) (by omega) (by omega)
        rw [eb, show Want.hits false 0 1 = 0 from by decide, show Want.yes false 0 1 = false from by decide] at h
        exact h
      have HO : Hid (∀ w, Calls Try.prog 13 #[.int .i64 0] w (fun e w' => e = .returned (.int .i64 1) ∧ w' = w)) := hidT fun w => other_seq w
      have HP : Hid (∀ w, Calls Try.prog 13 #[.int .i64 1] w (fun e w' => e = .returned (.int .i64 0) ∧ w' = w)) := hidT fun w => other_pri w
      clear ea eb
      have hp := HA.out w1
      go_wp2_with fail
      with_reducible refine hp.mono ?_
      rintro e wq ⟨rfl, hwq⟩
      obtain rfl : w1 = wq := hwq.symm
      clear hp hwq
      have hp := HB.out w1
      go_wp2_with fail
      with_reducible refine hp.mono ?_
      rintro e wq ⟨rfl, hwq⟩
      obtain rfl : w1 = wq := hwq.symm
      clear hp hwq
      have hp := HC.out w1
      go_wp2_with fail
      with_reducible refine hp.mono ?_
      rintro e w2 ⟨rfl, hw2⟩
      have B_2 := hidT (bthen B_1.out hw2)
      clear B_1
      clear hw2 hp
      have t1 := alloc_at w2 (.cells #[.int .i64 0] 23) _ rfl
      have t3 := nkeep w2 (.cells #[.int .i64 0] 23)
      obtain ⟨Vw2, hVw2⟩ : ∃ W, w2.alloc (.cells #[.int .i64 0] 23) = W := ⟨_, rfl⟩
      rw [hVw2] at t1 t3
      have HVw2 := hidT hVw2
      have B_3 := hidT (bthen B_2.out t3)
      clear B_2
      obtain ⟨gw2, hgw2⟩ : ∃ p, w2.heap.size = p := ⟨_, rfl⟩
      rw [hgw2] at t1
      have X_0 := hidT (t1)
      clear t1 t3 hVw2
      have hp := HD.out Vw2
      go_wp2_with fail
      rw [HVw2.out]
      clear hgw2
      with_reducible refine hp.mono ?_
      rintro e w3 ⟨rfl, hw3⟩
      have B_4 := hidT (bthen B_3.out hw3)
      have X_1 := hidT (keepH X_0.out hw3)
      clear B_3 X_0
      clear hw3 hp
      have t1 := alloc_at w3 (.cells #[.int .i64 0] 23) _ rfl
      have t3 := nkeep w3 (.cells #[.int .i64 0] 23)
      obtain ⟨Vw3, hVw3⟩ : ∃ W, w3.alloc (.cells #[.int .i64 0] 23) = W := ⟨_, rfl⟩
      rw [hVw3] at t1 t3
      have HVw3 := hidT hVw3
      have B_5 := hidT (bthen B_4.out t3)
      have X_2 := hidT (keepH X_1.out t3)
      clear B_4 X_1
      obtain ⟨gw3, hgw3⟩ : ∃ p, w3.heap.size = p := ⟨_, rfl⟩
      rw [hgw3] at t1
      have Y_0 := hidT (t1)
      clear t1 t3 hVw3
      go_wp2_with fail
      rw [HVw3.out]
      clear hgw3
      with_reducible refine (HO.out Vw3).mono ?_
      rintro e wq ⟨rfl, hwq⟩
      obtain rfl : Vw3 = wq := hwq.symm
      clear hwq
      go_wp2_with fail
      with_reducible refine (HP.out Vw3).mono ?_
      rintro e wq ⟨rfl, hwq⟩
      obtain rfl : Vw3 = wq := hwq.symm
      clear hwq
      go_wp2
      go_ret
      exact ⟨rfl, B_5.out⟩
    ·
      by_cases h2 : l ≤ o
      ·
        have u2 : decide (h ≤ l) = false := by simp; omega
        have u3 : decide (l ≤ o) = true := by simp; omega
        have ea : Want.asks 0 l h o = false := by rw [Want.asks_seq, u2]
        have eb : Want.asks 1 l h o = true := by rw [Want.asks_pri, u3]
        have HA : Hid (∀ w, Calls Try.prog 11 #[.int .i64 0, .int .i64 l, .int .i64 h, .int .i64 o] w (fun e w' => e = .returned (.bool false) ∧ w' = w)) := hidT fun w => by
          have h := asks_any 0 l h o w (.inl rfl)
          rw [ea] at h
          exact h
        have HB : Hid (∀ w, Calls Try.prog 11 #[.int .i64 1, .int .i64 l, .int .i64 h, .int .i64 o] w (fun e w' => e = .returned (.bool true) ∧ w' = w)) := hidT fun w => by
          have h := asks_any 1 l h o w (.inr rfl)
          rw [eb] at h
          exact h
        have HC : Hid (∀ w, Calls Try.prog 9 #[.agg #[.int .i64 0], .int .i64 0, .int .i64 l, .int .i64 h, .int .i64 o, .int .i64 1] w (StepIs w 0 false)) := hidT fun w => by
          have h := step_any 0 0 l h o 1 w (.inl rfl) (by omega) (by omega)
          rw [ea, show Want.hits false 0 1 = 0 from by decide, show Want.yes false 0 1 = false from by decide] at h
          exact h
        have HD : Hid (∀ w, Calls Try.prog 9 #[.agg #[.int .i64 0], .int .i64 1, .int .i64 l, .int .i64 h, .int .i64 o, .int .i64 1] w (StepIs w 0 true)) := hidT fun w => by
          have h := step_any 0 1 l h o 1 w (.inr rfl) (by omega) (by omega)
          rw [eb, show Want.hits true 0 1 = 0 from by decide, show Want.yes true 0 1 = true from by decide] at h
          exact h
        have HO : Hid (∀ w, Calls Try.prog 13 #[.int .i64 0] w (fun e w' => e = .returned (.int .i64 1) ∧ w' = w)) := hidT fun w => other_seq w
        have HP : Hid (∀ w, Calls Try.prog 13 #[.int .i64 1] w (fun e w' => e = .returned (.int .i64 0) ∧ w' = w)) := hidT fun w => other_pri w
        clear ea eb
        have hp := HA.out w1
        go_wp2_with fail
        with_reducible refine hp.mono ?_
        rintro e wq ⟨rfl, hwq⟩
        obtain rfl : w1 = wq := hwq.symm
        clear hp hwq
        have hp := HB.out w1
        go_wp2_with fail
        with_reducible refine hp.mono ?_
        rintro e wq ⟨rfl, hwq⟩
        obtain rfl : w1 = wq := hwq.symm
        clear hp hwq
        have hp := HC.out w1
        go_wp2_with fail
        with_reducible refine hp.mono ?_
        rintro e w2 ⟨rfl, hw2⟩
        have B_2 := hidT (bthen B_1.out hw2)
        clear B_1
        clear hw2 hp
        have t1 := alloc_at w2 (.cells #[.int .i64 0] 23) _ rfl
        have t3 := nkeep w2 (.cells #[.int .i64 0] 23)
        obtain ⟨Vw2, hVw2⟩ : ∃ W, w2.alloc (.cells #[.int .i64 0] 23) = W := ⟨_, rfl⟩
        rw [hVw2] at t1 t3
        have HVw2 := hidT hVw2
        have B_3 := hidT (bthen B_2.out t3)
        clear B_2
        obtain ⟨gw2, hgw2⟩ : ∃ p, w2.heap.size = p := ⟨_, rfl⟩
        rw [hgw2] at t1
        have X_0 := hidT (t1)
        clear t1 t3 hVw2
        have hp := HD.out Vw2
        go_wp2_with fail
        rw [HVw2.out]
        clear hgw2
        with_reducible refine hp.mono ?_
        rintro e w3 ⟨rfl, hw3⟩
        have B_4 := hidT (bthen B_3.out hw3)
        have X_1 := hidT (keepH X_0.out hw3)
        clear B_3 X_0
        clear hw3 hp
        have t1 := alloc_at w3 (.cells #[.int .i64 0] 23) _ rfl
        have t3 := nkeep w3 (.cells #[.int .i64 0] 23)
        obtain ⟨Vw3, hVw3⟩ : ∃ W, w3.alloc (.cells #[.int .i64 0] 23) = W := ⟨_, rfl⟩
        rw [hVw3] at t1 t3
        have HVw3 := hidT hVw3
        have B_5 := hidT (bthen B_4.out t3)
        have X_2 := hidT (keepH X_1.out t3)
        clear B_4 X_1
        obtain ⟨gw3, hgw3⟩ : ∃ p, w3.heap.size = p := ⟨_, rfl⟩
        rw [hgw3] at t1
        have Y_0 := hidT (t1)
        clear t1 t3 hVw3
        go_wp2_with fail
        rw [HVw3.out]
        clear hgw3
        with_reducible refine (HO.out Vw3).mono ?_
        rintro e wq ⟨rfl, hwq⟩
        obtain rfl : Vw3 = wq := hwq.symm
        clear hwq
        go_wp2_with fail
        with_reducible refine (HP.out Vw3).mono ?_
        rintro e wq ⟨rfl, hwq⟩
        obtain rfl : Vw3 = wq := hwq.symm
        clear hwq
        go_wp2
        go_ret
        exact ⟨rfl, B_5.out⟩
      ·
        have u2 : decide (h ≤ l) = false := by simp; omega
        have u3 : decide (l ≤ o) = false := by simp; omega
        have ea : Want.asks 0 l h o = false := by rw [Want.asks_seq, u2]
        have eb : Want.asks 1 l h o = false := by rw [Want.asks_pri, u3]
        have HA : Hid (∀ w, Calls Try.prog 11 #[.int .i64 0, .int .i64 l, .int .i64 h, .int .i64 o] w (fun e w' => e = .returned (.bool false) ∧ w' = w)) := hidT fun w => by
          have h := asks_any 0 l h o w (.inl rfl)
          rw [ea] at h
          exact h
        have HB : Hid (∀ w, Calls Try.prog 11 #[.int .i64 1, .int .i64 l, .int .i64 h, .int .i64 o] w (fun e w' => e = .returned (.bool false) ∧ w' = w)) := hidT fun w => by
          have h := asks_any 1 l h o w (.inr rfl)
          rw [eb] at h
          exact h
        have HC : Hid (∀ w, Calls Try.prog 9 #[.agg #[.int .i64 0], .int .i64 0, .int .i64 l, .int .i64 h, .int .i64 o, .int .i64 1] w (StepIs w 0 false)) := hidT fun w => by
          have h := step_any 0 0 l h o 1 w (.inl rfl) (by omega) (by omega)
          rw [ea, show Want.hits false 0 1 = 0 from by decide, show Want.yes false 0 1 = false from by decide] at h
          exact h
        have HD : Hid (∀ w, Calls Try.prog 9 #[.agg #[.int .i64 0], .int .i64 1, .int .i64 l, .int .i64 h, .int .i64 o, .int .i64 1] w (StepIs w 0 false)) := hidT fun w => by
          have h := step_any 0 1 l h o 1 w (.inr rfl) (by omega) (by omega)
          rw [eb, show Want.hits false 0 1 = 0 from by decide, show Want.yes false 0 1 = false from by decide] at h
          exact h
        have HO : Hid (∀ w, Calls Try.prog 13 #[.int .i64 0] w (fun e w' => e = .returned (.int .i64 1) ∧ w' = w)) := hidT fun w => other_seq w
        have HP : Hid (∀ w, Calls Try.prog 13 #[.int .i64 1] w (fun e w' => e = .returned (.int .i64 0) ∧ w' = w)) := hidT fun w => other_pri w
        clear ea eb
        have hp := HA.out w1
        go_wp2_with fail
        with_reducible refine hp.mono ?_
        rintro e wq ⟨rfl, hwq⟩
        obtain rfl : w1 = wq := hwq.symm
        clear hp hwq
        have hp := HB.out w1
        go_wp2_with fail
        with_reducible refine hp.mono ?_
        rintro e wq ⟨rfl, hwq⟩
        obtain rfl : w1 = wq := hwq.symm
        clear hp hwq
        have hp := HC.out w1
        go_wp2_with fail
        with_reducible refine hp.mono ?_
        rintro e w2 ⟨rfl, hw2⟩
        have B_2 := hidT (bthen B_1.out hw2)
        clear B_1
        clear hw2 hp
        have t1 := alloc_at w2 (.cells #[.int .i64 0] 23) _ rfl
        have t3 := nkeep w2 (.cells #[.int .i64 0] 23)
        obtain ⟨Vw2, hVw2⟩ : ∃ W, w2.alloc (.cells #[.int .i64 0] 23) = W := ⟨_, rfl⟩
        rw [hVw2] at t1 t3
        have HVw2 := hidT hVw2
        have B_3 := hidT (bthen B_2.out t3)
        clear B_2
        obtain ⟨gw2, hgw2⟩ : ∃ p, w2.heap.size = p := ⟨_, rfl⟩
        rw [hgw2] at t1
        have X_0 := hidT (t1)
        clear t1 t3 hVw2
        have hp := HD.out Vw2
        go_wp2_with fail
        rw [HVw2.out]
        clear hgw2
        with_reducible refine hp.mono ?_
        rintro e w3 ⟨rfl, hw3⟩
        have B_4 := hidT (bthen B_3.out hw3)
        have X_1 := hidT (keepH X_0.out hw3)
        clear B_3 X_0
        clear hw3 hp
        have t1 := alloc_at w3 (.cells #[.int .i64 0] 23) _ rfl
        have t3 := nkeep w3 (.cells #[.int .i64 0] 23)
        obtain ⟨Vw3, hVw3⟩ : ∃ W, w3.alloc (.cells #[.int .i64 0] 23) = W := ⟨_, rfl⟩
        rw [hVw3] at t1 t3
        have HVw3 := hidT hVw3
        have B_5 := hidT (bthen B_4.out t3)
        have X_2 := hidT (keepH X_1.out t3)
        clear B_4 X_1
        obtain ⟨gw3, hgw3⟩ : ∃ p, w3.heap.size = p := ⟨_, rfl⟩
        rw [hgw3] at t1
        have Y_0 := hidT (t1)
        clear t1 t3 hVw3
        go_wp2_with fail
        rw [HVw3.out]
        clear hgw3
        with_reducible refine (HO.out Vw3).mono ?_
        rintro e wq ⟨rfl, hwq⟩
        obtain rfl : Vw3 = wq := hwq.symm
        clear hwq
        go_wp2_with fail
        with_reducible refine (HP.out Vw3).mono ?_
        rintro e wq ⟨rfl, hwq⟩
        obtain rfl : Vw3 = wq := hwq.symm
        clear hwq
        go_wp2
        go_ret
        exact ⟨rfl, B_5.out⟩
end Go.Proofs.Ytpbkaaljilcecaa
