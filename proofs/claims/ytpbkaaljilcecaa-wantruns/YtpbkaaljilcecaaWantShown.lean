/- The document's example of package want. -/
import Derived.Test.YtpbkaaljilcecaaWant2
import Derived.Deep.RegionHeld3
import Derived.Deep.RegionHeldLaw
set_option maxRecDepth 100000
namespace Go.Proofs.Ytpbkaaljilcecaa
open Go.RowKit
set_option linter.unusedVariables false

namespace Want
/-- The example's windows. -/
def Shown (j : Nat) (k : Int) : Prop := (j = 0 ∧ k = 0) ∨ (j = 1 ∧ k = 1) ∨ (j = 2 ∧ k = 0) ∨ (j = 3 ∧ k = 1) ∨ (j = 4 ∧ k = 0)
theorem Shown.next {j : Nat} {k : Int} (h : Shown j k) (hj : j < 4) : ∃ (L K : Int) (T : Bool), (#[Value.int .i64 10, .int .i64 5, .int .i64 10, .int .i64 11] : Array Value)[j]? = some (.int .i64 L) ∧ hits (asks 0 L 10 2) k 2 = K ∧ yes (asks 0 L 10 2) k 2 = T ∧ Shown (j + 1) K ∧ decide ((j : Int) = 3) = T ∧ 0 ≤ k ∧ k ≤ 1 := by
  rcases h with ⟨rfl, rfl⟩ | ⟨rfl, rfl⟩ | ⟨rfl, rfl⟩ | ⟨rfl, rfl⟩ | ⟨rfl, rfl⟩
  · exact ⟨10, 1, false, rfl, by decide, by decide, .inr (.inl ⟨rfl, rfl⟩), by decide, by decide, by decide⟩
  · exact ⟨5, 0, false, rfl, by decide, by decide, .inr (.inr (.inl ⟨rfl, rfl⟩)), by decide, by decide, by decide⟩
  · exact ⟨10, 1, false, rfl, by decide, by decide, .inr (.inr (.inr (.inl ⟨rfl, rfl⟩))), by decide, by decide, by decide⟩
  · exact ⟨11, 0, true, rfl, by decide, by decide, .inr (.inr (.inr (.inr ⟨rfl, rfl⟩))), by decide, by decide, by decide⟩
  · omega
theorem Shown.last {k : Int} (h : Shown 4 k) : k = 0 := by
  rcases h with ⟨h, _⟩ | ⟨h, _⟩ | ⟨h, _⟩ | ⟨h, _⟩ | ⟨_, h⟩ <;> omega
end Want
set_option maxHeartbeats 4000000 in
theorem wantshown_any (w : World) : Calls Try.prog 7 #[] w (Yes w) := by
  obtain ⟨t1, t2, t3⟩ := two_alloc w (.cells #[.int .i64 0] 23) (.cells #[.int .i64 10, .int .i64 5, .int .i64 10, .int .i64 11] 3)
  obtain ⟨W, hW⟩ : ∃ W, (w.alloc (.cells #[.int .i64 0] 23)).alloc (.cells #[.int .i64 10, .int .i64 5, .int .i64 10, .int .i64 11] 3) = W := ⟨_, rfl⟩
  rw [hW] at t1 t2 t3
  have HW := hidT hW
  clear hW
  obtain ⟨g, hg⟩ : ∃ g, w.heap.size = g := ⟨_, rfl⟩
  rw [hg] at t1 t2
  have HGW := hidT (show w.heap.size ≤ g from Nat.le_of_eq hg)
  have HX0 := hidT t1
  have HR0 := hidT t2
  have HB0 := hidT t3
  clear t1 t2 t3
  go_enter Try.func7, Try.ntmps7
  go_wp2_with fail
  rw [HW.out]
  clear HW hg
  go_loopw [3] (fun i wr => ∃ (j : Nat) (k : Int), i = .int .i64 j ∧ j ≤ 4 ∧ Hid (Want.Shown j k) ∧ Hid (wr.heap[g]? = some (.cells #[.int .i64 k] 23 (0, 0))) ∧ Hid (wr.heap[g + 1]? = some (.cells #[.int .i64 10, .int .i64 5, .int .i64 10, .int .i64 11] 3 (0, 0))) ∧ Hid (Below w.heap.size w wr)) (fun i _ => 4 - (intOf i).toNat)
  case atStart => exact ⟨0, 0, rfl, by omega, hidT (.inl ⟨rfl, rfl⟩), HX0.out, HR0.out, HB0.out⟩
  case round =>
    obtain ⟨j, k, rfl, hj, HI, X_0, R_0, B_0⟩ := hrel
    clear HX0 HR0 HB0
    by_cases hj4 : j < 4
    ·
      obtain ⟨L, K, t, hL, hK, hT, hI, hD, k0, k1⟩ := HI.out.next hj4
      have HC : Hid (∀ w, Calls Try.prog 9 #[.agg #[.int .i64 k], .int .i64 0, .int .i64 L, .int .i64 10, .int .i64 2, .int .i64 2] w (StepIs w K t)) := hidT fun w => by
        have h := step_any k 0 L 10 2 2 w (.inl rfl) k0 (by omega)
        rw [hK, hT] at h
        exact h
      have HI2 := hidT hI
      have HD := hidT hD
      have HL := hidT hL
      have u1 : decide ((j : Int) < 4) = true := by simp; omega
      have x1 : (0 : Int) ≤ (j : Int) := by omega
      have x2 : (j : Int) < 4 := by omega
      have kx := fun w' (hb : Below wr.heap.size wr w') => cells1 (keepH X_0.out hb)
      have kr := fun w' (hb : Below wr.heap.size wr w') => cell_at (keepH R_0.out hb) j HL.out
      have D1 : Below wr.heap.size wr (wr.alloc (.cells #[.int .i64 0] 23)) := nkeep wr _
      clear hL hK hT hI hD k0 k1 HI
      go_wp2_with fail
      go_region_held_law (fun w' => Below wr.heap.size wr w')
        (first | exact (Below.refl _ _).drew | exact hbF | exact hb4 | exact D1.drew | exact D1 | exact bthen hb4 (nkeep _ _))
        (first
          | (go_at_call 9; ((with_reducible refine (HC.out _).mono ?_); rintro e4 w4 ⟨rfl, hb4'⟩; have hb4 : Below wr.heap.size wr w4 := undrew hb4'))
          | (go_at_call 9; ((with_reducible refine (HC.out _).mono ?_); rintro e4 w4 ⟨rfl, hb4'⟩; have hb4 : Below wr.heap.size wr w4 := bthen D1 (undrew hb4'); have y4 := keepH (alloc_at wr (.cells #[.int .i64 0] 23) _ rfl) (undrew hb4'); have i0 := cells1 y4; have f0 := no_frozen y4 0; have hbF : Below wr.heap.size wr (w4.setCell ⟨wr.heap.size, 0, none⟩ (.int .i64 K)) := hb4.setCell (p := ⟨wr.heap.size, 0, none⟩) (Nat.le_refl _) _))
          | fail)
      ·
        have y5 := alloc_at w4 (.cells #[.int .i64 K] 23) _ rfl
        have hb5 := bthen hb4 (nkeep w4 (.cells #[.int .i64 K] 23))
        clear hb4 hb4' kr kx D1
        generalize w4.alloc (.cells #[.int .i64 K] 23) = W5 at y5 hb5 ⊢
        generalize w4.heap.size = gx at y5 ⊢
        have B_1 := hidT (bthen B_0.out hb5)
        have X_1 := hidT (keepH X_0.out hb5)
        have R_1 := hidT (keepH R_0.out hb5)
        have fx := no_frozen X_1.out 0
        have cx := cells1 X_1.out
        have cy := cells1 y5
        have hd := HD.out
        have hj3 : ((j : Int) == 3) = t := by rw [← hd]; rfl
        cases t with
        | true =>
          go_wp2_with fail
          exact ⟨⟨j + 1, K, by go_num, by omega, by simpa using HI2, hidT (set1 X_1.out _), hidT (set_off R_1.out (by omega) 0 _), hidT (Below.setCell (p := ⟨g, 0, none⟩) B_1.out HGW.out _)⟩, by first | (simp [intOf]; done) | (simp [intOf]; omega)⟩
        | false =>
          go_wp2_with fail
          exact ⟨⟨j + 1, K, by go_num, by omega, by simpa using HI2, hidT (set1 X_1.out _), hidT (set_off R_1.out (by omega) 0 _), hidT (Below.setCell (p := ⟨g, 0, none⟩) B_1.out HGW.out _)⟩, by first | (simp [intOf]; done) | (simp [intOf]; omega)⟩
      ·
        have y5 := set1 y4 (.int .i64 K)
        have hb5 := hbF
        clear hb4 hb4' hbF y4 i0 f0 kr kx D1
        generalize w4.setCell ⟨wr.heap.size, 0, none⟩ (.int .i64 K) = W5 at y5 hb5 ⊢
        obtain ⟨gx, hgx⟩ : ∃ q, wr.heap.size = q := ⟨_, rfl⟩
        have HB5 := hidT hb5
        clear hb5
        rw [hgx] at y5 ⊢
        have hb5 := HB5.out
        clear HB5 hgx
        have B_1 := hidT (bthen B_0.out hb5)
        have X_1 := hidT (keepH X_0.out hb5)
        have R_1 := hidT (keepH R_0.out hb5)
        have fx := no_frozen X_1.out 0
        have cx := cells1 X_1.out
        have cy := cells1 y5
        have hd := HD.out
        have hj3 : ((j : Int) == 3) = t := by rw [← hd]; rfl
        cases t with
        | true =>
          go_wp2_with fail
          exact ⟨⟨j + 1, K, by go_num, by omega, by simpa using HI2, hidT (set1 X_1.out _), hidT (set_off R_1.out (by omega) 0 _), hidT (Below.setCell (p := ⟨g, 0, none⟩) B_1.out HGW.out _)⟩, by first | (simp [intOf]; done) | (simp [intOf]; omega)⟩
        | false =>
          go_wp2_with fail
          exact ⟨⟨j + 1, K, by go_num, by omega, by simpa using HI2, hidT (set1 X_1.out _), hidT (set_off R_1.out (by omega) 0 _), hidT (Below.setCell (p := ⟨g, 0, none⟩) B_1.out HGW.out _)⟩, by first | (simp [intOf]; done) | (simp [intOf]; omega)⟩
    ·
      have hjn : j = 4 := by omega
      subst hjn
      have k0 := HI.out.last
      subst k0
      have u1 : decide ((4 : Int) < 4) = false := by decide
      have cx := cells1 X_0.out
      have a1 := fun w => asks_any 1 2 10 2 w (.inr rfl)
      have a2 := fun w => asks_any 1 3 10 2 w (.inr rfl)
      have o1 := fun w => other_any 0 w (.inl rfl)
      have o2 := fun w => other_any 1 w (.inr rfl)
      simp only [show Want.asks 1 2 10 2 = true from by decide, show Want.asks 1 3 10 2 = false from by decide, show (1 : Int) - 0 = 1 from by decide, show (1 : Int) - 1 = 0 from by decide] at a1 a2 o1 o2
      go_wp2_with fail
      with_reducible refine (a1 _).mono ?_
      rintro e wq ⟨rfl, rfl⟩
      go_wp2_with fail
      with_reducible refine (a2 _).mono ?_
      rintro e wq ⟨rfl, rfl⟩
      go_wp2_with fail
      with_reducible refine (o1 _).mono ?_
      rintro e wq ⟨rfl, rfl⟩
      go_wp2_with fail
      with_reducible refine (o2 _).mono ?_
      rintro e wq ⟨rfl, rfl⟩
      go_wp2
      go_ret
      exact ⟨rfl, B_0.out⟩
end Go.Proofs.Ytpbkaaljilcecaa
