/- What net's Same comes to. -/
import Derived.Test.YtenefjkgnkelgaaNet6
import Derived.Deep.RegionHeld3
set_option maxRecDepth 100000
namespace Go.Proofs.Ytenefjkgnkelgaa
open Go.RowKit
set_option linter.unusedVariables false

theorem infoP3 : (Try.prog.info? 66).map (·.size) = some 3 := by kernel_rfl
set_option maxHeartbeats 1000000 in
/-- A letter as a parcel. -/
theorem pack_any (q : Int) (A : Option Addr) (n c : Nat) (s : Bool) (w : World) :
    Calls Try.prog 34 #[.agg #[.int .i64 q, .slice A n c, .bool s]] w fun e w' => e = .returned (.agg #[.int .i64 q, .bool s, .slice A n c]) ∧ w' = (w.alloc (.cells #[.int .i64 q, .slice A n c, .bool s] 29)).alloc (.cells #[.int .i64 q, .bool s, .slice A n c] 66) := by
  go_enter Try.func34, Try.ntmps34
  go_wp2
  refine bodyPost_ret (v := .agg #[.int .i64 q, .bool s, .slice A n c]) (by simp [results, Try.results34, go_sem]) rfl ?_
  exact ⟨rfl, rfl⟩

set_option maxHeartbeats 1000000 in
theorem sameCover_is (q r : Int) (s t : Bool) (w : World) :
    Calls Try.prog 35 #[.agg #[.int .i64 q, .bool s], .agg #[.int .i64 r, .bool t]] w fun e w' => e = .returned (.bool (decide (q = r) && decide (s = t))) ∧ w' = (w.alloc (.cells #[.int .i64 q, .bool s] 62)).alloc (.cells #[.int .i64 r, .bool t] 62) := by
  by_cases h1 : q = r
  · subst h1
    by_cases h2 : s = t
    · subst h2
      have e : (decide (q = q) && decide (s = s)) = true := by simp
      rw [e]
      clear e
      go_enter Try.func35, Try.ntmps35
      go_wp2
      go_ret
      exact ⟨rfl, rfl⟩
    · have e : (decide (q = q) && decide (s = t)) = false := by simp [h2]
      have e1 : (s == t) = false := by simpa using h2
      rw [e]
      clear e
      go_enter Try.func35, Try.ntmps35
      go_wp2
      go_ret
      exact ⟨rfl, rfl⟩
  · have e : (decide (q = r) && decide (s = t)) = false := by simp [h1]
    have e1 : (q == r) = false := by simpa using h1
    rw [e]
    clear e
    go_enter Try.func35, Try.ntmps35
    go_wp2
    go_ret
    exact ⟨rfl, rfl⟩

theorem sameSheet_is (A : Option Addr) (n c : Nat) (a : List UInt8) (B : Option Addr) (m d : Nat) (b : List UInt8) (w : World) (ha : Rd w A n c a) (hb : Rd w B m d b) :
    Calls Try.prog 36 #[.agg #[.slice A n c], .agg #[.slice B m d]] w fun e w' => e = .returned (.bool (decide (a = b))) ∧ w' = (w.alloc (.cells #[.slice A n c] 64)).alloc (.cells #[.slice B m d] 64) := by
  have hE := nbytesEqual_is A n c a B m d b ((w.alloc (.cells #[.slice A n c] 64)).alloc (.cells #[.slice B m d] 64)) ((ha.alloc _).alloc _) ((hb.alloc _).alloc _) _ rfl
  go_enter Try.func36, Try.ntmps36
  go_wp2_with fail
  with_reducible refine hE.mono ?_
  rintro e w1 ⟨rfl, rfl⟩
  clear hE
  go_wp2
  go_ret
  exact ⟨rfl, rfl⟩
theorem nkeep_alloc {w w' : World} (h : Below w.heap.size w w') (o : Obj) : Below w.heap.size w (w'.alloc o) := h.alloc h.size o
set_option maxHeartbeats 4000000 in
theorem sameLetter_is (v u : Value) (x y : Lt) (w : World) (hv : IsLet w v x) (hu : IsLet w u y) : Calls Try.prog 32 #[v, u] w (Says w (decide (x = y))) := by
  obtain ⟨q, a, s⟩ := x
  obtain ⟨r, b, t⟩ := y
  obtain ⟨A, n, c, rfl, ha⟩ := hv
  obtain ⟨B, m, d, rfl, hb⟩ := hu
  dsimp only at ha hb
  rw [lt_dec]
  obtain ⟨X, hX⟩ : ∃ X, (decide (q = r) && decide (s = t)) = X := ⟨_, rfl⟩
  obtain ⟨D, hD⟩ : ∃ D, decide (a = b) = D := ⟨_, rfl⟩
  have hXD : (decide (q = r) && decide (a = b) && decide (s = t)) = (X && D) := by
    rw [← hX, ← hD]
    cases decide (q = r) <;> cases decide (a = b) <;> cases decide (s = t) <;> rfl
  rw [hXD]
  clear hXD
  have HC : Hid (∀ w, _) := fun w => sameCover_is q r s t w
  rw [hX] at HC
  have HS : Hid (∀ w (h1 : Rd w A n c a) (h2 : Rd w B m d b), _) := fun w h1 h2 => sameSheet_is A n c a B m d b w h1 h2
  rw [hD] at HS
  clear hX hD
  obtain ⟨w0, hw0⟩ : ∃ w0, w0 = (w.alloc (.cells #[.int .i64 q, .slice A n c, .bool s] 29)).alloc (.cells #[.int .i64 r, .slice B m d, .bool t] 29) := ⟨_, rfl⟩
  have hb0 : Below w.heap.size w w0 := by rw [hw0]; exact ((Below.refl _ w).alloc (Nat.le_refl _) _).alloc (by simp) _
  have g1 : w0.heap[w.heap.size]? = some (.cells #[.int .i64 q, .slice A n c, .bool s] 29 (0, 0)) := by rw [hw0, alloc_old _ _ _ (by rw [size_alloc]; omega)]; exact alloc_at _ _ _ rfl
  have g2 : w0.heap[w.heap.size + 1]? = some (.cells #[.int .i64 r, .slice B m d, .bool t] 29 (0, 0)) := by rw [hw0]; exact alloc_at _ _ _ (by rw [size_alloc])
  have l1 : w.heap.size < w0.heap.size := by rw [hw0, size_alloc, size_alloc]; omega
  have l2 : w.heap.size + 1 < w0.heap.size := by rw [hw0, size_alloc, size_alloc]; omega
  obtain ⟨p1, hp1⟩ : ∃ p, p = w.heap.size := ⟨_, rfl⟩
  obtain ⟨p2, hp2⟩ : ∃ p, p = w.heap.size + 1 := ⟨_, rfl⟩
  have HP1 := hidT hp1
  have HP2 := hidT hp2
  rw [← hp1] at g1 l1
  rw [← hp2] at g2 l2
  have K1 := fun w' (hb : Below w0.heap.size w0 w') => (cells3g ((hb.block _ l1).trans g1)).1
  have K2 := fun w' (hb : Below w0.heap.size w0 w') => (cells3g ((hb.block _ l1).trans g1)).2.1
  have K3 := fun w' (hb : Below w0.heap.size w0 w') => (cells3g ((hb.block _ l1).trans g1)).2.2
  have K4 := fun w' (hb : Below w0.heap.size w0 w') => (cells3g ((hb.block _ l2).trans g2)).1
  have K5 := fun w' (hb : Below w0.heap.size w0 w') => (cells3g ((hb.block _ l2).trans g2)).2.1
  have K6 := fun w' (hb : Below w0.heap.size w0 w') => (cells3g ((hb.block _ l2).trans g2)).2.2
  have HA : Hid (∀ w', Below w0.heap.size w0 w' → Rd w' A n c a) := fun w' h => (ha.below hb0).below h
  have HB : Hid (∀ w', Below w0.heap.size w0 w' → Rd w' B m d b) := fun w' h => (hb.below hb0).below h
  clear ha hb
  go_enter Try.func32, Try.ntmps32
  go_wp2_with fail
  rw [← hw0, ← hp2, ← hp1]
  clear hw0 g1 g2 hp1 hp2 l1 l2 HP1 HP2
  go_region_held (fun w' => Below w0.heap.size w0 w') (repeat' first | exact Below.refl _ _ | refine nkeep_alloc ?_ _ | refine Below.drew ?_) (first
    | (go_at_call 34; ((with_reducible refine (pack_any q A n c s _).mono ?_); rintro e1 w1 ⟨rfl, rfl⟩))
    | (go_at_call 34; ((with_reducible refine (pack_any r B m d t _).mono ?_); rintro e2 w2 ⟨rfl, rfl⟩)))
  all_goals cases X
  all_goals
    go_wp2_with (first
      | (go_at_call 35; ((with_reducible refine (HC.out _).mono ?_); rintro e3 w3 ⟨rfl, rfl⟩))
      | (go_at_call 36; ((with_reducible refine (HS.out _ (HA.out _ (by repeat' first | exact Below.refl _ _ | refine nkeep_alloc ?_ _ | refine Below.drew ?_)) (HB.out _ (by repeat' first | exact Below.refl _ _ | refine nkeep_alloc ?_ _ | refine Below.drew ?_))).mono ?_); rintro e4 w4 ⟨rfl, rfl⟩)))
    go_ret
    refine ⟨rfl, bthen hb0 ?_⟩
    repeat' first | exact Below.refl _ _ | refine nkeep_alloc ?_ _ | refine Below.drew ?_
end Go.Proofs.Ytenefjkgnkelgaa
