import Derived.Test.YtahkhideepncfaaDoorID
import Derived.Test.YtahkhideepncfaaDoorIA
set_option maxRecDepth 100000
/- What the document's Few, in and May come to. -/
namespace Go.Proofs.YtahkhideepncfaaDoor
open Go.RowKit
set_option linter.unusedVariables false

theorem BoolIs.of {w w' : World} {a b : Bool} (hb : Below w.heap.size w w') (h : b = a) : BoolIs w a (.returned (.bool b)) w' := by subst h; exact ⟨rfl, hb⟩
theorem few_is (v : Value) (x : Item.It) (w : World) (h : IsItem w v x) :
    Calls Tryd.prog 18 #[v] w (BoolIs w (decide (x.l.length ≤ 80) && decide (x.b.length ≤ 1100))) := by
  obtain ⟨LA, ln, lc, BA, bn, bc, rfl, hl, hb⟩ := h
  have e1 := RdI.size hl
  have e2 := hb.1
  have hb0 : Below w.heap.size w (w.alloc (.cells #[.int .i64 x.k, .int .i64 x.q, .int .i64 x.e, .int .i64 x.i, .int .i64 x.t, .int .i64 x.c, .slice LA ln lc, .slice BA bn bc] 25)) := (Below.refl _ _).alloc (Nat.le_refl _) _
  rw [e1, e2]
  go_enter Tryd.func18, Tryd.ntmps18
  go_wp2
  all_goals
    go_ret
    refine BoolIs.of hb0 ?_
    rw [Bool.eq_iff_iff]
    simp only [Bool.and_eq_true, decide_eq_true_eq, Bool.false_eq_true, false_iff]
    omega

theorem in_is (A : Option Addr) (n c : Nat) (l : List Int) (top : Int) (w : World) (h : RdI w A n c l) :
    Calls Tryd.prog 54 #[.slice A n c, .int .i64 top] w (JustIs w (Item.allIn l top)) := by
  have hn := RdV.le h
  have HL := hidT (RdI.size h)
  go_enter Tryd.func54, Tryd.ntmps54
  go_wp2
  go_loop [5] (fun i => ∃ j : Nat, j ≤ n ∧ i = .int .i64 j ∧ Item.allIn (l.take j) top = true) (fun i => n - (intOf i).toNat)
  case atStart => exact ⟨0, Nat.zero_le _, rfl, rfl⟩
  case round =>
    obtain ⟨j, hj, rfl, ha⟩ := hrel
    have HA := hidT ha
    clear ha
    by_cases hjn : j < n
    · obtain ⟨b, o, x, rfl, hx, hc⟩ := RdI.at_ h hjn
      have HX := hidT hx
      clear hx
      by_cases h0 : x < 0
      · have HW : Hid (Item.win x 0 top = false) := hidT (by simp [Item.win]; omega)
        go_wp2
        go_ret
        rw [allIn_not HX.out HW.out]
        exact ⟨rfl, rfl⟩
      · by_cases h1 : top < x
        · have HW : Hid (Item.win x 0 top = false) := hidT (by simp [Item.win]; omega)
          go_wp2
          go_ret
          rw [allIn_not HX.out HW.out]
          exact ⟨rfl, rfl⟩
        · have HW : Hid (Item.win x 0 top = true) := hidT (by simp [Item.win]; omega)
          go_wp2
          go_round
          case rel => exact ⟨j + 1, by omega, by go_num, allIn_succ HX.out HA.out HW.out⟩
          case measure => simp [intOf]; omega
    · obtain rfl : j = n := by omega
      go_wp2
      go_ret
      have ha := HA.out
      rw [List.take_of_length_le (by rw [HL.out]; omega)] at ha
      rw [ha]
      exact ⟨rfl, rfl⟩

end Go.Proofs.YtahkhideepncfaaDoor
/- What the document's May comes to, kind by kind. -/
namespace Go.Proofs.YtahkhideepncfaaDoor
open Go.RowKit
set_option linter.unusedVariables false

set_option maxHeartbeats 4000000 in
set_option maxRecDepth 100000 in
theorem rmay1 (q e i t c : Int) (LA : Option Addr) (ln lc : Nat) (BA : Option Addr) (bn bc : Nat) (l : List Int) (b : List UInt8) (w : World) (hl : RdI w LA ln lc l) (hb : Rd w BA bn bc b) (ans : Bool)
    (h1 : 1 ≤ q) (h2 : q ≤ 4611686018427387904) (h3 : 0 ≤ e) (h4 : e ≤ 4611686018427387904) (HA : Hid (ans = true ↔ (1 ≤ t ∧ t ≤ 32 ∧ 0 ≤ i ∧ i < t ∧ c = 0 ∧ ln = 0 ∧ bn ≤ 1024))) :
    Calls Tryd.prog 31 #[.agg #[.int .i64 1, .int .i64 q, .int .i64 e, .int .i64 i, .int .i64 t, .int .i64 c, .slice LA ln lc, .slice BA bn bc]] w (BoolIs w ans) := by
  rcases (show ln ≠ 0 ∨ (ln = 0 ∧ bn ≠ 0) ∨ (ln = 0 ∧ bn = 0) from by omega) with hz | ⟨rfl, hy⟩ | ⟨rfl, rfl⟩
  all_goals
    go_enter Tryd.func31, Tryd.ntmps31
    go_wp2
    all_goals
      go_ret
      refine BoolIs.of ((Below.refl _ _).alloc (Nat.le_refl _) _) ?_
      rw [Bool.eq_iff_iff, HA.out]
      try simp only [decide_eq_true_eq]
      try simp only [beq_iff_eq]
      try simp only [Bool.false_eq_true]
      try simp only [true_and]
      try simp only [false_and]
      try simp only [false_iff]
      try simp only [true_iff]
      try simp only [iff_false]
      try simp only [not_false_eq_true]
      try omega

set_option maxHeartbeats 4000000 in
set_option maxRecDepth 100000 in
theorem rmay3 (q e i t c : Int) (LA : Option Addr) (ln lc : Nat) (BA : Option Addr) (bn bc : Nat) (l : List Int) (b : List UInt8) (w : World) (hl : RdI w LA ln lc l) (hb : Rd w BA bn bc b) (ans : Bool)
    (h1 : 1 ≤ q) (h2 : q ≤ 4611686018427387904) (h3 : 0 ≤ e) (h4 : e ≤ 4611686018427387904) (HA : Hid (ans = true ↔ (ln = 0 ∧ bn = 0 ∧ i = 0 ∧ t = 0 ∧ c = 0))) :
    Calls Tryd.prog 31 #[.agg #[.int .i64 3, .int .i64 q, .int .i64 e, .int .i64 i, .int .i64 t, .int .i64 c, .slice LA ln lc, .slice BA bn bc]] w (BoolIs w ans) := by
  rcases (show ln ≠ 0 ∨ (ln = 0 ∧ bn ≠ 0) ∨ (ln = 0 ∧ bn = 0) from by omega) with hz | ⟨rfl, hy⟩ | ⟨rfl, rfl⟩
  all_goals
    go_enter Tryd.func31, Tryd.ntmps31
    go_wp2
    all_goals
      go_ret
      refine BoolIs.of ((Below.refl _ _).alloc (Nat.le_refl _) _) ?_
      rw [Bool.eq_iff_iff, HA.out]
      try simp only [decide_eq_true_eq]
      try simp only [beq_iff_eq]
      try simp only [Bool.false_eq_true]
      try simp only [true_and]
      try simp only [false_and]
      try simp only [false_iff]
      try simp only [true_iff]
      try simp only [iff_false]
      try simp only [not_false_eq_true]
      try omega

end Go.Proofs.YtahkhideepncfaaDoor
