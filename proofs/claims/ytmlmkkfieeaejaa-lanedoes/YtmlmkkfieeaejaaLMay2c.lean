/- What the document's May comes to, kind by kind. -/
import Derived.Test.YtmlmkkfieeaejaaLMay2
set_option maxRecDepth 100000
namespace Go.Proofs.Ytmlmkkfieeaejaa
open Go.RowKit
set_option linter.unusedVariables false


set_option maxHeartbeats 4000000 in
set_option maxRecDepth 100000 in
theorem rmay_out (k q e i t c : Int) (LA : Option Addr) (ln lc : Nat) (BA : Option Addr) (bn bc : Nat) (w : World) (h : q < 1 ∨ 4611686018427387904 < q ∨ e < 0 ∨ 4611686018427387904 < e) :
    Calls Try.prog 26 #[.agg #[.int .i64 k, .int .i64 q, .int .i64 e, .int .i64 i, .int .i64 t, .int .i64 c, .slice LA ln lc, .slice BA bn bc]] w (BoolIs w false) := by
  rcases (show q < 1 ∨ (1 ≤ q ∧ 4611686018427387904 < q) ∨ ((1 ≤ q ∧ q ≤ 4611686018427387904) ∧ e < 0) ∨ ((1 ≤ q ∧ q ≤ 4611686018427387904) ∧ 0 ≤ e ∧ 4611686018427387904 < e) from by omega) with h1 | ⟨h1, h2⟩ | ⟨⟨h1, h2⟩, h3⟩ | ⟨⟨h1, h2⟩, h3, h4⟩
  all_goals
    go_enter Try.func26, Try.ntmps26
    go_wp2
    go_ret
    exact ⟨rfl, (Below.refl _ _).alloc (Nat.le_refl _) _⟩

set_option maxHeartbeats 4000000 in
set_option maxRecDepth 100000 in
theorem rmay0 (k q e i t c : Int) (LA : Option Addr) (ln lc : Nat) (BA : Option Addr) (bn bc : Nat) (l : List Int) (b : List UInt8) (w : World) (hl : RdI w LA ln lc l) (hb : Rd w BA bn bc b) (ans : Bool)
    (h1 : 1 ≤ q) (h2 : q ≤ 4611686018427387904) (h3 : 0 ≤ e) (h4 : e ≤ 4611686018427387904) (HA : Hid (ans = false)) (k1 : k ≠ 1) (k2 : k ≠ 2) (k3 : k ≠ 3) (k4 : k ≠ 4) (k5 : k ≠ 5) (k6 : k ≠ 6) :
    Calls Try.prog 26 #[.agg #[.int .i64 k, .int .i64 q, .int .i64 e, .int .i64 i, .int .i64 t, .int .i64 c, .slice LA ln lc, .slice BA bn bc]] w (BoolIs w ans) := by
  rcases (show ln ≠ 0 ∨ (ln = 0 ∧ bn ≠ 0) ∨ (ln = 0 ∧ bn = 0) from by omega) with hz | ⟨rfl, hy⟩ | ⟨rfl, rfl⟩
  all_goals
    have q1 : (k == 1) = false := by simpa using k1
    have q2 : (k == 2) = false := by simpa using k2
    have q3 : (k == 3) = false := by simpa using k3
    have q4 : (k == 4) = false := by simpa using k4
    have q5 : (k == 5) = false := by simpa using k5
    have q6 : (k == 6) = false := by simpa using k6
    go_enter Try.func26, Try.ntmps26
    go_wp2
    go_ret
    rw [HA.out]
    exact ⟨rfl, (Below.refl _ _).alloc (Nat.le_refl _) _⟩

set_option maxHeartbeats 4000000 in
set_option maxRecDepth 100000 in
theorem rmay5 (q e i t c : Int) (LA : Option Addr) (ln lc : Nat) (BA : Option Addr) (bn bc : Nat) (l : List Int) (b : List UInt8) (w : World) (hl : RdI w LA ln lc l) (hb : Rd w BA bn bc b) (ans : Bool)
    (h1 : 1 ≤ q) (h2 : q ≤ 4611686018427387904) (h3 : 0 ≤ e) (h4 : e ≤ 4611686018427387904) (HA : Hid (ans = true ↔ (ln = 0 ∧ bn = 0 ∧ i = 0 ∧ t = 0 ∧ 0 ≤ c ∧ c ≤ 4611686018427387904))) :
    Calls Try.prog 26 #[.agg #[.int .i64 5, .int .i64 q, .int .i64 e, .int .i64 i, .int .i64 t, .int .i64 c, .slice LA ln lc, .slice BA bn bc]] w (BoolIs w ans) := by
  rcases (show ln ≠ 0 ∨ (ln = 0 ∧ bn ≠ 0) ∨ (ln = 0 ∧ bn = 0) from by omega) with hz | ⟨rfl, hy⟩ | ⟨rfl, rfl⟩
  all_goals
    go_enter Try.func26, Try.ntmps26
    go_wp2
    all_goals
      go_ret
      refine BoolIs.of ((Below.refl _ _).alloc (Nat.le_refl _) _) ?_
      rw [Bool.eq_iff_iff, HA.out]
      try simp only [decide_eq_true_eq]
      try simp only [beq_iff_eq]
      try simp only [Bool.false_eq_true]
      try simp only [true_and]
      try simp only [false_and]
      try simp only [false_iff]
      try simp only [iff_false]
      try simp only [not_false_eq_true]
      try omega

set_option maxHeartbeats 4000000 in
set_option maxRecDepth 100000 in
theorem rmay6 (q e i t c : Int) (LA : Option Addr) (ln lc : Nat) (BA : Option Addr) (bn bc : Nat) (l : List Int) (b : List UInt8) (w : World) (hl : RdI w LA ln lc l) (hb : Rd w BA bn bc b) (ans : Bool)
    (h1 : 1 ≤ q) (h2 : q ≤ 4611686018427387904) (h3 : 0 ≤ e) (h4 : e ≤ 4611686018427387904) (HA : Hid (ans = true ↔ (Item.allIn l 4611686018427387904 = true ∧ i = 0 ∧ t = 0 ∧ c = 0 ∧ bn = 0 ∧ 2 ≤ ln ∧ ln ≤ 64))) :
    Calls Try.prog 26 #[.agg #[.int .i64 6, .int .i64 q, .int .i64 e, .int .i64 i, .int .i64 t, .int .i64 c, .slice LA ln lc, .slice BA bn bc]] w (BoolIs w ans) := by
  rcases (show ln ≠ 0 ∨ (ln = 0 ∧ bn ≠ 0) ∨ (ln = 0 ∧ bn = 0) from by omega) with hz | ⟨rfl, hy⟩ | ⟨rfl, rfl⟩
  all_goals
    have hin := fun w' (hb' : Below w.heap.size w w') => in_is LA _ lc l 4611686018427387904 w' (RdV.below hl hb')
    go_enter Try.func26, Try.ntmps26
    go_wp2_with fail
    with_reducible refine (hin _ ((Below.refl _ _).alloc (Nat.le_refl _) _)).mono ?_
    rintro en w1 ⟨rfl, rfl⟩
    clear hin
    cases hf : Item.allIn l 4611686018427387904
    all_goals
      go_wp2
      all_goals
        go_ret
        refine BoolIs.of ((Below.refl _ _).alloc (Nat.le_refl _) _) ?_
        rw [Bool.eq_iff_iff, HA.out, hf]
        try simp only [decide_eq_true_eq]
        try simp only [beq_iff_eq]
        try simp only [Bool.false_eq_true]
        try simp only [true_and]
        try simp only [false_and]
        try simp only [false_iff]
        try simp only [iff_false]
        try simp only [not_false_eq_true]
        try omega

end Go.Proofs.Ytmlmkkfieeaejaa
