import Derived.Test.YtdchgnmkeefffaaLBX
set_option maxRecDepth 100000
/- What the document's in comes to. -/
namespace Go.Proofs.Ytdchgnmkeefffaa
open Go.RowKit
set_option linter.unusedVariables false



theorem in_is (A : Option Addr) (n c : Nat) (l : List Int) (top : Int) (w : World) (h : RdI w A n c l) :
    Calls Try.prog 38 #[.slice A n c, .int .i64 top] w (JustIs w (Item.allIn l top)) := by
  have hn := RdV.le h
  have HL := hidT (RdI.size h)
  go_enter Try.func38, Try.ntmps38
  go_wp2
  go_loop [5] (fun i => ∃ j : Nat, j ≤ n ∧ i = .int .i64 j ∧ Item.allIn (l.take j) top = true) (fun i => n - (intOf i).toNat)
  case atStart => exact ⟨0, Nat.zero_le _, rfl, rfl⟩
  case round =>
    obtain ⟨j, hj, rfl, ha⟩ := hrel
    have HA := hidT ha
    clear ha
    by_cases hjn : j < n
    · obtain ⟨b, o, x, rfl, hx, hc⟩ := RdI.at_ h hjn
      have HX := hidT hx
      clear hx
      by_cases h0 : x < 0
      · have HW : Hid (Item.win x 0 top = false) := hidT (by simp [Item.win]; omega)
        go_wp2
        go_ret
        rw [allIn_not HX.out HW.out]
        exact ⟨rfl, rfl⟩
      · by_cases h1 : top < x
        · have HW : Hid (Item.win x 0 top = false) := hidT (by simp [Item.win]; omega)
          go_wp2
          go_ret
          rw [allIn_not HX.out HW.out]
          exact ⟨rfl, rfl⟩
        · have HW : Hid (Item.win x 0 top = true) := hidT (by simp [Item.win]; omega)
          go_wp2
          go_round
          case rel => exact ⟨j + 1, by omega, by go_num, allIn_succ HX.out HA.out HW.out⟩
          case measure => simp [intOf]; omega
    · obtain rfl : j = n := by omega
      go_wp2
      go_ret
      have ha := HA.out
      rw [List.take_of_length_le (by rw [HL.out]; omega)] at ha
      rw [ha]
      exact ⟨rfl, rfl⟩

end Go.Proofs.Ytdchgnmkeefffaa
/- What the document's May comes to, kind by kind. -/
namespace Go.Proofs.Ytdchgnmkeefffaa
open Go.RowKit
set_option linter.unusedVariables false


set_option maxHeartbeats 4000000 in
set_option maxRecDepth 100000 in
theorem rmay1 (q e i t c : Int) (LA : Option Addr) (ln lc : Nat) (BA : Option Addr) (bn bc : Nat) (l : List Int) (b : List UInt8) (w : World) (hl : RdI w LA ln lc l) (hb : Rd w BA bn bc b) (ans : Bool)
    (h1 : 1 ≤ q) (h2 : q ≤ 4611686018427387904) (h3 : 0 ≤ e) (h4 : e ≤ 4611686018427387904) (HA : Hid (ans = true ↔ (1 ≤ t ∧ t ≤ 32 ∧ 0 ≤ i ∧ i < t ∧ c = 0 ∧ ln = 0 ∧ bn ≤ 1024))) :
    Calls Try.prog 18 #[.agg #[.int .i64 1, .int .i64 q, .int .i64 e, .int .i64 i, .int .i64 t, .int .i64 c, .slice LA ln lc, .slice BA bn bc]] w (BoolIs w ans) := by
  rcases (show ln ≠ 0 ∨ (ln = 0 ∧ bn ≠ 0) ∨ (ln = 0 ∧ bn = 0) from by omega) with hz | ⟨rfl, hy⟩ | ⟨rfl, rfl⟩
  all_goals
    go_enter Try.func18, Try.ntmps18
    go_wp2
    all_goals
      go_ret
      refine BoolIs.of ((Below.refl _ _).alloc (Nat.le_refl _) _) ?_
      rw [Bool.eq_iff_iff, HA.out]
      try simp only [decide_eq_true_eq]
      try simp only [beq_iff_eq]
      try simp only [Bool.false_eq_true]
      try simp only [true_and]
      try simp only [false_and]
      try simp only [false_iff]
      try simp only [true_iff]
      try simp only [iff_false]
      try simp only [not_false_eq_true]
      try omega

set_option maxHeartbeats 4000000 in
set_option maxRecDepth 100000 in
theorem rmay3 (q e i t c : Int) (LA : Option Addr) (ln lc : Nat) (BA : Option Addr) (bn bc : Nat) (l : List Int) (b : List UInt8) (w : World) (hl : RdI w LA ln lc l) (hb : Rd w BA bn bc b) (ans : Bool)
    (h1 : 1 ≤ q) (h2 : q ≤ 4611686018427387904) (h3 : 0 ≤ e) (h4 : e ≤ 4611686018427387904) (HA : Hid (ans = true ↔ (ln = 0 ∧ bn = 0 ∧ i = 0 ∧ t = 0 ∧ c = 0))) :
    Calls Try.prog 18 #[.agg #[.int .i64 3, .int .i64 q, .int .i64 e, .int .i64 i, .int .i64 t, .int .i64 c, .slice LA ln lc, .slice BA bn bc]] w (BoolIs w ans) := by
  rcases (show ln ≠ 0 ∨ (ln = 0 ∧ bn ≠ 0) ∨ (ln = 0 ∧ bn = 0) from by omega) with hz | ⟨rfl, hy⟩ | ⟨rfl, rfl⟩
  all_goals
    go_enter Try.func18, Try.ntmps18
    go_wp2
    all_goals
      go_ret
      refine BoolIs.of ((Below.refl _ _).alloc (Nat.le_refl _) _) ?_
      rw [Bool.eq_iff_iff, HA.out]
      try simp only [decide_eq_true_eq]
      try simp only [beq_iff_eq]
      try simp only [Bool.false_eq_true]
      try simp only [true_and]
      try simp only [false_and]
      try simp only [false_iff]
      try simp only [true_iff]
      try simp only [iff_false]
      try simp only [not_false_eq_true]
      try omega

end Go.Proofs.Ytdchgnmkeefffaa
/- What the document's May comes to, kind by kind. -/
namespace Go.Proofs.Ytdchgnmkeefffaa
open Go.RowKit
set_option linter.unusedVariables false


set_option maxHeartbeats 4000000 in
set_option maxRecDepth 100000 in
theorem rmay2 (q e i t c : Int) (LA : Option Addr) (ln lc : Nat) (BA : Option Addr) (bn bc : Nat) (l : List Int) (b : List UInt8) (w : World) (hl : RdI w LA ln lc l) (hb : Rd w BA bn bc b) (ans : Bool)
    (h1 : 1 ≤ q) (h2 : q ≤ 4611686018427387904) (h3 : 0 ≤ e) (h4 : e ≤ 4611686018427387904) (HA : Hid (ans = true ↔ (Item.allIn l 63 = true ∧ 0 ≤ i ∧ i ≤ 1 ∧ t = 0 ∧ c = 0 ∧ bn = 0 ∧ 1 ≤ ln ∧ ln ≤ 64))) :
    Calls Try.prog 18 #[.agg #[.int .i64 2, .int .i64 q, .int .i64 e, .int .i64 i, .int .i64 t, .int .i64 c, .slice LA ln lc, .slice BA bn bc]] w (BoolIs w ans) := by
  rcases (show ln ≠ 0 ∨ (ln = 0 ∧ bn ≠ 0) ∨ (ln = 0 ∧ bn = 0) from by omega) with hz | ⟨rfl, hy⟩ | ⟨rfl, rfl⟩
  all_goals
    have hin := fun w' (hb' : Below w.heap.size w w') => in_is LA _ lc l 63 w' (RdV.below hl hb')
    go_enter Try.func18, Try.ntmps18
    go_wp2_with fail
    with_reducible refine (hin _ ((Below.refl _ _).alloc (Nat.le_refl _) _)).mono ?_
    rintro en w1 ⟨rfl, rfl⟩
    clear hin
    cases hf : Item.allIn l 63
    all_goals
      go_wp2
      all_goals
        go_ret
        refine BoolIs.of ((Below.refl _ _).alloc (Nat.le_refl _) _) ?_
        rw [Bool.eq_iff_iff, HA.out, hf]
        try simp only [decide_eq_true_eq]
        try simp only [beq_iff_eq]
        try simp only [Bool.false_eq_true]
        try simp only [true_and]
        try simp only [false_and]
        try simp only [false_iff]
        try simp only [iff_false]
        try simp only [not_false_eq_true]
        try omega

set_option maxHeartbeats 4000000 in
set_option maxRecDepth 100000 in
theorem rmay4 (q e i t c : Int) (LA : Option Addr) (ln lc : Nat) (BA : Option Addr) (bn bc : Nat) (l : List Int) (b : List UInt8) (w : World) (hl : RdI w LA ln lc l) (hb : Rd w BA bn bc b) (ans : Bool)
    (h1 : 1 ≤ q) (h2 : q ≤ 4611686018427387904) (h3 : 0 ≤ e) (h4 : e ≤ 4611686018427387904) (HA : Hid (ans = true ↔ (ln = 0 ∧ bn = 0 ∧ 0 ≤ i ∧ i ≤ 1 ∧ t = 0 ∧ c = 0))) :
    Calls Try.prog 18 #[.agg #[.int .i64 4, .int .i64 q, .int .i64 e, .int .i64 i, .int .i64 t, .int .i64 c, .slice LA ln lc, .slice BA bn bc]] w (BoolIs w ans) := by
  rcases (show ln ≠ 0 ∨ (ln = 0 ∧ bn ≠ 0) ∨ (ln = 0 ∧ bn = 0) from by omega) with hz | ⟨rfl, hy⟩ | ⟨rfl, rfl⟩
  all_goals
    go_enter Try.func18, Try.ntmps18
    go_wp2
    all_goals
      go_ret
      refine BoolIs.of ((Below.refl _ _).alloc (Nat.le_refl _) _) ?_
      rw [Bool.eq_iff_iff, HA.out]
      try simp only [decide_eq_true_eq]
      try simp only [beq_iff_eq]
      try simp only [Bool.false_eq_true]
      try simp only [true_and]
      try simp only [false_and]
      try simp only [false_iff]
      try simp only [iff_false]
      try simp only [not_false_eq_true]
      try omega

end Go.Proofs.Ytdchgnmkeefffaa
/- What the document's May comes to, kind by kind. -/
namespace Go.Proofs.Ytdchgnmkeefffaa
open Go.RowKit
set_option linter.unusedVariables false


set_option maxHeartbeats 4000000 in
set_option maxRecDepth 100000 in
theorem rmay_out (k q e i t c : Int) (LA : Option Addr) (ln lc : Nat) (BA : Option Addr) (bn bc : Nat) (w : World) (h : q < 1 ∨ 4611686018427387904 < q ∨ e < 0 ∨ 4611686018427387904 < e) :
    Calls Try.prog 18 #[.agg #[.int .i64 k, .int .i64 q, .int .i64 e, .int .i64 i, .int .i64 t, .int .i64 c, .slice LA ln lc, .slice BA bn bc]] w (BoolIs w false) := by
  rcases (show q < 1 ∨ (1 ≤ q ∧ 4611686018427387904 < q) ∨ ((1 ≤ q ∧ q ≤ 4611686018427387904) ∧ e < 0) ∨ ((1 ≤ q ∧ q ≤ 4611686018427387904) ∧ 0 ≤ e ∧ 4611686018427387904 < e) from by omega) with h1 | ⟨h1, h2⟩ | ⟨⟨h1, h2⟩, h3⟩ | ⟨⟨h1, h2⟩, h3, h4⟩
  all_goals
    go_enter Try.func18, Try.ntmps18
    go_wp2
    go_ret
    exact ⟨rfl, (Below.refl _ _).alloc (Nat.le_refl _) _⟩

set_option maxHeartbeats 4000000 in
set_option maxRecDepth 100000 in
theorem rmay0 (k q e i t c : Int) (LA : Option Addr) (ln lc : Nat) (BA : Option Addr) (bn bc : Nat) (l : List Int) (b : List UInt8) (w : World) (hl : RdI w LA ln lc l) (hb : Rd w BA bn bc b) (ans : Bool)
    (h1 : 1 ≤ q) (h2 : q ≤ 4611686018427387904) (h3 : 0 ≤ e) (h4 : e ≤ 4611686018427387904) (HA : Hid (ans = false)) (k1 : k ≠ 1) (k2 : k ≠ 2) (k3 : k ≠ 3) (k4 : k ≠ 4) (k5 : k ≠ 5) (k6 : k ≠ 6) :
    Calls Try.prog 18 #[.agg #[.int .i64 k, .int .i64 q, .int .i64 e, .int .i64 i, .int .i64 t, .int .i64 c, .slice LA ln lc, .slice BA bn bc]] w (BoolIs w ans) := by
  rcases (show ln ≠ 0 ∨ (ln = 0 ∧ bn ≠ 0) ∨ (ln = 0 ∧ bn = 0) from by omega) with hz | ⟨rfl, hy⟩ | ⟨rfl, rfl⟩
  all_goals
    have q1 : (k == 1) = false := by simpa using k1
    have q2 : (k == 2) = false := by simpa using k2
    have q3 : (k == 3) = false := by simpa using k3
    have q4 : (k == 4) = false := by simpa using k4
    have q5 : (k == 5) = false := by simpa using k5
    have q6 : (k == 6) = false := by simpa using k6
    go_enter Try.func18, Try.ntmps18
    go_wp2
    go_ret
    rw [HA.out]
    exact ⟨rfl, (Below.refl _ _).alloc (Nat.le_refl _) _⟩

set_option maxHeartbeats 4000000 in
set_option maxRecDepth 100000 in
theorem rmay5 (q e i t c : Int) (LA : Option Addr) (ln lc : Nat) (BA : Option Addr) (bn bc : Nat) (l : List Int) (b : List UInt8) (w : World) (hl : RdI w LA ln lc l) (hb : Rd w BA bn bc b) (ans : Bool)
    (h1 : 1 ≤ q) (h2 : q ≤ 4611686018427387904) (h3 : 0 ≤ e) (h4 : e ≤ 4611686018427387904) (HA : Hid (ans = true ↔ (ln = 0 ∧ bn = 0 ∧ i = 0 ∧ t = 0 ∧ 0 ≤ c ∧ c ≤ 4611686018427387904))) :
    Calls Try.prog 18 #[.agg #[.int .i64 5, .int .i64 q, .int .i64 e, .int .i64 i, .int .i64 t, .int .i64 c, .slice LA ln lc, .slice BA bn bc]] w (BoolIs w ans) := by
  rcases (show ln ≠ 0 ∨ (ln = 0 ∧ bn ≠ 0) ∨ (ln = 0 ∧ bn = 0) from by omega) with hz | ⟨rfl, hy⟩ | ⟨rfl, rfl⟩
  all_goals
    go_enter Try.func18, Try.ntmps18
    go_wp2
    all_goals
      go_ret
      refine BoolIs.of ((Below.refl _ _).alloc (Nat.le_refl _) _) ?_
      rw [Bool.eq_iff_iff, HA.out]
      try simp only [decide_eq_true_eq]
      try simp only [beq_iff_eq]
      try simp only [Bool.false_eq_true]
      try simp only [true_and]
      try simp only [false_and]
      try simp only [false_iff]
      try simp only [iff_false]
      try simp only [not_false_eq_true]
      try omega

set_option maxHeartbeats 4000000 in
set_option maxRecDepth 100000 in
theorem rmay6 (q e i t c : Int) (LA : Option Addr) (ln lc : Nat) (BA : Option Addr) (bn bc : Nat) (l : List Int) (b : List UInt8) (w : World) (hl : RdI w LA ln lc l) (hb : Rd w BA bn bc b) (ans : Bool)
    (h1 : 1 ≤ q) (h2 : q ≤ 4611686018427387904) (h3 : 0 ≤ e) (h4 : e ≤ 4611686018427387904) (HA : Hid (ans = true ↔ (Item.allIn l 4611686018427387904 = true ∧ i = 0 ∧ t = 0 ∧ c = 0 ∧ bn = 0 ∧ 2 ≤ ln ∧ ln ≤ 64))) :
    Calls Try.prog 18 #[.agg #[.int .i64 6, .int .i64 q, .int .i64 e, .int .i64 i, .int .i64 t, .int .i64 c, .slice LA ln lc, .slice BA bn bc]] w (BoolIs w ans) := by
  rcases (show ln ≠ 0 ∨ (ln = 0 ∧ bn ≠ 0) ∨ (ln = 0 ∧ bn = 0) from by omega) with hz | ⟨rfl, hy⟩ | ⟨rfl, rfl⟩
  all_goals
    have hin := fun w' (hb' : Below w.heap.size w w') => in_is LA _ lc l 4611686018427387904 w' (RdV.below hl hb')
    go_enter Try.func18, Try.ntmps18
    go_wp2_with fail
    with_reducible refine (hin _ ((Below.refl _ _).alloc (Nat.le_refl _) _)).mono ?_
    rintro en w1 ⟨rfl, rfl⟩
    clear hin
    cases hf : Item.allIn l 4611686018427387904
    all_goals
      go_wp2
      all_goals
        go_ret
        refine BoolIs.of ((Below.refl _ _).alloc (Nat.le_refl _) _) ?_
        rw [Bool.eq_iff_iff, HA.out, hf]
        try simp only [decide_eq_true_eq]
        try simp only [beq_iff_eq]
        try simp only [Bool.false_eq_true]
        try simp only [true_and]
        try simp only [false_and]
        try simp only [false_iff]
        try simp only [iff_false]
        try simp only [not_false_eq_true]
        try omega

end Go.Proofs.Ytdchgnmkeefffaa
/- What the document's May comes to. -/
namespace Go.Proofs.Ytdchgnmkeefffaa
open Go.RowKit
set_option linter.unusedVariables false


theorem allIn_nil {l : List Int} {top : Int} (h : l.length = 0) : Item.allIn l top = true := by
  have := List.eq_nil_of_length_eq_zero h
  subst this
  rfl
theorem list_none {l : List Int} {top : Int} : Item.list l 0 0 top = true ↔ l.length = 0 := by
  simp only [Item.list, Bool.and_eq_true, Item.win_iff]
  constructor
  · rintro ⟨h, _⟩; omega
  · intro h; exact ⟨by omega, allIn_nil h⟩
theorem list_some {l : List Int} {lo hi top : Int} : Item.list l lo hi top = true ↔ (Item.allIn l top = true ∧ lo ≤ l.length ∧ (l.length : Int) ≤ hi) := by
  simp only [Item.list, Bool.and_eq_true, Item.win_iff]
  constructor
  · rintro ⟨h, g⟩; exact ⟨g, h⟩
  · rintro ⟨g, h⟩; exact ⟨h, g⟩
theorem body_iff {b : List UInt8} {n : Int} : Item.body b n = true ↔ (b.length : Int) ≤ n := by simp [Item.body]
theorem ask1_iff {x : Item.It} : Item.ask1 x = true ↔ (1 ≤ x.t ∧ x.t ≤ 32 ∧ 0 ≤ x.i ∧ x.i < x.t ∧ x.c = 0 ∧ x.l.length = 0 ∧ x.b.length ≤ 1024) := by
  simp only [Item.ask1, Bool.and_eq_true, Item.win_iff, list_none, body_iff]
  omega
theorem askNone_iff {x : Item.It} {im cm : Int} : Item.askN x im cm 0 0 0 = true ↔ (x.l.length = 0 ∧ x.b.length = 0 ∧ 0 ≤ x.i ∧ x.i ≤ im ∧ x.t = 0 ∧ 0 ≤ x.c ∧ x.c ≤ cm) := by
  simp only [Item.askN, Bool.and_eq_true, Item.win_iff, list_none, body_iff]
  omega
theorem askSome_iff {x : Item.It} {im lo hi top : Int} : Item.askN x im 0 lo hi top = true ↔ (Item.allIn x.l top = true ∧ 0 ≤ x.i ∧ x.i ≤ im ∧ x.t = 0 ∧ x.c = 0 ∧ x.b.length = 0 ∧ lo ≤ x.l.length ∧ (x.l.length : Int) ≤ hi) := by
  simp only [Item.askN, Bool.and_eq_true, Item.win_iff, list_some, body_iff]
  constructor
  · rintro ⟨h1, h2, h3, ⟨h4, h5⟩, h6⟩; exact ⟨h4, by omega, by omega, by omega, by omega, by omega, h5⟩
  · rintro ⟨h1, h2, h3, h4, h5, h6, h7⟩; exact ⟨by omega, by omega, by omega, ⟨h1, h7⟩, by omega⟩
theorem may_in {x : Item.It} (h1 : 1 ≤ x.q) (h2 : x.q ≤ 4611686018427387904) (h3 : 0 ≤ x.e) (h4 : x.e ≤ 4611686018427387904) : Item.may x = Item.ask x := by
  simp [Item.may, Item.win, h1, h2, h3, h4]

theorem rmay_any (v : Value) (x : Item.It) (w : World) (h : IsItem w v x) : Calls Try.prog 18 #[v] w (BoolIs w (Item.may x)) := by
  obtain ⟨LA, ln, lc, BA, bn, bc, rfl, hl, hb⟩ := h
  have el := RdI.size hl
  have eb := hb.1
  by_cases hr : x.q < 1 ∨ 4611686018427387904 < x.q ∨ x.e < 0 ∨ 4611686018427387904 < x.e
  · have e : Item.may x = false := by
      cases hm : Item.may x with
      | false => rfl
      | true =>
        simp only [Item.may, Bool.and_eq_true, Item.win_iff] at hm
        omega
    rw [e]
    exact rmay_out x.k x.q x.e x.i x.t x.c LA ln lc BA bn bc w hr
  have h1 : 1 ≤ x.q := by omega
  have h2 : x.q ≤ 4611686018427387904 := by omega
  have h3 : 0 ≤ x.e := by omega
  have h4 : x.e ≤ 4611686018427387904 := by omega
  rw [may_in h1 h2 h3 h4]
  obtain ⟨k, q, e, i, t, c, l, b⟩ := x
  dsimp only at *
  by_cases k1 : k = 1
  · subst k1
    refine rmay1 q e i t c LA ln lc BA bn bc l b w hl hb _ h1 h2 h3 h4 (hidT ?_)
    rw [ask_at rfl, if_pos rfl, ask1_iff]
    dsimp only
    rw [el, eb]
  by_cases k2 : k = 2
  · subst k2
    refine rmay2 q e i t c LA ln lc BA bn bc l b w hl hb _ h1 h2 h3 h4 (hidT ?_)
    show Item.askN _ 1 0 1 64 63 = true ↔ _
    rw [askSome_iff]
    dsimp only
    rw [el, eb]
    constructor
    · rintro ⟨g1, g2, g3, g4, g5, g6, g7, g8⟩; exact ⟨g1, g2, g3, g4, g5, g6, by omega, by omega⟩
    · rintro ⟨g1, g2, g3, g4, g5, g6, g7, g8⟩; exact ⟨g1, g2, g3, g4, g5, g6, by omega, by omega⟩
  by_cases k3 : k = 3
  · subst k3
    refine rmay3 q e i t c LA ln lc BA bn bc l b w hl hb _ h1 h2 h3 h4 (hidT ?_)
    show Item.askN _ 0 0 0 0 0 = true ↔ _
    rw [askNone_iff]
    dsimp only
    omega
  by_cases k4 : k = 4
  · subst k4
    refine rmay4 q e i t c LA ln lc BA bn bc l b w hl hb _ h1 h2 h3 h4 (hidT ?_)
    show Item.askN _ 1 0 0 0 0 = true ↔ _
    rw [askNone_iff]
    dsimp only
    omega
  by_cases k5 : k = 5
  · subst k5
    refine rmay5 q e i t c LA ln lc BA bn bc l b w hl hb _ h1 h2 h3 h4 (hidT ?_)
    show Item.askN _ 0 4611686018427387904 0 0 0 = true ↔ _
    rw [askNone_iff]
    dsimp only
    omega
  by_cases k6 : k = 6
  · subst k6
    refine rmay6 q e i t c LA ln lc BA bn bc l b w hl hb _ h1 h2 h3 h4 (hidT ?_)
    show Item.askN _ 0 0 2 64 4611686018427387904 = true ↔ _
    rw [askSome_iff]
    dsimp only
    rw [el, eb]
    constructor
    · rintro ⟨g1, g2, g3, g4, g5, g6, g7, g8⟩; exact ⟨g1, by omega, g4, g5, g6, by omega, by omega⟩
    · rintro ⟨g1, g2, g4, g5, g6, g7, g8⟩; exact ⟨g1, by omega, by omega, g4, g5, g6, by omega, by omega⟩
  exact rmay0 k q e i t c LA ln lc BA bn bc l b w hl hb _ h1 h2 h3 h4 (hidT (ask_none k1 k2 k3 k4 k5 k6)) k1 k2 k3 k4 k5 k6
end Go.Proofs.Ytdchgnmkeefffaa
