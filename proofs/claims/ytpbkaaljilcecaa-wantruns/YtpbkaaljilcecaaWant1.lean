/- What want's side, sides, turn, Asks and Other come to. -/
import Derived.Test.YtpbkaaljilcecaaRows
import Derived.Test.YtpbkaaljilcecaaWantMath
import Derived.Laws.ComplexArith
import Derived.WalkLawsBesides
import Derived.WalkMore
set_option maxRecDepth 100000
namespace Go.Proofs.Ytpbkaaljilcecaa
open Go.RowKit
set_option linter.unusedVariables false

theorem nan_any (a : Int) (w : World) : Calls Try.prog 19 #[.int .i64 a] w (fun e w' => e = .returned (.bool false) ∧ w' = w) := by
  go_enter Try.func19, Try.ntmps19
  go_wp2
  go_ret
  exact ⟨rfl, rfl⟩
theorem cmp_any (a b c : Int) (w : World) (hc : Want.side a b = c) : Calls Try.prog 18 #[.int .i64 a, .int .i64 b] w (fun e w' => e = .returned (.int .i64 c) ∧ w' = w) := by
  have n1 := fun w => nan_any a w
  have n2 := fun w => nan_any b w
  rcases Want.side_cases a b with ⟨h, e⟩ | ⟨h, e⟩ | ⟨h, e⟩
  · rw [e] at hc
    clear e
    subst hc
    have q1 : decide (a < b) = true := by simpa using h
    clear h
    go_enter Try.func18, Try.ntmps18
    go_wp2_with fail
    with_reducible refine (n1 _).mono ?_
    rintro e w1 ⟨rfl, rfl⟩
    go_wp2_with fail
    with_reducible refine (n2 _).mono ?_
    rintro e w1 ⟨rfl, rfl⟩
    go_wp2
    go_ret
    exact ⟨rfl, rfl⟩
  · rw [e] at hc
    clear e
    subst hc
    subst h
    go_enter Try.func18, Try.ntmps18
    go_wp2_with fail
    with_reducible refine (n1 _).mono ?_
    rintro e w1 ⟨rfl, rfl⟩
    go_wp2_with fail
    with_reducible refine (n2 _).mono ?_
    rintro e w1 ⟨rfl, rfl⟩
    go_wp2
    go_ret
    exact ⟨rfl, rfl⟩
  · rw [e] at hc
    clear e
    subst hc
    have q1 : decide (a < b) = false := by simp; omega
    have q2 : decide (b < a) = true := by simpa using h
    clear h
    go_enter Try.func18, Try.ntmps18
    go_wp2_with fail
    with_reducible refine (n1 _).mono ?_
    rintro e w1 ⟨rfl, rfl⟩
    go_wp2_with fail
    with_reducible refine (n2 _).mono ?_
    rintro e w1 ⟨rfl, rfl⟩
    go_wp2
    go_ret
    exact ⟨rfl, rfl⟩
theorem side_go (a b c : Int) (x : Nat) (w : World) (hc : Want.side a b = c) (hx : ∀ w, (convert 3 41 (.int .i64 c)).run Try.prog w = .ok (.float .f64 x) w) :
    Calls Try.prog 17 #[.int .i64 a, .int .i64 b] w (fun e w' => e = .returned (.float .f64 x) ∧ w' = w) := by
  have c1 := fun w => cmp_any a b c w hc
  clear hc
  go_enter Try.func17, Try.ntmps17
  go_wp2_with fail
  with_reducible refine (c1 _).mono ?_
  rintro e w1 ⟨rfl, rfl⟩
  go_wp2
  go_ret
  exact ⟨rfl, rfl⟩
theorem side_any (a b : Int) (w : World) : Calls Try.prog 17 #[.int .i64 a, .int .i64 b] w (fun e w' => e = .returned (.float .f64 (Want.bits (Want.side a b))) ∧ w' = w) := by
  rcases Want.side_cases a b with ⟨_, e⟩ | ⟨_, e⟩ | ⟨_, e⟩
  · rw [e]
    exact side_go a b (-1) 13830554455654793216 w e (fun w => by kernel_rfl)
  · rw [e]
    exact side_go a b 0 0 w e (fun w => by kernel_rfl)
  · rw [e]
    exact side_go a b 1 4607182418800017408 w e (fun w => by kernel_rfl)
theorem sides_go (l h o : Int) (x y : Nat) (w : World) (hx : ∀ w, Calls Try.prog 17 #[.int .i64 l, .int .i64 h] w (fun e w' => e = .returned (.float .f64 x) ∧ w' = w))
    (hy : ∀ w, Calls Try.prog 17 #[.int .i64 l, .int .i64 o] w (fun e w' => e = .returned (.float .f64 y) ∧ w' = w)) :
    Calls Try.prog 15 #[.int .i64 l, .int .i64 h, .int .i64 o] w (fun e w' => e = .returned (.complex .f64 x y) ∧ w' = w) := by
  go_enter Try.func15, Try.ntmps15
  go_wp2_with fail
  with_reducible refine (hx _).mono ?_
  rintro e w1 ⟨rfl, rfl⟩
  go_wp2_with fail
  with_reducible refine (hy _).mono ?_
  rintro e w1 ⟨rfl, rfl⟩
  go_wp2
  go_ret
  exact ⟨rfl, rfl⟩
theorem turn_seq (w : World) : Calls Try.prog 16 #[.int .i64 0] w (fun e w' => e = .returned (.complex .f64 4607182418800017408 0) ∧ w' = w) := by
  go_enter Try.func16, Try.ntmps16
  go_wp2
  go_ret
  exact ⟨rfl, rfl⟩
theorem turn_pri (w : World) : Calls Try.prog 16 #[.int .i64 1] w (fun e w' => e = .returned (.complex .f64 0 4607182418800017408) ∧ w' = w) := by
  go_enter Try.func16, Try.ntmps16
  go_wp2
  go_ret
  exact ⟨rfl, rfl⟩
theorem asks_go (n l h o : Int) (x y c d p q : Nat) (r : Bool) (w : World)
    (hs : ∀ w, Calls Try.prog 15 #[.int .i64 l, .int .i64 h, .int .i64 o] w (fun e w' => e = .returned (.complex .f64 x y) ∧ w' = w))
    (ht : ∀ w, Calls Try.prog 16 #[.int .i64 n] w (fun e w' => e = .returned (.complex .f64 c d) ∧ w' = w))
    (hm : ∀ t w, (binOp .mul t (.complex .f64 x y) (.complex .f64 c d)).run Try.prog w = .ok (.complex .f64 p q) w)
    (hg : (FloatKind.f64.format.order p 0 == some Ordering.gt || FloatKind.f64.format.order p 0 == some Ordering.eq) = r) :
    Calls Try.prog 11 #[.int .i64 n, .int .i64 l, .int .i64 h, .int .i64 o] w (fun e w' => e = .returned (.bool r) ∧ w' = w) := by
  subst hg
  go_enter Try.func11, Try.ntmps11
  go_wp2_with fail
  with_reducible refine (hs _).mono ?_
  rintro e w1 ⟨rfl, rfl⟩
  go_wp2_with fail
  with_reducible refine (ht _).mono ?_
  rintro e w1 ⟨rfl, rfl⟩
  go_wp2
  go_ret
  exact ⟨rfl, rfl⟩
theorem other_seq (w : World) : Calls Try.prog 13 #[.int .i64 0] w (fun e w' => e = .returned (.int .i64 1) ∧ w' = w) := by
  go_enter Try.func13, Try.ntmps13
  go_wp2
  go_ret
  exact ⟨rfl, rfl⟩
theorem other_pri (w : World) : Calls Try.prog 13 #[.int .i64 1] w (fun e w' => e = .returned (.int .i64 0) ∧ w' = w) := by
  go_enter Try.func13, Try.ntmps13
  go_wp2
  go_ret
  exact ⟨rfl, rfl⟩
theorem asks_side (n l h o : Int) (A B : Int) (c d p q : Nat) (r : Bool) (w : World) (hA : Want.side l h = A) (hB : Want.side l o = B)
    (ht : ∀ w, Calls Try.prog 16 #[.int .i64 n] w (fun e w' => e = .returned (.complex .f64 c d) ∧ w' = w))
    (hm : cMulBits (Want.bits A) (Want.bits B) c d = some (p, q))
    (hg : (FloatKind.f64.format.order p 0 == some Ordering.gt || FloatKind.f64.format.order p 0 == some Ordering.eq) = r) :
    Calls Try.prog 11 #[.int .i64 n, .int .i64 l, .int .i64 h, .int .i64 o] w (fun e w' => e = .returned (.bool r) ∧ w' = w) := by
  subst hA hB
  exact asks_go n l h o _ _ c d p q r w (fun w => sides_go l h o _ _ w (fun w => side_any l h w) (fun w => side_any l o w)) ht (fun t w => run_complex_mul w t _ _ _ _ _ _ hm) hg
theorem asks_seq (l h o : Int) (w : World) : Calls Try.prog 11 #[.int .i64 0, .int .i64 l, .int .i64 h, .int .i64 o] w (fun e w' => e = .returned (.bool (Want.asks 0 l h o)) ∧ w' = w) := by
  rw [Want.asks_seq]
  rcases Want.side_cases l h with ⟨hx, ex⟩ | ⟨hx, ex⟩ | ⟨hx, ex⟩ <;> rcases Want.side_cases l o with ⟨hy, ey⟩ | ⟨hy, ey⟩ | ⟨hy, ey⟩
  · rw [show decide (h ≤ l) = false from by simp; omega]
    exact asks_side 0 l h o (-1) (-1) 4607182418800017408 0 13830554455654793216 13830554455654793216 false w ex ey turn_seq (by kernel_rfl) (by kernel_rfl)
  · rw [show decide (h ≤ l) = false from by simp; omega]
    exact asks_side 0 l h o (-1) (0) 4607182418800017408 0 13830554455654793216 0 false w ex ey turn_seq (by kernel_rfl) (by kernel_rfl)
  · rw [show decide (h ≤ l) = false from by simp; omega]
    exact asks_side 0 l h o (-1) (1) 4607182418800017408 0 13830554455654793216 4607182418800017408 false w ex ey turn_seq (by kernel_rfl) (by kernel_rfl)
  · rw [show decide (h ≤ l) = true from by simp; omega]
    exact asks_side 0 l h o (0) (-1) 4607182418800017408 0 0 13830554455654793216 true w ex ey turn_seq (by kernel_rfl) (by kernel_rfl)
  · rw [show decide (h ≤ l) = true from by simp; omega]
    exact asks_side 0 l h o (0) (0) 4607182418800017408 0 0 0 true w ex ey turn_seq (by kernel_rfl) (by kernel_rfl)
  · rw [show decide (h ≤ l) = true from by simp; omega]
    exact asks_side 0 l h o (0) (1) 4607182418800017408 0 0 4607182418800017408 true w ex ey turn_seq (by kernel_rfl) (by kernel_rfl)
  · rw [show decide (h ≤ l) = true from by simp; omega]
    exact asks_side 0 l h o (1) (-1) 4607182418800017408 0 4607182418800017408 13830554455654793216 true w ex ey turn_seq (by kernel_rfl) (by kernel_rfl)
  · rw [show decide (h ≤ l) = true from by simp; omega]
    exact asks_side 0 l h o (1) (0) 4607182418800017408 0 4607182418800017408 0 true w ex ey turn_seq (by kernel_rfl) (by kernel_rfl)
  · rw [show decide (h ≤ l) = true from by simp; omega]
    exact asks_side 0 l h o (1) (1) 4607182418800017408 0 4607182418800017408 4607182418800017408 true w ex ey turn_seq (by kernel_rfl) (by kernel_rfl)
theorem asks_pri (l h o : Int) (w : World) : Calls Try.prog 11 #[.int .i64 1, .int .i64 l, .int .i64 h, .int .i64 o] w (fun e w' => e = .returned (.bool (Want.asks 1 l h o)) ∧ w' = w) := by
  rw [Want.asks_pri]
  rcases Want.side_cases l h with ⟨hx, ex⟩ | ⟨hx, ex⟩ | ⟨hx, ex⟩ <;> rcases Want.side_cases l o with ⟨hy, ey⟩ | ⟨hy, ey⟩ | ⟨hy, ey⟩
  · rw [show decide (l ≤ o) = true from by simp; omega]
    exact asks_side 1 l h o (-1) (-1) 0 4607182418800017408 4607182418800017408 13830554455654793216 true w ex ey turn_pri (by kernel_rfl) (by kernel_rfl)
  · rw [show decide (l ≤ o) = true from by simp; omega]
    exact asks_side 1 l h o (-1) (0) 0 4607182418800017408 9223372036854775808 13830554455654793216 true w ex ey turn_pri (by kernel_rfl) (by kernel_rfl)
  · rw [show decide (l ≤ o) = false from by simp; omega]
    exact asks_side 1 l h o (-1) (1) 0 4607182418800017408 13830554455654793216 13830554455654793216 false w ex ey turn_pri (by kernel_rfl) (by kernel_rfl)
  · rw [show decide (l ≤ o) = true from by simp; omega]
    exact asks_side 1 l h o (0) (-1) 0 4607182418800017408 4607182418800017408 0 true w ex ey turn_pri (by kernel_rfl) (by kernel_rfl)
  · rw [show decide (l ≤ o) = true from by simp; omega]
    exact asks_side 1 l h o (0) (0) 0 4607182418800017408 0 0 true w ex ey turn_pri (by kernel_rfl) (by kernel_rfl)
  · rw [show decide (l ≤ o) = false from by simp; omega]
    exact asks_side 1 l h o (0) (1) 0 4607182418800017408 13830554455654793216 0 false w ex ey turn_pri (by kernel_rfl) (by kernel_rfl)
  · rw [show decide (l ≤ o) = true from by simp; omega]
    exact asks_side 1 l h o (1) (-1) 0 4607182418800017408 4607182418800017408 4607182418800017408 true w ex ey turn_pri (by kernel_rfl) (by kernel_rfl)
  · rw [show decide (l ≤ o) = true from by simp; omega]
    exact asks_side 1 l h o (1) (0) 0 4607182418800017408 0 4607182418800017408 true w ex ey turn_pri (by kernel_rfl) (by kernel_rfl)
  · rw [show decide (l ≤ o) = false from by simp; omega]
    exact asks_side 1 l h o (1) (1) 0 4607182418800017408 13830554455654793216 4607182418800017408 false w ex ey turn_pri (by kernel_rfl) (by kernel_rfl)
theorem asks_any (n l h o : Int) (w : World) (hn : n = 0 ∨ n = 1) : Calls Try.prog 11 #[.int .i64 n, .int .i64 l, .int .i64 h, .int .i64 o] w (fun e w' => e = .returned (.bool (Want.asks n l h o)) ∧ w' = w) := by
  rcases hn with rfl | rfl
  · exact asks_seq l h o w
  · exact asks_pri l h o w
theorem other_any (n : Int) (w : World) (hn : n = 0 ∨ n = 1) : Calls Try.prog 13 #[.int .i64 n] w (fun e w' => e = .returned (.int .i64 (1 - n)) ∧ w' = w) := by
  rcases hn with rfl | rfl
  · exact other_seq w
  · exact other_pri w
end Go.Proofs.Ytpbkaaljilcecaa
