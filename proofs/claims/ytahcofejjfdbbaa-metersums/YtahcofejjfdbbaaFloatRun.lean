/- What the run makes of whole numbers as floats: the greater and the lesser one, and a half rounded down. No program is named here. -/
import Derived.Test.YtahcofejjfdbbaaFloatInt
import Derived.Laws.ComplexArith
import Derived.Laws.Externs
set_option maxRecDepth 100000
namespace Go.Proofs.Ytahcofejjfdbbaa.FloatInt
open Ieee
set_option linter.unusedVariables false

theorem order_fl {a c : Int} (ha : -4503599627370496 < a ∧ a < 4503599627370496) (hc : -4503599627370496 < c ∧ c < 4503599627370496) : FloatKind.f64.format.order (fl a 0) (fl c 0) = some (compare a c) :=
  order_is (reads_fl ha (by omega) (by omega)) (reads_fl hc (by omega) (by omega))
theorem cmp_lt {a c : Int} (h : a < c) : compare a c = .lt := by simp [compare, compareOfLessAndEq, h]
theorem cmp_eq (a : Int) : compare a a = .eq := by simp [compare, compareOfLessAndEq]
theorem cmp_gt {a c : Int} (h : c < a) : compare a c = .gt := by
  simp only [compare, compareOfLessAndEq]
  rw [if_neg (by omega), if_neg (by omega)]
theorem run_max_fl {P : Program} (ts : Array TypeId) (t : TypeId) {a c : Int} (ha : -4503599627370496 < a ∧ a < 4503599627370496) (hc : -4503599627370496 < c ∧ c < 4503599627370496) (w : World) :
    (Builtin.max_ ts t #[.float .f64 (fl a 0), .float .f64 (fl c 0)]).run P w = .ok (.float .f64 (fl (if a < c then c else a) 0)) w := by
  have h := order_fl ha hc
  rcases Int.lt_trichotomy a c with k | k | k
  · rw [cmp_lt k] at h
    simp [Builtin.max_, Builtin.max2, h, k]
  · subst k
    rw [cmp_eq] at h
    simp [Builtin.max_, Builtin.max2, h]
  · rw [cmp_gt k] at h
    rw [if_neg (by omega)]
    simp [Builtin.max_, Builtin.max2, h]
theorem run_min_fl {P : Program} (ts : Array TypeId) (t : TypeId) {a c : Int} (ha : -4503599627370496 < a ∧ a < 4503599627370496) (hc : -4503599627370496 < c ∧ c < 4503599627370496) (w : World) :
    (Builtin.min_ ts t #[.float .f64 (fl a 0), .float .f64 (fl c 0)]).run P w = .ok (.float .f64 (fl (if c < a then c else a) 0)) w := by
  have h := order_fl ha hc
  rcases Int.lt_trichotomy a c with k | k | k
  · rw [cmp_lt k] at h
    rw [if_neg (by omega)]
    simp [Builtin.min_, Builtin.min2, h]
  · subst k
    rw [cmp_eq] at h
    simp [Builtin.min_, Builtin.min2, h]
  · rw [cmp_gt k] at h
    simp [Builtin.min_, Builtin.min2, h, k]
theorem cut_down (m k : Nat) : Toward.down.cut false (m * 2 ^ k) (k + 1) = m / 2 := by
  have hp : 0 < 2 ^ k := Nat.two_pow_pos k
  by_cases hm : m = 0
  · subst hm
    unfold Toward.cut
    simp
  · unfold Toward.cut
    rw [Nat.min_eq_left (by rw [log2_mul hm]; omega), Nat.shiftLeft_eq, Nat.one_mul]
    simp only [Bool.false_and, Bool.toNat_false, Nat.add_zero]
    rw [Nat.pow_succ, Nat.mul_comm (2 ^ k) 2, Nat.mul_div_mul_right _ _ hp]
theorem down_half {a : Int} (h : 0 ≤ a ∧ a < 4503599627370496) : ∃ s m i, FloatKind.f64.decode (fl a (-1)) = .number s m i ∧ FloatKind.f64.encode ((Datum.number s m i).integral .down) = fl (a / 2) 0 := by
  obtain ⟨k, hk, _⟩ := reads_fl (a := a) (p := -1) ⟨by omega, h.2⟩ (by omega) (by omega)
  refine ⟨_, _, _, hk, ?_⟩
  show double.write _ = _
  unfold Datum.integral
  have e0 : decide (a < 0) = false := by simp; omega
  have e1 : ((-1 : Int) - k).toNat = 0 := by omega
  have e2 : (-((-1 : Int) - k)).toNat = k + 1 := by omega
  simp only
  rw [e0, e1, e2, Nat.shiftLeft_zero, cut_down]
  show double.nearest false (a.natAbs / 2) 0 = double.nearest (decide (a / 2 < 0)) (a / 2).natAbs 0
  rw [show decide (a / 2 < 0) = false by simp; omega, show (a / 2).natAbs = a.natAbs / 2 by omega]
theorem run_floor_half {P : Program} {a : Int} (h : 0 ≤ a ∧ a < 4503599627370496) (n : String) (w : World) : (Extern.MathFloor.toIntegral n .down #[.float .f64 (fl a (-1))]).run P w = .ok (.float .f64 (fl (a / 2) 0)) w := by
  obtain ⟨s, m, i, h1, h2⟩ := down_half h
  show Sem.run P (Extern.MathFloor.toIntegral.match_1 (fun _ => Sem Value) (FloatKind.f64.decode (fl a (-1))) _ _) w = _
  rw [h1]
  show Sem.run P (pure (Value.float .f64 (FloatKind.f64.encode ((Datum.number s m i).integral .down)))) w = _
  rw [h2]
  rfl
/-- What an operation on two floats gives, as the walk asks it. -/
theorem add_fl {a c : Int} (ha : -4503599627370496 < a ∧ a < 4503599627370496) (hc : -4503599627370496 < c ∧ c < 4503599627370496) (h : -4503599627370496 < a + c ∧ a + c < 4503599627370496) : floatBits .add .f64 (fl a 0) (fl c 0) = some (fl (a + c) 0) :=
  add_is (reads_fl ha (by omega) (by omega)) (reads_fl hc (by omega) (by omega)) h (by omega) (by omega)
theorem sub_fl {a c : Int} (ha : -4503599627370496 < a ∧ a < 4503599627370496) (hc : -4503599627370496 < c ∧ c < 4503599627370496) (h : -4503599627370496 < a - c ∧ a - c < 4503599627370496) : floatBits .sub .f64 (fl a 0) (fl c 0) = some (fl (a - c) 0) :=
  sub_is (reads_fl ha (by omega) (by omega)) (reads_fl hc (by omega) (by omega)) h (by omega) (by omega)
theorem two_is : (4611686018427387904 : Nat) = fl 1 1 := by rfl
theorem one_is : (4607182418800017408 : Nat) = fl 1 0 := by rfl
theorem zero_is : (0 : Nat) = fl 0 0 := by rfl
theorem half_x {a : Int} (ha : -4503599627370496 < a ∧ a < 4503599627370496) (x : Nat) (hx : x = fl 1 1) : floatBits .quo .f64 (fl a 0) x = some (fl a (-1)) := by
  subst hx
  have h := div_is (reads_fl ha (p := 0) (by omega) (by omega)) (reads_fl (a := 1) (p := 1) (by omega) (by omega) (by omega)) ha (by omega) (by omega)
  rw [show (0 : Int) - 1 = -1 from by decide] at h
  exact h
theorem half_fl {a : Int} (ha : -4503599627370496 < a ∧ a < 4503599627370496) : floatBits .quo .f64 (fl a 0) 4611686018427387904 = some (fl a (-1)) := half_x ha _ two_is
theorem next_x {a : Int} (ha : -4503599627370496 < a ∧ a < 4503599627370495) (x : Nat) (hx : x = fl 1 0) : floatBits .add .f64 (fl a 0) x = some (fl (a + 1) 0) := by
  subst hx
  exact add_fl ⟨ha.1, by omega⟩ (by omega) (by omega)
theorem next_fl {a : Int} (ha : -4503599627370496 < a ∧ a < 4503599627370495) : floatBits .add .f64 (fl a 0) 4607182418800017408 = some (fl (a + 1) 0) := next_x ha _ one_is
theorem less_x {a b d : Int} (ha : -4503599627370496 < a ∧ a < 4503599627370496) (hb : -4503599627370496 < b ∧ b < 4503599627370496) (hd : -4503599627370496 < d ∧ d < 4503599627370496) (h : -4503599627370496 < b - d ∧ b - d < 4503599627370496) (x : Nat) (hx : x = fl 0 0) : cSumBits .sub .f64 (fl a 0) (fl b 0) x (fl d 0) = some (fl a 0, fl (b - d) 0) := by
  subst hx
  have h1 := sub_fl (c := 0) ha (by omega) (by omega)
  rw [Int.sub_zero] at h1
  unfold cSumBits
  rw [h1, sub_fl hb hd h]
  rfl
theorem less_fl {a b d : Int} (ha : -4503599627370496 < a ∧ a < 4503599627370496) (hb : -4503599627370496 < b ∧ b < 4503599627370496) (hd : -4503599627370496 < d ∧ d < 4503599627370496) (h : -4503599627370496 < b - d ∧ b - d < 4503599627370496) : cSumBits .sub .f64 (fl a 0) (fl b 0) 0 (fl d 0) = some (fl a 0, fl (b - d) 0) := less_x ha hb hd h _ zero_is
end Go.Proofs.Ytahcofejjfdbbaa.FloatInt
