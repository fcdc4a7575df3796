/- What rate's calls come to, but for Spend. -/
import Derived.Test.YtpobaecfmdpphaaRows
import Derived.Test.YtpobaecfmdpphaaHeap
import Derived.Test.YtpobaecfmdpphaaRateMath
import Derived.Test.YtpobaecfmdpphaaFloatRun
import Derived.WalkLawsBesides
import Derived.WalkMore
set_option maxRecDepth 100000
namespace Go.Proofs.Ytpobaecfmdpphaa
open Go.RowKit
open FloatInt (fl)
set_option linter.unusedVariables false

theorem rtwithin_any (n l m : Int) (w : World) (t : Bool) (ht : (decide (l ≤ n) && decide (n ≤ m)) = t) : Calls Try.prog 18 #[.int .i64 n, .int .i64 l, .int .i64 m] w (fun e w' => e = .returned (.bool t) ∧ w' = w) := by
  subst ht
  cases h1 : decide (l ≤ n) with
  | false =>
    go_enter Try.func18, Try.ntmps18
    go_wp2
    go_ret
    exact ⟨rfl, rfl⟩
  | true =>
    cases h2 : decide (n ≤ m) <;>
    · go_enter Try.func18, Try.ntmps18
      go_wp2
      go_ret
      exact ⟨rfl, rfl⟩

theorem rtmay_any (l m b : Int) (w : World) (t : Bool) (ht : Rate.may l m b = t) : Calls Try.prog 17 #[.int .i64 l, .int .i64 m, .int .i64 b] w (fun e w' => e = .returned (.bool t) ∧ w' = w) := by
  cases h1 : (decide (1 ≤ l) && decide (l ≤ m)) with
  | false =>
    have c1 := fun w => rtwithin_any l 1 m w false h1
    have e : t = false := by rw [← ht, Rate.may, ← Bool.and_assoc, h1]; rfl
    subst e
    clear h1 ht
    go_enter Try.func17, Try.ntmps17
    go_wp2_with fail
    with_reducible refine (c1 _).mono ?_
    rintro e w5 ⟨rfl, rfl⟩
    go_wp2
    go_ret
    exact ⟨rfl, rfl⟩
  | true =>
    have c1 := fun w => rtwithin_any l 1 m w true h1
    cases h2 : decide (m ≤ 1048576) with
    | false =>
      have e : t = false := by rw [← ht, Rate.may, ← Bool.and_assoc, h1, h2]; rfl
      subst e
      clear h1 ht
      go_enter Try.func17, Try.ntmps17
      go_wp2_with fail
      with_reducible refine (c1 _).mono ?_
      rintro e w5 ⟨rfl, rfl⟩
      go_wp2
      go_ret
      exact ⟨rfl, rfl⟩
    | true =>
      have e : (decide (1 ≤ b) && decide (b ≤ 1048576)) = t := by rw [← ht, Rate.may, ← Bool.and_assoc, h1, h2]; rfl
      have c3 := fun w => rtwithin_any b 1 1048576 w t e
      clear h1 ht e
      go_enter Try.func17, Try.ntmps17
      go_wp2_with fail
      with_reducible refine (c1 _).mono ?_
      rintro e w5 ⟨rfl, rfl⟩
      go_wp2_with fail
      with_reducible refine (c3 _).mono ?_
      rintro e w5 ⟨rfl, rfl⟩
      go_wp2
      go_ret
      exact ⟨rfl, rfl⟩

theorem rtright_any (n l least most burst : Int) (w : World) (t : Bool) (ht : Rate.right n l least most burst = t) : Calls Try.prog 9 #[.agg #[.int .i64 n, .int .i64 l], .int .i64 least, .int .i64 most, .int .i64 burst] w (fun e w' => e = .returned (.bool t) ∧ Below w.heap.size w w') := by
  have y0 := alloc_at w (.cells #[.int .i64 n, .int .i64 l] 23) _ rfl
  obtain ⟨e0, e1⟩ := cells2 y0
  have hb := nkeep w (.cells #[.int .i64 n, .int .i64 l] 23)
  clear y0
  cases h1 : Rate.may least most burst with
  | false =>
    have c1 := fun w => rtmay_any least most burst w false h1
    have e : t = false := by rw [← ht, Rate.right, h1]; rfl
    subst e
    clear h1 ht
    go_enter Try.func9, Try.ntmps9
    go_wp2_with fail
    with_reducible refine (c1 _).mono ?_
    rintro e w5 ⟨rfl, rfl⟩
    go_wp2
    go_ret
    exact ⟨rfl, hb⟩
  | true =>
    have c1 := fun w => rtmay_any least most burst w true h1
    cases h2 : (decide (least ≤ n) && decide (n ≤ most)) with
    | false =>
      have c2 := fun w => rtwithin_any n least most w false h2
      have e : t = false := by rw [← ht, Rate.right, h1, Bool.true_and, ← Bool.and_assoc, h2]; rfl
      subst e
      clear h1 h2 ht
      go_enter Try.func9, Try.ntmps9
      go_wp2_with fail
      with_reducible refine (c1 _).mono ?_
      rintro e w5 ⟨rfl, rfl⟩
      go_wp2_with fail
      with_reducible refine (c2 _).mono ?_
      rintro e w5 ⟨rfl, rfl⟩
      go_wp2
      go_ret
      exact ⟨rfl, hb⟩
    | true =>
      have c2 := fun w => rtwithin_any n least most w true h2
      have e : (decide (0 ≤ l) && decide (l ≤ burst)) = t := by rw [← ht, Rate.right, h1, Bool.true_and, ← Bool.and_assoc, h2]; rfl
      have c3 := fun w => rtwithin_any l 0 burst w t e
      clear h1 h2 ht e
      go_enter Try.func9, Try.ntmps9
      go_wp2_with fail
      with_reducible refine (c1 _).mono ?_
      rintro e w5 ⟨rfl, rfl⟩
      go_wp2_with fail
      with_reducible refine (c2 _).mono ?_
      rintro e w5 ⟨rfl, rfl⟩
      go_wp2_with fail
      with_reducible refine (c3 _).mono ?_
      rintro e w5 ⟨rfl, rfl⟩
      go_wp2
      go_ret
      exact ⟨rfl, hb⟩
theorem rtsize : (Try.prog.info? 23).map (·.size) = some 2 := by kernel_rfl
/-- What a call tells that gives a bucket. -/
def RateIs (w : World) (n l : Int) (e : Ending) (w' : World) : Prop := e = .returned (.agg #[.int .i64 n, .int .i64 l]) ∧ Below w.heap.size w w'

theorem rtstart_any (m b : Int) (w : World) : Calls Try.prog 12 #[.int .i64 m, .int .i64 b] w (RateIs w m b) := by
  have y0 := alloc_at w (.cells #[.int .i64 m, .int .i64 b] 23) _ rfl
  obtain ⟨e0, e1⟩ := cells2 y0
  have hb := nkeep w (.cells #[.int .i64 m, .int .i64 b] 23)
  clear y0
  go_enter Try.func12, Try.ntmps12
  go_wp2
  exact bodyPost_ret (v := .agg #[.int .i64 m, .int .i64 b]) (by simp [results, Try.results12, go_sem, e0, e1]) rfl ⟨rfl, hb⟩

theorem rrstart_any (m b : Int) (w : World) : Calls Try.prog 13 #[.int .i64 m, .int .i64 b] w (RateIs w m b) := by
  have y0 := alloc_at w (.cells #[.int .i64 m, .int .i64 b] 23) _ rfl
  obtain ⟨e0, e1⟩ := cells2 y0
  have hb := nkeep w (.cells #[.int .i64 m, .int .i64 b] 23)
  clear y0
  go_enter Try.func13, Try.ntmps13
  go_wp2
  exact bodyPost_ret (v := .agg #[.int .i64 m, .int .i64 b]) (by simp [results, Try.results13, go_sem, e0, e1]) rfl ⟨rfl, hb⟩

theorem rtparts_any (n l : Int) (w : World) : Calls Try.prog 20 #[.agg #[.int .i64 n, .int .i64 l]] w (fun e w' => e = .returned (.complex .f64 (fl n 0) (fl l 0)) ∧ Below w.heap.size w w') := by
  have y0 := alloc_at w (.cells #[.int .i64 n, .int .i64 l] 23) _ rfl
  obtain ⟨e0, e1⟩ := cells2 y0
  have hb := nkeep w (.cells #[.int .i64 n, .int .i64 l] 23)
  clear y0
  go_enter Try.func20, Try.ntmps20
  go_wp2
  go_ret
  exact ⟨rfl, hb⟩
theorem arch_floor {a : Int} (h : 0 ≤ a ∧ a < 4503599627370496) (w : World) : (callFunc 23 #[.float .f64 (fl a (-1))]).run Try.prog w = .ok (.value (.float .f64 (fl (a / 2) 0))) w := by
  rw [run_callFunc_extern (e := Extern.MathFloor.toIntegral "math.archFloor" .down) Try.func23 (by kernel_rfl) (by kernel_rfl) (by kernel_rfl) (by kernel_rfl), FloatInt.run_floor_half h]
  rfl
theorem floor_any (x y : Nat) (hd : ∀ w, (callFunc 23 #[.float .f64 x]).run Try.prog w = .ok (.value (.float .f64 y)) w) (w : World) : Calls Try.prog 22 #[.float .f64 x] w (fun e w' => e = .returned (.float .f64 y) ∧ w' = w) := by
  go_enter Try.func22, Try.ntmps22
  go_wp2
  go_ret
  exact ⟨rfl, rfl⟩
theorem refill_gap (x h f z : Nat) (least most naks : Int) (w : World) (hn : decide (0 < naks) = true)
    (hq : ∀ t w, (binOp .quo t (.float .f64 x) (.float .f64 4611686018427387904)).run Try.prog w = .ok (.float .f64 h) w)
    (hf : ∀ w, Calls Try.prog 22 #[.float .f64 h] w (fun e w' => e = .returned (.float .f64 f) ∧ w' = w))
    (hm : ∀ ts t w, (Builtin.max_ ts t #[.float .f64 f, .float .f64 (floatOfInt .f64 least)]).run Try.prog w = .ok (.float .f64 z) w) :
    Calls Try.prog 21 #[.float .f64 x, .int .i64 least, .int .i64 most, .int .i64 naks] w (fun e w' => e = .returned (.float .f64 z) ∧ w' = w) := by
  go_enter Try.func21, Try.ntmps21
  go_wp2_with (simp only [hq])
  with_reducible refine (hf _).mono ?_
  rintro e w5 ⟨rfl, rfl⟩
  go_wp2
  go_ret
  exact ⟨rfl, rfl⟩
theorem refill_none (x s z : Nat) (least most naks : Int) (w : World) (hn : decide (0 < naks) = false)
    (hq : ∀ t w, (binOp .add t (.float .f64 x) (.float .f64 4607182418800017408)).run Try.prog w = .ok (.float .f64 s) w)
    (hm : ∀ ts t w, (Builtin.min_ ts t #[.float .f64 s, .float .f64 (floatOfInt .f64 most)]).run Try.prog w = .ok (.float .f64 z) w) :
    Calls Try.prog 21 #[.float .f64 x, .int .i64 least, .int .i64 most, .int .i64 naks] w (fun e w' => e = .returned (.float .f64 z) ∧ w' = w) := by
  go_enter Try.func21, Try.ntmps21
  go_wp2_with (simp only [hq, hm])
  go_ret
  exact ⟨rfl, rfl⟩
theorem refill_any (n least most naks : Int) (w : World) (hn : 0 ≤ n ∧ n ≤ 1048576) (hl : 1 ≤ least ∧ least ≤ 1048576) (hm : 1 ≤ most ∧ most ≤ 1048576) :
    Calls Try.prog 21 #[.float .f64 (fl n 0), .int .i64 least, .int .i64 most, .int .i64 naks] w (fun e w' => e = .returned (.float .f64 (fl (Rate.more n least most naks) 0)) ∧ w' = w) := by
  by_cases h : 0 < naks
  · rw [Rate.more_gap n least most h]
    exact refill_gap (fl n 0) (fl n (-1)) (fl (n / 2) 0) _ least most naks w (by simpa using h) (fun t w => run_float_arith w .quo t .f64 _ _ _ (FloatInt.half_fl (by omega)))
      (fun w => floor_any _ _ (fun w => arch_floor (by omega) w) w) (fun ts t w => FloatInt.run_max_fl ts t (by omega) (by omega) w)
  · rw [Rate.more_none n least most h]
    exact refill_none (fl n 0) (fl (n + 1) 0) _ least most naks w (by simpa using h) (fun t w => run_float_arith w .add t .f64 _ _ _ (FloatInt.next_fl (by omega)))
      (fun ts t w => FloatInt.run_min_fl ts t (by omega) (by omega) w)

theorem rtwith_any (n l p q : Int) (x y : Nat) (w : World) (hx : ∀ w, (convert 47 3 (.float .f64 x)).run Try.prog w = .ok (.int .i64 p) w) (hy : ∀ w, (convert 47 3 (.float .f64 y)).run Try.prog w = .ok (.int .i64 q) w) :
    Calls Try.prog 19 #[.agg #[.int .i64 n, .int .i64 l], .complex .f64 x y] w (RateIs w p q) := by
  obtain ⟨t0, t1, hb⟩ := two_alloc w (.cells #[.int .i64 p, .int .i64 q] 23) (.cells #[.int .i64 p, .int .i64 q] 23)
  obtain ⟨i0, i1⟩ := cells2 t1
  clear t0 t1
  go_enter Try.func19, Try.ntmps19
  go_wp2_with (simp only [hx, hy])
  exact bodyPost_ret (v := .agg #[.int .i64 p, .int .i64 q]) (by simp [results, Try.results19, go_sem, i0, i1]) rfl ⟨rfl, hb⟩
theorem rtwith_fl (n l p q : Int) (w : World) (hp : -4503599627370496 < p ∧ p < 4503599627370496) (hq : -4503599627370496 < q ∧ q < 4503599627370496) :
    Calls Try.prog 19 #[.agg #[.int .i64 n, .int .i64 l], .complex .f64 (fl p 0) (fl q 0)] w (RateIs w p q) :=
  rtwith_any n l p q _ _ w (fun w => run_convert_float_int w 47 3 .f64 .i64 _ p (by rw [Try.underlying47]; rfl) Try.underlying3 (FloatInt.back hp)) (fun w => run_convert_float_int w 47 3 .f64 .i64 _ q (by rw [Try.underlying47]; rfl) Try.underlying3 (FloatInt.back hq))

set_option maxHeartbeats 1000000 in
theorem tick_go (n l least most burst naks N L : Int) (x y z s u : Nat) (w : World)
    (hp : ∀ w, Calls Try.prog 20 #[.agg #[.int .i64 n, .int .i64 l]] w (fun e w' => e = .returned (.complex .f64 x y) ∧ Below w.heap.size w w'))
    (hr : ∀ w, Calls Try.prog 21 #[.float .f64 x, .int .i64 least, .int .i64 most, .int .i64 naks] w (fun e w' => e = .returned (.float .f64 z) ∧ w' = w))
    (hs : ∀ t w, (binOp .add t (.float .f64 y) (.float .f64 z)).run Try.prog w = .ok (.float .f64 s) w)
    (hm : ∀ ts t w, (Builtin.min_ ts t #[.float .f64 s, .float .f64 (floatOfInt .f64 burst)]).run Try.prog w = .ok (.float .f64 u) w)
    (hw : ∀ w, Calls Try.prog 19 #[.agg #[.int .i64 n, .int .i64 l], .complex .f64 z u] w (RateIs w N L)) :
    Calls Try.prog 14 #[.agg #[.int .i64 n, .int .i64 l], .int .i64 least, .int .i64 most, .int .i64 burst, .int .i64 naks] w (RateIs w N L) := by
  obtain ⟨t0, t1, hb⟩ := two_alloc w (.cells #[.int .i64 n, .int .i64 l] 23) (.cells #[.int .i64 0, .int .i64 0] 23)
  obtain ⟨W, hW⟩ : ∃ W, (w.alloc (.cells #[.int .i64 n, .int .i64 l] 23)).alloc (.cells #[.int .i64 0, .int .i64 0] 23) = W := ⟨_, rfl⟩
  have HW := hidT hW
  obtain ⟨i0, i1⟩ := cells2 t0
  rw [hW] at t0 t1 hb
  obtain ⟨g, hg⟩ : ∃ g, w.heap.size + 1 = g := ⟨_, rfl⟩
  rw [hg] at t1
  have hgw : w.heap.size ≤ g := by omega
  have T0 := hidT t0
  have T1 := hidT t1
  have HB := hidT hb
  have HGW := hidT hgw
  clear t0 t1 hb hW hgw
  go_enter Try.func14, Try.ntmps14
  go_wp2_with fail
  rw [HW.out]
  clear hg i0 i1
  with_reducible refine (hp _).mono ?_
  rintro e w1 ⟨rfl, hb1⟩
  have T0 := hidT (keepH T0.out hb1)
  have T1 := hidT (keepH T1.out hb1)
  have HB := hidT (bthen HB.out hb1)
  clear hb1
  go_wp2_with fail
  with_reducible refine (hr _).mono ?_
  rintro e w2 ⟨rfl, rfl⟩
  obtain ⟨i0, i1⟩ := cells2 T0.out
  go_wp2_with fail
  with_reducible refine (hw _).mono ?_
  rintro e w3 ⟨rfl, hb3⟩
  have T1 := hidT (keepH T1.out hb3)
  have HB := hidT (bthen HB.out hb3)
  clear hb3
  go_wp2_with (
    refine wpList_stI rfl 23 _ _ rfl g #[.int .i64 N, .int .i64 L] rfl rfl _ _ T1.out rtsize rfl (all2 rfl rfl) ?_
    intro w7 hg7 hbut hbel)
  obtain ⟨e0, e1⟩ := cells2 hg7
  exact bodyPost_ret (v := .agg #[.int .i64 N, .int .i64 L]) (by simp [results, Try.results14, go_sem, e0, e1]) rfl ⟨rfl, hbel _ _ HB.out HGW.out⟩
theorem rttick_any (n l least most burst naks : Int) (w : World) (h : Rate.right n l least most burst = true) :
    Calls Try.prog 14 #[.agg #[.int .i64 n, .int .i64 l], .int .i64 least, .int .i64 most, .int .i64 burst, .int .i64 naks] w (RateIs w (Rate.more n least most naks) (Rate.left l (Rate.more n least most naks) burst)) := by
  obtain ⟨⟨h1, h2, h3, h4, h5⟩, h6, h7, h8, h9⟩ := Rate.right_iff.1 h
  obtain ⟨a1, a2⟩ := Rate.more_in naks h1 h6 h7
  obtain ⟨b1, b2⟩ := Rate.left_in (m := Rate.more n least most naks) h8 h9 (by omega)
  have hr := fun w => refill_any n least most naks w ⟨by omega, by omega⟩ ⟨by omega, by omega⟩ ⟨by omega, by omega⟩
  obtain ⟨N, hN⟩ : ∃ N, Rate.more n least most naks = N := ⟨_, rfl⟩
  rw [hN] at a1 a2 b1 b2 hr ⊢
  exact tick_go n l least most burst naks N _ (fl n 0) (fl l 0) (fl N 0) (fl (l + N) 0) (fl (Rate.left l N burst) 0) w (rtparts_any n l) hr
    (fun t w => run_float_arith w .add t .f64 _ _ _ (FloatInt.add_fl (by omega) (by omega) (by omega)))
    (fun ts t w => FloatInt.run_min_fl ts t (by omega) (by omega) w)
    (fun w => rtwith_fl n l N _ w (by omega) (by omega))
end Go.Proofs.Ytpobaecfmdpphaa
