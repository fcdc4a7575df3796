/- What meter's sums, its closures, and Add come to. -/
import Derived.Test.YtahcofejjfdbbaaRows
import Derived.Test.YtahcofejjfdbbaaHeap
import Derived.Test.YtahcofejjfdbbaaMeterMath
import Derived.Test.YtahcofejjfdbbaaFloatRun
import Derived.WalkLawsBesides
import Derived.WalkMore
set_option maxRecDepth 100000
namespace Go.Proofs.Ytahcofejjfdbbaa
open Go.RowKit
open FloatInt (fl)
set_option linter.unusedVariables false

theorem cells3 {w : World} {g : Nat} {a0 a1 a2 : Value} {t : TypeId} (h : w.heap[g]? = some (.cells #[a0, a1, a2] t (0, 0))) : w.cell? ⟨g, 0, none⟩ = some a0 ∧ w.cell? ⟨g, 1, none⟩ = some a1 ∧ w.cell? ⟨g, 2, none⟩ = some a2 :=
  ⟨cell_at h 0 rfl, cell_at h 1 rfl, cell_at h 2 rfl⟩
theorem all3 {a0 a1 a2 : Value} (h0 : a0.oneCell' = true) (h1 : a1.oneCell' = true) (h2 : a2.oneCell' = true) : (#[a0, a1, a2] : Array Value).all (·.oneCell') = true := by simp [h0, h1, h2]
theorem mtsize : (Try.prog.info? 23).map (·.size) = some 3 := by kernel_rfl
/-- A block is these cells now, all others are as they were. -/
def Now (g : Nat) (cs : Array Value) (t : TypeId) (w w' : World) : Prop := w'.heap[g]? = some (.cells cs t (0, 0)) ∧ But g w w' ∧ ∀ base w0, Below base w0 w → base ≤ g → Below base w0 w'
theorem put12 {w : World} {g : Nat} {a0 a1 a2 : Value} {t : TypeId} (h : w.heap[g]? = some (.cells #[a0, a1, a2] t (0, 0))) (v1 v2 : Value) : Now g #[a0, v1, v2] t w ((w.setCell ⟨g, 1, none⟩ v1).setCell ⟨g, 2, none⟩ v2) := by
  have h1 : (w.setCell ⟨g, 1, none⟩ v1).heap[g]? = some (.cells #[a0, v1, a2] t (0, 0)) := heap_setCell_same w g 1 _ t v1 h
  exact ⟨heap_setCell_same _ g 2 _ t v2 h1, (But.setCell w g 1 v1).trans (But.setCell _ g 2 v2), fun base w0 hb hg => (hb.setCell (p := ⟨g, 1, none⟩) hg v1).setCell (p := ⟨g, 2, none⟩) hg v2⟩

theorem sums_any (m b : Int) (w : World) : Calls Try.prog 15 #[.int .i64 m, .int .i64 b] w (fun e w' => e = .returned (.complex .f64 (fl m 0) (fl b 0)) ∧ w' = w) := by
  go_enter Try.func15, Try.ntmps15
  go_wp2
  go_ret
  exact ⟨rfl, rfl⟩
theorem capped_go (x y p q : Nat) (w : World) (hx : ∀ ts t w, (Builtin.min_ ts t #[.float .f64 x, .float .f64 4787326403894837248]).run Try.prog w = .ok (.float .f64 p) w)
    (hy : ∀ ts t w, (Builtin.min_ ts t #[.float .f64 y, .float .f64 4787326403894837248]).run Try.prog w = .ok (.float .f64 q) w) :
    Calls Try.prog 17 #[.complex .f64 x y] w (fun e w' => e = .returned (.complex .f64 p q) ∧ w' = w) := by
  go_enter Try.func17, Try.ntmps17
  go_wp2_with (simp only [hx, hy])
  go_ret
  exact ⟨rfl, rfl⟩
theorem top_is : (4787326403894837248 : Nat) = fl 1099511627776 0 := by rfl
theorem min_top_x {P : Program} (ts : Array TypeId) (t : TypeId) {a : Int} (ha : -4503599627370496 < a ∧ a < 4503599627370496) (x : Nat) (hx : x = fl 1099511627776 0) (w : World) :
    (Builtin.min_ ts t #[.float .f64 (fl a 0), .float .f64 x]).run P w = .ok (.float .f64 (fl (Meter.cap a) 0)) w := by
  subst hx
  exact FloatInt.run_min_fl ts t ha (by omega) w
theorem min_top {P : Program} (ts : Array TypeId) (t : TypeId) {a : Int} (ha : -4503599627370496 < a ∧ a < 4503599627370496) (w : World) :
    (Builtin.min_ ts t #[.float .f64 (fl a 0), .float .f64 4787326403894837248]).run P w = .ok (.float .f64 (fl (Meter.cap a) 0)) w := min_top_x ts t ha _ top_is w
theorem capped_any {m b : Int} (hm : -4503599627370496 < m ∧ m < 4503599627370496) (hb : -4503599627370496 < b ∧ b < 4503599627370496) (w : World) :
    Calls Try.prog 17 #[.complex .f64 (fl m 0) (fl b 0)] w (fun e w' => e = .returned (.complex .f64 (fl (Meter.cap m) 0) (fl (Meter.cap b) 0)) ∧ w' = w) :=
  capped_go _ _ _ _ w (fun ts t w => min_top ts t hm w) (fun ts t w => min_top ts t hb w)

/-- Add's closure: both sums into a load. -/
theorem into_any (g : Nat) (a0 a1 a2 : Value) (p q : Int) (w : World) (h : w.heap[g]? = some (.cells #[a0, a1, a2] 23 (0, 0))) :
    Calls Try.prog 18 #[.int .i64 p, .int .i64 q, .pointer (some ⟨g, 0, none⟩)] w (fun e w' => e = .returned (.tuple #[]) ∧ Now g #[a0, .int .i64 p, .int .i64 q] 23 w w') := by
  obtain ⟨e0, e1, e2⟩ := cells3 h
  have f1 := no_frozen h 1
  have f2 := no_frozen h 2
  have N := put12 h (.int .i64 p) (.int .i64 q)
  clear h
  go_enter Try.func18, Try.ntmps18
  go_wp2
  exact bodyPost_end (by simp [results, Try.results18, go_sem]) rfl ⟨rfl, N⟩
theorem apart_into_go (g : Nat) (a0 a1 a2 : Value) (x y : Nat) (p q : Int) (w : World) (h : w.heap[g]? = some (.cells #[a0, a1, a2] 23 (0, 0)))
    (hx : ∀ w, (convert 49 3 (.float .f64 x)).run Try.prog w = .ok (.int .i64 p) w) (hy : ∀ w, (convert 49 3 (.float .f64 y)).run Try.prog w = .ok (.int .i64 q) w) :
    Calls Try.prog 14 #[.complex .f64 x y, .func (.func 18) #[] #[.pointer (some ⟨g, 0, none⟩)]] w (fun e w' => e = .returned (.tuple #[]) ∧ Now g #[a0, .int .i64 p, .int .i64 q] 23 w w') := by
  have c := into_any g a0 a1 a2 p q w h
  clear h
  go_enter Try.func14, Try.ntmps14
  go_wp2_with (simp only [hx, hy])
  with_reducible refine c.mono ?_
  rintro e w1 ⟨rfl, hn⟩
  go_wp2
  exact bodyPost_end (by simp [results, Try.results14, go_sem]) rfl ⟨rfl, hn⟩
theorem apart_into {g : Nat} {a0 a1 a2 : Value} {p q : Int} {w : World} (h : w.heap[g]? = some (.cells #[a0, a1, a2] 23 (0, 0))) (hp : -4503599627370496 < p ∧ p < 4503599627370496) (hq : -4503599627370496 < q ∧ q < 4503599627370496) :
    Calls Try.prog 14 #[.complex .f64 (fl p 0) (fl q 0), .func (.func 18) #[] #[.pointer (some ⟨g, 0, none⟩)]] w (fun e w' => e = .returned (.tuple #[]) ∧ Now g #[a0, .int .i64 p, .int .i64 q] 23 w w') :=
  apart_into_go g a0 a1 a2 _ _ p q w h (fun w => run_convert_float_int w 49 3 .f64 .i64 _ p (by rw [Try.underlying49]; rfl) Try.underlying3 (FloatInt.back hp)) (fun w => run_convert_float_int w 49 3 .f64 .i64 _ q (by rw [Try.underlying49]; rfl) Try.underlying3 (FloatInt.back hq))
/-- What a call tells that gives a load. -/
def LoadIs (w : World) (a m b : Int) (e : Ending) (w' : World) : Prop := e = .returned (.agg #[.int .i64 a, .int .i64 m, .int .i64 b]) ∧ Below w.heap.size w w'
theorem both_is {m b c d : Int} (h1 : 0 ≤ m ∧ m ≤ 1099511627776) (h2 : 0 ≤ b ∧ b ≤ 1099511627776) (h3 : 0 ≤ c ∧ c ≤ 1099511627776) (h4 : 0 ≤ d ∧ d ≤ 1099511627776) : cSumBits .add .f64 (fl m 0) (fl b 0) (fl c 0) (fl d 0) = some (fl (m + c) 0, fl (b + d) 0) := by
  unfold cSumBits
  rw [FloatInt.add_fl (a := m) (c := c) (by omega) (by omega) (by omega), FloatInt.add_fl (a := b) (c := d) (by omega) (by omega) (by omega)]
  rfl
theorem two_alloc3 (w : World) (x0 x1 x2 y0 y1 y2 : Value) (t : TypeId) : ((w.alloc (.cells #[x0, x1, x2] t)).alloc (.cells #[y0, y1, y2] t)).heap[w.heap.size]? = some (.cells #[x0, x1, x2] t (0, 0)) ∧ ((w.alloc (.cells #[x0, x1, x2] t)).alloc (.cells #[y0, y1, y2] t)).heap[w.heap.size + 1]? = some (.cells #[y0, y1, y2] t (0, 0)) ∧ Below w.heap.size w ((w.alloc (.cells #[x0, x1, x2] t)).alloc (.cells #[y0, y1, y2] t)) := two_alloc w _ _
set_option maxHeartbeats 2000000 in
theorem add_go (a m b c d p q : Int) (x y u v s r k l : Nat) (w : World)
    (h1 : ∀ w, Calls Try.prog 15 #[.int .i64 m, .int .i64 b] w (fun e w' => e = .returned (.complex .f64 x y) ∧ w' = w))
    (h2 : ∀ w, Calls Try.prog 15 #[.int .i64 c, .int .i64 d] w (fun e w' => e = .returned (.complex .f64 u v) ∧ w' = w))
    (h3 : ∀ t w, (binOp .add t (.complex .f64 x y) (.complex .f64 u v)).run Try.prog w = .ok (.complex .f64 s r) w)
    (h4 : ∀ w, Calls Try.prog 17 #[.complex .f64 s r] w (fun e w' => e = .returned (.complex .f64 k l) ∧ w' = w))
    (h5 : ∀ g w, w.heap[g]? = some (.cells #[.int .i64 a, .int .i64 m, .int .i64 b] 23 (0, 0)) → Calls Try.prog 14 #[.complex .f64 k l, .func (.func 18) #[] #[.pointer (some ⟨g, 0, none⟩)]] w (fun e w' => e = .returned (.tuple #[]) ∧ Now g #[.int .i64 a, .int .i64 p, .int .i64 q] 23 w w')) :
    Calls Try.prog 12 #[.agg #[.int .i64 a, .int .i64 m, .int .i64 b], .int .i64 c, .int .i64 d] w (LoadIs w a p q) := by
  obtain ⟨t0, t1, hb⟩ := two_alloc3 w (.int .i64 a) (.int .i64 m) (.int .i64 b) (.int .i64 0) (.int .i64 0) (.int .i64 0) 23
  obtain ⟨W, hW⟩ : ∃ W, (w.alloc (.cells #[.int .i64 a, .int .i64 m, .int .i64 b] 23)).alloc (.cells #[.int .i64 0, .int .i64 0, .int .i64 0] 23) = W := ⟨_, rfl⟩
  have HW := hidT hW
  obtain ⟨i0, i1, i2⟩ := cells3 t0
  rw [hW] at t0 t1 hb
  obtain ⟨g, hg⟩ : ∃ g, w.heap.size + 1 = g := ⟨_, rfl⟩
  rw [hg] at t1
  have HGW := hidT (show w.heap.size ≤ g by omega)
  have HNE := hidT (show g ≠ w.heap.size by omega)
  have T1 := hidT t1
  have HB := hidT hb
  have H5 := hidT (h5 w.heap.size W t0)
  clear t0 t1 hb hW h5
  go_enter Try.func12, Try.ntmps12
  go_wp2_with fail
  rw [HW.out]
  clear hg i0 i1 i2
  with_reducible refine (h1 _).mono ?_
  rintro e w1 ⟨rfl, rfl⟩
  go_wp2_with fail
  with_reducible refine (h2 _).mono ?_
  rintro e w2 ⟨rfl, rfl⟩
  go_wp2_with fail
  with_reducible refine (h4 _).mono ?_
  rintro e w3 ⟨rfl, rfl⟩
  go_wp2_with fail
  with_reducible refine H5.out.mono ?_
  rintro e w4 ⟨rfl, hn, hbut, hbel⟩
  have T2 := hidT ((hbut.2 _ HNE.out).trans T1.out)
  have HB2 := hidT (hbel _ _ HB.out (Nat.le_refl _))
  obtain ⟨i0, i1, i2⟩ := cells3 hn
  clear hn hbut hbel
  go_wp2_with (
    refine wpList_stI rfl 23 _ _ rfl g #[.int .i64 a, .int .i64 p, .int .i64 q] rfl rfl _ _ T2.out mtsize rfl (all3 rfl rfl rfl) ?_
    intro w7 hg7 hbut hbel)
  obtain ⟨e0, e1, e2⟩ := cells3 hg7
  exact bodyPost_ret (v := .agg #[.int .i64 a, .int .i64 p, .int .i64 q]) (by simp [results, Try.results12, go_sem, e0, e1, e2]) rfl ⟨rfl, hbel _ _ HB2.out HGW.out⟩
theorem add_any (a : Int) {m b c d : Int} (h1 : 0 ≤ m ∧ m ≤ 1099511627776) (h2 : 0 ≤ b ∧ b ≤ 1099511627776) (h3 : 0 ≤ c ∧ c ≤ 1099511627776) (h4 : 0 ≤ d ∧ d ≤ 1099511627776) (w : World) :
    Calls Try.prog 12 #[.agg #[.int .i64 a, .int .i64 m, .int .i64 b], .int .i64 c, .int .i64 d] w (LoadIs w a (Meter.cap (m + c)) (Meter.cap (b + d))) := by
  have e1 := Meter.cap_in (n := m + c) (by omega)
  have e2 := Meter.cap_in (n := b + d) (by omega)
  exact add_go a m b c d _ _ (fl m 0) (fl b 0) (fl c 0) (fl d 0) (fl (m + c) 0) (fl (b + d) 0) (fl (Meter.cap (m + c)) 0) (fl (Meter.cap (b + d)) 0) w (sums_any m b) (sums_any c d)
    (fun t w => run_complex_sum w .add (.inl rfl) t .f64 _ _ _ _ _ _ (both_is h1 h2 h3 h4)) (capped_any (by omega) (by omega))
    (fun g w h => apart_into h (by omega) (by omega))
end Go.Proofs.Ytahcofejjfdbbaa
