/- What meter's Tick comes to. -/
import Derived.Test.YtahcofejjfdbbaaMeter1
import Derived.RegionTactic
import Derived.BigRegion
set_option maxRecDepth 100000
namespace Go.Proofs.Ytahcofejjfdbbaa
open Go.RowKit
open FloatInt (fl)
set_option linter.unusedVariables false

/-- What a call tells of a tick. -/
def TickIs (w : World) (a m b p q : Int) (t : Bool) (e : Ending) (w' : World) : Prop := e = .returned (.tuple #[.agg #[.int .i64 a, .int .i64 m, .int .i64 b], .int .i64 p, .int .i64 q, .bool t]) ∧ Below w.heap.size w w'
theorem tick_ahead (a m b k : Int) (w : World) (ha : 0 ≤ a ∧ a ≤ 1000) (h : decide (a + 1 < k) = true) :
    Calls Try.prog 10 #[.agg #[.int .i64 a, .int .i64 m, .int .i64 b], .int .i64 k] w (TickIs w (a + 1) m b 0 0 false) := by
  have s1 : wrap64 (a + 1) = a + 1 := IntWalk.wrap64_in _ (by omega)
  have s2 : IntKind.i64.wrap (a + 1) = a + 1 := IntWalk.i64_in _ (by omega)
  obtain ⟨t0, t1, hb⟩ := two_alloc3 w (.int .i64 (a + 1)) (.int .i64 m) (.int .i64 b) (.int .i64 (a + 1)) (.int .i64 m) (.int .i64 b) 23
  obtain ⟨i0, i1, i2⟩ := cells3 t1
  clear t0 t1 ha
  go_enter Try.func10, Try.ntmps10
  go_wp2
  exact bodyPost_ret (v := .tuple #[.agg #[.int .i64 (a + 1), .int .i64 m, .int .i64 b], .int .i64 0, .int .i64 0, .bool false]) (by simp [results, Try.results10, go_sem, i0, i1, i2]) rfl ⟨rfl, hb⟩

/-- Two blocks of one cell are these now, all others are as they were. -/
def Both (g h : Nat) (p q : Value) (t : TypeId) (w w' : World) : Prop := w'.heap[g]? = some (.cells #[p] t (0, 0)) ∧ w'.heap[h]? = some (.cells #[q] t (0, 0)) ∧ (∀ b, b ≠ g → b ≠ h → w'.heap[b]? = w.heap[b]?) ∧ ∀ base w0, Below base w0 w → base ≤ g → base ≤ h → Below base w0 w'
theorem put_both {w : World} {g h : Nat} {a c : Value} {t : TypeId} (hg : w.heap[g]? = some (.cells #[a] t (0, 0))) (hh : w.heap[h]? = some (.cells #[c] t (0, 0))) (hne : h ≠ g) (p q : Value) : Both g h p q t w ((w.setCell ⟨g, 0, none⟩ p).setCell ⟨h, 0, none⟩ q) :=
  ⟨set_off (set1 hg p) hne.symm 0 q, set1 (set_off hh hne 0 p) q, fun b h1 h2 => set_off (set_off rfl h1 0 p) h2 0 q, fun base w0 hb h1 h2 => (hb.setCell (p := ⟨g, 0, none⟩) h1 p).setCell (p := ⟨h, 0, none⟩) h2 q⟩
/-- Tick's closure: both sums into two variables. -/
theorem told_any (g h : Nat) (a c : Value) (p q : Int) (w : World) (hg : w.heap[g]? = some (.cells #[a] 3 (0, 0))) (hh : w.heap[h]? = some (.cells #[c] 3 (0, 0))) (hne : h ≠ g) :
    Calls Try.prog 16 #[.int .i64 p, .int .i64 q, .pointer (some ⟨g, 0, none⟩), .pointer (some ⟨h, 0, none⟩)] w (fun e w' => e = .returned (.tuple #[]) ∧ Both g h (.int .i64 p) (.int .i64 q) 3 w w') := by
  have e0 := cells1 hg
  have e1 := cells1 hh
  have f0 := no_frozen hg 0
  have f1 := no_frozen hh 0
  have N := put_both hg hh hne (.int .i64 p) (.int .i64 q)
  clear hg hh
  go_enter Try.func16, Try.ntmps16
  go_wp2
  exact bodyPost_end (by simp [results, Try.results16, go_sem]) rfl ⟨rfl, N⟩
theorem apart_told_go (g h : Nat) (a c : Value) (x y : Nat) (p q : Int) (w : World) (hg : w.heap[g]? = some (.cells #[a] 3 (0, 0))) (hh : w.heap[h]? = some (.cells #[c] 3 (0, 0))) (hne : h ≠ g)
    (hx : ∀ w, (convert 49 3 (.float .f64 x)).run Try.prog w = .ok (.int .i64 p) w) (hy : ∀ w, (convert 49 3 (.float .f64 y)).run Try.prog w = .ok (.int .i64 q) w) :
    Calls Try.prog 14 #[.complex .f64 x y, .func (.func 16) #[] #[.pointer (some ⟨g, 0, none⟩), .pointer (some ⟨h, 0, none⟩)]] w (fun e w' => e = .returned (.tuple #[]) ∧ Both g h (.int .i64 p) (.int .i64 q) 3 w w') := by
  have c := told_any g h a c p q w hg hh hne
  clear hg hh
  go_enter Try.func14, Try.ntmps14
  go_wp2_with (simp only [hx, hy])
  with_reducible refine c.mono ?_
  rintro e w1 ⟨rfl, hn⟩
  go_wp2
  exact bodyPost_end (by simp [results, Try.results14, go_sem]) rfl ⟨rfl, hn⟩
theorem apart_told {g h : Nat} {a c : Value} {p q : Int} {w : World} (hg : w.heap[g]? = some (.cells #[a] 3 (0, 0))) (hh : w.heap[h]? = some (.cells #[c] 3 (0, 0))) (hne : h ≠ g) (hp : -4503599627370496 < p ∧ p < 4503599627370496) (hq : -4503599627370496 < q ∧ q < 4503599627370496) :
    Calls Try.prog 14 #[.complex .f64 (fl p 0) (fl q 0), .func (.func 16) #[] #[.pointer (some ⟨g, 0, none⟩), .pointer (some ⟨h, 0, none⟩)]] w (fun e w' => e = .returned (.tuple #[]) ∧ Both g h (.int .i64 p) (.int .i64 q) 3 w w') :=
  apart_told_go g h a c _ _ p q w hg hh hne (fun w => run_convert_float_int w 49 3 .f64 .i64 _ p (by rw [Try.underlying49]; rfl) Try.underlying3 (FloatInt.back hp)) (fun w => run_convert_float_int w 49 3 .f64 .i64 _ q (by rw [Try.underlying49]; rfl) Try.underlying3 (FloatInt.back hq))
theorem four_alloc (w : World) (o0 o1 o2 o3 : Obj) : ((((w.alloc o0).alloc o1).alloc o2).alloc o3).heap[w.heap.size]? = some o0 ∧ ((((w.alloc o0).alloc o1).alloc o2).alloc o3).heap[w.heap.size + 1]? = some o1 ∧ ((((w.alloc o0).alloc o1).alloc o2).alloc o3).heap[w.heap.size + 1 + 1]? = some o2 ∧ ((((w.alloc o0).alloc o1).alloc o2).alloc o3).heap[w.heap.size + 1 + 1 + 1]? = some o3 ∧ Below w.heap.size w ((((w.alloc o0).alloc o1).alloc o2).alloc o3) := by
  obtain ⟨h0, h1, h2, hb⟩ := three_alloc w o0 o1 o2
  have hk := nkeep (((w.alloc o0).alloc o1).alloc o2) o3
  exact ⟨keepH h0 hk, keepH h1 hk, keepH h2 hk, alloc_at _ _ _ (by rw [size_alloc, size_alloc, size_alloc]), bthen hb hk⟩
theorem set3 {w : World} {g : Nat} {a0 a1 a2 : Value} {t : TypeId} (h : w.heap[g]? = some (.cells #[a0, a1, a2] t (0, 0))) (v0 v1 v2 : Value) : (((w.setCell ⟨g, 0, none⟩ v0).setCell ⟨g, 1, none⟩ v1).setCell ⟨g, 2, none⟩ v2).drew.heap[g]? = some (.cells #[v0, v1, v2] t (0, 0)) ∧ ∀ base w0, Below base w0 w → base ≤ g → Below base w0 (((w.setCell ⟨g, 0, none⟩ v0).setCell ⟨g, 1, none⟩ v1).setCell ⟨g, 2, none⟩ v2).drew := by
  have h1 : (w.setCell ⟨g, 0, none⟩ v0).heap[g]? = some (.cells #[v0, a1, a2] t (0, 0)) := heap_setCell_same w g 0 _ t v0 h
  have h2 : ((w.setCell ⟨g, 0, none⟩ v0).setCell ⟨g, 1, none⟩ v1).heap[g]? = some (.cells #[v0, v1, a2] t (0, 0)) := heap_setCell_same _ g 1 _ t v1 h1
  exact ⟨heap_setCell_same _ g 2 _ t v2 h2, fun base w0 hb hg => (((hb.setCell (p := ⟨g, 0, none⟩) hg v0).setCell (p := ⟨g, 1, none⟩) hg v1).setCell (p := ⟨g, 2, none⟩) hg v2).drew⟩
set_option maxHeartbeats 2000000 in
theorem tick_over_go (a m b k : Int) (x y : Nat) (w : World) (ha : 0 ≤ a ∧ a ≤ 1000) (hk : decide (a + 1 < k) = false)
    (h1 : ∀ w, Calls Try.prog 15 #[.int .i64 m, .int .i64 b] w (fun e w' => e = .returned (.complex .f64 x y) ∧ w' = w))
    (h2 : ∀ g h w, w.heap[g]? = some (.cells #[.int .i64 0] 3 (0, 0)) → w.heap[h]? = some (.cells #[.int .i64 0] 3 (0, 0)) → h ≠ g → Calls Try.prog 14 #[.complex .f64 x y, .func (.func 16) #[] #[.pointer (some ⟨g, 0, none⟩), .pointer (some ⟨h, 0, none⟩)]] w (fun e w' => e = .returned (.tuple #[]) ∧ Both g h (.int .i64 m) (.int .i64 b) 3 w w')) :
    Calls Try.prog 10 #[.agg #[.int .i64 a, .int .i64 m, .int .i64 b], .int .i64 k] w (TickIs w 0 0 0 m b true) := by
  have s1 : wrap64 (a + 1) = a + 1 := IntWalk.wrap64_in _ (by omega)
  have s2 : IntKind.i64.wrap (a + 1) = a + 1 := IntWalk.i64_in _ (by omega)
  obtain ⟨t0, t1, t2, t3, hb⟩ := four_alloc w (.cells #[.int .i64 (a + 1), .int .i64 m, .int .i64 b] 23) (.cells #[.int .i64 0, .int .i64 0, .int .i64 0] 23) (.cells #[.int .i64 0] 3) (.cells #[.int .i64 0] 3)
  obtain ⟨W, hW⟩ : ∃ W, (((w.alloc (.cells #[.int .i64 (a + 1), .int .i64 m, .int .i64 b] 23)).alloc (.cells #[.int .i64 0, .int .i64 0, .int .i64 0] 23)).alloc (.cells #[.int .i64 0] 3)).alloc (.cells #[.int .i64 0] 3) = W := ⟨_, rfl⟩
  have HW := hidT hW
  obtain ⟨i0, i1, i2⟩ := cells3 t0
  rw [hW] at t0 t1 t2 t3 hb
  have H2 := hidT (h2 (w.heap.size + 1 + 1) (w.heap.size + 1 + 1 + 1) W t2 t3 (by omega))
  have T1 := hidT t1
  have HB := hidT hb
  clear t0 t1 t2 t3 hb hW h2 ha
  go_enter Try.func10, Try.ntmps10
  go_wp2_with fail
  rw [HW.out]
  clear i0 i1 i2
  with_reducible refine (h1 _).mono ?_
  rintro e w1 ⟨rfl, rfl⟩
  go_wp2_with fail
  with_reducible refine H2.out.mono ?_
  rintro e w4 ⟨rfl, n1, n2, hoff, hbel⟩
  have t1 := (hoff (w.heap.size + 1) (by omega) (by omega)).trans T1.out
  have HB2 := hidT (hbel _ _ HB.out (by omega) (by omega))
  have j0 := cells1 n1
  have j1 := cells1 n2
  have f0 := no_frozen t1 0
  have f1 := no_frozen t1 1
  have f2 := no_frozen t1 2
  obtain ⟨i0, i1, i2⟩ := cells3 t1
  have Z := hidT (set3 t1 (.int .i64 0) (.int .i64 0) (.int .i64 0))
  clear t1 n1 n2 hoff hbel
  go_wp2_with fail
  go_region
  obtain ⟨z, hz⟩ := Z.out
  obtain ⟨e0, e1, e2⟩ := cells3 z
  have hB := hz _ _ HB2.out (by omega)
  clear Z z hz i0 i1 i2 f0 f1 f2 j0 j1
  go_wp2
  exact bodyPost_ret (v := .tuple #[.agg #[.int .i64 0, .int .i64 0, .int .i64 0], .int .i64 m, .int .i64 b, .bool true]) (by simp [results, Try.results10, go_sem, e0, e1, e2]) rfl ⟨rfl, hB⟩
theorem mttick_any (a m b k : Int) (w : World) (ha : 0 ≤ a ∧ a ≤ 1000) (hm : 0 ≤ m ∧ m ≤ 1099511627776) (hb : 0 ≤ b ∧ b ≤ 1099511627776) :
    Calls Try.prog 10 #[.agg #[.int .i64 a, .int .i64 m, .int .i64 b], .int .i64 k] w (if a + 1 < k then TickIs w (a + 1) m b 0 0 false else TickIs w 0 0 0 m b true) := by
  by_cases h : a + 1 < k
  · rw [if_pos h]
    exact tick_ahead a m b k w ha (by simpa using h)
  · rw [if_neg h]
    exact tick_over_go a m b k _ _ w ha (by simpa using h) (sums_any m b) (fun g h w hg hh hne => apart_told hg hh hne (by omega) (by omega))
end Go.Proofs.Ytahcofejjfdbbaa
