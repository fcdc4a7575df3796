/- What rate's Spend comes to, and the document's. -/
import Derived.Test.YtpobaecfmdpphaaRate1
import Derived.Deep.RegionHeld3
import Derived.Deep.RegionHeldLaw
set_option maxRecDepth 100000
namespace Go.Proofs.Ytpobaecfmdpphaa
open Go.RowKit
open FloatInt (fl)
set_option linter.unusedVariables false

/-- What Spend tells. -/
def SpentIs (w : World) (n l : Int) (t : Bool) (e : Ending) (w' : World) : Prop := e = .returned (.tuple #[.agg #[.int .i64 n, .int .i64 l], .bool t]) ∧ Below w.heap.size w w'

theorem spend_no (n l k : Int) (w : World) (h : Rate.yes l k = false) : Calls Try.prog 10 #[.agg #[.int .i64 n, .int .i64 l], .int .i64 k] w (SpentIs w n l false) := by
  obtain ⟨t0, t1, hb⟩ := two_alloc w (.cells #[.int .i64 n, .int .i64 l] 23) (.cells #[.int .i64 n, .int .i64 l] 23)
  obtain ⟨i0, i1⟩ := cells2 t1
  have c1 := fun w => rtwithin_any k 0 l w false h
  clear t0 t1 h
  go_enter Try.func10, Try.ntmps10
  go_wp2_with fail
  with_reducible refine (c1 _).mono ?_
  rintro e w5 ⟨rfl, rfl⟩
  go_wp2
  exact bodyPost_ret (v := .tuple #[.agg #[.int .i64 n, .int .i64 l], .bool false]) (by simp [results, Try.results10, go_sem, i0, i1]) rfl ⟨rfl, hb⟩

set_option maxHeartbeats 1000000 in
theorem spend_go (n l k L : Int) (x y v : Nat) (w : World) (h : Rate.yes l k = true)
    (hp : ∀ w, Calls Try.prog 20 #[.agg #[.int .i64 n, .int .i64 l]] w (fun e w' => e = .returned (.complex .f64 x y) ∧ Below w.heap.size w w'))
    (hs : ∀ t w, (binOp .sub t (.complex .f64 x y) (.complex .f64 0 (floatOfInt .f64 k))).run Try.prog w = .ok (.complex .f64 x v) w)
    (hw : ∀ w, Calls Try.prog 19 #[.agg #[.int .i64 n, .int .i64 l], .complex .f64 x v] w (RateIs w n L)) :
    Calls Try.prog 10 #[.agg #[.int .i64 n, .int .i64 l], .int .i64 k] w (SpentIs w n L true) := by
  obtain ⟨t0, t1, hb⟩ := two_alloc w (.cells #[.int .i64 n, .int .i64 l] 23) (.cells #[.int .i64 0, .int .i64 0] 23)
  obtain ⟨W, hW⟩ : ∃ W, (w.alloc (.cells #[.int .i64 n, .int .i64 l] 23)).alloc (.cells #[.int .i64 0, .int .i64 0] 23) = W := ⟨_, rfl⟩
  have HW := hidT hW
  obtain ⟨i0, i1⟩ := cells2 t0
  have c1 := fun w => rtwithin_any k 0 l w true h
  rw [hW] at t0 t1 hb
  obtain ⟨j0, j1⟩ := cells2 t0
  obtain ⟨g, hg⟩ : ∃ g, w.heap.size + 1 = g := ⟨_, rfl⟩
  rw [hg] at t1
  have hgw : w.heap.size ≤ g := by omega
  have HLT := hidT (show w.heap.size < g by omega)
  have T0 := hidT t0
  have T1 := hidT t1
  have HB := hidT hb
  have HGW := hidT hgw
  have HP := hidT hp
  have HWI := hidT hw
  clear t0 t1 hb hW hgw h hp hw
  go_enter Try.func10, Try.ntmps10
  go_wp2_with fail
  rw [HW.out]
  with_reducible refine (c1 _).mono ?_
  rintro e w5 ⟨rfl, rfl⟩
  clear hg i0 i1 c1 HW
  go_wp2_with fail
  clear j0 j1
  have hlt : w.heap.size < g := HLT.out
  have hgs : g ≤ w5.heap.size := Nat.le_of_lt (blk_lt T1.out)
  have k0 := fun w' (hb : Below g w5 w') => (cells2 ((hb.block _ hlt).trans T0.out)).1
  have k1 := fun w' (hb : Below g w5 w') => (cells2 ((hb.block _ hlt).trans T0.out)).2
  have D0 : Below g w5 w5 := Below.refl _ _
  go_region_held (fun w' => Below g w5 w')
    (first | exact D0.drew | exact D0 | exact hb6.mono hgs | exact hb7.mono hgs | exact ((hb7.mono hgs).setCell (p := ⟨g, 0, none⟩) (Nat.le_refl _) _).setCell (p := ⟨g, 1, none⟩) (Nat.le_refl _) _ | assumption)
    (first
      | (go_at_call 20; ((with_reducible refine (HP.out _).mono ?_); rintro e6 w6 ⟨rfl, hb6'⟩; have hb6 : Below w5.heap.size w5 w6 := undrew hb6'; have hs6 := hs))
      | (go_at_call 19; ((with_reducible refine (HWI.out _).mono ?_); rintro e7 w7 ⟨rfl, hb7'⟩; have hb7 : Below w5.heap.size w5 w7 := bthen hb6 hb7'; have y7 := keepH T1.out hb7; have f0 := no_frozen y7 0; have f1 := no_frozen y7 1; obtain ⟨j0, j1⟩ := cells2 y7))
      | fail)
  all_goals
    have z7 := set2 y7 (.int .i64 n) (.int .i64 L)
    obtain ⟨e0, e1⟩ := cells2 z7
    clear z7 y7 f0 f1 j0 j1
    have hbz := ((bthen HB.out hb7).setCell (p := ⟨g, 0, none⟩) HGW.out (.int .i64 n)).setCell (p := ⟨g, 1, none⟩) HGW.out (.int .i64 L)
    go_wp2
    exact bodyPost_ret (v := .tuple #[.agg #[.int .i64 n, .int .i64 L], .bool true]) (by simp [results, Try.results10, go_sem, e0, e1]) rfl ⟨rfl, hbz⟩
theorem rtspend_any (n l k : Int) (w : World) (hn : 0 ≤ n ∧ n ≤ 1048576) (hl : 0 ≤ l ∧ l ≤ 1048576) :
    Calls Try.prog 10 #[.agg #[.int .i64 n, .int .i64 l], .int .i64 k] w (SpentIs w n (Rate.spend l k) (Rate.yes l k)) := by
  cases h : Rate.yes l k with
  | false => rw [Rate.spend, h]; exact spend_no n l k w h
  | true =>
    obtain ⟨h1, h2⟩ := Rate.yes_iff.1 h
    rw [Rate.spend, h]
    exact spend_go n l k (l - k) (fl n 0) (fl l 0) (fl (l - k) 0) w h (rtparts_any n l) (fun t w => run_complex_sum w .sub (.inr rfl) t .f64 _ _ _ _ _ _ (FloatInt.less_fl (by omega) (by omega) (by omega) (by omega)))
      (fun w => rtwith_fl n l n (l - k) w (by omega) (by omega))
end Go.Proofs.Ytpobaecfmdpphaa
