/- What win's Put comes to: refused. -/
import Derived.Test.YtkkkfaelpmmffaaWin5
set_option maxRecDepth 100000
namespace Go.Proofs.Ytkkkfaelpmmffaa
open Go.RowKit
set_option linter.unusedVariables false

/-- What Put tells. -/
def PutIs (w : World) (t : Bool) (k : Keep.Kp) (e : Ending) (w' : World) : Prop := ∃ v, e = .returned (.tuple #[v, .bool t]) ∧ FrK w' w.heap.size v k ∧ Below w.heap.size w w'
set_option maxHeartbeats 8000000 in
theorem wput_waits (A : Option Addr) (n c : Nat) (k : Keep.Kp) (LA : Option Addr) (ln lc : Nat) (BA : Option Addr) (bn bc : Nat) (x : Item.It) (last : Int) (w : World) (hX : RdX w A n c k.l) (hit : IsItem w (.agg #[.int .i64 x.k, .int .i64 x.q, .int .i64 x.e, .int .i64 x.i, .int .i64 x.t, .int .i64 x.c, .slice LA ln lc, .slice BA bn bc]) x) (hr : Win.right k = true) (hS : SmallL k.l) (hw : Win.waits k.l x.q = true):
    Calls Try.prog 17 #[.agg #[.int .i64 k.next, .slice A n c], .agg #[.int .i64 x.k, .int .i64 x.q, .int .i64 x.e, .int .i64 x.i, .int .i64 x.t, .int .i64 x.c, .slice LA ln lc, .slice BA bn bc], .int .i64 last] w (PutIs w false k) := by
  have hn := hX.le
  have hlen := hX.size
  obtain ⟨t0, t1, t2, hb⟩ := three_alloc w (.cells #[.int .i64 k.next, .slice A n c] 24) (.cells #[.int .i64 x.k, .int .i64 x.q, .int .i64 x.e, .int .i64 x.i, .int .i64 x.t, .int .i64 x.c, .slice LA ln lc, .slice BA bn bc] 28) (.cells kz 24)
  obtain ⟨i0, i1⟩ := cells2 t0
  obtain ⟨j0, j1, j2, j3, j4, j5, j6, j7⟩ := cells8 t1
  obtain ⟨W, hW⟩ : ∃ W, ((w.alloc (.cells #[.int .i64 k.next, .slice A n c] 24)).alloc (.cells #[.int .i64 x.k, .int .i64 x.q, .int .i64 x.e, .int .i64 x.i, .int .i64 x.t, .int .i64 x.c, .slice LA ln lc, .slice BA bn bc] 28)).alloc (.cells kz 24) = W := ⟨_, rfl⟩
  have hws : W.heap.size = w.heap.size + 3 := by rw [← hW, size_alloc, size_alloc, size_alloc]
  rw [hW] at t0 t1 t2 hb i0 i1 j0 j1 j2 j3 j4 j5 j6 j7
  have hri := (Win.right_iff.1 hr).2.2
  have hc := place_any A n c k.l x.q W (hX.below hb)
  rw [Win.hit_waits hri] at hc
  obtain ⟨rs, hrs, hI⟩ := hX
  obtain ⟨g, hg⟩ : ∃ g, w.heap.size = g := ⟨_, rfl⟩
  rw [hg] at i0 i1 j0 j1 j2 j3 j4 j5 j6 j7 t0 t1 t2 hws
  have HW := hidT hW
  have HWS := hidT hws
  have HC := hidT hc
  have T0 := hidT t0
  have T1 := hidT t1
  have T2 := hidT t2
  have HB := hidT hb
  have HRS := hidT hrs
  have HI := hidT hI
  have HSM := hidT hS
  have HG := hidT hg
  have HIT := hidT hit
  have HLEN := hidT hlen
  have HRI := hidT hri
  clear t0 t1 t2 hb hS hW hc hri hr hrs hI hws hit hlen
  rw [hw] at HC
  clear hw
  go_enter Try.func17, Try.ntmps17
  go_wp2_with fail
  rw [HW.out]
  clear hg
  with_reducible refine HC.out.mono ?_
  rintro e w7 ⟨rfl, hb7⟩
  have HB7 := hidT hb7
  clear hb7 i0 i1 j0 j1 j2 j3 j4 j5 j6 j7
  obtain ⟨i0, i1⟩ := cells2 (keepH T0.out HB7.out)
  obtain ⟨j0, j1, j2, j3, j4, j5, j6, j7⟩ := cells8 (keepH T1.out HB7.out)
  have n8 := nkeep w7 (.cells #[.slice A n c] 22)
  have hbw := bthen HB.out (bthen HB7.out n8)
  have hl := laid_any (some ⟨w7.heap.size, 0, none⟩) 1 1 [.slice A n c] [rs] k.l _ (RdV.lit w7 22 (0, 0) #[.slice A n c] [.slice A n c] rfl 1 rfl (by decide) w7.heap.size rfl) (RowsX.one (HRS.out.below hbw)) (by simpa using HI.out.below hbw) HSM.out
  have HL := hidT hl
  have N8 := hidT n8
  clear hl n8 hbw
  go_wp2_with fail
  clear i0 i1 j0 j1 j2 j3 j4 j5 j6 j7
  with_reducible refine HL.out.mono ?_
  rintro e w8 ⟨B, m, d, us, rfl, hk8, ha8, hf8, hb8⟩
  have hb78 := bthen HB7.out (bthen N8.out hb8)
  have y0 := keepH T0.out hb78
  have f1 := no_frozen y0 1
  obtain ⟨u0, u1⟩ := cells2 y0
  have z0 : (w8.setCell ⟨g, 1, none⟩ (.slice B m d)).heap[g]? = some (.cells #[.int .i64 k.next, .slice B m d] 24 (0, 0)) := heap_setCell_same w8 g 1 _ _ _ y0
  have zb : But g w8 (w8.setCell ⟨g, 1, none⟩ (.slice B m d)) := But.setCell w8 g 1 _
  have z2 := (zb.2 (g + 2) (by omega)).trans (keepH T2.out hb78)
  have zB := (bthen HB.out hb78).setCell (p := ⟨g, 1, none⟩) (show w.heap.size ≤ g by have := HG.out; omega) (.slice B m d)
  have hws := HWS.out
  have hs7 := (bthen HB7.out N8.out).size
  have zk : FrK (w8.setCell ⟨g, 1, none⟩ (.slice B m d)) (g + 3) (.agg #[.int .i64 k.next, .slice B m d]) k := by
    have hfk : FrK w8 (w7.alloc (.cells #[.slice A n c] 22)).heap.size (.agg #[.int .i64 k.next, .slice B m d]) k := ⟨B, m, d, us, rfl, hk8, ha8, hf8⟩
    exact (hfk.mono (show g + 3 ≤ _ by omega)).but (by omega) zb
  have Z0 := hidT z0
  have Z2 := hidT z2
  have ZB := hidT zB
  have ZK := hidT zk
  clear z0 z2 zB zk zb y0 hb78 hk8 ha8 hf8 hb8 hws hs7
  go_upto_region 4 with fail
  clear u0 u1 f1
  generalize w8.setCell ⟨g, 1, none⟩ (.slice B m d) = X at *
  obtain ⟨u0, u1⟩ := cells2 Z0.out
  go_wp2_with (
    refine wpList_stI rfl 24 _ _ rfl (g + 2) #[.int .i64 k.next, .slice B m d] rfl rfl _ _ Z2.out wsize2 rfl (by simp [Value.oneCell']) ?_
    intro w9 hg9 hbut hbel)
  obtain ⟨e0, e1⟩ := cells2 hg9
  have hgg := HG.out
  exact bodyPost_ret (v := .tuple #[.agg #[.int .i64 k.next, .slice B m d], .bool false]) (by simp [results, Try.results17, go_sem, e0, e1]) rfl
    ⟨_, rfl, (ZK.out.but (by omega) hbut).mono (by omega), hbel _ _ ZB.out (by omega)⟩
set_option maxHeartbeats 8000000 in
theorem wput_full (A : Option Addr) (n c : Nat) (k : Keep.Kp) (LA : Option Addr) (ln lc : Nat) (BA : Option Addr) (bn bc : Nat) (x : Item.It) (last : Int) (w : World) (hX : RdX w A n c k.l) (hit : IsItem w (.agg #[.int .i64 x.k, .int .i64 x.q, .int .i64 x.e, .int .i64 x.i, .int .i64 x.t, .int .i64 x.c, .slice LA ln lc, .slice BA bn bc]) x) (hr : Win.right k = true) (hS : SmallL k.l) (hw : Win.waits k.l x.q = false) (h64 : 64 ≤ n):
    Calls Try.prog 17 #[.agg #[.int .i64 k.next, .slice A n c], .agg #[.int .i64 x.k, .int .i64 x.q, .int .i64 x.e, .int .i64 x.i, .int .i64 x.t, .int .i64 x.c, .slice LA ln lc, .slice BA bn bc], .int .i64 last] w (PutIs w false k) := by
  have hn := hX.le
  have hlen := hX.size
  obtain ⟨t0, t1, t2, hb⟩ := three_alloc w (.cells #[.int .i64 k.next, .slice A n c] 24) (.cells #[.int .i64 x.k, .int .i64 x.q, .int .i64 x.e, .int .i64 x.i, .int .i64 x.t, .int .i64 x.c, .slice LA ln lc, .slice BA bn bc] 28) (.cells kz 24)
  obtain ⟨i0, i1⟩ := cells2 t0
  obtain ⟨j0, j1, j2, j3, j4, j5, j6, j7⟩ := cells8 t1
  obtain ⟨W, hW⟩ : ∃ W, ((w.alloc (.cells #[.int .i64 k.next, .slice A n c] 24)).alloc (.cells #[.int .i64 x.k, .int .i64 x.q, .int .i64 x.e, .int .i64 x.i, .int .i64 x.t, .int .i64 x.c, .slice LA ln lc, .slice BA bn bc] 28)).alloc (.cells kz 24) = W := ⟨_, rfl⟩
  have hws : W.heap.size = w.heap.size + 3 := by rw [← hW, size_alloc, size_alloc, size_alloc]
  rw [hW] at t0 t1 t2 hb i0 i1 j0 j1 j2 j3 j4 j5 j6 j7
  have hri := (Win.right_iff.1 hr).2.2
  have hc := place_any A n c k.l x.q W (hX.below hb)
  rw [Win.hit_waits hri] at hc
  obtain ⟨rs, hrs, hI⟩ := hX
  obtain ⟨g, hg⟩ : ∃ g, w.heap.size = g := ⟨_, rfl⟩
  rw [hg] at i0 i1 j0 j1 j2 j3 j4 j5 j6 j7 t0 t1 t2 hws
  have HW := hidT hW
  have HWS := hidT hws
  have HC := hidT hc
  have T0 := hidT t0
  have T1 := hidT t1
  have T2 := hidT t2
  have HB := hidT hb
  have HRS := hidT hrs
  have HI := hidT hI
  have HSM := hidT hS
  have HG := hidT hg
  have HIT := hidT hit
  have HLEN := hidT hlen
  have HRI := hidT hri
  clear t0 t1 t2 hb hS hW hc hri hr hrs hI hws hit hlen
  rw [hw] at HC
  clear hw
  have q1 : decide (64 ≤ n) = true := by simpa using h64
  have q2 : decide ((64 : Int) ≤ (n : Int)) = true := by simp; omega
  go_enter Try.func17, Try.ntmps17
  go_wp2_with fail
  rw [HW.out]
  clear hg
  with_reducible refine HC.out.mono ?_
  rintro e w7 ⟨rfl, hb7⟩
  have HB7 := hidT hb7
  clear hb7 i0 i1 j0 j1 j2 j3 j4 j5 j6 j7
  obtain ⟨i0, i1⟩ := cells2 (keepH T0.out HB7.out)
  obtain ⟨j0, j1, j2, j3, j4, j5, j6, j7⟩ := cells8 (keepH T1.out HB7.out)
  have n8 := nkeep w7 (.cells #[.slice A n c] 22)
  have hbw := bthen HB.out (bthen HB7.out n8)
  have hl := laid_any (some ⟨w7.heap.size, 0, none⟩) 1 1 [.slice A n c] [rs] k.l _ (RdV.lit w7 22 (0, 0) #[.slice A n c] [.slice A n c] rfl 1 rfl (by decide) w7.heap.size rfl) (RowsX.one (HRS.out.below hbw)) (by simpa using HI.out.below hbw) HSM.out
  have HL := hidT hl
  have N8 := hidT n8
  clear hl n8 hbw
  go_wp2_with fail
  clear i0 i1 j0 j1 j2 j3 j4 j5 j6 j7
  with_reducible refine HL.out.mono ?_
  rintro e w8 ⟨B, m, d, us, rfl, hk8, ha8, hf8, hb8⟩
  have hb78 := bthen HB7.out (bthen N8.out hb8)
  have y0 := keepH T0.out hb78
  have f1 := no_frozen y0 1
  obtain ⟨u0, u1⟩ := cells2 y0
  have z0 : (w8.setCell ⟨g, 1, none⟩ (.slice B m d)).heap[g]? = some (.cells #[.int .i64 k.next, .slice B m d] 24 (0, 0)) := heap_setCell_same w8 g 1 _ _ _ y0
  have zb : But g w8 (w8.setCell ⟨g, 1, none⟩ (.slice B m d)) := But.setCell w8 g 1 _
  have z2 := (zb.2 (g + 2) (by omega)).trans (keepH T2.out hb78)
  have zB := (bthen HB.out hb78).setCell (p := ⟨g, 1, none⟩) (show w.heap.size ≤ g by have := HG.out; omega) (.slice B m d)
  have hws := HWS.out
  have hs7 := (bthen HB7.out N8.out).size
  have zk : FrK (w8.setCell ⟨g, 1, none⟩ (.slice B m d)) (g + 3) (.agg #[.int .i64 k.next, .slice B m d]) k := by
    have hfk : FrK w8 (w7.alloc (.cells #[.slice A n c] 22)).heap.size (.agg #[.int .i64 k.next, .slice B m d]) k := ⟨B, m, d, us, rfl, hk8, ha8, hf8⟩
    exact (hfk.mono (show g + 3 ≤ _ by omega)).but (by omega) zb
  have Z0 := hidT z0
  have Z2 := hidT z2
  have ZB := hidT zB
  have ZK := hidT zk
  clear z0 z2 zB zk zb y0 hb78 hk8 ha8 hf8 hb8 hws hs7
  go_upto_region 4 with fail
  clear u0 u1 f1
  generalize w8.setCell ⟨g, 1, none⟩ (.slice B m d) = X at *
  obtain ⟨u0, u1⟩ := cells2 Z0.out
  go_wp2_with (
    refine wpList_stI rfl 24 _ _ rfl (g + 2) #[.int .i64 k.next, .slice B m d] rfl rfl _ _ Z2.out wsize2 rfl (by simp [Value.oneCell']) ?_
    intro w9 hg9 hbut hbel)
  obtain ⟨e0, e1⟩ := cells2 hg9
  have hgg := HG.out
  exact bodyPost_ret (v := .tuple #[.agg #[.int .i64 k.next, .slice B m d], .bool false]) (by simp [results, Try.results17, go_sem, e0, e1]) rfl
    ⟨_, rfl, (ZK.out.but (by omega) hbut).mono (by omega), hbel _ _ ZB.out (by omega)⟩
set_option maxHeartbeats 8000000 in
theorem wput_out (A : Option Addr) (n c : Nat) (k : Keep.Kp) (LA : Option Addr) (ln lc : Nat) (BA : Option Addr) (bn bc : Nat) (x : Item.It) (last : Int) (w : World) (hX : RdX w A n c k.l) (hit : IsItem w (.agg #[.int .i64 x.k, .int .i64 x.q, .int .i64 x.e, .int .i64 x.i, .int .i64 x.t, .int .i64 x.c, .slice LA ln lc, .slice BA bn bc]) x) (hr : Win.right k = true) (hS : SmallL k.l) (hw : Win.waits k.l x.q = false) (h64 : n < 64) (hin : (decide (k.next ≤ x.q) && decide (x.q ≤ last)) = false):
    Calls Try.prog 17 #[.agg #[.int .i64 k.next, .slice A n c], .agg #[.int .i64 x.k, .int .i64 x.q, .int .i64 x.e, .int .i64 x.i, .int .i64 x.t, .int .i64 x.c, .slice LA ln lc, .slice BA bn bc], .int .i64 last] w (PutIs w false k) := by
  have hn := hX.le
  have hlen := hX.size
  obtain ⟨t0, t1, t2, hb⟩ := three_alloc w (.cells #[.int .i64 k.next, .slice A n c] 24) (.cells #[.int .i64 x.k, .int .i64 x.q, .int .i64 x.e, .int .i64 x.i, .int .i64 x.t, .int .i64 x.c, .slice LA ln lc, .slice BA bn bc] 28) (.cells kz 24)
  obtain ⟨i0, i1⟩ := cells2 t0
  obtain ⟨j0, j1, j2, j3, j4, j5, j6, j7⟩ := cells8 t1
  obtain ⟨W, hW⟩ : ∃ W, ((w.alloc (.cells #[.int .i64 k.next, .slice A n c] 24)).alloc (.cells #[.int .i64 x.k, .int .i64 x.q, .int .i64 x.e, .int .i64 x.i, .int .i64 x.t, .int .i64 x.c, .slice LA ln lc, .slice BA bn bc] 28)).alloc (.cells kz 24) = W := ⟨_, rfl⟩
  have hws : W.heap.size = w.heap.size + 3 := by rw [← hW, size_alloc, size_alloc, size_alloc]
  rw [hW] at t0 t1 t2 hb i0 i1 j0 j1 j2 j3 j4 j5 j6 j7
  have hri := (Win.right_iff.1 hr).2.2
  have hc := place_any A n c k.l x.q W (hX.below hb)
  rw [Win.hit_waits hri] at hc
  obtain ⟨rs, hrs, hI⟩ := hX
  obtain ⟨g, hg⟩ : ∃ g, w.heap.size = g := ⟨_, rfl⟩
  rw [hg] at i0 i1 j0 j1 j2 j3 j4 j5 j6 j7 t0 t1 t2 hws
  have HW := hidT hW
  have HWS := hidT hws
  have HC := hidT hc
  have T0 := hidT t0
  have T1 := hidT t1
  have T2 := hidT t2
  have HB := hidT hb
  have HRS := hidT hrs
  have HI := hidT hI
  have HSM := hidT hS
  have HG := hidT hg
  have HIT := hidT hit
  have HLEN := hidT hlen
  have HRI := hidT hri
  clear t0 t1 t2 hb hS hW hc hri hr hrs hI hws hit hlen
  rw [hw] at HC
  clear hw
  have q1 : decide (64 ≤ n) = false := by simp; omega
  have q2 : decide ((64 : Int) ≤ (n : Int)) = false := by simp; omega
  go_enter Try.func17, Try.ntmps17
  go_wp2_with fail
  rw [HW.out]
  clear hg
  with_reducible refine HC.out.mono ?_
  rintro e w7 ⟨rfl, hb7⟩
  have HB7 := hidT hb7
  clear hb7 i0 i1 j0 j1 j2 j3 j4 j5 j6 j7
  obtain ⟨i0, i1⟩ := cells2 (keepH T0.out HB7.out)
  obtain ⟨j0, j1, j2, j3, j4, j5, j6, j7⟩ := cells8 (keepH T1.out HB7.out)
  have hwi := wwithin_is x.q k.next last w7 false hin
  go_wp2_with fail
  with_reducible refine hwi.mono ?_
  rintro e w7' ⟨rfl, rfl⟩
  clear hwi hin
  have n8 := nkeep w7' (.cells #[.slice A n c] 22)
  have hbw := bthen HB.out (bthen HB7.out n8)
  have hl := laid_any (some ⟨w7'.heap.size, 0, none⟩) 1 1 [.slice A n c] [rs] k.l _ (RdV.lit w7' 22 (0, 0) #[.slice A n c] [.slice A n c] rfl 1 rfl (by decide) w7'.heap.size rfl) (RowsX.one (HRS.out.below hbw)) (by simpa using HI.out.below hbw) HSM.out
  have HL := hidT hl
  have N8 := hidT n8
  clear hl n8 hbw
  go_wp2_with fail
  clear i0 i1 j0 j1 j2 j3 j4 j5 j6 j7
  with_reducible refine HL.out.mono ?_
  rintro e w8 ⟨B, m, d, us, rfl, hk8, ha8, hf8, hb8⟩
  have hb78 := bthen HB7.out (bthen N8.out hb8)
  have y0 := keepH T0.out hb78
  have f1 := no_frozen y0 1
  obtain ⟨u0, u1⟩ := cells2 y0
  have z0 : (w8.setCell ⟨g, 1, none⟩ (.slice B m d)).heap[g]? = some (.cells #[.int .i64 k.next, .slice B m d] 24 (0, 0)) := heap_setCell_same w8 g 1 _ _ _ y0
  have zb : But g w8 (w8.setCell ⟨g, 1, none⟩ (.slice B m d)) := But.setCell w8 g 1 _
  have z2 := (zb.2 (g + 2) (by omega)).trans (keepH T2.out hb78)
  have zB := (bthen HB.out hb78).setCell (p := ⟨g, 1, none⟩) (show w.heap.size ≤ g by have := HG.out; omega) (.slice B m d)
  have hws := HWS.out
  have hs7 := (bthen HB7.out N8.out).size
  have zk : FrK (w8.setCell ⟨g, 1, none⟩ (.slice B m d)) (g + 3) (.agg #[.int .i64 k.next, .slice B m d]) k := by
    have hfk : FrK w8 (w7'.alloc (.cells #[.slice A n c] 22)).heap.size (.agg #[.int .i64 k.next, .slice B m d]) k := ⟨B, m, d, us, rfl, hk8, ha8, hf8⟩
    exact (hfk.mono (show g + 3 ≤ _ by omega)).but (by omega) zb
  have Z0 := hidT z0
  have Z2 := hidT z2
  have ZB := hidT zB
  have ZK := hidT zk
  clear z0 z2 zB zk zb y0 hb78 hk8 ha8 hf8 hb8 hws hs7
  go_upto_region 4 with fail
  clear u0 u1 f1
  generalize w8.setCell ⟨g, 1, none⟩ (.slice B m d) = X at *
  obtain ⟨u0, u1⟩ := cells2 Z0.out
  go_wp2_with (
    refine wpList_stI rfl 24 _ _ rfl (g + 2) #[.int .i64 k.next, .slice B m d] rfl rfl _ _ Z2.out wsize2 rfl (by simp [Value.oneCell']) ?_
    intro w9 hg9 hbut hbel)
  obtain ⟨e0, e1⟩ := cells2 hg9
  have hgg := HG.out
  exact bodyPost_ret (v := .tuple #[.agg #[.int .i64 k.next, .slice B m d], .bool false]) (by simp [results, Try.results17, go_sem, e0, e1]) rfl
    ⟨_, rfl, (ZK.out.but (by omega) hbut).mono (by omega), hbel _ _ ZB.out (by omega)⟩
set_option maxHeartbeats 8000000 in
theorem wput_unfit (A : Option Addr) (n c : Nat) (k : Keep.Kp) (LA : Option Addr) (ln lc : Nat) (BA : Option Addr) (bn bc : Nat) (x : Item.It) (last : Int) (w : World) (hX : RdX w A n c k.l) (hit : IsItem w (.agg #[.int .i64 x.k, .int .i64 x.q, .int .i64 x.e, .int .i64 x.i, .int .i64 x.t, .int .i64 x.c, .slice LA ln lc, .slice BA bn bc]) x) (hr : Win.right k = true) (hS : SmallL k.l) (hw : Win.waits k.l x.q = false) (h64 : n < 64) (hin : (decide (k.next ≤ x.q) && decide (x.q ≤ last)) = true) (hm : Item.may x = false):
    Calls Try.prog 17 #[.agg #[.int .i64 k.next, .slice A n c], .agg #[.int .i64 x.k, .int .i64 x.q, .int .i64 x.e, .int .i64 x.i, .int .i64 x.t, .int .i64 x.c, .slice LA ln lc, .slice BA bn bc], .int .i64 last] w (PutIs w false k) := by
  have hn := hX.le
  have hlen := hX.size
  obtain ⟨t0, t1, t2, hb⟩ := three_alloc w (.cells #[.int .i64 k.next, .slice A n c] 24) (.cells #[.int .i64 x.k, .int .i64 x.q, .int .i64 x.e, .int .i64 x.i, .int .i64 x.t, .int .i64 x.c, .slice LA ln lc, .slice BA bn bc] 28) (.cells kz 24)
  obtain ⟨i0, i1⟩ := cells2 t0
  obtain ⟨j0, j1, j2, j3, j4, j5, j6, j7⟩ := cells8 t1
  obtain ⟨W, hW⟩ : ∃ W, ((w.alloc (.cells #[.int .i64 k.next, .slice A n c] 24)).alloc (.cells #[.int .i64 x.k, .int .i64 x.q, .int .i64 x.e, .int .i64 x.i, .int .i64 x.t, .int .i64 x.c, .slice LA ln lc, .slice BA bn bc] 28)).alloc (.cells kz 24) = W := ⟨_, rfl⟩
  have hws : W.heap.size = w.heap.size + 3 := by rw [← hW, size_alloc, size_alloc, size_alloc]
  rw [hW] at t0 t1 t2 hb i0 i1 j0 j1 j2 j3 j4 j5 j6 j7
  have hri := (Win.right_iff.1 hr).2.2
  have hc := place_any A n c k.l x.q W (hX.below hb)
  rw [Win.hit_waits hri] at hc
  obtain ⟨rs, hrs, hI⟩ := hX
  obtain ⟨g, hg⟩ : ∃ g, w.heap.size = g := ⟨_, rfl⟩
  rw [hg] at i0 i1 j0 j1 j2 j3 j4 j5 j6 j7 t0 t1 t2 hws
  have HW := hidT hW
  have HWS := hidT hws
  have HC := hidT hc
  have T0 := hidT t0
  have T1 := hidT t1
  have T2 := hidT t2
  have HB := hidT hb
  have HRS := hidT hrs
  have HI := hidT hI
  have HSM := hidT hS
  have HG := hidT hg
  have HIT := hidT hit
  have HLEN := hidT hlen
  have HRI := hidT hri
  clear t0 t1 t2 hb hS hW hc hri hr hrs hI hws hit hlen
  rw [hw] at HC
  clear hw
  have q1 : decide (64 ≤ n) = false := by simp; omega
  have q2 : decide ((64 : Int) ≤ (n : Int)) = false := by simp; omega
  go_enter Try.func17, Try.ntmps17
  go_wp2_with fail
  rw [HW.out]
  clear hg
  with_reducible refine HC.out.mono ?_
  rintro e w7 ⟨rfl, hb7⟩
  have HB7 := hidT hb7
  clear hb7 i0 i1 j0 j1 j2 j3 j4 j5 j6 j7
  obtain ⟨i0, i1⟩ := cells2 (keepH T0.out HB7.out)
  obtain ⟨j0, j1, j2, j3, j4, j5, j6, j7⟩ := cells8 (keepH T1.out HB7.out)
  have hwi := wwithin_is x.q k.next last w7 true hin
  go_wp2_with fail
  with_reducible refine hwi.mono ?_
  rintro e w7' ⟨rfl, rfl⟩
  clear hwi hin
  have hmay := may_any _ x w7' (HIT.out.below (bthen HB.out HB7.out))
  rw [hm] at hmay
  go_wp2_with fail
  with_reducible refine hmay.mono ?_
  rintro e w6 ⟨rfl, hb6⟩
  clear i0 i1 j0 j1 j2 j3 j4 j5 j6 j7 hmay
  have HB6 := hidT (bthen HB7.out hb6)
  clear hb6
  obtain ⟨i0, i1⟩ := cells2 (keepH T0.out HB6.out)
  obtain ⟨j0, j1, j2, j3, j4, j5, j6, j7⟩ := cells8 (keepH T1.out HB6.out)
  have n8 := nkeep w6 (.cells #[.slice A n c] 22)
  have hbw := bthen HB.out (bthen HB6.out n8)
  have hl := laid_any (some ⟨w6.heap.size, 0, none⟩) 1 1 [.slice A n c] [rs] k.l _ (RdV.lit w6 22 (0, 0) #[.slice A n c] [.slice A n c] rfl 1 rfl (by decide) w6.heap.size rfl) (RowsX.one (HRS.out.below hbw)) (by simpa using HI.out.below hbw) HSM.out
  have HL := hidT hl
  have N8 := hidT n8
  clear hl n8 hbw
  go_wp2_with fail
  clear i0 i1 j0 j1 j2 j3 j4 j5 j6 j7
  with_reducible refine HL.out.mono ?_
  rintro e w8 ⟨B, m, d, us, rfl, hk8, ha8, hf8, hb8⟩
  have hb78 := bthen HB6.out (bthen N8.out hb8)
  have y0 := keepH T0.out hb78
  have f1 := no_frozen y0 1
  obtain ⟨u0, u1⟩ := cells2 y0
  have z0 : (w8.setCell ⟨g, 1, none⟩ (.slice B m d)).heap[g]? = some (.cells #[.int .i64 k.next, .slice B m d] 24 (0, 0)) := heap_setCell_same w8 g 1 _ _ _ y0
  have zb : But g w8 (w8.setCell ⟨g, 1, none⟩ (.slice B m d)) := But.setCell w8 g 1 _
  have z2 := (zb.2 (g + 2) (by omega)).trans (keepH T2.out hb78)
  have zB := (bthen HB.out hb78).setCell (p := ⟨g, 1, none⟩) (show w.heap.size ≤ g by have := HG.out; omega) (.slice B m d)
  have hws := HWS.out
  have hs7 := (bthen HB6.out N8.out).size
  have zk : FrK (w8.setCell ⟨g, 1, none⟩ (.slice B m d)) (g + 3) (.agg #[.int .i64 k.next, .slice B m d]) k := by
    have hfk : FrK w8 (w6.alloc (.cells #[.slice A n c] 22)).heap.size (.agg #[.int .i64 k.next, .slice B m d]) k := ⟨B, m, d, us, rfl, hk8, ha8, hf8⟩
    exact (hfk.mono (show g + 3 ≤ _ by omega)).but (by omega) zb
  have Z0 := hidT z0
  have Z2 := hidT z2
  have ZB := hidT zB
  have ZK := hidT zk
  clear z0 z2 zB zk zb y0 hb78 hk8 ha8 hf8 hb8 hws hs7
  go_upto_region 4 with fail
  clear u0 u1 f1
  generalize w8.setCell ⟨g, 1, none⟩ (.slice B m d) = X at *
  obtain ⟨u0, u1⟩ := cells2 Z0.out
  go_wp2_with (
    refine wpList_stI rfl 24 _ _ rfl (g + 2) #[.int .i64 k.next, .slice B m d] rfl rfl _ _ Z2.out wsize2 rfl (by simp [Value.oneCell']) ?_
    intro w9 hg9 hbut hbel)
  obtain ⟨e0, e1⟩ := cells2 hg9
  have hgg := HG.out
  exact bodyPost_ret (v := .tuple #[.agg #[.int .i64 k.next, .slice B m d], .bool false]) (by simp [results, Try.results17, go_sem, e0, e1]) rfl
    ⟨_, rfl, (ZK.out.but (by omega) hbut).mono (by omega), hbel _ _ ZB.out (by omega)⟩
end Go.Proofs.Ytkkkfaelpmmffaa
