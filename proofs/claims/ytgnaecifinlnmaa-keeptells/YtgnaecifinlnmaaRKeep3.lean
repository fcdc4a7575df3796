/- The document's own New and Push. -/
import Derived.Test.YtgnaecifinlnmaaRKeep1
import Derived.Test.YtgnaecifinlnmaaRKeep2
import Derived.Test.YtgnaecifinlnmaaKeep9
import Derived.Deep.RegionHeldLaw
import Derived.Deep.RegionLaw
set_option maxRecDepth 100000
namespace Go.Proofs.Ytgnaecifinlnmaa
open Go.RowKit
set_option linter.unusedVariables false

def RPushIs (w : World) (p : Keep.Pushed) (e : Ending) (w' : World) : Prop := ∃ v u, e = .returned (.tuple #[v, u, .int .i64 p.code]) ∧ IsKeep w' v p.k ∧ IsItem w' u p.x ∧ Below w.heap.size w w'
theorem row_ne {p q n c : Nat} (h : p ≠ q) : ∀ b o, (some ⟨q, 0, none⟩ : Option Addr) = some ⟨b, o, none⟩ → (Value.slice (some ⟨p, 0, none⟩) n c).ownBlock ≠ some b := by
  intro b o e e2
  injection e with e
  injection e with e
  have e3 : some p = some b := e2
  injection e3 with e3
  omega
theorem RdK.grown {k : Nat} {w w' : World} {A : Option Addr} {n c : Nat} {rs : List (Array Value)} {row : Option Nat} (h : RdK k w A n c rs) (hg : w.grownBy w' row) (hr : ∀ b o, A = some ⟨b, o, none⟩ → row ≠ some b) : RdK k w' A n c rs := by
  obtain ⟨h0, h1, h2, h3, h4, h5⟩ := h
  refine ⟨h0, h1, h2, h3, h4, fun h6 => ?_⟩
  obtain ⟨b, o, hA, hc⟩ := h5 h6
  exact ⟨b, o, hA, fun i x hx => hg.cell (hc i x hx) (fun e => hr b o hA e.symm)⟩

set_option maxHeartbeats 4000000 in
theorem rpush_arg_far (v u : Value) (k : Keep.Kp) (x : Item.It) (buf spare : Int) (w : World) (h : IsKeep w v k) (hx : IsItem w u x) (hfar : 4611686018427387904 < k.next) (hm : Item.may (Keep.wq x 1) = false) :
    Calls Try.prog 19 #[v, u, .int .i64 buf, .int .i64 spare] w (RPushIs w ⟨k, Item.It.zero, 1⟩) := by
  obtain ⟨A, n, c, rfl, hX⟩ := h
  obtain ⟨LA, ln, lc, BA, bn, bc, rfl, hl, hb⟩ := hx
  obtain ⟨t0, t1, t2, t3, t4, t5⟩ := four_alloc w (.cells #[.int .i64 k.next, .slice A n c] 24) (.cells #[.int .i64 x.k, .int .i64 1, .int .i64 x.e, .int .i64 x.i, .int .i64 x.t, .int .i64 x.c, .slice LA ln lc, .slice BA bn bc] 28) (.cells kz 24) (.cells zcells 28)
  obtain ⟨W, hW⟩ : ∃ W, (((w.alloc (.cells #[.int .i64 k.next, .slice A n c] 24)).alloc (.cells #[.int .i64 x.k, .int .i64 1, .int .i64 x.e, .int .i64 x.i, .int .i64 x.t, .int .i64 x.c, .slice LA ln lc, .slice BA bn bc] 28)).alloc (.cells kz 24)).alloc (.cells zcells 28) = W := ⟨_, rfl⟩
  rw [hW] at t0 t1 t2 t3 t4 t5
  have hq : decide (4611686018427387904 < k.next) = true := by simpa using hfar
  have hit : IsItem w (.agg #[.int .i64 x.k, .int .i64 1, .int .i64 x.e, .int .i64 x.i, .int .i64 x.t, .int .i64 x.c, .slice LA ln lc, .slice BA bn bc]) (Keep.wq x 1) := ⟨LA, ln, lc, BA, bn, bc, rfl, hl, hb⟩
  have hkp : IsKeep w (.agg #[.int .i64 k.next, .slice A n c]) k := ⟨A, n, c, rfl, hX⟩
  obtain ⟨i0, i1⟩ := cells2 t0
  obtain ⟨j0, j1, j2, j3, j4, j5, j6, j7⟩ := cells8 t1
  obtain ⟨g, hg⟩ : ∃ g, w.heap.size = g := ⟨_, rfl⟩
  have HG := hidT hg
  rw [hg] at t0 t1 t2 t3 t5 i0 i1 j0 j1 j2 j3 j4 j5 j6 j7
  have hmay := rmay_any _ (Keep.wq x 1) W (hit.below t4)
  have HM := hidT hmay
  have HW := hidT hW
  have T0 := hidT t0
  have T1 := hidT t1
  have T2 := hidT t2
  have T3 := hidT t3
  have T4 := hidT t4
  have T5 := hidT t5
  have HIT := hidT hit
  have HKP := hidT hkp
  have HXX := hidT hX
  clear t0 t1 t2 t3 t4 t5 hW hit hkp hX hl hb hmay
  go_enter Try.func19, Try.ntmps19
  go_wp2_with fail
  rw [HW.out]
  clear hg i0 i1 j0 j1 j2 j3 j4 j5 j6 j7
  rw [hm] at HM
  clear hm
  with_reducible refine HM.out.mono ?_
  rintro e w6 ⟨rfl, hb6⟩
  have HB6 := hidT hb6
  clear hb6
  obtain ⟨i0, i1⟩ := cells2 (keepH T0.out HB6.out)
  have y2 := keepH T2.out HB6.out
  have y3 := keepH T3.out HB6.out
  go_wp2_with (first
    | (refine wpList_stI rfl 24 _ _ rfl (g + 2) #[.int .i64 k.next, .slice A n c] rfl rfl _ _ y2 size2 rfl (by simp [Value.oneCell']) ?_
       intro w7 hg7 hbut7 hbel7
       have y37 := (hbut7.2 (g + 3) (by omega)).trans y3)
    | (refine wpList_stI rfl 28 _ _ rfl (g + 3) zcells rfl rfl _ _ y37 size8 rfl (by kernel_rfl) ?_
       intro w8 hg8 hbut8 hbel8))
  have hg78 := (hbut8.2 (g + 2) (by omega)).trans hg7
  obtain ⟨e0, e1⟩ := cells2 hg78
  obtain ⟨f0, f1, f2, f3, f4, f5, f6, f7⟩ := cells8 hg8
  have s1 := HG.out
  have b8 : Below w.heap.size w w8 := hbel8 _ _ (hbel7 _ _ (bthen T4.out HB6.out) (by omega)) (by omega)
  exact bodyPost_ret (v := .tuple #[.agg #[.int .i64 k.next, .slice A n c], .agg zcells, .int .i64 1]) (by simp [results, Try.results19, go_sem, e0, e1, f0, f1, f2, f3, f4, f5, f6, f7]) rfl
    ⟨_, _, rfl, HKP.out.below b8, IsItem.zero _, b8⟩

set_option maxHeartbeats 4000000 in
theorem rpush_full_far (v u : Value) (k : Keep.Kp) (x : Item.It) (buf spare : Int) (w : World) (h : IsKeep w v k) (hx : IsItem w u x) (hfar : 4611686018427387904 < k.next) (hm : Item.may (Keep.wq x 1) = true) (hr : Keep.room k buf spare < 1) :
    Calls Try.prog 19 #[v, u, .int .i64 buf, .int .i64 spare] w (RPushIs w ⟨k, Item.It.zero, 4⟩) := by
  obtain ⟨A, n, c, rfl, hX⟩ := h
  obtain ⟨LA, ln, lc, BA, bn, bc, rfl, hl, hb⟩ := hx
  obtain ⟨t0, t1, t2, t3, t4, t5⟩ := four_alloc w (.cells #[.int .i64 k.next, .slice A n c] 24) (.cells #[.int .i64 x.k, .int .i64 1, .int .i64 x.e, .int .i64 x.i, .int .i64 x.t, .int .i64 x.c, .slice LA ln lc, .slice BA bn bc] 28) (.cells kz 24) (.cells zcells 28)
  obtain ⟨W, hW⟩ : ∃ W, (((w.alloc (.cells #[.int .i64 k.next, .slice A n c] 24)).alloc (.cells #[.int .i64 x.k, .int .i64 1, .int .i64 x.e, .int .i64 x.i, .int .i64 x.t, .int .i64 x.c, .slice LA ln lc, .slice BA bn bc] 28)).alloc (.cells kz 24)).alloc (.cells zcells 28) = W := ⟨_, rfl⟩
  rw [hW] at t0 t1 t2 t3 t4 t5
  have hq : decide (4611686018427387904 < k.next) = true := by simpa using hfar
  have hit : IsItem w (.agg #[.int .i64 x.k, .int .i64 1, .int .i64 x.e, .int .i64 x.i, .int .i64 x.t, .int .i64 x.c, .slice LA ln lc, .slice BA bn bc]) (Keep.wq x 1) := ⟨LA, ln, lc, BA, bn, bc, rfl, hl, hb⟩
  have hkp : IsKeep w (.agg #[.int .i64 k.next, .slice A n c]) k := ⟨A, n, c, rfl, hX⟩
  obtain ⟨i0, i1⟩ := cells2 t0
  obtain ⟨j0, j1, j2, j3, j4, j5, j6, j7⟩ := cells8 t1
  obtain ⟨g, hg⟩ : ∃ g, w.heap.size = g := ⟨_, rfl⟩
  have HG := hidT hg
  rw [hg] at t0 t1 t2 t3 t5 i0 i1 j0 j1 j2 j3 j4 j5 j6 j7
  have hmay := rmay_any _ (Keep.wq x 1) W (hit.below t4)
  have HM := hidT hmay
  have HW := hidT hW
  have T0 := hidT t0
  have T1 := hidT t1
  have T2 := hidT t2
  have T3 := hidT t3
  have T4 := hidT t4
  have T5 := hidT t5
  have HIT := hidT hit
  have HKP := hidT hkp
  have HXX := hidT hX
  clear t0 t1 t2 t3 t4 t5 hW hit hkp hX hl hb hmay
  go_enter Try.func19, Try.ntmps19
  go_wp2_with fail
  rw [HW.out]
  clear hg i0 i1 j0 j1 j2 j3 j4 j5 j6 j7
  rw [hm] at HM
  clear hm
  with_reducible refine HM.out.mono ?_
  rintro e w6 ⟨rfl, hb6⟩
  have HB6 := hidT hb6
  clear hb6
  obtain ⟨i0, i1⟩ := cells2 (keepH T0.out HB6.out)
  have hroom := rroom_any _ k buf spare w6 (HKP.out.below (bthen T4.out HB6.out))
  obtain ⟨R, hR⟩ : ∃ R, Keep.room k buf spare = R := ⟨_, rfl⟩
  rw [hR] at hroom hr
  clear hR
  have u1 : decide (R < 1) = true := by simpa using hr
  go_wp2_with fail
  with_reducible refine hroom.mono ?_
  rintro e w7 ⟨rfl, hb7⟩
  have HB7 := hidT (bthen HB6.out hb7)
  clear hb7 HB6 hroom i0 i1
  obtain ⟨i0, i1⟩ := cells2 (keepH T0.out HB7.out)
  have y2 := keepH T2.out HB7.out
  have y3 := keepH T3.out HB7.out
  go_wp2_with (first
    | (refine wpList_stI rfl 24 _ _ rfl (g + 2) #[.int .i64 k.next, .slice A n c] rfl rfl _ _ y2 size2 rfl (by simp [Value.oneCell']) ?_
       intro w9 hg7 hbut7 hbel7
       have y37 := (hbut7.2 (g + 3) (by omega)).trans y3)
    | (refine wpList_stI rfl 28 _ _ rfl (g + 3) zcells rfl rfl _ _ y37 size8 rfl (by kernel_rfl) ?_
       intro w8 hg8 hbut8 hbel8))
  have hg78 := (hbut8.2 (g + 2) (by omega)).trans hg7
  obtain ⟨e0, e1⟩ := cells2 hg78
  obtain ⟨f0, f1, f2, f3, f4, f5, f6, f7⟩ := cells8 hg8
  have s1 := HG.out
  have b8 : Below w.heap.size w w8 := hbel8 _ _ (hbel7 _ _ (bthen T4.out HB7.out) (by omega)) (by omega)
  exact bodyPost_ret (v := .tuple #[.agg #[.int .i64 k.next, .slice A n c], .agg zcells, .int .i64 4]) (by simp [results, Try.results19, go_sem, e0, e1, f0, f1, f2, f3, f4, f5, f6, f7]) rfl
    ⟨_, _, rfl, HKP.out.below b8, IsItem.zero _, b8⟩

set_option maxHeartbeats 4000000 in
theorem rpush_arg_near (v u : Value) (k : Keep.Kp) (x : Item.It) (buf spare : Int) (w : World) (h : IsKeep w v k) (hx : IsItem w u x) (hfar : ¬ 4611686018427387904 < k.next) (hm : Item.may (Keep.wq x k.next) = false) :
    Calls Try.prog 19 #[v, u, .int .i64 buf, .int .i64 spare] w (RPushIs w ⟨k, Item.It.zero, 1⟩) := by
  obtain ⟨A, n, c, rfl, hX⟩ := h
  obtain ⟨LA, ln, lc, BA, bn, bc, rfl, hl, hb⟩ := hx
  obtain ⟨t0, t1, t2, t3, t4, t5⟩ := four_alloc w (.cells #[.int .i64 k.next, .slice A n c] 24) (.cells #[.int .i64 x.k, .int .i64 k.next, .int .i64 x.e, .int .i64 x.i, .int .i64 x.t, .int .i64 x.c, .slice LA ln lc, .slice BA bn bc] 28) (.cells kz 24) (.cells zcells 28)
  obtain ⟨W, hW⟩ : ∃ W, (((w.alloc (.cells #[.int .i64 k.next, .slice A n c] 24)).alloc (.cells #[.int .i64 x.k, .int .i64 k.next, .int .i64 x.e, .int .i64 x.i, .int .i64 x.t, .int .i64 x.c, .slice LA ln lc, .slice BA bn bc] 28)).alloc (.cells kz 24)).alloc (.cells zcells 28) = W := ⟨_, rfl⟩
  rw [hW] at t0 t1 t2 t3 t4 t5
  have hq : decide (4611686018427387904 < k.next) = false := by simpa using hfar
  have hit : IsItem w (.agg #[.int .i64 x.k, .int .i64 k.next, .int .i64 x.e, .int .i64 x.i, .int .i64 x.t, .int .i64 x.c, .slice LA ln lc, .slice BA bn bc]) (Keep.wq x k.next) := ⟨LA, ln, lc, BA, bn, bc, rfl, hl, hb⟩
  have hkp : IsKeep w (.agg #[.int .i64 k.next, .slice A n c]) k := ⟨A, n, c, rfl, hX⟩
  obtain ⟨i0, i1⟩ := cells2 t0
  obtain ⟨j0, j1, j2, j3, j4, j5, j6, j7⟩ := cells8 t1
  obtain ⟨g, hg⟩ : ∃ g, w.heap.size = g := ⟨_, rfl⟩
  have HG := hidT hg
  rw [hg] at t0 t1 t2 t3 t5 i0 i1 j0 j1 j2 j3 j4 j5 j6 j7
  have hmay := rmay_any _ (Keep.wq x k.next) W (hit.below t4)
  have HM := hidT hmay
  have HW := hidT hW
  have T0 := hidT t0
  have T1 := hidT t1
  have T2 := hidT t2
  have T3 := hidT t3
  have T4 := hidT t4
  have T5 := hidT t5
  have HIT := hidT hit
  have HKP := hidT hkp
  have HXX := hidT hX
  clear t0 t1 t2 t3 t4 t5 hW hit hkp hX hl hb hmay
  go_enter Try.func19, Try.ntmps19
  go_wp2_with fail
  rw [HW.out]
  clear hg i0 i1 j0 j1 j2 j3 j4 j5 j6 j7
  rw [hm] at HM
  clear hm
  with_reducible refine HM.out.mono ?_
  rintro e w6 ⟨rfl, hb6⟩
  have HB6 := hidT hb6
  clear hb6
  obtain ⟨i0, i1⟩ := cells2 (keepH T0.out HB6.out)
  have y2 := keepH T2.out HB6.out
  have y3 := keepH T3.out HB6.out
  go_wp2_with (first
    | (refine wpList_stI rfl 24 _ _ rfl (g + 2) #[.int .i64 k.next, .slice A n c] rfl rfl _ _ y2 size2 rfl (by simp [Value.oneCell']) ?_
       intro w7 hg7 hbut7 hbel7
       have y37 := (hbut7.2 (g + 3) (by omega)).trans y3)
    | (refine wpList_stI rfl 28 _ _ rfl (g + 3) zcells rfl rfl _ _ y37 size8 rfl (by kernel_rfl) ?_
       intro w8 hg8 hbut8 hbel8))
  have hg78 := (hbut8.2 (g + 2) (by omega)).trans hg7
  obtain ⟨e0, e1⟩ := cells2 hg78
  obtain ⟨f0, f1, f2, f3, f4, f5, f6, f7⟩ := cells8 hg8
  have s1 := HG.out
  have b8 : Below w.heap.size w w8 := hbel8 _ _ (hbel7 _ _ (bthen T4.out HB6.out) (by omega)) (by omega)
  exact bodyPost_ret (v := .tuple #[.agg #[.int .i64 k.next, .slice A n c], .agg zcells, .int .i64 1]) (by simp [results, Try.results19, go_sem, e0, e1, f0, f1, f2, f3, f4, f5, f6, f7]) rfl
    ⟨_, _, rfl, HKP.out.below b8, IsItem.zero _, b8⟩

set_option maxHeartbeats 4000000 in
theorem rpush_full_near (v u : Value) (k : Keep.Kp) (x : Item.It) (buf spare : Int) (w : World) (h : IsKeep w v k) (hx : IsItem w u x) (hfar : ¬ 4611686018427387904 < k.next) (hm : Item.may (Keep.wq x k.next) = true) (hr : Keep.room k buf spare < 1) :
    Calls Try.prog 19 #[v, u, .int .i64 buf, .int .i64 spare] w (RPushIs w ⟨k, Item.It.zero, 4⟩) := by
  obtain ⟨A, n, c, rfl, hX⟩ := h
  obtain ⟨LA, ln, lc, BA, bn, bc, rfl, hl, hb⟩ := hx
  obtain ⟨t0, t1, t2, t3, t4, t5⟩ := four_alloc w (.cells #[.int .i64 k.next, .slice A n c] 24) (.cells #[.int .i64 x.k, .int .i64 k.next, .int .i64 x.e, .int .i64 x.i, .int .i64 x.t, .int .i64 x.c, .slice LA ln lc, .slice BA bn bc] 28) (.cells kz 24) (.cells zcells 28)
  obtain ⟨W, hW⟩ : ∃ W, (((w.alloc (.cells #[.int .i64 k.next, .slice A n c] 24)).alloc (.cells #[.int .i64 x.k, .int .i64 k.next, .int .i64 x.e, .int .i64 x.i, .int .i64 x.t, .int .i64 x.c, .slice LA ln lc, .slice BA bn bc] 28)).alloc (.cells kz 24)).alloc (.cells zcells 28) = W := ⟨_, rfl⟩
  rw [hW] at t0 t1 t2 t3 t4 t5
  have hq : decide (4611686018427387904 < k.next) = false := by simpa using hfar
  have hit : IsItem w (.agg #[.int .i64 x.k, .int .i64 k.next, .int .i64 x.e, .int .i64 x.i, .int .i64 x.t, .int .i64 x.c, .slice LA ln lc, .slice BA bn bc]) (Keep.wq x k.next) := ⟨LA, ln, lc, BA, bn, bc, rfl, hl, hb⟩
  have hkp : IsKeep w (.agg #[.int .i64 k.next, .slice A n c]) k := ⟨A, n, c, rfl, hX⟩
  obtain ⟨i0, i1⟩ := cells2 t0
  obtain ⟨j0, j1, j2, j3, j4, j5, j6, j7⟩ := cells8 t1
  obtain ⟨g, hg⟩ : ∃ g, w.heap.size = g := ⟨_, rfl⟩
  have HG := hidT hg
  rw [hg] at t0 t1 t2 t3 t5 i0 i1 j0 j1 j2 j3 j4 j5 j6 j7
  have hmay := rmay_any _ (Keep.wq x k.next) W (hit.below t4)
  have HM := hidT hmay
  have HW := hidT hW
  have T0 := hidT t0
  have T1 := hidT t1
  have T2 := hidT t2
  have T3 := hidT t3
  have T4 := hidT t4
  have T5 := hidT t5
  have HIT := hidT hit
  have HKP := hidT hkp
  have HXX := hidT hX
  clear t0 t1 t2 t3 t4 t5 hW hit hkp hX hl hb hmay
  go_enter Try.func19, Try.ntmps19
  go_wp2_with fail
  rw [HW.out]
  clear hg i0 i1 j0 j1 j2 j3 j4 j5 j6 j7
  rw [hm] at HM
  clear hm
  with_reducible refine HM.out.mono ?_
  rintro e w6 ⟨rfl, hb6⟩
  have HB6 := hidT hb6
  clear hb6
  obtain ⟨i0, i1⟩ := cells2 (keepH T0.out HB6.out)
  have hroom := rroom_any _ k buf spare w6 (HKP.out.below (bthen T4.out HB6.out))
  obtain ⟨R, hR⟩ : ∃ R, Keep.room k buf spare = R := ⟨_, rfl⟩
  rw [hR] at hroom hr
  clear hR
  have u1 : decide (R < 1) = true := by simpa using hr
  go_wp2_with fail
  with_reducible refine hroom.mono ?_
  rintro e w7 ⟨rfl, hb7⟩
  have HB7 := hidT (bthen HB6.out hb7)
  clear hb7 HB6 hroom i0 i1
  obtain ⟨i0, i1⟩ := cells2 (keepH T0.out HB7.out)
  have y2 := keepH T2.out HB7.out
  have y3 := keepH T3.out HB7.out
  go_wp2_with (first
    | (refine wpList_stI rfl 24 _ _ rfl (g + 2) #[.int .i64 k.next, .slice A n c] rfl rfl _ _ y2 size2 rfl (by simp [Value.oneCell']) ?_
       intro w9 hg7 hbut7 hbel7
       have y37 := (hbut7.2 (g + 3) (by omega)).trans y3)
    | (refine wpList_stI rfl 28 _ _ rfl (g + 3) zcells rfl rfl _ _ y37 size8 rfl (by kernel_rfl) ?_
       intro w8 hg8 hbut8 hbel8))
  have hg78 := (hbut8.2 (g + 2) (by omega)).trans hg7
  obtain ⟨e0, e1⟩ := cells2 hg78
  obtain ⟨f0, f1, f2, f3, f4, f5, f6, f7⟩ := cells8 hg8
  have s1 := HG.out
  have b8 : Below w.heap.size w w8 := hbel8 _ _ (hbel7 _ _ (bthen T4.out HB7.out) (by omega)) (by omega)
  exact bodyPost_ret (v := .tuple #[.agg #[.int .i64 k.next, .slice A n c], .agg zcells, .int .i64 4]) (by simp [results, Try.results19, go_sem, e0, e1, f0, f1, f2, f3, f4, f5, f6, f7]) rfl
    ⟨_, _, rfl, HKP.out.below b8, IsItem.zero _, b8⟩

set_option maxHeartbeats 4000000 in
theorem rpush_done (v u : Value) (k : Keep.Kp) (x : Item.It) (buf spare : Int) (w : World) (h : IsKeep w v k) (hx : IsItem w u x) (hfar : ¬ 4611686018427387904 < k.next) (hm : Item.may (Keep.wq x k.next) = true) (hrm : ¬ Keep.room k buf spare < 1) (h1 : 1 ≤ k.next) (hn6 : k.l.length ≤ 65536) :
    Calls Try.prog 19 #[v, u, .int .i64 buf, .int .i64 spare] w (RPushIs w ⟨⟨k.next + 1, k.l ++ [Keep.wq x k.next]⟩, Keep.wq x k.next, 0⟩) := by
  obtain ⟨A, n, c, rfl, hX⟩ := h
  obtain ⟨LA, ln, lc, BA, bn, bc, rfl, hl, hb⟩ := hx
  obtain ⟨t0, t1, t2, t3, t4, t5⟩ := four_alloc w (.cells #[.int .i64 k.next, .slice A n c] 24) (.cells #[.int .i64 x.k, .int .i64 k.next, .int .i64 x.e, .int .i64 x.i, .int .i64 x.t, .int .i64 x.c, .slice LA ln lc, .slice BA bn bc] 28) (.cells kz 24) (.cells zcells 28)
  obtain ⟨W, hW⟩ : ∃ W, (((w.alloc (.cells #[.int .i64 k.next, .slice A n c] 24)).alloc (.cells #[.int .i64 x.k, .int .i64 k.next, .int .i64 x.e, .int .i64 x.i, .int .i64 x.t, .int .i64 x.c, .slice LA ln lc, .slice BA bn bc] 28)).alloc (.cells kz 24)).alloc (.cells zcells 28) = W := ⟨_, rfl⟩
  rw [hW] at t0 t1 t2 t3 t4 t5
  have hq : decide (4611686018427387904 < k.next) = false := by simpa using hfar
  have hit : IsItem w (.agg #[.int .i64 x.k, .int .i64 k.next, .int .i64 x.e, .int .i64 x.i, .int .i64 x.t, .int .i64 x.c, .slice LA ln lc, .slice BA bn bc]) (Keep.wq x k.next) := ⟨LA, ln, lc, BA, bn, bc, rfl, hl, hb⟩
  have hkp : IsKeep w (.agg #[.int .i64 k.next, .slice A n c]) k := ⟨A, n, c, rfl, hX⟩
  obtain ⟨i0, i1⟩ := cells2 t0
  obtain ⟨j0, j1, j2, j3, j4, j5, j6, j7⟩ := cells8 t1
  obtain ⟨g, hg⟩ : ∃ g, w.heap.size = g := ⟨_, rfl⟩
  have HG := hidT hg
  rw [hg] at t0 t1 t2 t3 t5 i0 i1 j0 j1 j2 j3 j4 j5 j6 j7
  have hmay := rmay_any _ (Keep.wq x k.next) W (hit.below t4)
  have HM := hidT hmay
  have HW := hidT hW
  have T0 := hidT t0
  have T1 := hidT t1
  have T2 := hidT t2
  have T3 := hidT t3
  have T4 := hidT t4
  have T5 := hidT t5
  have HIT := hidT hit
  have HKP := hidT hkp
  have HXX := hidT hX
  clear t0 t1 t2 t3 t4 t5 hW hit hkp hX hl hb hmay
  go_enter Try.func19, Try.ntmps19
  go_wp2_with fail
  rw [HW.out]
  clear hg i0 i1 j0 j1 j2 j3 j4 j5 j6 j7
  rw [hm] at HM
  clear hm
  with_reducible refine HM.out.mono ?_
  rintro e w6 ⟨rfl, hb6⟩
  have HB6 := hidT hb6
  clear hb6
  obtain ⟨i0, i1⟩ := cells2 (keepH T0.out HB6.out)
  have hroom := rroom_any _ k buf spare w6 (HKP.out.below (bthen T4.out HB6.out))
  obtain ⟨R, hR⟩ : ∃ R, Keep.room k buf spare = R := ⟨_, rfl⟩
  rw [hR] at hroom hrm
  clear hR
  have u1 : decide (R < 1) = false := by simpa using hrm
  go_wp2_with fail
  with_reducible refine hroom.mono ?_
  rintro e w7 ⟨rfl, hb7⟩
  have HB7 := hidT (bthen HB6.out hb7)
  clear hb7 HB6 hroom i0 i1
  obtain ⟨i0, i1⟩ := cells2 (keepH T0.out HB7.out)
  go_wp2_with fail
  clear i0 i1
  obtain ⟨rs, hK, hA⟩ := HXX.out
  have hrs := hK.size
  have hn65 : n ≤ 65536 := by rw [← HXX.out.size]; exact hn6
  have HK := hidT hK
  have HA := hidT hA
  clear hK hA hrs
  have s1 : IntKind.i64.wrap (k.next + 1) = k.next + 1 := IntWalk.i64_in _ (by omega)
  have hb7 := HB7.out
  have D0 : Below w7.heap.size w7 w7.drew := (Below.refl _ _).drew
  have hbw : Below w.heap.size w w7 := bthen T4.out HB7.out
  have HBW := hidT hbw
  clear hbw
  have Y0 := hidT (keepH T0.out HB7.out)
  have Y1 := hidT (keepH T1.out HB7.out)
  have Y2 := hidT (keepH T2.out HB7.out)
  have Y3 := hidT (keepH T3.out HB7.out)
  have hg3 : g + 3 < w7.heap.size := blk_lt Y3.out
  have hg2 : g + 1 + 1 ≤ w7.heap.size := by omega
  have hg22 : g + 1 + 1 ≤ g + 1 + 1 + 1 := by omega
  have c00 : ∀ w', Below (g + 1 + 1) w7 w' → w'.cell? ⟨g, 0, none⟩ = some (.int .i64 k.next) := fun w' hb => cell_at ((hb.block g (by omega)).trans Y0.out) 0 rfl
  have c01 : ∀ w', Below (g + 1 + 1) w7 w' → w'.cell? ⟨g, 1, none⟩ = some (.slice A n c) := fun w' hb => cell_at ((hb.block g (by omega)).trans Y0.out) 1 rfl
  have c10 : ∀ w', Below (g + 1 + 1) w7 w' → w'.cell? ⟨g + 1, 0, none⟩ = some (.int .i64 x.k) := fun w' hb => cell_at ((hb.block (g + 1) (by omega)).trans Y1.out) 0 rfl
  have c11 : ∀ w', Below (g + 1 + 1) w7 w' → w'.cell? ⟨g + 1, 1, none⟩ = some (.int .i64 k.next) := fun w' hb => cell_at ((hb.block (g + 1) (by omega)).trans Y1.out) 1 rfl
  have c12 : ∀ w', Below (g + 1 + 1) w7 w' → w'.cell? ⟨g + 1, 2, none⟩ = some (.int .i64 x.e) := fun w' hb => cell_at ((hb.block (g + 1) (by omega)).trans Y1.out) 2 rfl
  have c13 : ∀ w', Below (g + 1 + 1) w7 w' → w'.cell? ⟨g + 1, 3, none⟩ = some (.int .i64 x.i) := fun w' hb => cell_at ((hb.block (g + 1) (by omega)).trans Y1.out) 3 rfl
  have c14 : ∀ w', Below (g + 1 + 1) w7 w' → w'.cell? ⟨g + 1, 4, none⟩ = some (.int .i64 x.t) := fun w' hb => cell_at ((hb.block (g + 1) (by omega)).trans Y1.out) 4 rfl
  have c15 : ∀ w', Below (g + 1 + 1) w7 w' → w'.cell? ⟨g + 1, 5, none⟩ = some (.int .i64 x.c) := fun w' hb => cell_at ((hb.block (g + 1) (by omega)).trans Y1.out) 5 rfl
  have c16 : ∀ w', Below (g + 1 + 1) w7 w' → w'.cell? ⟨g + 1, 6, none⟩ = some (.slice LA ln lc) := fun w' hb => cell_at ((hb.block (g + 1) (by omega)).trans Y1.out) 6 rfl
  have c17 : ∀ w', Below (g + 1 + 1) w7 w' → w'.cell? ⟨g + 1, 7, none⟩ = some (.slice BA bn bc) := fun w' hb => cell_at ((hb.block (g + 1) (by omega)).trans Y1.out) 7 rfl
  have hr8 : (#[.int .i64 x.k, .int .i64 k.next, .int .i64 x.e, .int .i64 x.i, .int .i64 x.t, .int .i64 x.c, .slice LA ln lc, .slice BA bn bc] : Array Value).size = 8 := rfl
  have hro : (#[.int .i64 x.k, .int .i64 k.next, .int .i64 x.e, .int .i64 x.i, .int .i64 x.t, .int .i64 x.c, .slice LA ln lc, .slice BA bn bc] : Array Value).all (·.oneCell') = true := by simp [Value.oneCell']
  have HR8 := hidT hr8
  have HRO := hidT hro
  clear hr8 hro
  go_region_held_law (fun w' => Below (g + 1 + 1) w7 w')
    (first | exact D0.mono hg2 | exact hS1 | exact BL13.out _ _ hS1 hg22 | exact hb4.mono hg2 | exact hb3.mono hg2 | exact (nkeep_alloc hb3 _).mono hg2 | exact (nkeep_alloc D0 _).mono hg2 | exact (nkeep_alloc (nkeep_alloc D0 _) _).mono hg2)
    (first
      | (refine step_appK 8 (by omega) 43 rfl rfl (.tmp 40) (.tmp 42) 22 rfl w7.heap.size 28 _ 96 info8 rfl (by omega) Try.underlying22 v3 (0 + n) ([] ++ rs) rfl (ho3.later (nkeep w3 (.cells #[.int .i64 x.k, .int .i64 k.next, .int .i64 x.e, .int .i64 x.i, .int .i64 x.t, .int .i64 x.c, .slice LA ln lc, .slice BA bn bc] 28))) (some ⟨w3.heap.size, 0, none⟩) 1 1 [#[.int .i64 x.k, .int .i64 k.next, .int .i64 x.e, .int .i64 x.i, .int .i64 x.t, .int .i64 x.c, .slice LA ln lc, .slice BA bn bc]] rfl (RdK.lit (k := 8) w3 28 (0, 0) #[.int .i64 x.k, .int .i64 k.next, .int .i64 x.e, .int .i64 x.i, .int .i64 x.t, .int .i64 x.c, .slice LA ln lc, .slice BA bn bc] [#[.int .i64 x.k, .int .i64 k.next, .int .i64 x.e, .int .i64 x.i, .int .i64 x.t, .int .i64 x.c, .slice LA ln lc, .slice BA bn bc]] (AllK.one rfl (by simp [Value.oneCell'])) (by simp [flat]) 1 rfl (by simp only [maxLen]; omega) w3.heap.size rfl) (by omega) (nkeep_alloc hb3 (.cells #[.int .i64 x.k, .int .i64 k.next, .int .i64 x.e, .int .i64 x.i, .int .i64 x.t, .int .i64 x.c, .slice LA ln lc, .slice BA bn bc] 28)).size ?_
         intro v4 w4 ho4 hb4' hg4
         have hb4 : Below w7.heap.size w7 w4 := (nkeep_alloc hb3 (.cells #[.int .i64 x.k, .int .i64 k.next, .int .i64 x.e, .int .i64 x.i, .int .i64 x.t, .int .i64 x.c, .slice LA ln lc, .slice BA bn bc] 28)).trans hb4'
         rw [Nat.zero_add, List.nil_append] at ho4
         obtain ⟨A4, c4, rfl, hrd4⟩ := OwnK.rd ho4
         have y2 : w4.heap[g + 1 + 1]? = some (.cells kz 24 (0, 0)) := keepH Y2.out hb4
         have fa0 := no_frozen y2 0
         have fa1 := no_frozen y2 1
         obtain ⟨v0, v1⟩ := cells2 y2
         have x1 : (w4.setCell ⟨g + 1 + 1, 0, none⟩ (.int .i64 (k.next + 1))).heap[g + 1 + 1]? = some (.cells #[.int .i64 (k.next + 1), .slice none 0 0] 24 (0, 0)) := heap_setCell_same w4 (g + 1 + 1) 0 _ _ _ y2
         have x2 : ((w4.setCell ⟨g + 1 + 1, 0, none⟩ (.int .i64 (k.next + 1))).setCell ⟨g + 1 + 1, 1, none⟩ (.slice A4 (n + 1) c4)).heap[g + 1 + 1]? = some (.cells #[.int .i64 (k.next + 1), .slice A4 (n + 1) c4] 24 (0, 0)) := heap_setCell_same _ (g + 1 + 1) 1 _ _ _ x1
         have bx : But (g + 1 + 1) w4 ((w4.setCell ⟨g + 1 + 1, 0, none⟩ (.int .i64 (k.next + 1))).setCell ⟨g + 1 + 1, 1, none⟩ (.slice A4 (n + 1) c4)) := (But.setCell w4 (g + 1 + 1) 0 _).trans (But.setCell _ (g + 1 + 1) 1 _)
         have hS1 : Below (g + 1 + 1) w7 ((w4.setCell ⟨g + 1 + 1, 0, none⟩ (.int .i64 (k.next + 1))).setCell ⟨g + 1 + 1, 1, none⟩ (.slice A4 (n + 1) c4)) := ((hb4.mono hg2).setCell (p := ⟨g + 1 + 1, 0, none⟩) (Nat.le_refl _) _).setCell (p := ⟨g + 1 + 1, 1, none⟩) (Nat.le_refl _) _
         have y3 : ((w4.setCell ⟨g + 1 + 1, 0, none⟩ (.int .i64 (k.next + 1))).setCell ⟨g + 1 + 1, 1, none⟩ (.slice A4 (n + 1) c4)).heap[g + 1 + 1 + 1]? = some (.cells zcells 28 (0, 0)) := (bx.2 (g + 1 + 1 + 1) (by omega)).trans (keepH Y3.out hb4)
         have hrr := And.intro HR8.out HRO.out
         revert hrr
         generalize hr : (#[.int .i64 x.k, .int .i64 k.next, .int .i64 x.e, .int .i64 x.i, .int .i64 x.t, .int .i64 x.c, .slice LA ln lc, .slice BA bn bc] : Array Value) = r
         intro hrr
         obtain ⟨w13, hrun13, G13, BB13, BL13⟩ := st8 y3 r hrr.1.symm hrr.2)
      | (refine step_appK 8 (by omega) 43 rfl rfl (.tmp 40) (.tmp 42) 22 rfl w7.heap.size 28 _ 96 info8 rfl (by omega) Try.underlying22 v3 (0 + n) ([] ++ rs) rfl ho3 (some ⟨w7.heap.size + 1, 0, none⟩) 1 1 [#[.int .i64 x.k, .int .i64 k.next, .int .i64 x.e, .int .i64 x.i, .int .i64 x.t, .int .i64 x.c, .slice LA ln lc, .slice BA bn bc]] rfl ((RdK.lit (k := 8) (w7.drew.alloc (.cells #[] 28)) 28 (0, 0) #[.int .i64 x.k, .int .i64 k.next, .int .i64 x.e, .int .i64 x.i, .int .i64 x.t, .int .i64 x.c, .slice LA ln lc, .slice BA bn bc] [#[.int .i64 x.k, .int .i64 k.next, .int .i64 x.e, .int .i64 x.i, .int .i64 x.t, .int .i64 x.c, .slice LA ln lc, .slice BA bn bc]] (AllK.one rfl (by simp [Value.oneCell'])) (by simp [flat]) 1 rfl (by simp only [maxLen]; omega) (w7.heap.size + 1) (size_alloc _ _)).grown hg3 (row_ne (by omega))) (by omega) (hb3).size ?_
         intro v4 w4 ho4 hb4' hg4
         have hb4 : Below w7.heap.size w7 w4 := (hb3).trans hb4'
         rw [Nat.zero_add, List.nil_append] at ho4
         obtain ⟨A4, c4, rfl, hrd4⟩ := OwnK.rd ho4
         have y2 : w4.heap[g + 1 + 1]? = some (.cells kz 24 (0, 0)) := keepH Y2.out hb4
         have fa0 := no_frozen y2 0
         have fa1 := no_frozen y2 1
         obtain ⟨v0, v1⟩ := cells2 y2
         have x1 : (w4.setCell ⟨g + 1 + 1, 0, none⟩ (.int .i64 (k.next + 1))).heap[g + 1 + 1]? = some (.cells #[.int .i64 (k.next + 1), .slice none 0 0] 24 (0, 0)) := heap_setCell_same w4 (g + 1 + 1) 0 _ _ _ y2
         have x2 : ((w4.setCell ⟨g + 1 + 1, 0, none⟩ (.int .i64 (k.next + 1))).setCell ⟨g + 1 + 1, 1, none⟩ (.slice A4 (n + 1) c4)).heap[g + 1 + 1]? = some (.cells #[.int .i64 (k.next + 1), .slice A4 (n + 1) c4] 24 (0, 0)) := heap_setCell_same _ (g + 1 + 1) 1 _ _ _ x1
         have bx : But (g + 1 + 1) w4 ((w4.setCell ⟨g + 1 + 1, 0, none⟩ (.int .i64 (k.next + 1))).setCell ⟨g + 1 + 1, 1, none⟩ (.slice A4 (n + 1) c4)) := (But.setCell w4 (g + 1 + 1) 0 _).trans (But.setCell _ (g + 1 + 1) 1 _)
         have hS1 : Below (g + 1 + 1) w7 ((w4.setCell ⟨g + 1 + 1, 0, none⟩ (.int .i64 (k.next + 1))).setCell ⟨g + 1 + 1, 1, none⟩ (.slice A4 (n + 1) c4)) := ((hb4.mono hg2).setCell (p := ⟨g + 1 + 1, 0, none⟩) (Nat.le_refl _) _).setCell (p := ⟨g + 1 + 1, 1, none⟩) (Nat.le_refl _) _
         have y3 : ((w4.setCell ⟨g + 1 + 1, 0, none⟩ (.int .i64 (k.next + 1))).setCell ⟨g + 1 + 1, 1, none⟩ (.slice A4 (n + 1) c4)).heap[g + 1 + 1 + 1]? = some (.cells zcells 28 (0, 0)) := (bx.2 (g + 1 + 1 + 1) (by omega)).trans (keepH Y3.out hb4)
         have hrr := And.intro HR8.out HRO.out
         revert hrr
         generalize hr : (#[.int .i64 x.k, .int .i64 k.next, .int .i64 x.e, .int .i64 x.i, .int .i64 x.t, .int .i64 x.c, .slice LA ln lc, .slice BA bn bc] : Array Value) = r
         intro hrr
         obtain ⟨w13, hrun13, G13, BB13, BL13⟩ := st8 y3 r hrr.1.symm hrr.2)
      | (refine step_appK 8 (by omega) 43 rfl rfl (.tmp 40) (.tmp 42) 22 rfl w7.heap.size 28 _ 96 info8 rfl (by omega) Try.underlying22 v3 (0 + n) ([] ++ rs) rfl ho3 (some ⟨w7.heap.size, 0, none⟩) 1 1 [#[.int .i64 x.k, .int .i64 k.next, .int .i64 x.e, .int .i64 x.i, .int .i64 x.t, .int .i64 x.c, .slice LA ln lc, .slice BA bn bc]] rfl (((RdK.lit (k := 8) w7.drew 28 (0, 0) #[.int .i64 x.k, .int .i64 k.next, .int .i64 x.e, .int .i64 x.i, .int .i64 x.t, .int .i64 x.c, .slice LA ln lc, .slice BA bn bc] [#[.int .i64 x.k, .int .i64 k.next, .int .i64 x.e, .int .i64 x.i, .int .i64 x.t, .int .i64 x.c, .slice LA ln lc, .slice BA bn bc]] (AllK.one rfl (by simp [Value.oneCell'])) (by simp [flat]) 1 rfl (by simp only [maxLen]; omega) w7.heap.size rfl).alloc (.cells #[] 28)).grown hg3 (row_ne (by omega))) (by omega) (hb3).size ?_
         intro v4 w4 ho4 hb4' hg4
         have hb4 : Below w7.heap.size w7 w4 := (hb3).trans hb4'
         rw [Nat.zero_add, List.nil_append] at ho4
         obtain ⟨A4, c4, rfl, hrd4⟩ := OwnK.rd ho4
         have y2 : w4.heap[g + 1 + 1]? = some (.cells kz 24 (0, 0)) := keepH Y2.out hb4
         have fa0 := no_frozen y2 0
         have fa1 := no_frozen y2 1
         obtain ⟨v0, v1⟩ := cells2 y2
         have x1 : (w4.setCell ⟨g + 1 + 1, 0, none⟩ (.int .i64 (k.next + 1))).heap[g + 1 + 1]? = some (.cells #[.int .i64 (k.next + 1), .slice none 0 0] 24 (0, 0)) := heap_setCell_same w4 (g + 1 + 1) 0 _ _ _ y2
         have x2 : ((w4.setCell ⟨g + 1 + 1, 0, none⟩ (.int .i64 (k.next + 1))).setCell ⟨g + 1 + 1, 1, none⟩ (.slice A4 (n + 1) c4)).heap[g + 1 + 1]? = some (.cells #[.int .i64 (k.next + 1), .slice A4 (n + 1) c4] 24 (0, 0)) := heap_setCell_same _ (g + 1 + 1) 1 _ _ _ x1
         have bx : But (g + 1 + 1) w4 ((w4.setCell ⟨g + 1 + 1, 0, none⟩ (.int .i64 (k.next + 1))).setCell ⟨g + 1 + 1, 1, none⟩ (.slice A4 (n + 1) c4)) := (But.setCell w4 (g + 1 + 1) 0 _).trans (But.setCell _ (g + 1 + 1) 1 _)
         have hS1 : Below (g + 1 + 1) w7 ((w4.setCell ⟨g + 1 + 1, 0, none⟩ (.int .i64 (k.next + 1))).setCell ⟨g + 1 + 1, 1, none⟩ (.slice A4 (n + 1) c4)) := ((hb4.mono hg2).setCell (p := ⟨g + 1 + 1, 0, none⟩) (Nat.le_refl _) _).setCell (p := ⟨g + 1 + 1, 1, none⟩) (Nat.le_refl _) _
         have y3 : ((w4.setCell ⟨g + 1 + 1, 0, none⟩ (.int .i64 (k.next + 1))).setCell ⟨g + 1 + 1, 1, none⟩ (.slice A4 (n + 1) c4)).heap[g + 1 + 1 + 1]? = some (.cells zcells 28 (0, 0)) := (bx.2 (g + 1 + 1 + 1) (by omega)).trans (keepH Y3.out hb4)
         have hrr := And.intro HR8.out HRO.out
         revert hrr
         generalize hr : (#[.int .i64 x.k, .int .i64 k.next, .int .i64 x.e, .int .i64 x.i, .int .i64 x.t, .int .i64 x.c, .slice LA ln lc, .slice BA bn bc] : Array Value) = r
         intro hrr
         obtain ⟨w13, hrun13, G13, BB13, BL13⟩ := st8 y3 r hrr.1.symm hrr.2)
      | (refine step_appK 8 (by omega) 40 rfl rfl (.tmp 37) (.tmp 39) 22 rfl w7.heap.size 28 _ 96 info8 rfl (by omega) Try.underlying22 (.slice (some ⟨w7.heap.size, 0, none⟩) 0 0) 0 [] rfl (OwnK.made 8 w7.drew w7.heap.size (Nat.le_refl _) 28 w7.heap.size rfl) A n c rs rfl (HK.out.below (bthen HBW.out (nkeep_alloc D0 (.cells #[] 28)))) (by omega) ((nkeep_alloc D0 (.cells #[] 28))).size ?_
         intro v3 w3 ho3 hb3' hg3
         have hb3 : Below w7.heap.size w7 w3 := (nkeep_alloc D0 (.cells #[] 28)).trans hb3')
      | (refine step_appK 8 (by omega) 40 rfl rfl (.tmp 37) (.tmp 39) 22 rfl w7.heap.size 28 _ 96 info8 rfl (by omega) Try.underlying22 (.slice (some ⟨w7.heap.size, 0, none⟩) 0 0) 0 [] rfl ((OwnK.made 8 w7.drew w7.heap.size (Nat.le_refl _) 28 w7.heap.size rfl).later (nkeep _ (.cells #[.int .i64 x.k, .int .i64 k.next, .int .i64 x.e, .int .i64 x.i, .int .i64 x.t, .int .i64 x.c, .slice LA ln lc, .slice BA bn bc] 28))) A n c rs rfl (HK.out.below (bthen HBW.out (nkeep_alloc (nkeep_alloc D0 (.cells #[] 28)) (.cells #[.int .i64 x.k, .int .i64 k.next, .int .i64 x.e, .int .i64 x.i, .int .i64 x.t, .int .i64 x.c, .slice LA ln lc, .slice BA bn bc] 28)))) (by omega) ((nkeep_alloc (nkeep_alloc D0 (.cells #[] 28)) (.cells #[.int .i64 x.k, .int .i64 k.next, .int .i64 x.e, .int .i64 x.i, .int .i64 x.t, .int .i64 x.c, .slice LA ln lc, .slice BA bn bc] 28))).size ?_
         intro v3 w3 ho3 hb3' hg3
         have hb3 : Below w7.heap.size w7 w3 := (nkeep_alloc (nkeep_alloc D0 (.cells #[] 28)) (.cells #[.int .i64 x.k, .int .i64 k.next, .int .i64 x.e, .int .i64 x.i, .int .i64 x.t, .int .i64 x.c, .slice LA ln lc, .slice BA bn bc] 28)).trans hb3')
      | (refine step_appK 8 (by omega) 40 rfl rfl (.tmp 37) (.tmp 39) 22 rfl w7.heap.size 28 _ 96 info8 rfl (by omega) Try.underlying22 (.slice (some ⟨w7.heap.size + 1, 0, none⟩) 0 0) 0 [] rfl (OwnK.made 8 (w7.drew.alloc (.cells #[.int .i64 x.k, .int .i64 k.next, .int .i64 x.e, .int .i64 x.i, .int .i64 x.t, .int .i64 x.c, .slice LA ln lc, .slice BA bn bc] 28)) w7.heap.size (by rw [size_alloc]; exact Nat.le_succ _) 28 (w7.heap.size + 1) (size_alloc _ _)) A n c rs rfl (HK.out.below (bthen HBW.out (nkeep_alloc (nkeep_alloc D0 (.cells #[.int .i64 x.k, .int .i64 k.next, .int .i64 x.e, .int .i64 x.i, .int .i64 x.t, .int .i64 x.c, .slice LA ln lc, .slice BA bn bc] 28)) (.cells #[] 28)))) (by omega) ((nkeep_alloc (nkeep_alloc D0 (.cells #[.int .i64 x.k, .int .i64 k.next, .int .i64 x.e, .int .i64 x.i, .int .i64 x.t, .int .i64 x.c, .slice LA ln lc, .slice BA bn bc] 28)) (.cells #[] 28))).size ?_
         intro v3 w3 ho3 hb3' hg3
         have hb3 : Below w7.heap.size w7 w3 := (nkeep_alloc (nkeep_alloc D0 (.cells #[.int .i64 x.k, .int .i64 k.next, .int .i64 x.e, .int .i64 x.i, .int .i64 x.t, .int .i64 x.c, .slice LA ln lc, .slice BA bn bc] 28)) (.cells #[] 28)).trans hb3')
      | fail)
  all_goals
    subst hr
    obtain ⟨e0, e1⟩ := cells2 ((BB13.out.2 (g + 1 + 1) (by omega)).trans x2)
    obtain ⟨f0, f1, f2, f3, f4, f5, f6, f7⟩ := cells8 G13.out
    have s0 := HG.out
    have bW : Below w.heap.size w w13 := HBW.out.trans ((BL13.out _ _ hS1 hg22).mono (by omega))
    have rd13 := (hrd4.but (fun b o e => by have := (ho4.addr b o e).1; omega) bx).but (fun b o e => by have := (ho4.addr b o e).1; omega) BB13.out
    have are13 := (HA.out.below bW).app (AreI.one (HIT.out.below bW))
    clear hb3 hb3' hb4 hb4' hg3 hg4 ho3 ho4 hrd4 x1 x2 y2 y3 fa0 fa1 v0 v1 bx hS1 hrun13 G13 BB13 BL13
    go_wp2_with fail
    exact bodyPost_ret (v := .tuple #[.agg #[.int .i64 (k.next + 1), .slice A4 (n + 1) c4], .agg #[.int .i64 x.k, .int .i64 k.next, .int .i64 x.e, .int .i64 x.i, .int .i64 x.t, .int .i64 x.c, .slice LA ln lc, .slice BA bn bc], .int .i64 0]) (by simp [results, Try.results19, go_sem, e0, e1, f0, f1, f2, f3, f4, f5, f6, f7]) rfl
      ⟨_, _, rfl, ⟨A4, n + 1, c4, rfl, _, rd13, are13⟩, HIT.out.below bW, bW⟩

theorem rpush_any (v u : Value) (k : Keep.Kp) (x : Item.It) (buf spare : Int) (w : World) (h : IsKeep w v k) (hx : IsItem w u x) (hS : k.l.length ≤ 65536) (h1 : 1 ≤ k.next) :
    Calls Try.prog 19 #[v, u, .int .i64 buf, .int .i64 spare] w (RPushIs w (Keep.push k x buf spare)) := by
  by_cases hfar : 4611686018427387904 < k.next
  · have e1 : Keep.qOf k = 1 := by unfold Keep.qOf; rw [if_pos hfar]
    have hrz : Keep.room k buf spare < 1 := by
      rcases Int.lt_or_le (Keep.room k buf spare) 1 with h0 | h0
      · exact h0
      · have := Keep.qOf_room h0; omega
    cases hm : Item.may (Keep.wq x 1) with
    | false =>
      have e : Keep.push k x buf spare = ⟨k, Item.It.zero, 1⟩ := by unfold Keep.push; rw [e1, if_pos hm]
      rw [e]; exact rpush_arg_far v u k x buf spare w h hx hfar hm
    | true =>
      have e : Keep.push k x buf spare = ⟨k, Item.It.zero, 4⟩ := by unfold Keep.push; rw [e1, if_neg (by simp [hm]), if_pos hrz]
      rw [e]; exact rpush_full_far v u k x buf spare w h hx hfar hm hrz
  · have e1 : Keep.qOf k = k.next := by unfold Keep.qOf; rw [if_neg hfar]
    cases hm : Item.may (Keep.wq x k.next) with
    | false =>
      have e : Keep.push k x buf spare = ⟨k, Item.It.zero, 1⟩ := by unfold Keep.push; rw [e1, if_pos hm]
      rw [e]; exact rpush_arg_near v u k x buf spare w h hx hfar hm
    | true =>
      by_cases hr : Keep.room k buf spare < 1
      · have e : Keep.push k x buf spare = ⟨k, Item.It.zero, 4⟩ := by unfold Keep.push; rw [e1, if_neg (by simp [hm]), if_pos hr]
        rw [e]; exact rpush_full_near v u k x buf spare w h hx hfar hm hr
      · have e : Keep.push k x buf spare = ⟨⟨k.next + 1, k.l ++ [Keep.wq x k.next]⟩, Keep.wq x k.next, 0⟩ := by unfold Keep.push; rw [e1, if_neg (by simp [hm]), if_neg hr]
        rw [e]; exact rpush_done v u k x buf spare w h hx hfar hm hr h1 hS
end Go.Proofs.Ytgnaecifinlnmaa
