/- What keep's Push comes to: refused. -/
import Derived.Test.YtgnaecifinlnmaaKeep5
set_option maxRecDepth 100000
namespace Go.Proofs.Ytgnaecifinlnmaa
open Go.RowKit
set_option linter.unusedVariables false

theorem RdK.but {k : Nat} {w w' : World} {A : Option Addr} {n c g : Nat} {rs : List (Array Value)} (h : RdK k w A n c rs) (hg : ∀ b o, A = some ⟨b, o, none⟩ → b ≠ g) (hb : But g w w') : RdK k w' A n c rs := by
  obtain ⟨h0, h1, h2, h3, h4, h5⟩ := h
  refine ⟨h0, h1, h2, h3, h4, fun h6 => ?_⟩
  obtain ⟨b, o, hA, hc⟩ := h5 h6
  exact ⟨b, o, hA, fun i x hx => hb.cell (hg b o hA) (hc i x hx)⟩
/-- A stream whose memory lies from a place on. -/
def FrK (w : World) (lo : Nat) (v : Value) (k : Keep.Kp) : Prop := ∃ A n c us, v = .agg #[.int .i64 k.next, .slice A n c] ∧ RdK 8 w A n c us ∧ (∀ b o, A = some ⟨b, o, none⟩ → lo ≤ b) ∧ AreF w lo us k.l
section
variable {w w' : World} {lo lo' g : Nat} {v : Value} {k : Keep.Kp}
theorem FrK.is (h : FrK w lo v k) : IsKeep w v k := by
  obtain ⟨A, n, c, us, rfl, h1, h2, h3⟩ := h
  exact ⟨A, n, c, rfl, us, h1, h3.are⟩
theorem FrK.below (h : FrK w lo v k) (hb : Below w.heap.size w w') : FrK w' lo v k := by
  obtain ⟨A, n, c, us, rfl, h1, h2, h3⟩ := h
  exact ⟨A, n, c, us, rfl, h1.below hb, h2, h3.below hb⟩
theorem FrK.but (h : FrK w lo v k) (hg : g < lo) (hb : But g w w') : FrK w' lo v k := by
  obtain ⟨A, n, c, us, rfl, h1, h2, h3⟩ := h
  exact ⟨A, n, c, us, rfl, h1.but (fun b o e => by have := h2 b o e; omega) hb, h2, h3.but hg hb⟩
theorem FrK.mono (h : FrK w lo v k) (hl : lo' ≤ lo) : FrK w lo' v k := by
  obtain ⟨A, n, c, us, rfl, h1, h2, h3⟩ := h
  exact ⟨A, n, c, us, rfl, h1, fun b o e => Nat.le_trans hl (h2 b o e), h3.mono hl⟩
theorem FrI.zero (w : World) (lo : Nat) : FrI w lo (.agg zcells) Item.It.zero := ⟨none, 0, 0, none, 0, 0, rfl, RdV.nil_ w, Rd.nil_ w, (fun _ _ h => by cases h), (fun _ _ h => by cases h)⟩
end
theorem FreshK.fr {w : World} {k : Keep.Kp} {e : Ending} {w' : World} (h : FreshK w k e w') : ∃ v, e = .returned v ∧ FrK w' w.heap.size v k ∧ Below w.heap.size w w' := by
  obtain ⟨A, n, c, us, lo, rfl, h1, h2, h3, h4, h5, h6⟩ := h
  exact ⟨_, rfl, ⟨A, n, c, us, rfl, h1.same, fun b o e => (h1.addr b o e).1, h2.mono h5⟩, h6⟩
def PushIs (w : World) (p : Keep.Pushed) (e : Ending) (w' : World) : Prop := ∃ v u, e = .returned (.tuple #[v, u, .int .i64 p.code]) ∧ FrK w' w.heap.size v p.k ∧ FrI w' w.heap.size u p.x ∧ Below w.heap.size w w'
theorem four_alloc (w : World) (o0 o1 o2 o3 : Obj) : ((((w.alloc o0).alloc o1).alloc o2).alloc o3).heap[w.heap.size]? = some o0 ∧ ((((w.alloc o0).alloc o1).alloc o2).alloc o3).heap[w.heap.size + 1]? = some o1 ∧ ((((w.alloc o0).alloc o1).alloc o2).alloc o3).heap[w.heap.size + 2]? = some o2 ∧ ((((w.alloc o0).alloc o1).alloc o2).alloc o3).heap[w.heap.size + 3]? = some o3 ∧ Below w.heap.size w ((((w.alloc o0).alloc o1).alloc o2).alloc o3) ∧ ((((w.alloc o0).alloc o1).alloc o2).alloc o3).heap.size = w.heap.size + 4 := by
  obtain ⟨h0, h1, h2, hb⟩ := three_alloc w o0 o1 o2
  have hk := nkeep (((w.alloc o0).alloc o1).alloc o2) o3
  exact ⟨keepH h0 hk, keepH h1 hk, keepH h2 hk, alloc_at _ _ _ (by rw [size_alloc, size_alloc, size_alloc]), bthen hb hk, by rw [size_alloc, size_alloc, size_alloc, size_alloc]⟩

set_option maxHeartbeats 4000000 in
theorem push_arg_far (v u : Value) (k : Keep.Kp) (x : Item.It) (buf spare : Int) (w : World) (h : IsKeep w v k) (hx : IsItem w u x) (hS : SmallL k.l) (hL : x.l.length ≤ 65536) (hB : x.b.length ≤ 65536) (hfar : 4611686018427387904 < k.next) (hm : Item.may (Keep.wq x 1) = false) :
    Calls Try.prog 18 #[v, u, .int .i64 buf, .int .i64 spare] w (PushIs w ⟨k, Item.It.zero, 1⟩) := by
  obtain ⟨A, n, c, rfl, hX⟩ := h
  obtain ⟨LA, ln, lc, BA, bn, bc, rfl, hl, hb⟩ := hx
  obtain ⟨t0, t1, t2, t3, t4, t5⟩ := four_alloc w (.cells #[.int .i64 k.next, .slice A n c] 24) (.cells #[.int .i64 x.k, .int .i64 1, .int .i64 x.e, .int .i64 x.i, .int .i64 x.t, .int .i64 x.c, .slice LA ln lc, .slice BA bn bc] 28) (.cells kz 24) (.cells zcells 28)
  obtain ⟨W, hW⟩ : ∃ W, (((w.alloc (.cells #[.int .i64 k.next, .slice A n c] 24)).alloc (.cells #[.int .i64 x.k, .int .i64 1, .int .i64 x.e, .int .i64 x.i, .int .i64 x.t, .int .i64 x.c, .slice LA ln lc, .slice BA bn bc] 28)).alloc (.cells kz 24)).alloc (.cells zcells 28) = W := ⟨_, rfl⟩
  rw [hW] at t0 t1 t2 t3 t4 t5
  have hq : decide (4611686018427387904 < k.next) = true := by simpa using hfar
  have hit : IsItem w (.agg #[.int .i64 x.k, .int .i64 1, .int .i64 x.e, .int .i64 x.i, .int .i64 x.t, .int .i64 x.c, .slice LA ln lc, .slice BA bn bc]) (Keep.wq x 1) := ⟨LA, ln, lc, BA, bn, bc, rfl, hl, hb⟩
  have hkp : IsKeep w (.agg #[.int .i64 k.next, .slice A n c]) k := ⟨A, n, c, rfl, hX⟩
  have hf := fresh_any _ k W (hkp.below t4) hS
  obtain ⟨i0, i1⟩ := cells2 t0
  obtain ⟨g, hg⟩ : ∃ g, w.heap.size = g := ⟨_, rfl⟩
  have HG := hidT hg
  rw [hg] at t0 t1 t2 t3 t5 i0 i1
  have HW := hidT hW
  have T0 := hidT t0
  have T1 := hidT t1
  have T2 := hidT t2
  have T3 := hidT t3
  have T4 := hidT t4
  have T5 := hidT t5
  have HIT := hidT hit
  have HKP := hidT hkp
  have HF := hidT hf
  have HLB := hidT (And.intro hL hB)
  clear t0 t1 t2 t3 t4 t5 hW hit hkp hf hX hl hb hS hL hB
  go_enter Try.func18, Try.ntmps18
  go_wp2_with fail
  rw [HW.out]
  clear hg
  with_reducible refine HF.out.mono ?_
  rintro e w5 ⟨A5, n5, c5, us, lo, rfl, ho5, hF5, ha5, hlo5, hbl5, hb5⟩
  have z5 := alloc_at w5 (.cells #[.int .i64 k.next, .slice A5 n5 c5] 24) _ rfl
  have hbA := bthen hb5 (nkeep w5 (.cells #[.int .i64 k.next, .slice A5 n5 c5] 24))
  have y0 := keepH T0.out hbA
  have y1 := keepH T1.out hbA
  have y2 := keepH T2.out hbA
  have y3 := keepH T3.out hbA
  obtain ⟨i0, i1⟩ := cells2 y0
  obtain ⟨j0, j1, j2, j3, j4, j5, j6, j7⟩ := cells8 y1
  obtain ⟨l0, l1⟩ := cells2 z5
  have BA' := nkeep w5 (.cells #[.int .i64 k.next, .slice A5 n5 c5] 24)
  obtain ⟨h, hh⟩ : ∃ h, w5.heap.size = h := ⟨_, rfl⟩
  rw [hh] at z5 l0 l1
  have HO := hidT (ho5.later BA')
  have HFF := hidT (hF5.below BA')
  have HF5 := hidT hF5
  have HBW := hidT BA'
  have HA := hidT ha5
  have HLO := hidT hlo5
  have HBL := hidT hbl5
  have HBA := hidT hbA
  have HH := hidT hh
  have HSZ := hidT (size_alloc w5 (.cells #[.int .i64 k.next, .slice A5 n5 c5] 24))
  obtain ⟨W5, hW5⟩ : ∃ W5, w5.alloc (.cells #[.int .i64 k.next, .slice A5 n5 c5] 24) = W5 := ⟨_, rfl⟩
  rw [hW5] at z5 y0 y1 y2 y3 HO HFF HBA HSZ HBW
  have HW5 := hidT hW5
  have Y0 := hidT y0
  have Y1 := hidT y1
  have Y2 := hidT y2
  have Y3 := hidT y3
  have Z5 := hidT z5
  have hmay := may_any _ (Keep.wq x 1) W5 (HIT.out.below (bthen T4.out HBA.out))
  have HM := hidT hmay
  clear ho5 hF5 ha5 hlo5 hbl5 hbA hb5 BA' hW5 y0 y1 y2 y3 z5 hmay
  go_wp2_with fail
  rw [HW5.out]
  clear hh i0 i1 j0 j1 j2 j3 j4 j5 j6 j7 l0 l1
  rw [hm] at HM
  clear hm
  with_reducible refine HM.out.mono ?_
  rintro e w6 ⟨rfl, hb6⟩
  have y2 := keepH Y2.out hb6
  have y3 := keepH Y3.out hb6
  obtain ⟨l0, l1⟩ := cells2 (keepH Z5.out hb6)
  obtain ⟨i0, i1⟩ := cells2 (keepH Y0.out hb6)
  have HB6 := hidT hb6
  clear hb6
  go_wp2_with (first
    | (refine wpList_stI rfl 24 _ _ rfl (g + 2) #[.int .i64 k.next, .slice A5 n5 c5] rfl rfl _ _ y2 size2 rfl (by simp [Value.oneCell']) ?_
       intro w7 hg7 hbut7 hbel7
       have y37 := (hbut7.2 (g + 3) (by omega)).trans y3)
    | (refine wpList_stI rfl 28 _ _ rfl (g + 3) zcells rfl rfl _ _ y37 size8 rfl (by kernel_rfl) ?_
       intro w8 hg8 hbut8 hbel8))
  have hg78 := (hbut8.2 (g + 2) (by omega)).trans hg7
  obtain ⟨e0, e1⟩ := cells2 hg78
  obtain ⟨f0, f1, f2, f3, f4, f5, f6, f7⟩ := cells8 hg8
  have s1 := HG.out
  have s5 := T5.out
  have s6 := HBL.out
  have s7 := HB6.out.size
  have fk : FrK W5 W.heap.size (.agg #[.int .i64 k.next, .slice A5 n5 c5]) k := ⟨A5, n5, c5, us, rfl, HO.out.same, fun b o e => (HO.out.addr b o e).1, HFF.out.mono s6⟩
  exact bodyPost_ret (v := .tuple #[.agg #[.int .i64 k.next, .slice A5 n5 c5], .agg zcells, .int .i64 1]) (by simp [results, Try.results18, go_sem, e0, e1, f0, f1, f2, f3, f4, f5, f6, f7]) rfl
    ⟨_, _, rfl, (((fk.below HB6.out).but (by omega) hbut7).but (by omega) hbut8).mono (by omega), FrI.zero _ _, hbel8 _ _ (hbel7 _ _ (bthen T4.out (bthen HBA.out HB6.out)) (by omega)) (by omega)⟩

set_option maxHeartbeats 4000000 in
theorem push_full_far (v u : Value) (k : Keep.Kp) (x : Item.It) (buf spare : Int) (w : World) (h : IsKeep w v k) (hx : IsItem w u x) (hS : SmallL k.l) (hL : x.l.length ≤ 65536) (hB : x.b.length ≤ 65536) (hfar : 4611686018427387904 < k.next) (hm : Item.may (Keep.wq x 1) = true) (hr : Keep.room k buf spare = 0) :
    Calls Try.prog 18 #[v, u, .int .i64 buf, .int .i64 spare] w (PushIs w ⟨k, Item.It.zero, 4⟩) := by
  obtain ⟨A, n, c, rfl, hX⟩ := h
  obtain ⟨LA, ln, lc, BA, bn, bc, rfl, hl, hb⟩ := hx
  obtain ⟨t0, t1, t2, t3, t4, t5⟩ := four_alloc w (.cells #[.int .i64 k.next, .slice A n c] 24) (.cells #[.int .i64 x.k, .int .i64 1, .int .i64 x.e, .int .i64 x.i, .int .i64 x.t, .int .i64 x.c, .slice LA ln lc, .slice BA bn bc] 28) (.cells kz 24) (.cells zcells 28)
  obtain ⟨W, hW⟩ : ∃ W, (((w.alloc (.cells #[.int .i64 k.next, .slice A n c] 24)).alloc (.cells #[.int .i64 x.k, .int .i64 1, .int .i64 x.e, .int .i64 x.i, .int .i64 x.t, .int .i64 x.c, .slice LA ln lc, .slice BA bn bc] 28)).alloc (.cells kz 24)).alloc (.cells zcells 28) = W := ⟨_, rfl⟩
  rw [hW] at t0 t1 t2 t3 t4 t5
  have hq : decide (4611686018427387904 < k.next) = true := by simpa using hfar
  have hit : IsItem w (.agg #[.int .i64 x.k, .int .i64 1, .int .i64 x.e, .int .i64 x.i, .int .i64 x.t, .int .i64 x.c, .slice LA ln lc, .slice BA bn bc]) (Keep.wq x 1) := ⟨LA, ln, lc, BA, bn, bc, rfl, hl, hb⟩
  have hkp : IsKeep w (.agg #[.int .i64 k.next, .slice A n c]) k := ⟨A, n, c, rfl, hX⟩
  have hf := fresh_any _ k W (hkp.below t4) hS
  obtain ⟨i0, i1⟩ := cells2 t0
  obtain ⟨g, hg⟩ : ∃ g, w.heap.size = g := ⟨_, rfl⟩
  have HG := hidT hg
  rw [hg] at t0 t1 t2 t3 t5 i0 i1
  have HW := hidT hW
  have T0 := hidT t0
  have T1 := hidT t1
  have T2 := hidT t2
  have T3 := hidT t3
  have T4 := hidT t4
  have T5 := hidT t5
  have HIT := hidT hit
  have HKP := hidT hkp
  have HF := hidT hf
  have HLB := hidT (And.intro hL hB)
  clear t0 t1 t2 t3 t4 t5 hW hit hkp hf hX hl hb hS hL hB
  go_enter Try.func18, Try.ntmps18
  go_wp2_with fail
  rw [HW.out]
  clear hg
  with_reducible refine HF.out.mono ?_
  rintro e w5 ⟨A5, n5, c5, us, lo, rfl, ho5, hF5, ha5, hlo5, hbl5, hb5⟩
  have z5 := alloc_at w5 (.cells #[.int .i64 k.next, .slice A5 n5 c5] 24) _ rfl
  have hbA := bthen hb5 (nkeep w5 (.cells #[.int .i64 k.next, .slice A5 n5 c5] 24))
  have y0 := keepH T0.out hbA
  have y1 := keepH T1.out hbA
  have y2 := keepH T2.out hbA
  have y3 := keepH T3.out hbA
  obtain ⟨i0, i1⟩ := cells2 y0
  obtain ⟨j0, j1, j2, j3, j4, j5, j6, j7⟩ := cells8 y1
  obtain ⟨l0, l1⟩ := cells2 z5
  have BA' := nkeep w5 (.cells #[.int .i64 k.next, .slice A5 n5 c5] 24)
  obtain ⟨h, hh⟩ : ∃ h, w5.heap.size = h := ⟨_, rfl⟩
  rw [hh] at z5 l0 l1
  have HO := hidT (ho5.later BA')
  have HFF := hidT (hF5.below BA')
  have HF5 := hidT hF5
  have HBW := hidT BA'
  have HA := hidT ha5
  have HLO := hidT hlo5
  have HBL := hidT hbl5
  have HBA := hidT hbA
  have HH := hidT hh
  have HSZ := hidT (size_alloc w5 (.cells #[.int .i64 k.next, .slice A5 n5 c5] 24))
  obtain ⟨W5, hW5⟩ : ∃ W5, w5.alloc (.cells #[.int .i64 k.next, .slice A5 n5 c5] 24) = W5 := ⟨_, rfl⟩
  rw [hW5] at z5 y0 y1 y2 y3 HO HFF HBA HSZ HBW
  have HW5 := hidT hW5
  have Y0 := hidT y0
  have Y1 := hidT y1
  have Y2 := hidT y2
  have Y3 := hidT y3
  have Z5 := hidT z5
  have hmay := may_any _ (Keep.wq x 1) W5 (HIT.out.below (bthen T4.out HBA.out))
  have HM := hidT hmay
  clear ho5 hF5 ha5 hlo5 hbl5 hbA hb5 BA' hW5 y0 y1 y2 y3 z5 hmay
  go_wp2_with fail
  rw [HW5.out]
  clear hh i0 i1 j0 j1 j2 j3 j4 j5 j6 j7 l0 l1
  rw [hm] at HM
  clear hm
  with_reducible refine HM.out.mono ?_
  rintro e w6 ⟨rfl, hb6⟩
  have y2 := keepH Y2.out hb6
  have y3 := keepH Y3.out hb6
  obtain ⟨l0, l1⟩ := cells2 (keepH Z5.out hb6)
  obtain ⟨i0, i1⟩ := cells2 (keepH Y0.out hb6)
  have HB6 := hidT hb6
  clear hb6
  have hroom := room_any _ k buf spare w6 (HKP.out.below (bthen T4.out (bthen HBA.out HB6.out)))
  rw [hr] at hroom
  have Y2 := hidT y2
  have Y3 := hidT y3
  have Z6 := hidT (keepH Z5.out HB6.out)
  clear hr y2 y3
  go_wp2_with fail
  with_reducible refine hroom.mono ?_
  rintro e w65 ⟨rfl, hb65⟩
  have y2 := keepH Y2.out hb65
  have y3 := keepH Y3.out hb65
  obtain ⟨l0, l1⟩ := cells2 (keepH Z6.out hb65)
  have HB6 := hidT (bthen HB6.out hb65)
  clear hb65 hroom
  go_wp2_with (first
    | (refine wpList_stI rfl 24 _ _ rfl (g + 2) #[.int .i64 k.next, .slice A5 n5 c5] rfl rfl _ _ y2 size2 rfl (by simp [Value.oneCell']) ?_
       intro w7 hg7 hbut7 hbel7
       have y37 := (hbut7.2 (g + 3) (by omega)).trans y3)
    | (refine wpList_stI rfl 28 _ _ rfl (g + 3) zcells rfl rfl _ _ y37 size8 rfl (by kernel_rfl) ?_
       intro w8 hg8 hbut8 hbel8))
  have hg78 := (hbut8.2 (g + 2) (by omega)).trans hg7
  obtain ⟨e0, e1⟩ := cells2 hg78
  obtain ⟨f0, f1, f2, f3, f4, f5, f6, f7⟩ := cells8 hg8
  have s1 := HG.out
  have s5 := T5.out
  have s6 := HBL.out
  have s7 := HB6.out.size
  have fk : FrK W5 W.heap.size (.agg #[.int .i64 k.next, .slice A5 n5 c5]) k := ⟨A5, n5, c5, us, rfl, HO.out.same, fun b o e => (HO.out.addr b o e).1, HFF.out.mono s6⟩
  exact bodyPost_ret (v := .tuple #[.agg #[.int .i64 k.next, .slice A5 n5 c5], .agg zcells, .int .i64 4]) (by simp [results, Try.results18, go_sem, e0, e1, f0, f1, f2, f3, f4, f5, f6, f7]) rfl
    ⟨_, _, rfl, (((fk.below HB6.out).but (by omega) hbut7).but (by omega) hbut8).mono (by omega), FrI.zero _ _, hbel8 _ _ (hbel7 _ _ (bthen T4.out (bthen HBA.out HB6.out)) (by omega)) (by omega)⟩

set_option maxHeartbeats 4000000 in
theorem push_arg_near (v u : Value) (k : Keep.Kp) (x : Item.It) (buf spare : Int) (w : World) (h : IsKeep w v k) (hx : IsItem w u x) (hS : SmallL k.l) (hL : x.l.length ≤ 65536) (hB : x.b.length ≤ 65536) (hfar : ¬ 4611686018427387904 < k.next) (hm : Item.may (Keep.wq x k.next) = false) :
    Calls Try.prog 18 #[v, u, .int .i64 buf, .int .i64 spare] w (PushIs w ⟨k, Item.It.zero, 1⟩) := by
  obtain ⟨A, n, c, rfl, hX⟩ := h
  obtain ⟨LA, ln, lc, BA, bn, bc, rfl, hl, hb⟩ := hx
  obtain ⟨t0, t1, t2, t3, t4, t5⟩ := four_alloc w (.cells #[.int .i64 k.next, .slice A n c] 24) (.cells #[.int .i64 x.k, .int .i64 k.next, .int .i64 x.e, .int .i64 x.i, .int .i64 x.t, .int .i64 x.c, .slice LA ln lc, .slice BA bn bc] 28) (.cells kz 24) (.cells zcells 28)
  obtain ⟨W, hW⟩ : ∃ W, (((w.alloc (.cells #[.int .i64 k.next, .slice A n c] 24)).alloc (.cells #[.int .i64 x.k, .int .i64 k.next, .int .i64 x.e, .int .i64 x.i, .int .i64 x.t, .int .i64 x.c, .slice LA ln lc, .slice BA bn bc] 28)).alloc (.cells kz 24)).alloc (.cells zcells 28) = W := ⟨_, rfl⟩
  rw [hW] at t0 t1 t2 t3 t4 t5
  have hq : decide (4611686018427387904 < k.next) = false := by simpa using hfar
  have hit : IsItem w (.agg #[.int .i64 x.k, .int .i64 k.next, .int .i64 x.e, .int .i64 x.i, .int .i64 x.t, .int .i64 x.c, .slice LA ln lc, .slice BA bn bc]) (Keep.wq x k.next) := ⟨LA, ln, lc, BA, bn, bc, rfl, hl, hb⟩
  have hkp : IsKeep w (.agg #[.int .i64 k.next, .slice A n c]) k := ⟨A, n, c, rfl, hX⟩
  have hf := fresh_any _ k W (hkp.below t4) hS
  obtain ⟨i0, i1⟩ := cells2 t0
  obtain ⟨g, hg⟩ : ∃ g, w.heap.size = g := ⟨_, rfl⟩
  have HG := hidT hg
  rw [hg] at t0 t1 t2 t3 t5 i0 i1
  have HW := hidT hW
  have T0 := hidT t0
  have T1 := hidT t1
  have T2 := hidT t2
  have T3 := hidT t3
  have T4 := hidT t4
  have T5 := hidT t5
  have HIT := hidT hit
  have HKP := hidT hkp
  have HF := hidT hf
  have HLB := hidT (And.intro hL hB)
  clear t0 t1 t2 t3 t4 t5 hW hit hkp hf hX hl hb hS hL hB
  go_enter Try.func18, Try.ntmps18
  go_wp2_with fail
  rw [HW.out]
  clear hg
  with_reducible refine HF.out.mono ?_
  rintro e w5 ⟨A5, n5, c5, us, lo, rfl, ho5, hF5, ha5, hlo5, hbl5, hb5⟩
  have z5 := alloc_at w5 (.cells #[.int .i64 k.next, .slice A5 n5 c5] 24) _ rfl
  have hbA := bthen hb5 (nkeep w5 (.cells #[.int .i64 k.next, .slice A5 n5 c5] 24))
  have y0 := keepH T0.out hbA
  have y1 := keepH T1.out hbA
  have y2 := keepH T2.out hbA
  have y3 := keepH T3.out hbA
  obtain ⟨i0, i1⟩ := cells2 y0
  obtain ⟨j0, j1, j2, j3, j4, j5, j6, j7⟩ := cells8 y1
  obtain ⟨l0, l1⟩ := cells2 z5
  have BA' := nkeep w5 (.cells #[.int .i64 k.next, .slice A5 n5 c5] 24)
  obtain ⟨h, hh⟩ : ∃ h, w5.heap.size = h := ⟨_, rfl⟩
  rw [hh] at z5 l0 l1
  have HO := hidT (ho5.later BA')
  have HFF := hidT (hF5.below BA')
  have HF5 := hidT hF5
  have HBW := hidT BA'
  have HA := hidT ha5
  have HLO := hidT hlo5
  have HBL := hidT hbl5
  have HBA := hidT hbA
  have HH := hidT hh
  have HSZ := hidT (size_alloc w5 (.cells #[.int .i64 k.next, .slice A5 n5 c5] 24))
  obtain ⟨W5, hW5⟩ : ∃ W5, w5.alloc (.cells #[.int .i64 k.next, .slice A5 n5 c5] 24) = W5 := ⟨_, rfl⟩
  rw [hW5] at z5 y0 y1 y2 y3 HO HFF HBA HSZ HBW
  have HW5 := hidT hW5
  have Y0 := hidT y0
  have Y1 := hidT y1
  have Y2 := hidT y2
  have Y3 := hidT y3
  have Z5 := hidT z5
  have hmay := may_any _ (Keep.wq x k.next) W5 (HIT.out.below (bthen T4.out HBA.out))
  have HM := hidT hmay
  clear ho5 hF5 ha5 hlo5 hbl5 hbA hb5 BA' hW5 y0 y1 y2 y3 z5 hmay
  go_wp2_with fail
  rw [HW5.out]
  clear hh i0 i1 j0 j1 j2 j3 j4 j5 j6 j7 l0 l1
  rw [hm] at HM
  clear hm
  with_reducible refine HM.out.mono ?_
  rintro e w6 ⟨rfl, hb6⟩
  have y2 := keepH Y2.out hb6
  have y3 := keepH Y3.out hb6
  obtain ⟨l0, l1⟩ := cells2 (keepH Z5.out hb6)
  obtain ⟨i0, i1⟩ := cells2 (keepH Y0.out hb6)
  have HB6 := hidT hb6
  clear hb6
  go_wp2_with (first
    | (refine wpList_stI rfl 24 _ _ rfl (g + 2) #[.int .i64 k.next, .slice A5 n5 c5] rfl rfl _ _ y2 size2 rfl (by simp [Value.oneCell']) ?_
       intro w7 hg7 hbut7 hbel7
       have y37 := (hbut7.2 (g + 3) (by omega)).trans y3)
    | (refine wpList_stI rfl 28 _ _ rfl (g + 3) zcells rfl rfl _ _ y37 size8 rfl (by kernel_rfl) ?_
       intro w8 hg8 hbut8 hbel8))
  have hg78 := (hbut8.2 (g + 2) (by omega)).trans hg7
  obtain ⟨e0, e1⟩ := cells2 hg78
  obtain ⟨f0, f1, f2, f3, f4, f5, f6, f7⟩ := cells8 hg8
  have s1 := HG.out
  have s5 := T5.out
  have s6 := HBL.out
  have s7 := HB6.out.size
  have fk : FrK W5 W.heap.size (.agg #[.int .i64 k.next, .slice A5 n5 c5]) k := ⟨A5, n5, c5, us, rfl, HO.out.same, fun b o e => (HO.out.addr b o e).1, HFF.out.mono s6⟩
  exact bodyPost_ret (v := .tuple #[.agg #[.int .i64 k.next, .slice A5 n5 c5], .agg zcells, .int .i64 1]) (by simp [results, Try.results18, go_sem, e0, e1, f0, f1, f2, f3, f4, f5, f6, f7]) rfl
    ⟨_, _, rfl, (((fk.below HB6.out).but (by omega) hbut7).but (by omega) hbut8).mono (by omega), FrI.zero _ _, hbel8 _ _ (hbel7 _ _ (bthen T4.out (bthen HBA.out HB6.out)) (by omega)) (by omega)⟩

set_option maxHeartbeats 4000000 in
theorem push_full_near (v u : Value) (k : Keep.Kp) (x : Item.It) (buf spare : Int) (w : World) (h : IsKeep w v k) (hx : IsItem w u x) (hS : SmallL k.l) (hL : x.l.length ≤ 65536) (hB : x.b.length ≤ 65536) (hfar : ¬ 4611686018427387904 < k.next) (hm : Item.may (Keep.wq x k.next) = true) (hr : Keep.room k buf spare = 0) :
    Calls Try.prog 18 #[v, u, .int .i64 buf, .int .i64 spare] w (PushIs w ⟨k, Item.It.zero, 4⟩) := by
  obtain ⟨A, n, c, rfl, hX⟩ := h
  obtain ⟨LA, ln, lc, BA, bn, bc, rfl, hl, hb⟩ := hx
  obtain ⟨t0, t1, t2, t3, t4, t5⟩ := four_alloc w (.cells #[.int .i64 k.next, .slice A n c] 24) (.cells #[.int .i64 x.k, .int .i64 k.next, .int .i64 x.e, .int .i64 x.i, .int .i64 x.t, .int .i64 x.c, .slice LA ln lc, .slice BA bn bc] 28) (.cells kz 24) (.cells zcells 28)
  obtain ⟨W, hW⟩ : ∃ W, (((w.alloc (.cells #[.int .i64 k.next, .slice A n c] 24)).alloc (.cells #[.int .i64 x.k, .int .i64 k.next, .int .i64 x.e, .int .i64 x.i, .int .i64 x.t, .int .i64 x.c, .slice LA ln lc, .slice BA bn bc] 28)).alloc (.cells kz 24)).alloc (.cells zcells 28) = W := ⟨_, rfl⟩
  rw [hW] at t0 t1 t2 t3 t4 t5
  have hq : decide (4611686018427387904 < k.next) = false := by simpa using hfar
  have hit : IsItem w (.agg #[.int .i64 x.k, .int .i64 k.next, .int .i64 x.e, .int .i64 x.i, .int .i64 x.t, .int .i64 x.c, .slice LA ln lc, .slice BA bn bc]) (Keep.wq x k.next) := ⟨LA, ln, lc, BA, bn, bc, rfl, hl, hb⟩
  have hkp : IsKeep w (.agg #[.int .i64 k.next, .slice A n c]) k := ⟨A, n, c, rfl, hX⟩
  have hf := fresh_any _ k W (hkp.below t4) hS
  obtain ⟨i0, i1⟩ := cells2 t0
  obtain ⟨g, hg⟩ : ∃ g, w.heap.size = g := ⟨_, rfl⟩
  have HG := hidT hg
  rw [hg] at t0 t1 t2 t3 t5 i0 i1
  have HW := hidT hW
  have T0 := hidT t0
  have T1 := hidT t1
  have T2 := hidT t2
  have T3 := hidT t3
  have T4 := hidT t4
  have T5 := hidT t5
  have HIT := hidT hit
  have HKP := hidT hkp
  have HF := hidT hf
  have HLB := hidT (And.intro hL hB)
  clear t0 t1 t2 t3 t4 t5 hW hit hkp hf hX hl hb hS hL hB
  go_enter Try.func18, Try.ntmps18
  go_wp2_with fail
  rw [HW.out]
  clear hg
  with_reducible refine HF.out.mono ?_
  rintro e w5 ⟨A5, n5, c5, us, lo, rfl, ho5, hF5, ha5, hlo5, hbl5, hb5⟩
  have z5 := alloc_at w5 (.cells #[.int .i64 k.next, .slice A5 n5 c5] 24) _ rfl
  have hbA := bthen hb5 (nkeep w5 (.cells #[.int .i64 k.next, .slice A5 n5 c5] 24))
  have y0 := keepH T0.out hbA
  have y1 := keepH T1.out hbA
  have y2 := keepH T2.out hbA
  have y3 := keepH T3.out hbA
  obtain ⟨i0, i1⟩ := cells2 y0
  obtain ⟨j0, j1, j2, j3, j4, j5, j6, j7⟩ := cells8 y1
  obtain ⟨l0, l1⟩ := cells2 z5
  have BA' := nkeep w5 (.cells #[.int .i64 k.next, .slice A5 n5 c5] 24)
  obtain ⟨h, hh⟩ : ∃ h, w5.heap.size = h := ⟨_, rfl⟩
  rw [hh] at z5 l0 l1
  have HO := hidT (ho5.later BA')
  have HFF := hidT (hF5.below BA')
  have HF5 := hidT hF5
  have HBW := hidT BA'
  have HA := hidT ha5
  have HLO := hidT hlo5
  have HBL := hidT hbl5
  have HBA := hidT hbA
  have HH := hidT hh
  have HSZ := hidT (size_alloc w5 (.cells #[.int .i64 k.next, .slice A5 n5 c5] 24))
  obtain ⟨W5, hW5⟩ : ∃ W5, w5.alloc (.cells #[.int .i64 k.next, .slice A5 n5 c5] 24) = W5 := ⟨_, rfl⟩
  rw [hW5] at z5 y0 y1 y2 y3 HO HFF HBA HSZ HBW
  have HW5 := hidT hW5
  have Y0 := hidT y0
  have Y1 := hidT y1
  have Y2 := hidT y2
  have Y3 := hidT y3
  have Z5 := hidT z5
  have hmay := may_any _ (Keep.wq x k.next) W5 (HIT.out.below (bthen T4.out HBA.out))
  have HM := hidT hmay
  clear ho5 hF5 ha5 hlo5 hbl5 hbA hb5 BA' hW5 y0 y1 y2 y3 z5 hmay
  go_wp2_with fail
  rw [HW5.out]
  clear hh i0 i1 j0 j1 j2 j3 j4 j5 j6 j7 l0 l1
  rw [hm] at HM
  clear hm
  with_reducible refine HM.out.mono ?_
  rintro e w6 ⟨rfl, hb6⟩
  have y2 := keepH Y2.out hb6
  have y3 := keepH Y3.out hb6
  obtain ⟨l0, l1⟩ := cells2 (keepH Z5.out hb6)
  obtain ⟨i0, i1⟩ := cells2 (keepH Y0.out hb6)
  have HB6 := hidT hb6
  clear hb6
  have hroom := room_any _ k buf spare w6 (HKP.out.below (bthen T4.out (bthen HBA.out HB6.out)))
  rw [hr] at hroom
  have Y2 := hidT y2
  have Y3 := hidT y3
  have Z6 := hidT (keepH Z5.out HB6.out)
  clear hr y2 y3
  go_wp2_with fail
  with_reducible refine hroom.mono ?_
  rintro e w65 ⟨rfl, hb65⟩
  have y2 := keepH Y2.out hb65
  have y3 := keepH Y3.out hb65
  obtain ⟨l0, l1⟩ := cells2 (keepH Z6.out hb65)
  have HB6 := hidT (bthen HB6.out hb65)
  clear hb65 hroom
  go_wp2_with (first
    | (refine wpList_stI rfl 24 _ _ rfl (g + 2) #[.int .i64 k.next, .slice A5 n5 c5] rfl rfl _ _ y2 size2 rfl (by simp [Value.oneCell']) ?_
       intro w7 hg7 hbut7 hbel7
       have y37 := (hbut7.2 (g + 3) (by omega)).trans y3)
    | (refine wpList_stI rfl 28 _ _ rfl (g + 3) zcells rfl rfl _ _ y37 size8 rfl (by kernel_rfl) ?_
       intro w8 hg8 hbut8 hbel8))
  have hg78 := (hbut8.2 (g + 2) (by omega)).trans hg7
  obtain ⟨e0, e1⟩ := cells2 hg78
  obtain ⟨f0, f1, f2, f3, f4, f5, f6, f7⟩ := cells8 hg8
  have s1 := HG.out
  have s5 := T5.out
  have s6 := HBL.out
  have s7 := HB6.out.size
  have fk : FrK W5 W.heap.size (.agg #[.int .i64 k.next, .slice A5 n5 c5]) k := ⟨A5, n5, c5, us, rfl, HO.out.same, fun b o e => (HO.out.addr b o e).1, HFF.out.mono s6⟩
  exact bodyPost_ret (v := .tuple #[.agg #[.int .i64 k.next, .slice A5 n5 c5], .agg zcells, .int .i64 4]) (by simp [results, Try.results18, go_sem, e0, e1, f0, f1, f2, f3, f4, f5, f6, f7]) rfl
    ⟨_, _, rfl, (((fk.below HB6.out).but (by omega) hbut7).but (by omega) hbut8).mono (by omega), FrI.zero _ _, hbel8 _ _ (hbel7 _ _ (bthen T4.out (bthen HBA.out HB6.out)) (by omega)) (by omega)⟩
end Go.Proofs.Ytgnaecifinlnmaa
