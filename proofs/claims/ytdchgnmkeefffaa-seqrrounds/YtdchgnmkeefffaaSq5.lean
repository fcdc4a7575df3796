/- What Walk comes to. -/
import Derived.Test.YtdchgnmkeefffaaSq4
import Derived.Test.YtdchgnmkeefffaaSq1
import Derived.Test.YtdchgnmkeefffaaSq2
set_option maxRecDepth 100000
namespace Go.Proofs.Ytdchgnmkeefffaa
open Go.RowKit
set_option linter.unusedVariables false

/-- What Walk tells. -/
def WalkOut (w : World) (r : Seqr.Tn × List Lane.Ln × List Seqr.Dv) (e : Ending) (w' : World) : Prop :=
  ∃ A n c D m d, e = .returned (.tuple #[.agg (tc r.1), .slice A n c, .slice D m d]) ∧ RdL (Hi w.heap.size) w' A n c r.2.1 ∧ RdD (Hi w.heap.size) w' D m d r.2.2 ∧ Below w.heap.size w w'
theorem RdD.keptS' {S : Nat → Prop} {w w' : World} {A : Option Addr} {n c : Nat} {xs : List Seqr.Dv} (h : RdD S w A n c xs) (hk : KeptS S w w') : RdD S w' A n c xs := h.keptS hk

set_option maxHeartbeats 8000000 in
theorem sqWalkOut_any {S : Nat → Prop} (t : Seqr.Tn) (A : Option Addr) (n c : Nat) (ls : List Lane.Ln) (w : World) (h : RdL S w A n c ls) (hok : Seqr.Ok t ls) (hsm : SmallLs ls) (hn : n ≤ 64) (hu0 : 0 ≤ t.used) (hu1 : t.used ≤ 2305843009213693952) (hmu : Seqr.mu ls ≤ 1000000) :
    Calls Try.prog 11 #[.agg (tc t), .slice A n c] w (WalkOut w (Seqr.walk t ls)) := by
  have hlen := h.size
  obtain ⟨t1, t2, t3⟩ := two_alloc w (.cells #[.int .i64 (t.who : Int), .int .i64 t.used] 23) (.cells #[.int .i64 0, .int .i64 0] 23)
  obtain ⟨W, hW⟩ : ∃ W, (w.alloc (.cells #[.int .i64 (t.who : Int), .int .i64 t.used] 23)).alloc (.cells #[.int .i64 0, .int .i64 0] 23) = W := ⟨_, rfl⟩
  have HSW : Hid (W.heap.size = w.heap.size + 2) := by rw [← hW, size_alloc, size_alloc]; exact hidT rfl
  rw [hW] at t1 t2 t3
  have HW := hidT hW
  obtain ⟨q, hq⟩ : ∃ q, w.heap.size = q := ⟨_, rfl⟩
  have HQ := hidT hq
  rw [hq] at t1 t2
  have HF := hidT (sqFresh_any A n c ls W (h.below t3) hsm hn)
  have T1 := hidT t1
  have T2 := hidT t2
  have T3 := hidT t3
  have HOK := hidT hok
  have HSM := hidT hsm
  have HLEN := hidT hlen
  have HU0 := hidT hu0
  have HU1 := hidT hu1
  have HMU := hidT hmu
  clear t1 t2 t3 hW h hok hsm hlen hu0 hu1 hmu
  go_enter Try.func11, Try.ntmps11
  go_wp2_with fail
  rw [HW.out]
  clear hq
  with_reducible refine HF.out.mono ?_
  intro e1 w1 hfr
  obtain ⟨A1, n1, c1, us1, lo, rfl, ho1, ha1, hlo1, hWl, hlw, hb1⟩ := hfr
  have hn1 : n1 = n := by have := ha1.1; have := ho1.2.1; have := HLEN.out; omega
  subst hn1
  have hpos : 0 < n1 := by have := HOK.out.1; have := HLEN.out; omega
  obtain ⟨g, rfl, hgW, hgl⟩ := ho1.form hpos
  have hglo := hlo1 g 0 rfl
  have HR1 : Hid (RdL (fun _ => True) w1 (some ⟨g, 0, none⟩) n1 c1 ls) := hidT ⟨us1, ho1.same, ha1.mono fun _ _ => trivial, Within.any _ _⟩
  have hall : ls.all Lane.right = true := List.all_eq_true.2 HOK.out.2
  have HCT := hidT (containsL_any (some ⟨g, 0, none⟩) n1 c1 ls w1 HR1.out true hall)
  have Y1 := hidT (keepH T1.out hb1)
  have Y2 := hidT (keepH T2.out hb1)
  have HB1 := hidT (bthen T3.out hb1)
  have HO1 := hidT ho1
  have HA1 := hidT ha1
  have HGW := hidT hgW
  have HGLO := hidT hglo
  have HWL := hidT hWl
  have HLW := hidT hlw
  clear ho1 ha1 hlo1 hWl hlw hb1 hgW hgl hglo hall hpos HF
  go_wp2_with fail
  with_reducible refine HCT.out.mono ?_
  rintro e2 w2 ⟨rfl, hb2⟩
  have Z1 := hidT (keepH Y1.out hb2)
  have Z2 := hidT (keepH Y2.out hb2)
  have hs2 : w1.heap.size ≤ w2.heap.size := hb2.size
  have HCW := hidT (sqWalk_any q g n1 c1 W.heap.size (Hi lo) w2 t ls us1 Z1.out (HO1.out.later hb2) (HA1.out.below hb2) HOK.out HSM.out hn HU0.out HU1.out HMU.out (by show ¬ lo ≤ g; have := HGLO.out; omega) (by show ¬ lo ≤ q; have := HWL.out; have := HSW.out; have := HQ.out; omega) (fun b hb => by show lo ≤ b; have := HLW.out; omega) (by have := HGW.out; have := HSW.out; have := HQ.out; omega))
  have HB2 := hidT (bthen HB1.out hb2)
  have HS2 := hidT hs2
  clear hb2 hs2 HCT
  go_wp2_with fail
  with_reducible refine HCW.out.mono ?_
  rintro e3 w3 ⟨D, m, d, rs3, rfl, hq3, ho3, ha3, hd3, hk3⟩
  have hgw := HGW.out
  have hsw := HSW.out
  have hqq := HQ.out
  have hlw := HLW.out
  have hwl := HWL.out
  have hs2 := HS2.out
  have y3 := hk3.block Z2.out (by omega) (by omega)
  obtain ⟨c0, c1'⟩ := cells2 hq3
  have HO3 := hidT ho3
  have HA3 := hidT ha3
  have HD3 := hidT hd3
  have HB3 := hidT (hk3.below HB2.out (show w.heap.size ≤ g by omega) (show w.heap.size ≤ q by omega) (by omega))
  clear hq3 ho3 ha3 hd3 hk3 hgw hsw hqq hlw hwl hs2 HCW
  go_wp2_with (
    refine wpList_stI rfl 23 _ _ rfl (q + 1) #[.int .i64 ((Seqr.walk t ls).1.who : Int), .int .i64 (Seqr.walk t ls).1.used] rfl rfl _ _ y3 sizeTn rfl (by simp [Value.oneCell']) ?_
    intro w7 hg7 hbut hbel)
  obtain ⟨e0, e1⟩ := cells2 hg7
  have hgw := HGW.out
  have hsw := HSW.out
  have hqq := HQ.out
  have hwl := HWL.out
  have hlw := HLW.out
  have hs2 := HS2.out
  exact bodyPost_ret (v := .tuple #[.agg #[.int .i64 ((Seqr.walk t ls).1.who : Int), .int .i64 (Seqr.walk t ls).1.used], .slice (some ⟨g, 0, none⟩) n1 c1, .slice D m d]) (by simp [results, Try.results11, go_sem, e0, e1]) rfl
    ⟨_, _, _, _, _, _, rfl, ⟨rs3, (HO3.out.butNe hbut (by omega)).same, (HA3.out.keptS (KeptS.hi hbut (by omega))).mono fun b hb => by have h1 : lo ≤ b := hb; show w.heap.size ≤ b; omega, Within.of fun b o e => by injection e with e; injection e with e e2; omega⟩,
      (HD3.out.keptS (KeptS.hi hbut (by omega))).mono fun b hb => by have h1 : w2.heap.size ≤ b := hb; show w.heap.size ≤ b; omega, hbel _ _ HB3.out (by omega)⟩
end Go.Proofs.Ytdchgnmkeefffaa
