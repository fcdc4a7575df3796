/- The document's example of package win. -/
import Derived.Test.YtkkkfaelpmmffaaWin9
import Derived.Deep.Cut
set_option maxRecDepth 100000
namespace Go.Proofs.Ytkkkfaelpmmffaa
open Go.RowKit
set_option linter.unusedVariables false

theorem wtwo2 {w : World} {p2 : Nat} (h2 : w.heap[p2]? = some (.cells kz 24)) (v0 v1 : Value) : ((w.setCell ⟨p2, 0, none⟩ v0).setCell ⟨p2, 1, none⟩ v1).heap[p2]? = some (.cells #[v0, v1] 24 (0, 0)) := by
  have x1 : (w.setCell ⟨p2, 0, none⟩ v0).heap[p2]? = some (.cells #[v0, .slice none 0 0] 24 (0, 0)) := heap_setCell_same w p2 0 _ _ _ h2
  exact heap_setCell_same _ p2 1 _ _ _ x1
/-- What the example's first statement leaves. -/
def WShown1 (W : World) (s2 s3 : Value) (w' : World) : Prop := ∃ p2 A n c, s2 = .pointer (some ⟨p2, 0, none⟩) ∧ s3 = .bool true ∧
  w'.heap[p2]? = some (.cells #[.int .i64 1, .slice A n c] 24 (0, 0)) ∧ FrK w' W.heap.size (.agg #[.int .i64 1, .slice A n c]) ⟨1, [Keep.tok 2]⟩ ∧ W.heap.size ≤ p2 ∧ Below W.heap.size W w'
set_option maxHeartbeats 8000000 in
theorem wshown_any (w : World) : Calls Try.prog 8 #[] w (Yes w) := by
  have y0 := alloc_at w (.cells #[.int .i64 3, .int .i64 2, .int .i64 0, .int .i64 0, .int .i64 0, .int .i64 0, .slice none 0 0, .slice none 0 0] 28) _ rfl
  have hb0 := nkeep w (.cells #[.int .i64 3, .int .i64 2, .int .i64 0, .int .i64 0, .int .i64 0, .int .i64 0, .slice none 0 0, .slice none 0 0] 28)
  have hsz := size_alloc w (.cells #[.int .i64 3, .int .i64 2, .int .i64 0, .int .i64 0, .int .i64 0, .int .i64 0, .slice none 0 0, .slice none 0 0] 28)
  obtain ⟨W, hW⟩ : ∃ W, w.alloc (.cells #[.int .i64 3, .int .i64 2, .int .i64 0, .int .i64 0, .int .i64 0, .int .i64 0, .slice none 0 0, .slice none 0 0] 28) = W := ⟨_, rfl⟩
  rw [hW] at y0 hb0 hsz
  have HW := hidT hW
  have Y0 := hidT y0
  have HB0 := hidT hb0
  have HSZ := hidT hsz
  have HP : Hid (∀ w', Calls Try.prog 17 #[.agg #[.int .i64 1, .slice none 0 0], .agg #[.int .i64 3, .int .i64 2, .int .i64 0, .int .i64 0, .int .i64 0, .int .i64 0, .slice none 0 0, .slice none 0 0], .int .i64 9] w' (PutIs w' true ⟨1, [Keep.tok 2]⟩)) := hidT fun w' => by
    have h := wput_right _ _ ⟨1, []⟩ (Keep.tok 2) 9 w' (IsKeep.empty w' 1) (IsItem.tokq w' 2) (by decide) (by decide)
    have e1 : Win.takes ⟨1, []⟩ (Keep.tok 2) 9 = true := by decide
    have e2 : Win.put ⟨1, []⟩ (Keep.tok 2) 9 = ⟨1, [Keep.tok 2]⟩ := by decide
    rw [e1, e2] at h
    exact h
  clear y0 hb0 hW hsz
  go_enter Try.func8, Try.ntmps8
  go_upto_region 2 with fail
  rw [HW.out]
  obtain ⟨g, hg⟩ : ∃ g, w.heap.size = g := ⟨_, rfl⟩
  rw [hg]
  rw [hg] at Y0 HSZ
  have HG := hidT hg
  clear hg
  go_cut [2, 3] from 23 (fun s2 s3 wx => WShown1 W s2 s3 wx)
  case first =>
    have y0 := Y0.out
    have kk : ∀ w', Below W.heap.size W w' → w'.heap[g]? = some (.cells #[.int .i64 3, .int .i64 2, .int .i64 0, .int .i64 0, .int .i64 0, .int .i64 0, .slice none 0 0, .slice none 0 0] 28 (0, 0)) := fun w' hb => keepH y0 hb
    have k0 := fun w' hb => (cells8 (kk w' hb)).1
    have k1 := fun w' hb => (cells8 (kk w' hb)).2.1
    have k2 := fun w' hb => (cells8 (kk w' hb)).2.2.1
    have k3 := fun w' hb => (cells8 (kk w' hb)).2.2.2.1
    have k4 := fun w' hb => (cells8 (kk w' hb)).2.2.2.2.1
    have k5 := fun w' hb => (cells8 (kk w' hb)).2.2.2.2.2.1
    have k6 := fun w' hb => (cells8 (kk w' hb)).2.2.2.2.2.2.1
    have k7 := fun w' hb => (cells8 (kk w' hb)).2.2.2.2.2.2.2
    have D0 : Below W.heap.size W W := Below.refl _ _
    clear kk y0
    go_region_held_law (fun w' => Below W.heap.size W w')
      (repeat' (first | exact hbX | exact hb2 | exact hb1 | exact D0 | refine Below.drew ?_ | refine nkeep_alloc ?_ _))
      (first
        | (go_at_call 15
           with_reducible refine (wnew_any _).mono ?_
           rintro e1 w1 ⟨rfl, hb1'⟩
           have hb1u := undrew hb1'
           have hb1 : Below W.heap.size W w1 := (by refine bthen ?_ hb1'; repeat' (first | exact D0 | refine Below.drew ?_ | refine nkeep_alloc ?_ _)))
        | (go_at_call 17
           with_reducible refine (HP.out _).mono ?_
           rintro e2 w2 ⟨v2, rfl, hK2, hb2'⟩
           obtain ⟨hcw, hb2⟩ := bstart (W := W) hb2' (by repeat' (first | exact hb1 | refine Below.drew ?_ | refine nkeep_alloc ?_ _))
           clear k0 k1 k2 k3 k4 k5 k6 k7
           obtain ⟨A, n, c, us, ev2, hr2, ha2, hf2⟩ := id hK2
           have ev2' : v2 = .agg #[.int .i64 1, .slice A n c] := ev2
           clear ev2 hr2 ha2 hf2
           subst ev2'
           (first
             | (have hh2 : w2.heap[W.heap.size]? = some (.cells kz 24) ∧ W.heap.size < _ := keepLt (keepH (alloc_at _ _ _ rfl) hb1u) hb2'
                obtain ⟨h2, l2Y⟩ := hh2
                have hp2 : W.heap.size ≤ W.heap.size := Nat.le_refl _
                have f20 := no_frozen h2 0
                have f21 := no_frozen h2 1
                obtain ⟨c20, c21⟩ := cells2 h2
                have hbX : Below W.heap.size W ((w2.setCell ⟨W.heap.size, 0, none⟩ (.int .i64 1)).setCell ⟨W.heap.size, 1, none⟩ (.slice A n c)) := (hb2.setCell (p := ⟨W.heap.size, 0, none⟩) hp2 _).setCell (p := ⟨W.heap.size, 1, none⟩) hp2 _)
             | (have hh2 : w2.heap[w1.heap.size]? = some (.cells kz 24) ∧ w1.heap.size < _ := keepLt (alloc_at _ _ _ rfl) hb2'
                obtain ⟨h2, l2Y⟩ := hh2
                have hp2 : W.heap.size ≤ w1.heap.size := hb1.size
                have f20 := no_frozen h2 0
                have f21 := no_frozen h2 1
                obtain ⟨c20, c21⟩ := cells2 h2
                have hbX : Below W.heap.size W ((w2.setCell ⟨w1.heap.size, 0, none⟩ (.int .i64 1)).setCell ⟨w1.heap.size, 1, none⟩ (.slice A n c)) := (hb2.setCell (p := ⟨w1.heap.size, 0, none⟩) hp2 _).setCell (p := ⟨w1.heap.size, 1, none⟩) hp2 _)
             | skip))
        | fail)
    all_goals
      go_wp2_with fail
      go_meet
    all_goals first
      | exact ⟨_, A, n, c, rfl, rfl, wtwo2 h2 _ _, ((hK2.but l2Y (But.setCell _ _ 0 _)).but l2Y (But.setCell _ _ 1 _)).mono hcw.size, hp2, hbX⟩
      | exact ⟨_, A, n, c, rfl, rfl, alloc_at w2 _ _ rfl, (hK2.below (nkeep w2 _)).mono hcw.size, hb2.size, nkeep_alloc hb2 _⟩
  case rest =>
    obtain ⟨p2, A, n, c, rfl, rfl, x2, hK, hpl, hbc⟩ := hcut
    have yt := keepH Y0.out hbc
    have hb1 := bthen HB0.out hbc
    have hK1 := hK.mono (show g + 1 ≤ W.heap.size by rw [HSZ.out]; exact Nat.le_refl _)
    have HPG : Hid (g < p2) := hidT (by have := HSZ.out; omega)
    clear HP HW Y0
    have XA_0 := hidT (x2)
    have XT_0 := hidT (yt)
    have KA_0 := hidT (hK1)
    have B_0 := hidT (hb1)
    clear x2 yt hK hK1 hb1 hbc hpl
    obtain ⟨a0, a1⟩ := cells2 XA_0.out
    have hp := wpeek_any (.agg #[.int .i64 1, .slice A n c]) ⟨1, [Keep.tok 2]⟩ wc (FrK.is KA_0.out) (by decide) (right_small (by decide))
    rw [show Win.peek ⟨1, [Keep.tok 2]⟩ = none from by decide] at hp
    go_wp2_with fail
    with_reducible refine hp.mono ?_
    rintro e w3 ⟨v3, rfl, hI3, hb3⟩
    have XA_1 := hidT (keepH XA_0.out hb3)
    have XT_1 := hidT (keepH XT_0.out hb3)
    have KA_1 := hidT (KA_0.out.below hb3)
    have B_1 := hidT (bthen B_0.out hb3)
    clear XA_0 XT_0 KA_0 B_0
    clear hb3 hp a0 a1
    obtain ⟨LA3, ln3, lc3, BA3, bn3, bc3, eu3, hl3, hbb3, hla3, hba3⟩ := id hI3
    clear hl3 hbb3 hla3 hba3
    have eu3' : v3 = .agg #[.int .i64 0, .int .i64 0, .int .i64 0, .int .i64 0, .int .i64 0, .int .i64 0, .slice LA3 ln3 lc3, .slice BA3 bn3 bc3] := eu3
    clear eu3
    subst eu3'
    clear hI3
    have t1 := alloc_at w3 (.cells #[.int .i64 0, .int .i64 0, .int .i64 0, .int .i64 0, .int .i64 0, .int .i64 0, .slice LA3 ln3 lc3, .slice BA3 bn3 bc3] 28) _ rfl
    have t3 := nkeep w3 (.cells #[.int .i64 0, .int .i64 0, .int .i64 0, .int .i64 0, .int .i64 0, .int .i64 0, .slice LA3 ln3 lc3, .slice BA3 bn3 bc3] 28)
    obtain ⟨Vw3, hVw3⟩ : ∃ W, w3.alloc (.cells #[.int .i64 0, .int .i64 0, .int .i64 0, .int .i64 0, .int .i64 0, .int .i64 0, .slice LA3 ln3 lc3, .slice BA3 bn3 bc3] 28) = W := ⟨_, rfl⟩
    rw [hVw3] at t1 t3
    have HVw3 := hidT hVw3
    have XA_2 := hidT (keepH XA_1.out t3)
    have XT_2 := hidT (keepH XT_1.out t3)
    have KA_2 := hidT (KA_1.out.below t3)
    have B_2 := hidT (bthen B_1.out t3)
    clear XA_1 XT_1 KA_1 B_1
    obtain ⟨gw3, hgw3⟩ : ∃ p, w3.heap.size = p := ⟨_, rfl⟩
    rw [hgw3] at t1
    have XZ_0 := hidT (t1)
    clear t1 t3 hVw3
    clear XZ_0
    obtain ⟨a0, a1⟩ := cells2 XA_2.out
    obtain ⟨t0, t1, t2, t3, t4, t5, t6, t7⟩ := cells8 XT_2.out
    have hp := wput_right (.agg #[.int .i64 1, .slice A n c]) (.agg #[.int .i64 3, .int .i64 2, .int .i64 0, .int .i64 0, .int .i64 0, .int .i64 0, .slice none 0 0, .slice none 0 0]) ⟨1, [Keep.tok 2]⟩ (Keep.tok 2) 9 Vw3 (FrK.is KA_2.out) (IsItem.tokq Vw3 _) (by decide) (by decide)
    rw [show Win.takes ⟨1, [Keep.tok 2]⟩ (Keep.tok 2) 9 = false from by decide, show Win.put ⟨1, [Keep.tok 2]⟩ (Keep.tok 2) 9 = ⟨1, [Keep.tok 2]⟩ from by decide] at hp
    rw [← HVw3.out] at a0 a1 t0 t1 t2 t3 t4 t5 t6 t7
    go_wp2_with fail
    rw [HVw3.out]
    clear hgw3
    with_reducible refine hp.mono ?_
    rintro e w4 ⟨v4, rfl, hK4, hb4⟩
    have XA_3 := hidT (keepH XA_2.out hb4)
    have XT_3 := hidT (keepH XT_2.out hb4)
    have KA_3 := hidT (KA_2.out.below hb4)
    have B_3 := hidT (bthen B_2.out hb4)
    clear XA_2 XT_2 KA_2 B_2
    clear hb4 hp a0 a1 t0 t1 t2 t3 t4 t5 t6 t7
    obtain ⟨A4, n4, c4, us4, ev4, hr4, ha4, hf4⟩ := id hK4
    clear hr4 ha4 hf4
    have ev4' : v4 = .agg #[.int .i64 1, .slice A4 n4 c4] := ev4
    clear ev4
    subst ev4'
    clear hK4
    have t1 := alloc_at w4 (.cells #[.int .i64 1, .slice A4 n4 c4] 24) _ rfl
    have t3 := nkeep w4 (.cells #[.int .i64 1, .slice A4 n4 c4] 24)
    obtain ⟨Vw4, hVw4⟩ : ∃ W, w4.alloc (.cells #[.int .i64 1, .slice A4 n4 c4] 24) = W := ⟨_, rfl⟩
    rw [hVw4] at t1 t3
    have HVw4 := hidT hVw4
    have XA_4 := hidT (keepH XA_3.out t3)
    have XT_4 := hidT (keepH XT_3.out t3)
    have KA_4 := hidT (KA_3.out.below t3)
    have B_4 := hidT (bthen B_3.out t3)
    clear XA_3 XT_3 KA_3 B_3
    obtain ⟨gw4, hgw4⟩ : ∃ p, w4.heap.size = p := ⟨_, rfl⟩
    rw [hgw4] at t1
    have XY_0 := hidT (t1)
    clear t1 t3 hVw4
    clear XY_0
    obtain ⟨a0, a1⟩ := cells2 XA_4.out
    have hp := wput_right (.agg #[.int .i64 1, .slice A n c]) (.agg #[.int .i64 3, .int .i64 9, .int .i64 0, .int .i64 0, .int .i64 0, .int .i64 0, .slice none 0 0, .slice none 0 0]) ⟨1, [Keep.tok 2]⟩ (Keep.tok 9) 8 Vw4 (FrK.is KA_4.out) (IsItem.tokq Vw4 _) (by decide) (by decide)
    rw [show Win.takes ⟨1, [Keep.tok 2]⟩ (Keep.tok 9) 8 = false from by decide, show Win.put ⟨1, [Keep.tok 2]⟩ (Keep.tok 9) 8 = ⟨1, [Keep.tok 2]⟩ from by decide] at hp
    rw [← HVw4.out] at a0 a1
    go_wp2_with fail
    rw [HVw4.out]
    clear hgw4
    with_reducible refine hp.mono ?_
    rintro e w5 ⟨v5, rfl, hK5, hb5⟩
    have XA_5 := hidT (keepH XA_4.out hb5)
    have XT_5 := hidT (keepH XT_4.out hb5)
    have KA_5 := hidT (KA_4.out.below hb5)
    have B_5 := hidT (bthen B_4.out hb5)
    clear XA_4 XT_4 KA_4 B_4
    clear hb5 hp a0 a1
    obtain ⟨A5, n5, c5, us5, ev5, hr5, ha5, hf5⟩ := id hK5
    clear hr5 ha5 hf5
    have ev5' : v5 = .agg #[.int .i64 1, .slice A5 n5 c5] := ev5
    clear ev5
    subst ev5'
    clear hK5
    have t1 := alloc_at w5 (.cells #[.int .i64 1, .slice A5 n5 c5] 24) _ rfl
    have t3 := nkeep w5 (.cells #[.int .i64 1, .slice A5 n5 c5] 24)
    obtain ⟨Vw5, hVw5⟩ : ∃ W, w5.alloc (.cells #[.int .i64 1, .slice A5 n5 c5] 24) = W := ⟨_, rfl⟩
    rw [hVw5] at t1 t3
    have HVw5 := hidT hVw5
    have XA_6 := hidT (keepH XA_5.out t3)
    have XT_6 := hidT (keepH XT_5.out t3)
    have KA_6 := hidT (KA_5.out.below t3)
    have B_6 := hidT (bthen B_5.out t3)
    clear XA_5 XT_5 KA_5 B_5
    obtain ⟨gw5, hgw5⟩ : ∃ p, w5.heap.size = p := ⟨_, rfl⟩
    rw [hgw5] at t1
    have XY_1 := hidT (t1)
    clear t1 t3 hVw5
    clear XY_1
    go_upto_region 6 with fail
    rw [HVw5.out]
    clear hgw5
    have f1 := no_frozen XT_6.out 1
    obtain ⟨t0, t1, t2, t3, t4, t5, t6, t7⟩ := cells8 XT_6.out
    have z0 : (Vw5.setCell ⟨g, 1, none⟩ (.int .i64 1)).heap[g]? = some (.cells #[.int .i64 3, .int .i64 1, .int .i64 0, .int .i64 0, .int .i64 0, .int .i64 0, .slice none 0 0, .slice none 0 0] 28 (0, 0)) := heap_setCell_same Vw5 g 1 _ _ _ XT_6.out
    have zb : But g Vw5 (Vw5.setCell ⟨g, 1, none⟩ (.int .i64 1)) := But.setCell Vw5 g 1 _
    have za := (zb.2 p2 (Nat.ne_of_gt HPG.out)).trans XA_6.out
    have zk := FrK.but KA_6.out (Nat.lt_succ_self g) zb
    have zB := Below.setCell (p := ⟨g, 1, none⟩) B_6.out (show w.heap.size ≤ g by rw [HG.out]; exact Nat.le_refl _) (.int .i64 1)
    clear XT_6
    clear XA_6
    clear KA_6
    clear B_6
    have XT_7 := hidT (z0)
    have XA_7 := hidT (za)
    have KA_7 := hidT (zk)
    have B_7 := hidT (zB)
    clear z0 za zk zB zb
    go_upto_region 7 with fail
    clear t0 t1 t2 t3 t4 t5 t6 t7 f1
    generalize Vw5.setCell ⟨g, 1, none⟩ (.int .i64 1) = w6 at *
    obtain ⟨a0, a1⟩ := cells2 XA_7.out
    obtain ⟨t0, t1, t2, t3, t4, t5, t6, t7⟩ := cells8 XT_7.out
    have hp := wput_right (.agg #[.int .i64 1, .slice A n c]) (.agg #[.int .i64 3, .int .i64 1, .int .i64 0, .int .i64 0, .int .i64 0, .int .i64 0, .slice none 0 0, .slice none 0 0]) ⟨1, [Keep.tok 2]⟩ (Keep.tok 1) 9 w6 (FrK.is KA_7.out) (IsItem.tokq w6 _) (by decide) (by decide)
    rw [show Win.takes ⟨1, [Keep.tok 2]⟩ (Keep.tok 1) 9 = true from by decide, show Win.put ⟨1, [Keep.tok 2]⟩ (Keep.tok 1) 9 = ⟨1, [Keep.tok 1, Keep.tok 2]⟩ from by decide] at hp
    go_wp2_with fail
    with_reducible refine hp.mono ?_
    rintro e w7 ⟨v7, rfl, hK7, hb7⟩
    have XT_8 := hidT (keepH XT_7.out hb7)
    have XA_8 := hidT (keepH XA_7.out hb7)
    have KA_8 := hidT (KA_7.out.below hb7)
    have B_8 := hidT (bthen B_7.out hb7)
    clear XT_7 XA_7 KA_7 B_7
    clear hb7 hp a0 a1 t0 t1 t2 t3 t4 t5 t6 t7
    obtain ⟨A7, n7, c7, us7, ev7, hr7, ha7, hf7⟩ := id hK7
    clear hr7 ha7 hf7
    have ev7' : v7 = .agg #[.int .i64 1, .slice A7 n7 c7] := ev7
    clear ev7
    subst ev7'
    clear XT_8
    clear XA_8
    clear KA_8
    have t1 := alloc_at w7 (.cells #[.int .i64 1, .slice A7 n7 c7] 24) _ rfl
    have t3 := nkeep w7 (.cells #[.int .i64 1, .slice A7 n7 c7] 24)
    obtain ⟨Vw7, hVw7⟩ : ∃ W, w7.alloc (.cells #[.int .i64 1, .slice A7 n7 c7] 24) = W := ⟨_, rfl⟩
    rw [hVw7] at t1 t3
    have HVw7 := hidT hVw7
    have B_9 := hidT (bthen B_8.out t3)
    clear B_8
    have KB_0 := hidT (hK7.is.below t3)
    obtain ⟨gw7, hgw7⟩ : ∃ p, w7.heap.size = p := ⟨_, rfl⟩
    rw [hgw7] at t1
    have XB_0 := hidT (t1)
    clear t1 t3 hVw7
    clear hK7
    obtain ⟨a0, a1⟩ := cells2 XB_0.out
    have hp : Calls Try.prog 23 #[(.agg #[.int .i64 1, .slice A7 n7 c7]), .int .i64 3] Vw7 (fun e w' => e = .returned (.tuple #[.int .i64 3, .int .i64 1]) ∧ Below Vw7.heap.size Vw7 w') := by
      have h := wgap_any (.agg #[.int .i64 1, .slice A7 n7 c7]) ⟨1, [Keep.tok 1, Keep.tok 2]⟩ 3 Vw7 KB_0.out (by decide)
      rw [show Win.gap ⟨1, [Keep.tok 1, Keep.tok 2]⟩ 3 = (3, 1) from by decide] at h
      exact h
    rw [← HVw7.out] at a0 a1
    go_wp2_with fail
    rw [HVw7.out]
    clear hgw7
    with_reducible refine hp.mono ?_
    rintro e w8 ⟨rfl, hb8⟩
    have B_10 := hidT (bthen B_9.out hb8)
    have KB_1 := hidT (KB_0.out.below hb8)
    have XB_1 := hidT (keepH XB_0.out hb8)
    clear B_9 KB_0 XB_0
    clear hb8 hp a0 a1
    obtain ⟨a0, a1⟩ := cells2 XB_1.out
    have hp := wtake_any (.agg #[.int .i64 1, .slice A7 n7 c7]) ⟨1, [Keep.tok 1, Keep.tok 2]⟩ w8 KB_1.out (by decide) (right_small (by decide))
    rw [show Win.peek ⟨1, [Keep.tok 1, Keep.tok 2]⟩ = some (Keep.tok 1) from by decide, show Win.take ⟨1, [Keep.tok 1, Keep.tok 2]⟩ = ⟨2, [Keep.tok 2]⟩ from by decide] at hp
    go_wp2_with fail
    with_reducible refine hp.mono ?_
    rintro e w9 ⟨u9, v9, rfl, hI9, hK9, hb9⟩
    have B_11 := hidT (bthen B_10.out hb9)
    have KB_2 := hidT (KB_1.out.below hb9)
    have XB_2 := hidT (keepH XB_1.out hb9)
    clear B_10 KB_1 XB_1
    clear hb9 hp a0 a1
    obtain ⟨LA9, ln9, lc9, BA9, bn9, bc9, eu9, hl9, hbb9, hla9, hba9⟩ := id hI9
    clear hl9 hbb9 hla9 hba9
    have eu9' : u9 = .agg #[.int .i64 3, .int .i64 1, .int .i64 0, .int .i64 0, .int .i64 0, .int .i64 0, .slice LA9 ln9 lc9, .slice BA9 bn9 bc9] := eu9
    clear eu9
    subst eu9'
    obtain ⟨A9, n9, c9, us9, ev9, hr9, ha9, hf9⟩ := id hK9
    clear hr9 ha9 hf9
    have ev9' : v9 = .agg #[.int .i64 2, .slice A9 n9 c9] := ev9
    clear ev9
    subst ev9'
    obtain ⟨t1, t2, t3⟩ := two_alloc w9 (.cells #[.int .i64 3, .int .i64 1, .int .i64 0, .int .i64 0, .int .i64 0, .int .i64 0, .slice LA9 ln9 lc9, .slice BA9 bn9 bc9] 28) (.cells #[.int .i64 2, .slice A9 n9 c9] 24)
    obtain ⟨Vw9, hVw9⟩ : ∃ W, (w9.alloc (.cells #[.int .i64 3, .int .i64 1, .int .i64 0, .int .i64 0, .int .i64 0, .int .i64 0, .slice LA9 ln9 lc9, .slice BA9 bn9 bc9] 28)).alloc (.cells #[.int .i64 2, .slice A9 n9 c9] 24) = W := ⟨_, rfl⟩
    rw [hVw9] at t1 t2 t3
    have HVw9 := hidT hVw9
    have B_12 := hidT (bthen B_11.out t3)
    have KB_3 := hidT (KB_2.out.below t3)
    have XB_3 := hidT (keepH XB_2.out t3)
    clear B_11 KB_2 XB_2
    have KC_0 := hidT (hK9.is.below t3)
    obtain ⟨gw9, hgw9⟩ : ∃ p, w9.heap.size = p := ⟨_, rfl⟩
    rw [hgw9] at t1 t2
    have XP_0 := hidT (t1)
    have XC_0 := hidT (t2)
    clear t1 t3 hVw9 t2
    clear hI9 hK9
    obtain ⟨a0, a1⟩ := cells2 XC_0.out
    have hp := wtake_any (.agg #[.int .i64 2, .slice A9 n9 c9]) ⟨2, [Keep.tok 2]⟩ Vw9 KC_0.out (by decide) (right_small (by decide))
    rw [show Win.peek ⟨2, [Keep.tok 2]⟩ = some (Keep.tok 2) from by decide, show Win.take ⟨2, [Keep.tok 2]⟩ = ⟨3, []⟩ from by decide] at hp
    rw [← HVw9.out] at a0 a1
    go_wp2_with fail
    rw [HVw9.out]
    clear hgw9
    with_reducible refine hp.mono ?_
    rintro e w10 ⟨u10, v10, rfl, hI10, hK10, hb10⟩
    have B_13 := hidT (bthen B_12.out hb10)
    have KB_4 := hidT (KB_3.out.below hb10)
    have XB_4 := hidT (keepH XB_3.out hb10)
    have KC_1 := hidT (KC_0.out.below hb10)
    have XP_1 := hidT (keepH XP_0.out hb10)
    have XC_1 := hidT (keepH XC_0.out hb10)
    clear B_12 KB_3 XB_3 KC_0 XP_0 XC_0
    clear hb10 hp a0 a1
    obtain ⟨LA10, ln10, lc10, BA10, bn10, bc10, eu10, hl10, hbb10, hla10, hba10⟩ := id hI10
    clear hl10 hbb10 hla10 hba10
    have eu10' : u10 = .agg #[.int .i64 3, .int .i64 2, .int .i64 0, .int .i64 0, .int .i64 0, .int .i64 0, .slice LA10 ln10 lc10, .slice BA10 bn10 bc10] := eu10
    clear eu10
    subst eu10'
    obtain ⟨A10, n10, c10, us10, ev10, hr10, ha10, hf10⟩ := id hK10
    clear hr10 ha10 hf10
    have ev10' : v10 = .agg #[.int .i64 3, .slice A10 n10 c10] := ev10
    clear ev10
    subst ev10'
    obtain ⟨t1, t2, t3⟩ := two_alloc w10 (.cells #[.int .i64 3, .int .i64 2, .int .i64 0, .int .i64 0, .int .i64 0, .int .i64 0, .slice LA10 ln10 lc10, .slice BA10 bn10 bc10] 28) (.cells #[.int .i64 3, .slice A10 n10 c10] 24)
    obtain ⟨Vw10, hVw10⟩ : ∃ W, (w10.alloc (.cells #[.int .i64 3, .int .i64 2, .int .i64 0, .int .i64 0, .int .i64 0, .int .i64 0, .slice LA10 ln10 lc10, .slice BA10 bn10 bc10] 28)).alloc (.cells #[.int .i64 3, .slice A10 n10 c10] 24) = W := ⟨_, rfl⟩
    rw [hVw10] at t1 t2 t3
    have HVw10 := hidT hVw10
    have B_14 := hidT (bthen B_13.out t3)
    have KB_5 := hidT (KB_4.out.below t3)
    have XB_5 := hidT (keepH XB_4.out t3)
    have KC_2 := hidT (KC_1.out.below t3)
    have XP_2 := hidT (keepH XP_1.out t3)
    have XC_2 := hidT (keepH XC_1.out t3)
    clear B_13 KB_4 XB_4 KC_1 XP_1 XC_1
    have KD_0 := hidT (hK10.is.below t3)
    obtain ⟨gw10, hgw10⟩ : ∃ p, w10.heap.size = p := ⟨_, rfl⟩
    rw [hgw10] at t1 t2
    have XQ_0 := hidT (t1)
    have XD_0 := hidT (t2)
    clear t1 t3 hVw10 t2
    clear hI10 hK10
    obtain ⟨a0, a1⟩ := cells2 XD_0.out
    have hp := wtake_any (.agg #[.int .i64 3, .slice A10 n10 c10]) ⟨3, []⟩ Vw10 KD_0.out (by decide) (right_small (by decide))
    rw [show Win.peek ⟨3, []⟩ = none from by decide, show Win.take ⟨3, []⟩ = ⟨3, []⟩ from by decide] at hp
    rw [← HVw10.out] at a0 a1
    go_wp2_with fail
    rw [HVw10.out]
    clear hgw10
    with_reducible refine hp.mono ?_
    rintro e w11 ⟨u11, v11, rfl, hI11, hK11, hb11⟩
    have B_15 := hidT (bthen B_14.out hb11)
    have KB_6 := hidT (KB_5.out.below hb11)
    have XB_6 := hidT (keepH XB_5.out hb11)
    have KC_3 := hidT (KC_2.out.below hb11)
    have XP_3 := hidT (keepH XP_2.out hb11)
    have XC_3 := hidT (keepH XC_2.out hb11)
    have KD_1 := hidT (KD_0.out.below hb11)
    have XQ_1 := hidT (keepH XQ_0.out hb11)
    have XD_1 := hidT (keepH XD_0.out hb11)
    clear B_14 KB_5 XB_5 KC_2 XP_2 XC_2 KD_0 XQ_0 XD_0
    clear hb11 hp a0 a1
    obtain ⟨LA11, ln11, lc11, BA11, bn11, bc11, eu11, hl11, hbb11, hla11, hba11⟩ := id hI11
    clear hl11 hbb11 hla11 hba11
    have eu11' : u11 = .agg #[.int .i64 0, .int .i64 0, .int .i64 0, .int .i64 0, .int .i64 0, .int .i64 0, .slice LA11 ln11 lc11, .slice BA11 bn11 bc11] := eu11
    clear eu11
    subst eu11'
    obtain ⟨A11, n11, c11, us11, ev11, hr11, ha11, hf11⟩ := id hK11
    clear hr11 ha11 hf11
    have ev11' : v11 = .agg #[.int .i64 3, .slice A11 n11 c11] := ev11
    clear ev11
    subst ev11'
    obtain ⟨t1, t2, t3⟩ := two_alloc w11 (.cells #[.int .i64 0, .int .i64 0, .int .i64 0, .int .i64 0, .int .i64 0, .int .i64 0, .slice LA11 ln11 lc11, .slice BA11 bn11 bc11] 28) (.cells #[.int .i64 3, .slice A11 n11 c11] 24)
    obtain ⟨Vw11, hVw11⟩ : ∃ W, (w11.alloc (.cells #[.int .i64 0, .int .i64 0, .int .i64 0, .int .i64 0, .int .i64 0, .int .i64 0, .slice LA11 ln11 lc11, .slice BA11 bn11 bc11] 28)).alloc (.cells #[.int .i64 3, .slice A11 n11 c11] 24) = W := ⟨_, rfl⟩
    rw [hVw11] at t1 t2 t3
    have HVw11 := hidT hVw11
    have B_16 := hidT (bthen B_15.out t3)
    have KB_7 := hidT (KB_6.out.below t3)
    have XB_7 := hidT (keepH XB_6.out t3)
    have KC_4 := hidT (KC_3.out.below t3)
    have XP_4 := hidT (keepH XP_3.out t3)
    have XC_4 := hidT (keepH XC_3.out t3)
    have KD_2 := hidT (KD_1.out.below t3)
    have XQ_2 := hidT (keepH XQ_1.out t3)
    have XD_2 := hidT (keepH XD_1.out t3)
    clear B_15 KB_6 XB_6 KC_3 XP_3 XC_3 KD_1 XQ_1 XD_1
    have KE_0 := hidT (hK11.is.below t3)
    obtain ⟨gw11, hgw11⟩ : ∃ p, w11.heap.size = p := ⟨_, rfl⟩
    rw [hgw11] at t1 t2
    have XR_0 := hidT (t1)
    have XE_0 := hidT (t2)
    clear t1 t3 hVw11 t2
    clear hI11 hK11
    clear XR_0
    clear XE_0
    clear KE_0
    clear XD_2
    clear KD_2
    have p1 := (cells8 XP_4.out).2.1
    have q1 := (cells8 XQ_2.out).2.1
    obtain ⟨a0, a1⟩ := cells2 XB_7.out
    have hp := wright_any (.agg #[.int .i64 1, .slice A7 n7 c7]) ⟨1, [Keep.tok 1, Keep.tok 2]⟩ Vw11 KB_7.out
    rw [show Win.right ⟨1, [Keep.tok 1, Keep.tok 2]⟩ = true from by decide] at hp
    rw [← HVw11.out] at a0 a1 p1 q1
    go_wp2_with fail
    rw [HVw11.out]
    clear hgw11
    with_reducible refine hp.mono ?_
    rintro e w12 ⟨rfl, hb12⟩
    have B_17 := hidT (bthen B_16.out hb12)
    have KB_8 := hidT (KB_7.out.below hb12)
    have XB_8 := hidT (keepH XB_7.out hb12)
    have KC_5 := hidT (KC_4.out.below hb12)
    have XP_5 := hidT (keepH XP_4.out hb12)
    have XC_5 := hidT (keepH XC_4.out hb12)
    have XQ_3 := hidT (keepH XQ_2.out hb12)
    clear B_16 KB_7 XB_7 KC_4 XP_4 XC_4 XQ_2
    clear hb12 hp a0 a1 p1 q1
    have hp := wright_any (.agg #[.int .i64 0, .slice none 0 0]) ⟨0, []⟩ w12 (IsKeep.empty _ 0)
    rw [show Win.right ⟨0, []⟩ = false from by decide] at hp
    go_wp2_with fail
    with_reducible refine hp.mono ?_
    rintro e w13 ⟨rfl, hb13⟩
    have B_18 := hidT (bthen B_17.out hb13)
    have KB_9 := hidT (KB_8.out.below hb13)
    have XB_9 := hidT (keepH XB_8.out hb13)
    have KC_6 := hidT (KC_5.out.below hb13)
    have XP_6 := hidT (keepH XP_5.out hb13)
    have XC_6 := hidT (keepH XC_5.out hb13)
    have XQ_4 := hidT (keepH XQ_3.out hb13)
    clear B_17 KB_8 XB_8 KC_5 XP_5 XC_5 XQ_3
    clear hb13 hp 
    obtain ⟨a0, a1⟩ := cells2 XB_9.out
    have hp := wsame_is (.agg #[.int .i64 1, .slice A7 n7 c7]) (.agg #[.int .i64 1, .slice A7 n7 c7]) ⟨1, [Keep.tok 1, Keep.tok 2]⟩ ⟨1, [Keep.tok 1, Keep.tok 2]⟩ w13 KB_9.out KB_9.out true (by decide)
    go_wp2_with fail
    with_reducible refine hp.mono ?_
    rintro e w14 ⟨rfl, hb14⟩
    have B_19 := hidT (bthen B_18.out hb14)
    have KB_10 := hidT (KB_9.out.below hb14)
    have XB_10 := hidT (keepH XB_9.out hb14)
    have KC_7 := hidT (KC_6.out.below hb14)
    have XP_7 := hidT (keepH XP_6.out hb14)
    have XC_7 := hidT (keepH XC_6.out hb14)
    have XQ_5 := hidT (keepH XQ_4.out hb14)
    clear B_18 KB_9 XB_9 KC_6 XP_6 XC_6 XQ_4
    clear hb14 hp a0 a1
    obtain ⟨a0, a1⟩ := cells2 XB_10.out
    obtain ⟨c0, c1⟩ := cells2 XC_7.out
    have hp := wsame_is (.agg #[.int .i64 1, .slice A7 n7 c7]) (.agg #[.int .i64 2, .slice A9 n9 c9]) ⟨1, [Keep.tok 1, Keep.tok 2]⟩ ⟨2, [Keep.tok 2]⟩ w14 KB_10.out KC_7.out false (by decide)
    go_wp2_with fail
    with_reducible refine hp.mono ?_
    rintro e w15 ⟨rfl, hb15⟩
    have B_20 := hidT (bthen B_19.out hb15)
    have KB_11 := hidT (KB_10.out.below hb15)
    have XB_11 := hidT (keepH XB_10.out hb15)
    have KC_8 := hidT (KC_7.out.below hb15)
    have XP_8 := hidT (keepH XP_7.out hb15)
    have XC_8 := hidT (keepH XC_7.out hb15)
    have XQ_6 := hidT (keepH XQ_5.out hb15)
    clear B_19 KB_10 XB_10 KC_7 XP_7 XC_7 XQ_5
    clear hb15 hp a0 a1 c0 c1
    go_wp2
    go_ret
    exact ⟨rfl, B_20.out⟩
end Go.Proofs.Ytkkkfaelpmmffaa
