/- The document's example of package keep. -/
import Derived.Test.YtgnaecifinlnmaaKeep9
import Derived.Test.YtgnaecifinlnmaaKeep8
import Derived.Test.YtgnaecifinlnmaaKeep6
import Derived.Deep.Cut
set_option maxRecDepth 100000
namespace Go.Proofs.Ytgnaecifinlnmaa
open Go.RowKit
set_option linter.unusedVariables false

theorem keepLt {w w' : World} {g : Nat} {o : Obj} (h : w.heap[g]? = some o) (hb : Below w.heap.size w w') : w'.heap[g]? = some o ∧ g < w.heap.size := ⟨keepH h hb, blk_lt h⟩
theorem apart23 {w : World} {p2 p3 : Nat} (h2 : w.heap[p2]? = some (.cells kz 24)) (h3 : w.heap[p3]? = some (.cells zcells 28)) : p3 ≠ p2 := by
  intro e
  rw [e, h2] at h3
  injection h3 with h3
  injection h3 with _ h3
  exact absurd h3 (by decide)
theorem dpack {w : World} {p2 p3 : Nat} (h2 : w.heap[p2]? = some (.cells kz 24)) (h3 : w.heap[p3]? = some (.cells zcells 28)) (v0 v1 : Value) : ((w.setCell ⟨p2, 0, none⟩ v0).setCell ⟨p2, 1, none⟩ v1).heap[p3]? = some (.cells zcells 28) :=
  (((But.setCell w p2 0 v0).trans (But.setCell _ p2 1 v1)).2 p3 (apart23 h2 h3)).trans h3
theorem two2 {w : World} {p2 : Nat} (h2 : w.heap[p2]? = some (.cells kz 24)) (v0 v1 : Value) : ((w.setCell ⟨p2, 0, none⟩ v0).setCell ⟨p2, 1, none⟩ v1).heap[p2]? = some (.cells #[v0, v1] 24) := by
  have x1 : (w.setCell ⟨p2, 0, none⟩ v0).heap[p2]? = some (.cells #[v0, .slice none 0 0] 24 (0, 0)) := heap_setCell_same w p2 0 _ _ _ h2
  exact heap_setCell_same _ p2 1 _ _ _ x1
/-- What the example's first statement leaves. -/
def Shown1 (W : World) (s2 s3 s4 : Value) (w' : World) : Prop := ∃ p2 p3 A n c LA ln lc BA bn bc, s2 = .pointer (some ⟨p2, 0, none⟩) ∧ s3 = .pointer (some ⟨p3, 0, none⟩) ∧ s4 = .int .i64 0 ∧
  w'.heap[p2]? = some (.cells #[.int .i64 2, .slice A n c] 24 (0, 0)) ∧ w'.heap[p3]? = some (.cells #[.int .i64 3, .int .i64 1, .int .i64 0, .int .i64 0, .int .i64 0, .int .i64 0, .slice LA ln lc, .slice BA bn bc] 28 (0, 0)) ∧ IsKeep w' (.agg #[.int .i64 2, .slice A n c]) ⟨2, [Keep.tok 1]⟩ ∧ Below W.heap.size W w'
set_option maxHeartbeats 8000000 in
theorem kshown_any (w : World) : Calls Try.prog 9 #[] w (Yes w) := by
  have y0 := alloc_at w (.cells #[.int .i64 3, .int .i64 0, .int .i64 0, .int .i64 0, .int .i64 0, .int .i64 0, .slice none 0 0, .slice none 0 0] 28) _ rfl
  have hb0 := nkeep w (.cells #[.int .i64 3, .int .i64 0, .int .i64 0, .int .i64 0, .int .i64 0, .int .i64 0, .slice none 0 0, .slice none 0 0] 28)
  obtain ⟨W, hW⟩ : ∃ W, w.alloc (.cells #[.int .i64 3, .int .i64 0, .int .i64 0, .int .i64 0, .int .i64 0, .int .i64 0, .slice none 0 0, .slice none 0 0] 28) = W := ⟨_, rfl⟩
  rw [hW] at y0 hb0
  have HW := hidT hW
  have Y0 := hidT y0
  have HB0 := hidT hb0
  have HP : Hid (∀ w', Calls Try.prog 18 #[.agg #[.int .i64 1, .slice none 0 0], .agg #[.int .i64 3, .int .i64 0, .int .i64 0, .int .i64 0, .int .i64 0, .int .i64 0, .slice none 0 0, .slice none 0 0], .int .i64 8, .int .i64 0] w' (PushIs w' ⟨⟨2, [Keep.tok 1]⟩, Keep.tok 1, 0⟩)) :=
    hidT fun w' => push_any _ _ Keep.new (Keep.tok 0) 8 0 w' (IsKeep.new w') (IsItem.tok w') ⟨by simp [Keep.new], fun x hx => by cases hx⟩ (by simp [Keep.tok]) (by simp [Keep.tok]) (by simp [Keep.new])
  clear y0 hb0 hW
  go_enter Try.func9, Try.ntmps9
  go_upto_region 2 with fail
  rw [HW.out]
  obtain ⟨g, hg⟩ : ∃ g, w.heap.size = g := ⟨_, rfl⟩
  rw [hg]
  rw [hg] at Y0
  have HG := hidT hg
  clear hg
  go_cut [2, 3, 4] from 19 (fun s2 s3 s4 wx => Shown1 W s2 s3 s4 wx)
  case first =>
    have y0 := Y0.out
    have kk : ∀ w', Below W.heap.size W w' → w'.heap[g]? = some (.cells #[.int .i64 3, .int .i64 0, .int .i64 0, .int .i64 0, .int .i64 0, .int .i64 0, .slice none 0 0, .slice none 0 0] 28 (0, 0)) := fun w' hb => keepH y0 hb
    have k0 := fun w' hb => (cells8 (kk w' hb)).1
    have k1 := fun w' hb => (cells8 (kk w' hb)).2.1
    have k2 := fun w' hb => (cells8 (kk w' hb)).2.2.1
    have k3 := fun w' hb => (cells8 (kk w' hb)).2.2.2.1
    have k4 := fun w' hb => (cells8 (kk w' hb)).2.2.2.2.1
    have k5 := fun w' hb => (cells8 (kk w' hb)).2.2.2.2.2.1
    have k6 := fun w' hb => (cells8 (kk w' hb)).2.2.2.2.2.2.1
    have k7 := fun w' hb => (cells8 (kk w' hb)).2.2.2.2.2.2.2
    have D0 : Below W.heap.size W W := Below.refl _ _
    clear kk y0
    go_region_held_law (fun w' => Below W.heap.size W w')
      (repeat' (first | exact hb3 | exact hbX | exact hb2 | exact hb1 | exact D0 | refine Below.drew ?_ | refine nkeep_alloc ?_ _))
      (first
        | (go_at_call 16
           with_reducible refine (new_any _).mono ?_
           rintro e1 w1 ⟨rfl, hb1'⟩
           have hb1u := undrew hb1'
           have hb1 : Below W.heap.size W w1 := (by refine bthen ?_ hb1'; repeat' (first | exact D0 | refine Below.drew ?_ | refine nkeep_alloc ?_ _)))
        | (go_at_call 18
           with_reducible refine (HP.out _).mono ?_
           rintro e2 w2 ⟨v2, u2, rfl, hK2, hI2, hb2'⟩
           have hb2 : Below W.heap.size W w2 := (by refine bthen ?_ hb2'; repeat' (first | exact hb1 | refine Below.drew ?_ | refine nkeep_alloc ?_ _))
           clear k0 k1 k2 k3 k4 k5 k6 k7
           obtain ⟨A, n, c, us, ev2, hr2, ha2, hf2⟩ := id hK2
           have ev2' : v2 = .agg #[.int .i64 2, .slice A n c] := ev2
           clear ev2 hr2 ha2 hf2
           subst ev2'
           (first
             | (have hh2 : w2.heap[W.heap.size]? = some (.cells kz 24) ∧ W.heap.size < _ := keepLt (keepH (alloc_at _ _ _ rfl) hb1u) hb2'
                obtain ⟨h2, l2Y⟩ := hh2
                have hp2 : W.heap.size ≤ W.heap.size := Nat.le_refl _
                have f20 := no_frozen h2 0
                have f21 := no_frozen h2 1
                obtain ⟨c20, c21⟩ := cells2 h2
                have l2 := blk_lt h2
                have hbX : Below W.heap.size W ((w2.setCell ⟨W.heap.size, 0, none⟩ (.int .i64 2)).setCell ⟨W.heap.size, 1, none⟩ (.slice A n c)) := (hb2.setCell (p := ⟨W.heap.size, 0, none⟩) hp2 _).setCell (p := ⟨W.heap.size, 1, none⟩) hp2 _)
             | (have hh2 : w2.heap[W.heap.size]? = some (.cells kz 24) ∧ W.heap.size < _ := keepLt (keepH (keepH (alloc_at _ _ _ rfl) hb1u) (nkeep _ _)) hb2'
                obtain ⟨h2, l2Y⟩ := hh2
                have hp2 : W.heap.size ≤ W.heap.size := Nat.le_refl _
                have f20 := no_frozen h2 0
                have f21 := no_frozen h2 1
                obtain ⟨c20, c21⟩ := cells2 h2
                have l2 := blk_lt h2
                have hbX : Below W.heap.size W ((w2.setCell ⟨W.heap.size, 0, none⟩ (.int .i64 2)).setCell ⟨W.heap.size, 1, none⟩ (.slice A n c)) := (hb2.setCell (p := ⟨W.heap.size, 0, none⟩) hp2 _).setCell (p := ⟨W.heap.size, 1, none⟩) hp2 _)
             | (have hh2 : w2.heap[W.heap.size]? = some (.cells kz 24) ∧ W.heap.size < _ := keepLt (keepH (keepH (alloc_at _ _ _ rfl) (nkeep _ _)) hb1u) hb2'
                obtain ⟨h2, l2Y⟩ := hh2
                have hp2 : W.heap.size ≤ W.heap.size := Nat.le_refl _
                have f20 := no_frozen h2 0
                have f21 := no_frozen h2 1
                obtain ⟨c20, c21⟩ := cells2 h2
                have l2 := blk_lt h2
                have hbX : Below W.heap.size W ((w2.setCell ⟨W.heap.size, 0, none⟩ (.int .i64 2)).setCell ⟨W.heap.size, 1, none⟩ (.slice A n c)) := (hb2.setCell (p := ⟨W.heap.size, 0, none⟩) hp2 _).setCell (p := ⟨W.heap.size, 1, none⟩) hp2 _)
             | (have hh2 : w2.heap[W.heap.size]? = some (.cells kz 24) ∧ W.heap.size < _ := keepLt (keepH (keepH (keepH (alloc_at _ _ _ rfl) (nkeep _ _)) hb1u) (nkeep _ _)) hb2'
                obtain ⟨h2, l2Y⟩ := hh2
                have hp2 : W.heap.size ≤ W.heap.size := Nat.le_refl _
                have f20 := no_frozen h2 0
                have f21 := no_frozen h2 1
                obtain ⟨c20, c21⟩ := cells2 h2
                have l2 := blk_lt h2
                have hbX : Below W.heap.size W ((w2.setCell ⟨W.heap.size, 0, none⟩ (.int .i64 2)).setCell ⟨W.heap.size, 1, none⟩ (.slice A n c)) := (hb2.setCell (p := ⟨W.heap.size, 0, none⟩) hp2 _).setCell (p := ⟨W.heap.size, 1, none⟩) hp2 _)
             | (have hh2 : w2.heap[W.heap.size + 1]? = some (.cells kz 24) ∧ W.heap.size + 1 < _ := keepLt (keepH (alloc_at _ _ _ (size_alloc _ _).symm) hb1u) hb2'
                obtain ⟨h2, l2Y⟩ := hh2
                have hp2 : W.heap.size ≤ W.heap.size + 1 := Nat.le_succ _
                have f20 := no_frozen h2 0
                have f21 := no_frozen h2 1
                obtain ⟨c20, c21⟩ := cells2 h2
                have l2 := blk_lt h2
                have hbX : Below W.heap.size W ((w2.setCell ⟨W.heap.size + 1, 0, none⟩ (.int .i64 2)).setCell ⟨W.heap.size + 1, 1, none⟩ (.slice A n c)) := (hb2.setCell (p := ⟨W.heap.size + 1, 0, none⟩) hp2 _).setCell (p := ⟨W.heap.size + 1, 1, none⟩) hp2 _)
             | (have hh2 : w2.heap[W.heap.size + 1]? = some (.cells kz 24) ∧ W.heap.size + 1 < _ := keepLt (keepH (keepH (alloc_at _ _ _ (size_alloc _ _).symm) hb1u) (nkeep _ _)) hb2'
                obtain ⟨h2, l2Y⟩ := hh2
                have hp2 : W.heap.size ≤ W.heap.size + 1 := Nat.le_succ _
                have f20 := no_frozen h2 0
                have f21 := no_frozen h2 1
                obtain ⟨c20, c21⟩ := cells2 h2
                have l2 := blk_lt h2
                have hbX : Below W.heap.size W ((w2.setCell ⟨W.heap.size + 1, 0, none⟩ (.int .i64 2)).setCell ⟨W.heap.size + 1, 1, none⟩ (.slice A n c)) := (hb2.setCell (p := ⟨W.heap.size + 1, 0, none⟩) hp2 _).setCell (p := ⟨W.heap.size + 1, 1, none⟩) hp2 _)
             | (have hh2 : w2.heap[w1.heap.size]? = some (.cells kz 24) ∧ w1.heap.size < _ := keepLt (alloc_at _ _ _ rfl) hb2'
                obtain ⟨h2, l2Y⟩ := hh2
                have hp2 : W.heap.size ≤ w1.heap.size := hb1.size
                have f20 := no_frozen h2 0
                have f21 := no_frozen h2 1
                obtain ⟨c20, c21⟩ := cells2 h2
                have l2 := blk_lt h2
                have hbX : Below W.heap.size W ((w2.setCell ⟨w1.heap.size, 0, none⟩ (.int .i64 2)).setCell ⟨w1.heap.size, 1, none⟩ (.slice A n c)) := (hb2.setCell (p := ⟨w1.heap.size, 0, none⟩) hp2 _).setCell (p := ⟨w1.heap.size, 1, none⟩) hp2 _)
             | (have hh2 : w2.heap[w1.heap.size]? = some (.cells kz 24) ∧ w1.heap.size < _ := keepLt (keepH (alloc_at _ _ _ rfl) (nkeep _ _)) hb2'
                obtain ⟨h2, l2Y⟩ := hh2
                have hp2 : W.heap.size ≤ w1.heap.size := hb1.size
                have f20 := no_frozen h2 0
                have f21 := no_frozen h2 1
                obtain ⟨c20, c21⟩ := cells2 h2
                have l2 := blk_lt h2
                have hbX : Below W.heap.size W ((w2.setCell ⟨w1.heap.size, 0, none⟩ (.int .i64 2)).setCell ⟨w1.heap.size, 1, none⟩ (.slice A n c)) := (hb2.setCell (p := ⟨w1.heap.size, 0, none⟩) hp2 _).setCell (p := ⟨w1.heap.size, 1, none⟩) hp2 _)
             | (have hh2 : w2.heap[w1.heap.size + 1]? = some (.cells kz 24) ∧ w1.heap.size + 1 < _ := keepLt (alloc_at _ _ _ (size_alloc _ _).symm) hb2'
                obtain ⟨h2, l2Y⟩ := hh2
                have hp2 : W.heap.size ≤ w1.heap.size + 1 := Nat.le_succ_of_le hb1.size
                have f20 := no_frozen h2 0
                have f21 := no_frozen h2 1
                obtain ⟨c20, c21⟩ := cells2 h2
                have l2 := blk_lt h2
                have hbX : Below W.heap.size W ((w2.setCell ⟨w1.heap.size + 1, 0, none⟩ (.int .i64 2)).setCell ⟨w1.heap.size + 1, 1, none⟩ (.slice A n c)) := (hb2.setCell (p := ⟨w1.heap.size + 1, 0, none⟩) hp2 _).setCell (p := ⟨w1.heap.size + 1, 1, none⟩) hp2 _)
             | skip)
           (first
             | (have hh3 : w2.heap[W.heap.size]? = some (.cells zcells 28) ∧ W.heap.size < _ := keepLt (keepH (alloc_at _ _ _ rfl) hb1u) hb2'
                obtain ⟨h3, l3Y⟩ := hh3
                have hp3 : W.heap.size ≤ W.heap.size := Nat.le_refl _
                have l3 := blk_lt h3)
             | (have hh3 : w2.heap[W.heap.size]? = some (.cells zcells 28) ∧ W.heap.size < _ := keepLt (keepH (keepH (alloc_at _ _ _ rfl) hb1u) (nkeep _ _)) hb2'
                obtain ⟨h3, l3Y⟩ := hh3
                have hp3 : W.heap.size ≤ W.heap.size := Nat.le_refl _
                have l3 := blk_lt h3)
             | (have hh3 : w2.heap[W.heap.size]? = some (.cells zcells 28) ∧ W.heap.size < _ := keepLt (keepH (keepH (alloc_at _ _ _ rfl) (nkeep _ _)) hb1u) hb2'
                obtain ⟨h3, l3Y⟩ := hh3
                have hp3 : W.heap.size ≤ W.heap.size := Nat.le_refl _
                have l3 := blk_lt h3)
             | (have hh3 : w2.heap[W.heap.size]? = some (.cells zcells 28) ∧ W.heap.size < _ := keepLt (keepH (keepH (keepH (alloc_at _ _ _ rfl) (nkeep _ _)) hb1u) (nkeep _ _)) hb2'
                obtain ⟨h3, l3Y⟩ := hh3
                have hp3 : W.heap.size ≤ W.heap.size := Nat.le_refl _
                have l3 := blk_lt h3)
             | (have hh3 : w2.heap[W.heap.size + 1]? = some (.cells zcells 28) ∧ W.heap.size + 1 < _ := keepLt (keepH (alloc_at _ _ _ (size_alloc _ _).symm) hb1u) hb2'
                obtain ⟨h3, l3Y⟩ := hh3
                have hp3 : W.heap.size ≤ W.heap.size + 1 := Nat.le_succ _
                have l3 := blk_lt h3)
             | (have hh3 : w2.heap[W.heap.size + 1]? = some (.cells zcells 28) ∧ W.heap.size + 1 < _ := keepLt (keepH (keepH (alloc_at _ _ _ (size_alloc _ _).symm) hb1u) (nkeep _ _)) hb2'
                obtain ⟨h3, l3Y⟩ := hh3
                have hp3 : W.heap.size ≤ W.heap.size + 1 := Nat.le_succ _
                have l3 := blk_lt h3)
             | (have hh3 : w2.heap[w1.heap.size]? = some (.cells zcells 28) ∧ w1.heap.size < _ := keepLt (alloc_at _ _ _ rfl) hb2'
                obtain ⟨h3, l3Y⟩ := hh3
                have hp3 : W.heap.size ≤ w1.heap.size := hb1.size
                have l3 := blk_lt h3)
             | (have hh3 : w2.heap[w1.heap.size]? = some (.cells zcells 28) ∧ w1.heap.size < _ := keepLt (keepH (alloc_at _ _ _ rfl) (nkeep _ _)) hb2'
                obtain ⟨h3, l3Y⟩ := hh3
                have hp3 : W.heap.size ≤ w1.heap.size := hb1.size
                have l3 := blk_lt h3)
             | (have hh3 : w2.heap[w1.heap.size + 1]? = some (.cells zcells 28) ∧ w1.heap.size + 1 < _ := keepLt (alloc_at _ _ _ (size_alloc _ _).symm) hb2'
                obtain ⟨h3, l3Y⟩ := hh3
                have hp3 : W.heap.size ≤ w1.heap.size + 1 := Nat.le_succ_of_le hb1.size
                have l3 := blk_lt h3)
             | skip)
           (first
             | (have hx3 := dpack h2 h3 (.int .i64 2) (.slice A n c)
                obtain ⟨r3, rfl, hs3, hall3⟩ := hI2.cells
                obtain ⟨w3, hrun3, G3, BB3, BL3⟩ := st8 hx3 r3 hs3.symm hall3
                have hb3 : Below W.heap.size W w3 := BL3.out _ _ hbX hp3
                have TD : True := trivial)
             | (have hx3 := keepH h3 (nkeep w2 (.cells #[.int .i64 2, .slice A n c] 24))
                obtain ⟨r3, rfl, hs3, hall3⟩ := hI2.cells
                obtain ⟨w3, hrun3, G3, BB3, BL3⟩ := st8 hx3 r3 hs3.symm hall3
                have hb3 : Below W.heap.size W w3 := BL3.out _ _ (nkeep_alloc hb2 _) hp3
                have TC : True := trivial)
             | (obtain ⟨LA, ln, lc, BA, bn, bc, eu2, hl2, hbb2, hla2, hba2⟩ := id hI2
                have eu2' : u2 = .agg #[.int .i64 3, .int .i64 1, .int .i64 0, .int .i64 0, .int .i64 0, .int .i64 0, .slice LA ln lc, .slice BA bn bc] := eu2
                clear eu2 hl2 hbb2 hla2 hba2
                subst eu2')))
        | fail)
    all_goals
      go_wp2_with fail
      go_meet
    all_goals first
      | (have TD' := TD
         obtain ⟨LA, ln, lc, BA, bn, bc, eu2, hl2, hbb2, hla2, hba2⟩ := id hI2
         injection eu2 with eu2
         have eu3 : r3 = #[.int .i64 3, .int .i64 1, .int .i64 0, .int .i64 0, .int .i64 0, .int .i64 0, .slice LA ln lc, .slice BA bn bc] := eu2
         clear eu2 hl2 hbb2 hla2 hba2
         subst eu3
         exact ⟨_, _, A, n, c, LA, ln, lc, BA, bn, bc, rfl, rfl, rfl, (BB3.out.2 _ (apart23 h2 h3).symm).trans (two2 h2 _ _), G3.out, (((hK2.but l2Y (But.setCell _ _ 0 _)).but l2Y (But.setCell _ _ 1 _)).but l3Y BB3.out).is, hb3⟩)
      | (have TC' := TC
         obtain ⟨LA, ln, lc, BA, bn, bc, eu2, hl2, hbb2, hla2, hba2⟩ := id hI2
         injection eu2 with eu2
         have eu3 : r3 = #[.int .i64 3, .int .i64 1, .int .i64 0, .int .i64 0, .int .i64 0, .int .i64 0, .slice LA ln lc, .slice BA bn bc] := eu2
         clear eu2 hl2 hbb2 hla2 hba2
         subst eu3
         exact ⟨_, _, A, n, c, LA, ln, lc, BA, bn, bc, rfl, rfl, rfl, (BB3.out.2 _ (Nat.ne_of_gt l3)).trans (alloc_at w2 _ _ rfl), G3.out, ((hK2.below (nkeep _ _)).but l3Y BB3.out).is, hb3⟩)
      | exact ⟨_, _, A, n, c, LA, ln, lc, BA, bn, bc, rfl, rfl, rfl, keepH (two2 h2 _ _) (nkeep _ _), alloc_at _ _ _ ((But.setCell _ _ 0 _).trans (But.setCell _ _ 1 _)).1.symm, (((hK2.but l2Y (But.setCell _ _ 0 _)).but l2Y (But.setCell _ _ 1 _)).below (nkeep _ _)).is, nkeep_alloc hbX _⟩
      | exact ⟨_, _, A, n, c, LA, ln, lc, BA, bn, bc, rfl, rfl, rfl, (two_alloc w2 _ _).1, (two_alloc w2 _ _).2.1, hK2.is.below (two_alloc w2 _ _).2.2, bthen hb2 (two_alloc w2 _ _).2.2⟩
      | exact ⟨_, _, A, n, c, LA, ln, lc, BA, bn, bc, rfl, rfl, rfl, (two_alloc w2 _ _).2.1, (two_alloc w2 _ _).1, hK2.is.below (two_alloc w2 _ _).2.2, bthen hb2 (two_alloc w2 _ _).2.2⟩
  case rest =>
    obtain ⟨p2, p3, A, n, c, LA, ln, lc, BA, bn, bc, rfl, rfl, rfl, x2, x3, hK, hbc⟩ := hcut
    have yt := keepH Y0.out hbc
    have KB := hidT hK
    have BB := hidT (bthen HB0.out hbc)
    clear hK hbc
    have XA := hidT x2
    have XX := hidT x3
    have XT := hidT yt
    clear x2 x3 yt HP HW Y0
    -- b, y, f
    have sm0 : SmallL [Keep.tok 1] := ⟨by simp, fun x hx => by
      obtain rfl : x = Keep.tok 1 := by simpa using hx
      exact ⟨by simp [Keep.tok], by simp [Keep.tok]⟩⟩
    have hp := push_any _ _ ⟨2, [Keep.tok 1]⟩ (Keep.tok 0) 8 0 wc KB.out (IsItem.tok wc) sm0 (by simp [Keep.tok]) (by simp [Keep.tok]) (by simp)
    have ep : Keep.push ⟨2, [Keep.tok 1]⟩ (Keep.tok 0) 8 0 = ⟨⟨3, [Keep.tok 1, Keep.tok 2]⟩, Keep.tok 2, 0⟩ := by decide
    rw [ep] at hp
    clear ep
    obtain ⟨a0, a1⟩ := cells2 XA.out
    obtain ⟨t0, t1, t2, t3, t4, t5, t6, t7⟩ := cells8 XT.out
    go_wp2_with fail
    with_reducible refine hp.mono ?_
    rintro e w5 ⟨v5, u5, rfl, hK5, hI5, hb5⟩
    obtain ⟨A5, n5, c5, us5, ev5, hr5, ha5, hf5⟩ := id hK5
    have ev5' : v5 = .agg #[.int .i64 3, .slice A5 n5 c5] := ev5
    clear ev5 hr5 ha5 hf5
    subst ev5'
    obtain ⟨LA5, ln5, lc5, BA5, bn5, bc5, eu5, hl5, hbb5, hla5, hba5⟩ := id hI5
    have eu5' : u5 = .agg #[.int .i64 3, .int .i64 2, .int .i64 0, .int .i64 0, .int .i64 0, .int .i64 0, .slice LA5 ln5 lc5, .slice BA5 bn5 bc5] := eu5
    clear eu5 hl5 hbb5 hla5 hba5
    subst eu5'
    obtain ⟨z1, z2, z3⟩ := two_alloc w5 (.cells #[.int .i64 3, .slice A5 n5 c5] 24) (.cells #[.int .i64 3, .int .i64 2, .int .i64 0, .int .i64 0, .int .i64 0, .int .i64 0, .slice LA5 ln5 lc5, .slice BA5 bn5 bc5] 28)
    obtain ⟨pb, hpb⟩ : ∃ p, w5.heap.size = p := ⟨_, rfl⟩
    have hb6 := bthen hb5 z3
    have XT := hidT (keepH XT.out hb6)
    have XX := hidT (keepH XX.out hb6)
    have KB := hidT (hK5.is.below z3)
    have BB := hidT (bthen BB.out hb6)
    rw [hpb] at z1 z2
    obtain ⟨W5, hW5⟩ : ∃ W5, (w5.alloc (.cells #[.int .i64 3, .slice A5 n5 c5] 24)).alloc (.cells #[.int .i64 3, .int .i64 2, .int .i64 0, .int .i64 0, .int .i64 0, .int .i64 0, .slice LA5 ln5 lc5, .slice BA5 bn5 bc5] 28) = W5 := ⟨_, rfl⟩
    have q0 := z1
    rw [hW5] at z1 z2 XT XX KB BB
    obtain ⟨a0, a1⟩ := cells2 q0
    have XB := hidT z1
    have XY := hidT z2
    have HW5 := hidT hW5
    clear z1 z2 z3 hW5 hb5 hb6 hK5 hI5 hp t0 t1 t2 t3 t4 t5 t6 t7 q0
    -- c
    have sm2 : SmallL [Keep.tok 1, Keep.tok 2] := ⟨by simp, fun x hx => by
      simp only [List.mem_cons, List.not_mem_nil, or_false] at hx
      rcases hx with rfl | rfl
      · exact ⟨by simp [Keep.tok], by simp [Keep.tok]⟩
      · exact ⟨by simp [Keep.tok], by simp [Keep.tok]⟩⟩
    have hp := free_any _ ⟨3, [Keep.tok 1, Keep.tok 2]⟩ 1 W5 KB.out sm2
    have ep : ([Keep.tok 1, Keep.tok 2].drop ([Keep.tok 1, Keep.tok 2].findIdx (fun y : Item.It => decide (1 < y.q)))) = [Keep.tok 2] := by decide
    dsimp only at hp
    rw [ep] at hp
    clear ep
    go_wp2_with fail
    rw [HW5.out]
    clear hpb
    with_reducible refine hp.mono ?_
    intro e w6 hf6
    obtain ⟨v6, rfl, hK6, hb6⟩ := hf6.fr
    obtain ⟨A6, n6, c6, us6, ev6, hr6, ha6, hf6'⟩ := id hK6
    have hn6 : n6 = 1 := by rw [← hr6.size, hf6'.1]; rfl
    subst hn6
    have ev6' : v6 = .agg #[.int .i64 3, .slice A6 1 c6] := ev6
    clear ev6 hr6 ha6 hf6' hf6
    subst ev6'
    have z1 := alloc_at w6 (.cells #[.int .i64 3, .slice A6 1 c6] 24) _ rfl
    have z3 := nkeep w6 (.cells #[.int .i64 3, .slice A6 1 c6] 24)
    obtain ⟨pc, hpc⟩ : ∃ p, w6.heap.size = p := ⟨_, rfl⟩
    have hb7 := bthen hb6 z3
    have XT := hidT (keepH XT.out hb7)
    have XX := hidT (keepH XX.out hb7)
    have XB := hidT (keepH XB.out hb7)
    have XY := hidT (keepH XY.out hb7)
    have KB := hidT (KB.out.below hb7)
    have KC := hidT (hK6.is.below z3)
    have BB := hidT (bthen BB.out hb7)
    rw [hpc] at z1
    obtain ⟨W6, hW6⟩ : ∃ W6, w6.alloc (.cells #[.int .i64 3, .slice A6 1 c6] 24) = W6 := ⟨_, rfl⟩
    have q0 := z1
    rw [hW6] at z1 XT XX XB XY KB KC BB
    obtain ⟨a0, a1⟩ := cells2 q0
    have XC := hidT z1
    have HW6 := hidT hW6
    clear z1 z3 hW6 hb6 hb7 hK6 hp q0
    -- z, is
    have sm1 : SmallL [Keep.tok 2] := ⟨by simp, fun x hx => by
      obtain rfl : x = Keep.tok 2 := by simpa using hx
      exact ⟨by simp [Keep.tok], by simp [Keep.tok]⟩⟩
    have hp := get_any _ ⟨3, [Keep.tok 2]⟩ 2 W6 KC.out sm1
    have ep : Keep.got [Keep.tok 2] 2 = some (Keep.tok 2) := by decide
    dsimp only at hp
    rw [ep] at hp
    clear ep
    go_wp2_with fail
    rw [HW6.out]
    clear hpc
    with_reducible refine hp.mono ?_
    rintro e w7 ⟨v7, rfl, hI7, hb7⟩
    obtain ⟨LA7, ln7, lc7, BA7, bn7, bc7, ev7, hl7, hbb7⟩ := id hI7
    have ev7' : v7 = .agg #[.int .i64 3, .int .i64 2, .int .i64 0, .int .i64 0, .int .i64 0, .int .i64 0, .slice LA7 ln7 lc7, .slice BA7 bn7 bc7] := ev7
    clear ev7 hl7 hbb7 hI7
    subst ev7'
    have z1 := alloc_at w7 (.cells #[.int .i64 3, .int .i64 2, .int .i64 0, .int .i64 0, .int .i64 0, .int .i64 0, .slice LA7 ln7 lc7, .slice BA7 bn7 bc7] 28) _ rfl
    have z3 := nkeep w7 (.cells #[.int .i64 3, .int .i64 2, .int .i64 0, .int .i64 0, .int .i64 0, .int .i64 0, .slice LA7 ln7 lc7, .slice BA7 bn7 bc7] 28)
    obtain ⟨pz, hpz⟩ : ∃ p, w7.heap.size = p := ⟨_, rfl⟩
    have hb8 := bthen hb7 z3
    have XT := hidT (keepH XT.out hb8)
    have XX := hidT (keepH XX.out hb8)
    have XB := hidT (keepH XB.out hb8)
    have XY := hidT (keepH XY.out hb8)
    have XC := hidT (keepH XC.out hb8)
    have KB := hidT (KB.out.below hb8)
    have KC := hidT (KC.out.below hb8)
    have BB := hidT (bthen BB.out hb8)
    rw [hpz] at z1
    have q0 := XC.out
    obtain ⟨W7, hW7⟩ : ∃ W7, w7.alloc (.cells #[.int .i64 3, .int .i64 2, .int .i64 0, .int .i64 0, .int .i64 0, .int .i64 0, .slice LA7 ln7 lc7, .slice BA7 bn7 bc7] 28) = W7 := ⟨_, rfl⟩
    rw [hW7] at z1 XT XX XB XY XC KB KC BB
    obtain ⟨a0, a1⟩ := cells2 q0
    have XZ := hidT z1
    have HW7 := hidT hW7
    clear z1 z3 hW7 hb7 hb8 hp q0
    -- _, no
    have hp := get_any _ ⟨3, [Keep.tok 2]⟩ 1 W7 KC.out sm1
    have ep : Keep.got [Keep.tok 2] 1 = none := by decide
    dsimp only at hp
    rw [ep] at hp
    clear ep
    go_wp2_with fail
    rw [HW7.out]
    clear hpz
    with_reducible refine hp.mono ?_
    rintro e w8 ⟨v8, rfl, hI8, hb8⟩
    obtain ⟨LA8, ln8, lc8, BA8, bn8, bc8, ev8, hl8, hbb8⟩ := id hI8
    have ev8' : v8 = .agg #[.int .i64 0, .int .i64 0, .int .i64 0, .int .i64 0, .int .i64 0, .int .i64 0, .slice LA8 ln8 lc8, .slice BA8 bn8 bc8] := ev8
    clear ev8 hl8 hbb8 hI8
    subst ev8'
    have z3 := nkeep w8 (.cells #[.int .i64 0, .int .i64 0, .int .i64 0, .int .i64 0, .int .i64 0, .int .i64 0, .slice LA8 ln8 lc8, .slice BA8 bn8 bc8] 28)
    obtain ⟨pn, hpn⟩ : ∃ p, w8.heap.size = p := ⟨_, rfl⟩
    have hb9 := bthen hb8 z3
    have XT := hidT (keepH XT.out hb9)
    have XX := hidT (keepH XX.out hb9)
    have XB := hidT (keepH XB.out hb9)
    have XY := hidT (keepH XY.out hb9)
    have XC := hidT (keepH XC.out hb9)
    have XZ := hidT (keepH XZ.out hb9)
    have KB := hidT (KB.out.below hb9)
    have KC := hidT (KC.out.below hb9)
    have BB := hidT (bthen BB.out hb9)
    have q0 := XB.out
    have q1 := XT.out
    obtain ⟨W8, hW8⟩ : ∃ W8, w8.alloc (.cells #[.int .i64 0, .int .i64 0, .int .i64 0, .int .i64 0, .int .i64 0, .int .i64 0, .slice LA8 ln8 lc8, .slice BA8 bn8 bc8] 28) = W8 := ⟨_, rfl⟩
    rw [hW8] at XT XX XB XY XC XZ KB KC BB
    obtain ⟨a0, a1⟩ := cells2 q0
    obtain ⟨t0, t1, t2, t3, t4, t5, t6, t7⟩ := cells8 q1
    have HW8 := hidT hW8
    clear z3 hW8 hb8 hb9 hp q0 q1
    -- g
    have hp := push_any _ _ ⟨3, [Keep.tok 1, Keep.tok 2]⟩ (Keep.tok 0) 8 6 W8 KB.out (IsItem.tok W8) sm2 (by simp [Keep.tok]) (by simp [Keep.tok]) (by simp)
    have ep : Keep.push ⟨3, [Keep.tok 1, Keep.tok 2]⟩ (Keep.tok 0) 8 6 = ⟨⟨3, [Keep.tok 1, Keep.tok 2]⟩, Item.It.zero, 4⟩ := by decide
    rw [ep] at hp
    clear ep
    go_wp2_with fail
    rw [HW8.out]
    clear hpn
    with_reducible refine hp.mono ?_
    rintro e w9 ⟨v9, u9, rfl, hK9, hI9, hb9⟩
    obtain ⟨A9, n9, c9, us9, ev9, hr9, ha9, hf9⟩ := id hK9
    have ev9' : v9 = .agg #[.int .i64 3, .slice A9 n9 c9] := ev9
    clear ev9 hr9 ha9 hf9
    subst ev9'
    obtain ⟨LA9, ln9, lc9, BA9, bn9, bc9, eu9, hl9, hbb9, hla9, hba9⟩ := id hI9
    have eu9' : u9 = .agg #[.int .i64 0, .int .i64 0, .int .i64 0, .int .i64 0, .int .i64 0, .int .i64 0, .slice LA9 ln9 lc9, .slice BA9 bn9 bc9] := eu9
    clear eu9 hl9 hbb9 hla9 hba9
    subst eu9'
    obtain ⟨z1, z2, z3⟩ := two_alloc w9 (.cells #[.int .i64 3, .slice A9 n9 c9] 24) (.cells #[.int .i64 0, .int .i64 0, .int .i64 0, .int .i64 0, .int .i64 0, .int .i64 0, .slice LA9 ln9 lc9, .slice BA9 bn9 bc9] 28)
    obtain ⟨pg, hpg⟩ : ∃ p, w9.heap.size = p := ⟨_, rfl⟩
    have hb10 := bthen hb9 z3
    have XX := hidT (keepH XX.out hb10)
    have XB := hidT (keepH XB.out hb10)
    have XY := hidT (keepH XY.out hb10)
    have XC := hidT (keepH XC.out hb10)
    have XZ := hidT (keepH XZ.out hb10)
    have KB := hidT (KB.out.below hb10)
    have KC := hidT (KC.out.below hb10)
    have BB := hidT (bthen BB.out hb10)
    have q0 := XB.out
    obtain ⟨W9, hW9⟩ : ∃ W9, (w9.alloc (.cells #[.int .i64 3, .slice A9 n9 c9] 24)).alloc (.cells #[.int .i64 0, .int .i64 0, .int .i64 0, .int .i64 0, .int .i64 0, .int .i64 0, .slice LA9 ln9 lc9, .slice BA9 bn9 bc9] 28) = W9 := ⟨_, rfl⟩
    rw [hW9] at XX XB XY XC XZ KB KC BB
    obtain ⟨a0, a1⟩ := cells2 q0
    have HW9 := hidT hW9
    clear z1 z2 z3 hW9 hb9 hb10 hK9 hI9 hp q0 t0 t1 t2 t3 t4 t5 t6 t7 XT
    -- h
    have hp := push_any _ _ ⟨3, [Keep.tok 1, Keep.tok 2]⟩ Item.It.zero 8 6 W9 KB.out (IsItem.zero W9) sm2 (by simp [Item.It.zero]) (by simp [Item.It.zero]) (by simp)
    have ep : Keep.push ⟨3, [Keep.tok 1, Keep.tok 2]⟩ Item.It.zero 8 6 = ⟨⟨3, [Keep.tok 1, Keep.tok 2]⟩, Item.It.zero, 1⟩ := by decide
    rw [ep] at hp
    clear ep
    go_wp2_with fail
    rw [HW9.out]
    clear hpg
    with_reducible refine hp.mono ?_
    rintro e w10 ⟨v10, u10, rfl, hK10, hI10, hb10⟩
    obtain ⟨A10, n10, c10, us10, ev10, hr10, ha10, hf10⟩ := id hK10
    have ev10' : v10 = .agg #[.int .i64 3, .slice A10 n10 c10] := ev10
    clear ev10 hr10 ha10 hf10
    subst ev10'
    obtain ⟨LA10, ln10, lc10, BA10, bn10, bc10, eu10, hl10, hbb10, hla10, hba10⟩ := id hI10
    have eu10' : u10 = .agg #[.int .i64 0, .int .i64 0, .int .i64 0, .int .i64 0, .int .i64 0, .int .i64 0, .slice LA10 ln10 lc10, .slice BA10 bn10 bc10] := eu10
    clear eu10 hl10 hbb10 hla10 hba10
    subst eu10'
    obtain ⟨z1, z2, z3⟩ := two_alloc w10 (.cells #[.int .i64 3, .slice A10 n10 c10] 24) (.cells #[.int .i64 0, .int .i64 0, .int .i64 0, .int .i64 0, .int .i64 0, .int .i64 0, .slice LA10 ln10 lc10, .slice BA10 bn10 bc10] 28)
    obtain ⟨ph, hph⟩ : ∃ p, w10.heap.size = p := ⟨_, rfl⟩
    have hb11 := bthen hb10 z3
    have XX := hidT (keepH XX.out hb11)
    have XB := hidT (keepH XB.out hb11)
    have XY := hidT (keepH XY.out hb11)
    have XC := hidT (keepH XC.out hb11)
    have XZ := hidT (keepH XZ.out hb11)
    have KB := hidT (KB.out.below hb11)
    have KC := hidT (KC.out.below hb11)
    have BB := hidT (bthen BB.out hb11)
    obtain ⟨b0, b1⟩ := cells2 XB.out
    obtain ⟨d0, d1⟩ := cells2 XC.out
    have x1 := (cells8 XX.out).2.1
    have y1 := (cells8 XY.out).2.1
    have zz1 := (cells8 XZ.out).2.1
    obtain ⟨W10, hW10⟩ : ∃ W10, (w10.alloc (.cells #[.int .i64 3, .slice A10 n10 c10] 24)).alloc (.cells #[.int .i64 0, .int .i64 0, .int .i64 0, .int .i64 0, .int .i64 0, .int .i64 0, .slice LA10 ln10 lc10, .slice BA10 bn10 bc10] 28) = W10 := ⟨_, rfl⟩
    rw [hW10] at XX XB XY XC XZ KB KC BB
    have HW10 := hidT hW10
    clear z1 z2 z3 hW10 hb10 hb11 hK10 hI10 hp a0 a1
    -- Room
    have hp := room_any _ ⟨3, [Keep.tok 1, Keep.tok 2]⟩ 8 3 W10 KB.out
    have ep : Keep.room ⟨3, [Keep.tok 1, Keep.tok 2]⟩ 8 3 = 3 := by decide
    rw [ep] at hp
    clear ep
    go_wp2_with fail
    rw [HW10.out]
    clear hph b0 b1 d0 d1 x1 y1 zz1
    with_reducible refine hp.mono ?_
    rintro e w11 ⟨rfl, hb11⟩
    have XB := hidT (keepH XB.out hb11)
    have XC := hidT (keepH XC.out hb11)
    have KB := hidT (KB.out.below hb11)
    have KC := hidT (KC.out.below hb11)
    have BB := hidT (bthen BB.out hb11)
    obtain ⟨b0, b1⟩ := cells2 XB.out
    clear hb11 hp
    -- Right of b
    have hp := kright_any _ ⟨3, [Keep.tok 1, Keep.tok 2]⟩ w11 KB.out
    have ep : Keep.right ⟨3, [Keep.tok 1, Keep.tok 2]⟩ = true := by decide
    rw [ep] at hp
    clear ep
    go_wp2_with fail
    with_reducible refine hp.mono ?_
    rintro e w12 ⟨rfl, hb12⟩
    have XB := hidT (keepH XB.out hb12)
    have XC := hidT (keepH XC.out hb12)
    have KB := hidT (KB.out.below hb12)
    have KC := hidT (KC.out.below hb12)
    have BB := hidT (bthen BB.out hb12)
    clear hb12 hp b0 b1
    -- Right of nothing
    have hz : IsKeep w12 (.agg kz) ⟨0, []⟩ := ⟨none, 0, 0, rfl, RdX.nil_ _⟩
    have hp := kright_any _ ⟨0, []⟩ w12 hz
    have ep : Keep.right ⟨0, []⟩ = false := by decide
    rw [ep] at hp
    clear ep hz
    go_wp2_with fail
    with_reducible refine hp.mono ?_
    rintro e w13 ⟨rfl, hb13⟩
    have XB := hidT (keepH XB.out hb13)
    have XC := hidT (keepH XC.out hb13)
    have KB := hidT (KB.out.below hb13)
    have KC := hidT (KC.out.below hb13)
    have BB := hidT (bthen BB.out hb13)
    obtain ⟨b0, b1⟩ := cells2 XB.out
    clear hb13 hp
    -- Same of b and b
    have hp := ksame_is _ _ ⟨3, [Keep.tok 1, Keep.tok 2]⟩ ⟨3, [Keep.tok 1, Keep.tok 2]⟩ w13 KB.out KB.out true (by simp)
    go_wp2_with fail
    with_reducible refine hp.mono ?_
    rintro e w14 ⟨rfl, hb14⟩
    have XB := hidT (keepH XB.out hb14)
    have XC := hidT (keepH XC.out hb14)
    have KB := hidT (KB.out.below hb14)
    have KC := hidT (KC.out.below hb14)
    have BB := hidT (bthen BB.out hb14)
    clear b0 b1
    obtain ⟨b0, b1⟩ := cells2 XB.out
    obtain ⟨d0, d1⟩ := cells2 XC.out
    clear hb14 hp
    -- Same of b and c
    have hp := ksame_is _ _ ⟨3, [Keep.tok 1, Keep.tok 2]⟩ ⟨3, [Keep.tok 2]⟩ w14 KB.out KC.out false (by decide)
    go_wp2_with fail
    with_reducible refine hp.mono ?_
    rintro e w15 ⟨rfl, hb15⟩
    clear hp
    go_wp2
    go_ret
    exact ⟨rfl, bthen BB.out hb15⟩
end Go.Proofs.Ytgnaecifinlnmaa
