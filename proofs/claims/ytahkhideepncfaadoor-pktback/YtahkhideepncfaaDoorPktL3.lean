/- The law PktBack, walked. (Written by wip/gen/pktl3.py.) -/
import Derived.Test.YtahkhideepncfaaDoorPktVal
set_option maxRecDepth 100000
namespace Go.Proofs.YtahkhideepncfaaDoor
open Go.RowKit
set_option linter.unusedVariables false

set_option maxRecDepth 100000 in
set_option maxHeartbeats 16000000 in
theorem pback_in (cp co : Array Value) (p o : Pkt.Pk) (A : Option Addr) (n c : Nat) (l : List UInt8) (w : World) (hw : Wd w) (hu : IsPkt w (.agg cp) p) (hv : IsPkt w (.agg co) o) (hs : cp.size = 15) (hs' : co.size = 15) (hl : Rd w A n c l)
    (hf : ((decide (p.it.l.length ≤ 80) && decide (p.it.b.length ≤ 1100)) && decide (p.l.length ≤ 80)) = true) (hf' : ((decide (o.it.l.length ≤ 80) && decide (o.it.b.length ≤ 1100)) && decide (o.l.length ≤ 80)) = true) (hn : n ≤ 1300) :
    Calls Tryd.prog 5 #[.agg cp, .agg co, .slice A n c] w (Yes w) := by
  have hq : decide ((1300 : Int) < (n : Int)) = false := by simp; omega
  obtain ⟨w0, hw0⟩ : ∃ w0, (w.alloc (.cells cp 27)).alloc (.cells co 27) = w0 := ⟨_, rfl⟩
  have b0 : Below w.heap.size w w0 := by rw [← hw0]; exact pkeep_alloc (pkeep_alloc (Below.refl _ _) _) _
  have g0 : w0.heap[w.heap.size]? = some (.cells cp 27 (0, 0)) := by rw [← hw0, alloc_old _ _ _ (by rw [size_alloc]; omega)]; exact alloc_at _ _ _ rfl
  have g1 : w0.heap[w.heap.size + 1]? = some (.cells co 27 (0, 0)) := by rw [← hw0]; exact alloc_at _ _ _ (by rw [size_alloc])
  have HW0 := hidT hw0
  obtain ⟨P, hP⟩ : ∃ P, P = w.heap.size := ⟨_, rfl⟩
  obtain ⟨O, hO⟩ : ∃ O, O = w.heap.size + 1 := ⟨_, rfl⟩
  rw [← hP] at g0
  rw [← hO] at g1
  have HP := hidT hP
  have HO := hidT hO
  have GP : Hid (∀ w', Below w0.heap.size w0 w' → w'.heap[P]? = some (.cells cp 27 (0, 0))) := fun w' hb => (hb.block _ (blk_ltP g0)).trans g0
  have GO : Hid (∀ w', Below w0.heap.size w0 w' → w'.heap[O]? = some (.cells co 27 (0, 0))) := fun w' hb => (hb.block _ (blk_ltP g1)).trans g1
  clear hw0 g0 g1 hP hO
  go_enter Tryd.func5, Tryd.ntmps5
  go_wp2_with fail
  rw [HW0.out, ← HO.out, ← HP.out]
  clear HW0
  with_reducible refine (pshown_any _ (hw.below b0)).mono ?_
  rintro en w1 ⟨rfl, b1⟩
  have l1 := GP.out w1 b1
  have hc := rpfew_is _ p w1 (hu.below (bthen b0 b1))
  rw [hf] at hc
  go_wp2_with (refine wpList_ldP rfl (.tmp 3) rfl P rfl cp hs l1 ?_)
  with_reducible refine hc.mono ?_
  rintro en w2 ⟨rfl, b2⟩
  clear hc l1
  have l2 := GO.out w2 (bthen b1 b2)
  have hc := rpfew_is _ o w2 (hv.below (bthen b0 (bthen b1 b2)))
  rw [hf'] at hc
  go_wp2_with (refine wpList_ldP rfl (.tmp 4) rfl O rfl co hs' l2 ?_)
  with_reducible refine hc.mono ?_
  rintro en w3 ⟨rfl, b3⟩
  clear hc l2
  have l3 := GP.out w3 (bthen b1 (bthen b2 b3))
  have hc := pbytes_any _ p w3 (hw.below (bthen b0 (bthen b1 (bthen b2 b3)))) (hu.below (bthen b0 (bthen b1 (bthen b2 b3))))
  obtain ⟨R, hR⟩ : ∃ R, Pkt.bytes p = R := ⟨_, rfl⟩
  have hR5 : R.length ≤ 1104 := by rw [← hR]; exact bytes_len_le p
  rw [hR] at hc
  have HR := hidT hR
  clear hR
  go_wp2_with (refine wpList_ldP rfl (.tmp 3) rfl P rfl cp hs l3 ?_)
  with_reducible refine hc.mono ?_
  rintro en w4 ⟨A4, c4, rfl, o4, b4⟩
  clear hc l3
  have r4 := o4.same
  obtain ⟨N, hN⟩ : ∃ N, R.length = N := ⟨_, rfl⟩
  rw [hN] at r4 hR5 ⊢
  have HN := hidT hN
  clear hN o4
  have hc := pread_any A4 N c4 R w4 (hw.below (bthen b0 (bthen b1 (bthen b2 (bthen b3 b4))))) r4 (by omega)
  obtain ⟨x, hx⟩ : ∃ z, (readOf R).getD Pkt.Pk.zero = z := ⟨_, rfl⟩
  obtain ⟨xe, hxe⟩ : ∃ z, readCode R = z := ⟨_, rfl⟩
  rw [hx, hxe] at hc
  have Hx := hidT hx
  have Hxe := hidT hxe
  clear hx hxe
  go_wp2_with fail
  with_reducible refine hc.mono ?_
  rintro en w5 ⟨v5, rfl, ix, b5⟩
  obtain ⟨cx, rfl, sx, ox, ix⟩ := pk_letters ix
  clear hc
  have ak : (w5.alloc (.cells zpkt 27)).heap[w5.heap.size]? = some (.cells zpkt 27 (0, 0)) := alloc_at _ _ _ rfl
  have mk : Below w5.heap.size w5 (w5.alloc (.cells zpkt 27)) := pkeep_alloc (Below.refl _ _) _
  go_wp2_with (first
    | (refine wpList_stI rfl 27 (.tmp 9) (.tmp 33) rfl w5.heap.size cx rfl rfl _ _ ak (by rw [sx]; exact info37) (by rw [sx]; rfl) ox ?_
       intro w6 gk but_ bel_
       have b6 := bel_ _ _ mk (Nat.le_refl _)))
  have Gx : Hid (∀ w', Below w6.heap.size w6 w' → w'.heap[w5.heap.size]? = some (.cells cx 27 (0, 0))) := fun w' hb => (hb.block _ (blk_ltP gk)).trans gk
  clear gk but_ bel_ ak mk
  have hl6 := hl.below (bthen b0 (bthen b1 (bthen b2 (bthen b3 (bthen b4 (bthen b5 b6))))))
  have hc := pread_any A n c l w6 (hw.below (bthen b0 (bthen b1 (bthen b2 (bthen b3 (bthen b4 (bthen b5 b6))))))) hl6 (by omega)
  obtain ⟨y, hy⟩ : ∃ z, (readOf l).getD Pkt.Pk.zero = z := ⟨_, rfl⟩
  obtain ⟨ye, hye⟩ : ∃ z, readCode l = z := ⟨_, rfl⟩
  rw [hy, hye] at hc
  have Hy := hidT hy
  have Hye := hidT hye
  clear hy hye
  go_wp2_with fail
  with_reducible refine hc.mono ?_
  rintro en w7 ⟨v7, rfl, iy, b7⟩
  obtain ⟨cy, rfl, sy, oy, iy⟩ := pk_letters iy
  clear hc
  have ak : (w7.alloc (.cells zpkt 27)).heap[w7.heap.size]? = some (.cells zpkt 27 (0, 0)) := alloc_at _ _ _ rfl
  have mk : Below w7.heap.size w7 (w7.alloc (.cells zpkt 27)) := pkeep_alloc (Below.refl _ _) _
  go_wp2_with (first
    | (refine wpList_stI rfl 27 (.tmp 11) (.tmp 38) rfl w7.heap.size cy rfl rfl _ _ ak (by rw [sy]; exact info37) (by rw [sy]; rfl) oy ?_
       intro w8 gk but_ bel_
       have b8 := bel_ _ _ mk (Nat.le_refl _)))
  have Gy : Hid (∀ w', Below w8.heap.size w8 w' → w'.heap[w7.heap.size]? = some (.cells cy 27 (0, 0))) := fun w' hb => (hb.block _ (blk_ltP gk)).trans gk
  clear gk but_ bel_ ak mk
  clear hl6
  have iy8 := iy.below b8
  have sl := fun w' (hb : Below w8.heap.size w8 w') => strs hl w' (bthen (bthen b0 (bthen b1 (bthen b2 (bthen b3 (bthen b4 (bthen b5 (bthen b6 (bthen b7 b8)))))))) hb)
  have HSL := hidT sl
  clear sl
  have GY := fun w' (hb : Below w8.heap.size w8 w') => Gy.out w' hb
  have HGY := hidT GY
  clear GY
  rcases (show ye = 0 ∨ ¬ ye = 0 by omega) with y0 | y0
  · skip
    obtain ⟨py, h1, h2, h3⟩ := read_ok (by rw [Hye.out]; exact y0 : readCode l = 0)
    have ey : y = py := by rw [← Hy.out, h1]; rfl
    rw [← ey] at h2 h3
    clear h1 ey
    have H2 := hidT h2
    have H3 := hidT h3
    clear h2 h3
    subst y0
    have sl := HSL.out
    have GY := HGY.out
    have e1 : ((str l).toList != (str l).toList) = false := by simp
    refine wp_region_held_drew (S := fun w' => Below w8.heap.size w8 w') (by kernel_rfl) ?_ (fun hHeld => ?_)
    · exact (Below.refl _ _).drew
    refine wpAnyH_take (i := 0) (oi := { dst := some 40, op := Op.move (Operand.tmp 12), type := 30, pos := "law.go:53", after := #[], guard := none }) (v := ?_) rfl (by kernel_rfl) (by kernel_rfl) (by kernel_rfl) (fun _ _ _ h => h) (Or.inl ⟨by rfl, ?_⟩) (by assumption) ?_
    rotate_left
    · (intro w_ hS_; go_simp; try with_reducible rfl)
    simp only [Act.put, List.setIfInBounds_toArray, List.set_cons_zero, List.set_cons_succ]
    refine wpAnyH_take (i := 1) (oi := { dst := some 41, op := Op.binOp BinOp.eql 30 (Operand.tmp 40) (Operand.const (Value.int IntKind.i64 0)) 30, type := 4, pos := "law.go:53", after := #[{ on := 0, ground := Ground.data }], guard := none }) (v := ?_) rfl (by kernel_rfl) (by kernel_rfl) (by kernel_rfl) (fun _ _ _ h => h) (Or.inl ⟨by rfl, ?_⟩) (by assumption) ?_
    rotate_left
    · (intro w_ hS_; go_simp; try with_reducible rfl)
    simp only [Act.put, List.setIfInBounds_toArray, List.set_cons_zero, List.set_cons_succ]
    refine wpAnyH_take (i := 2) (oi := { dst := some 42, op := Op.move (Operand.tmp 41), type := 4, pos := "law.go:53", after := #[{ on := 1, ground := Ground.data }], guard := none }) (v := ?_) rfl (by kernel_rfl) (by kernel_rfl) (by kernel_rfl) (fun _ _ _ h => h) (Or.inl ⟨by rfl, ?_⟩) (by assumption) ?_
    rotate_left
    · (intro w_ hS_; go_simp; try with_reducible rfl)
    simp only [Act.put, List.setIfInBounds_toArray, List.set_cons_zero, List.set_cons_succ]
    refine wpAnyH_take (i := 3) (oi := { dst := some 43, op := Op.load 27 (Operand.tmp 11), type := 27, pos := "law.go:53", after := #[{ on := 2, ground := Ground.guard }], guard := some (2, true) }) (v := .agg cy) rfl (by kernel_rfl) (by kernel_rfl) (by kernel_rfl) (fun _ _ _ h => h) (Or.inl ⟨by rfl, fun w_ hS_ => run_ldP (.tmp 11) rfl w7.heap.size rfl cy sy (GY w_ hS_)⟩) (by assumption) ?_
    simp only [Act.put, List.setIfInBounds_toArray, List.set_cons_zero, List.set_cons_succ]
    refine wpAnyH_ready (rs := [4]) (by kernel_rfl) (by simp) ?_
    refine AllReadyH.cons (o := { dst := some 44, op := Op.call { callee := Callee.value (Operand.func 11), args := #[Operand.tmp 43], argTypes := #[27] }, type := 4, pos := "law.go:53", after := #[{ on := 3, ground := Ground.data }, { on := 2, ground := Ground.chain }, { on := 2, ground := Ground.guard }], guard := some (2, true) }) rfl (fun K hK => ?_) AllReadyH.nil
    go_simp
    have hc := pmay_any (.agg cy) y w8.drew (iy8.below (Below.refl _ _).drew)
    rw [H2.out] at hc
    refine hc.mono ?_
    rintro en w9 ⟨rfl, b9'⟩
    have b9 : Below w8.heap.size w8 w9 := undrew b9'
    clear hc
    dsimp only
    refine hK.out _ _ ?_ (fun hHeld => ?_)
    · exact b9
    clear hK K
    refine wpAnyH_take (i := 5) (oi := { dst := some 45, op := Op.unOp UnOp.not 4 (Operand.tmp 44), type := 4, pos := "law.go:53", after := #[{ on := 4, ground := Ground.data }, { on := 2, ground := Ground.guard }], guard := some (2, true) }) (v := ?_) rfl (by kernel_rfl) (by kernel_rfl) (by kernel_rfl) (fun _ _ _ h => h) (Or.inl ⟨by rfl, ?_⟩) (by assumption) ?_
    rotate_left
    · (intro w_ hS_; go_simp; try with_reducible rfl)
    simp only [Act.put, List.setIfInBounds_toArray, List.set_cons_zero, List.set_cons_succ]
    refine wpAnyH_take (i := 6) (oi := { dst := some 46, op := Op.move (Operand.tmp 45), type := 4, pos := "law.go:53", after := #[{ on := 5, ground := Ground.data }, { on := 4, ground := Ground.chain }, { on := 2, ground := Ground.guard }], guard := some (2, true) }) (v := ?_) rfl (by kernel_rfl) (by kernel_rfl) (by kernel_rfl) (fun _ _ _ h => h) (Or.inl ⟨by rfl, ?_⟩) (by assumption) ?_
    rotate_left
    · (intro w_ hS_; go_simp; try with_reducible rfl)
    simp only [Act.put, List.setIfInBounds_toArray, List.set_cons_zero, List.set_cons_succ]
    refine wpAnyH_take (i := 7) (oi := { dst := some 47, op := Op.load 27 (Operand.tmp 11), type := 27, pos := "law.go:53", after := #[{ on := 6, ground := Ground.guard }], guard := some (6, false) }) (v := .agg cy) rfl (by kernel_rfl) (by kernel_rfl) (by kernel_rfl) (fun _ _ _ h => h) (Or.inl ⟨by rfl, fun w_ hS_ => run_ldP (.tmp 11) rfl w7.heap.size rfl cy sy (GY w_ hS_)⟩) (by assumption) ?_
    simp only [Act.put, List.setIfInBounds_toArray, List.set_cons_zero, List.set_cons_succ]
    refine wpAnyH_take (i := 10) (oi := { dst := some 50, op := Op.move (Operand.tmp 2), type := 23, pos := "law.go:53", after := #[{ on := 6, ground := Ground.guard }], guard := some (6, false) }) (v := ?_) rfl (by kernel_rfl) (by kernel_rfl) (by kernel_rfl) (fun _ _ _ h => h) (Or.inl ⟨by rfl, ?_⟩) (by assumption) ?_
    rotate_left
    · (intro w_ hS_; go_simp; try with_reducible rfl)
    simp only [Act.put, List.setIfInBounds_toArray, List.set_cons_zero, List.set_cons_succ]
    refine wpAnyH_take (i := 11) (oi := { dst := some 51, op := Op.convert 23 9 (Operand.tmp 50), type := 9, pos := "law.go:53", after := #[{ on := 10, ground := Ground.data }, { on := 6, ground := Ground.guard }], guard := some (6, false) }) (v := ?_) rfl (by kernel_rfl) (by kernel_rfl) (by kernel_rfl) (fun _ _ _ h => h) (Or.inl ⟨by rfl, ?_⟩) (by assumption) ?_
    rotate_left
    · (intro w_ hS_; go_simp; try with_reducible rfl)
    simp only [Act.put, List.setIfInBounds_toArray, List.set_cons_zero, List.set_cons_succ]
    refine wpAnyH_ready (rs := [8]) (by kernel_rfl) (by simp) ?_
    refine AllReadyH.cons (o := { dst := some 48, op := Op.call { callee := Callee.value (Operand.func 15), args := #[Operand.tmp 47], argTypes := #[27] }, type := 23, pos := "law.go:53", after := #[{ on := 7, ground := Ground.data }, { on := 6, ground := Ground.chain }, { on := 6, ground := Ground.guard }], guard := some (6, false) }) rfl (fun K hK => ?_) AllReadyH.nil
    go_simp
    have hc := pbytes_any (.agg cy) y w9 (hw.below (bthen (bthen b0 (bthen b1 (bthen b2 (bthen b3 (bthen b4 (bthen b5 (bthen b6 (bthen b7 b8)))))))) b9)) (iy8.below b9)
    rw [H3.out] at hc
    refine hc.mono ?_
    rintro en w10 ⟨A10, c10, rfl, o10, b10'⟩
    have b10 : Below w8.heap.size w8 w10 := bthen b9 b10'
    have s10 := strs o10.same w10 (Below.refl _ _)
    clear hc
    dsimp only
    refine hK.out _ _ ?_ (fun hHeld => ?_)
    · exact b10
    clear hK K
    refine wpAnyH_ready (rs := [9]) (by kernel_rfl) (by simp) ?_
    refine AllReadyH.cons (o := { dst := some 49, op := Op.convert 23 9 (Operand.tmp 48), type := 9, pos := "law.go:53", after := #[{ on := 8, ground := Ground.data }, { on := 6, ground := Ground.guard }], guard := some (6, false) }) rfl (fun K hK => ?_) AllReadyH.nil
    go_simp
    refine hK.out _ _ ?_ (fun hHeld => ?_)
    · exact b10
    clear hK K
    clear s10
    refine wpAnyH_take (i := 12) (oi := { dst := some 52, op := Op.binOp BinOp.neq 9 (Operand.tmp 49) (Operand.tmp 51) 9, type := 4, pos := "law.go:53", after := #[{ on := 9, ground := Ground.data }, { on := 11, ground := Ground.data }, { on := 6, ground := Ground.guard }], guard := some (6, false) }) (v := ?_) rfl (by kernel_rfl) (by kernel_rfl) (by kernel_rfl) (fun _ _ _ h => h) (Or.inl ⟨by rfl, ?_⟩) (by assumption) ?_
    rotate_left
    · (intro w_ hS_; go_simp; try with_reducible rfl)
    simp only [Act.put, List.setIfInBounds_toArray, List.set_cons_zero, List.set_cons_succ]
    refine wpAnyH_take (i := 13) (oi := { dst := some 53, op := Op.pick (Operand.tmp 46) (Operand.const (Value.bool true)) (Operand.tmp 52), type := 4, pos := "law.go:53", after := #[{ on := 6, ground := Ground.data }, { on := 12, ground := Ground.data }, { on := 2, ground := Ground.guard }], guard := some (2, true) }) (v := ?_) rfl (by kernel_rfl) (by kernel_rfl) (by kernel_rfl) (fun _ _ _ h => h) (Or.inl ⟨by rfl, ?_⟩) (by assumption) ?_
    rotate_left
    · (intro w_ hS_; go_simp; try with_reducible rfl)
    simp only [Act.put, List.setIfInBounds_toArray, List.set_cons_zero, List.set_cons_succ]
    refine wpAnyH_take (i := 14) (oi := { dst := some 54, op := Op.pick (Operand.tmp 42) (Operand.tmp 53) (Operand.const (Value.bool false)), type := 4, pos := "law.go:53", after := #[{ on := 2, ground := Ground.data }, { on := 13, ground := Ground.data }], guard := none }) (v := ?_) rfl (by kernel_rfl) (by kernel_rfl) (by kernel_rfl) (fun _ _ _ h => h) (Or.inl ⟨by rfl, ?_⟩) (by assumption) ?_
    rotate_left
    · (intro w_ hS_; go_simp; try with_reducible rfl)
    simp only [Act.put, List.setIfInBounds_toArray, List.set_cons_zero, List.set_cons_succ]
    refine wpAnyH_take (i := 15) (oi := { dst := some 55, op := Op.move (Operand.tmp 54), type := 4, pos := "law.go:53", after := #[{ on := 14, ground := Ground.data }, { on := 8, ground := Ground.chain }], guard := none }) (v := ?_) rfl (by kernel_rfl) (by kernel_rfl) (by kernel_rfl) (fun _ _ _ h => h) (Or.inl ⟨by rfl, ?_⟩) (by assumption) ?_
    rotate_left
    · (intro w_ hS_; go_simp; try with_reducible rfl)
    simp only [Act.put, List.setIfInBounds_toArray, List.set_cons_zero, List.set_cons_succ]
    refine wpAnyH_take (i := 16) (oi := { dst := some 56, op := Op.move (Operand.tmp 12), type := 30, pos := "law.go:53", after := #[{ on := 15, ground := Ground.guard }], guard := some (15, false) }) (v := ?_) rfl (by kernel_rfl) (by kernel_rfl) (by kernel_rfl) (fun _ _ _ h => h) (Or.inl ⟨by rfl, ?_⟩) (by assumption) ?_
    rotate_left
    · (intro w_ hS_; go_simp; try with_reducible rfl)
    simp only [Act.put, List.setIfInBounds_toArray, List.set_cons_zero, List.set_cons_succ]
    refine wpAnyH_take (i := 17) (oi := { dst := some 57, op := Op.binOp BinOp.neq 30 (Operand.tmp 56) (Operand.const (Value.int IntKind.i64 0)) 30, type := 4, pos := "law.go:53", after := #[{ on := 16, ground := Ground.data }, { on := 15, ground := Ground.guard }], guard := some (15, false) }) (v := ?_) rfl (by kernel_rfl) (by kernel_rfl) (by kernel_rfl) (fun _ _ _ h => h) (Or.inl ⟨by rfl, ?_⟩) (by assumption) ?_
    rotate_left
    · (intro w_ hS_; go_simp; try with_reducible rfl)
    simp only [Act.put, List.setIfInBounds_toArray, List.set_cons_zero, List.set_cons_succ]
    refine wpAnyH_take (i := 18) (oi := { dst := some 58, op := Op.move (Operand.tmp 57), type := 4, pos := "law.go:53", after := #[{ on := 17, ground := Ground.data }, { on := 15, ground := Ground.chain }, { on := 15, ground := Ground.guard }], guard := some (15, false) }) (v := ?_) rfl (by kernel_rfl) (by kernel_rfl) (by kernel_rfl) (fun _ _ _ h => h) (Or.inl ⟨by rfl, ?_⟩) (by assumption) ?_
    rotate_left
    · (intro w_ hS_; go_simp; try with_reducible rfl)
    simp only [Act.put, List.setIfInBounds_toArray, List.set_cons_zero, List.set_cons_succ]
    refine wpAnyH_take (i := 19) (oi := { dst := some 59, op := Op.load 27 (Operand.tmp 11), type := 27, pos := "law.go:53", after := #[{ on := 18, ground := Ground.guard }], guard := some (18, true) }) (v := undef) rfl (by kernel_rfl) (by kernel_rfl) (by kernel_rfl) (fun _ _ _ h => h) (Or.inr ⟨by rfl, rfl⟩) (by assumption) ?_
    simp only [Act.put, List.setIfInBounds_toArray, List.set_cons_zero, List.set_cons_succ]
    refine wpAnyH_take (i := 20) (oi := { dst := some 60, op := Op.build 27 #[], type := 27, pos := "law.go:53", after := #[{ on := 18, ground := Ground.guard }], guard := some (18, true) }) (v := undef) rfl (by kernel_rfl) (by kernel_rfl) (by kernel_rfl) (fun _ _ _ h => h) (Or.inr ⟨by rfl, rfl⟩) (by assumption) ?_
    simp only [Act.put, List.setIfInBounds_toArray, List.set_cons_zero, List.set_cons_succ]
    refine wpAnyH_take (i := 21) (oi := { dst := some 61, op := Op.call { callee := Callee.value (Operand.func 14), args := #[Operand.tmp 59, Operand.tmp 60], argTypes := #[27, 27] }, type := 4, pos := "law.go:53", after := #[{ on := 19, ground := Ground.data }, { on := 20, ground := Ground.data }, { on := 18, ground := Ground.chain }, { on := 18, ground := Ground.guard }], guard := some (18, true) }) (v := undef) rfl (by kernel_rfl) (by kernel_rfl) (by kernel_rfl) (fun _ _ _ h => h) (Or.inr ⟨by rfl, rfl⟩) (by assumption) ?_
    simp only [Act.put, List.setIfInBounds_toArray, List.set_cons_zero, List.set_cons_succ]
    refine wpAnyH_take (i := 22) (oi := { dst := some 62, op := Op.unOp UnOp.not 4 (Operand.tmp 61), type := 4, pos := "law.go:53", after := #[{ on := 21, ground := Ground.data }, { on := 18, ground := Ground.guard }], guard := some (18, true) }) (v := undef) rfl (by kernel_rfl) (by kernel_rfl) (by kernel_rfl) (fun _ _ _ h => h) (Or.inr ⟨by rfl, rfl⟩) (by assumption) ?_
    simp only [Act.put, List.setIfInBounds_toArray, List.set_cons_zero, List.set_cons_succ]
    refine wpAnyH_take (i := 23) (oi := { dst := some 63, op := Op.pick (Operand.tmp 58) (Operand.tmp 62) (Operand.const (Value.bool false)), type := 4, pos := "law.go:53", after := #[{ on := 18, ground := Ground.data }, { on := 22, ground := Ground.data }, { on := 15, ground := Ground.guard }], guard := some (15, false) }) (v := ?_) rfl (by kernel_rfl) (by kernel_rfl) (by kernel_rfl) (fun _ _ _ h => h) (Or.inl ⟨by rfl, ?_⟩) (by assumption) ?_
    rotate_left
    · (intro w_ hS_; go_simp; try with_reducible rfl)
    simp only [Act.put, List.setIfInBounds_toArray, List.set_cons_zero, List.set_cons_succ]
    refine wpAnyH_take (i := 24) (oi := { dst := some 64, op := Op.pick (Operand.tmp 55) (Operand.const (Value.bool true)) (Operand.tmp 63), type := 4, pos := "law.go:53", after := #[{ on := 15, ground := Ground.data }, { on := 23, ground := Ground.data }], guard := none }) (v := ?_) rfl (by kernel_rfl) (by kernel_rfl) (by kernel_rfl) (fun _ _ _ h => h) (Or.inl ⟨by rfl, ?_⟩) (by assumption) ?_
    rotate_left
    · (intro w_ hS_; go_simp; try with_reducible rfl)
    simp only [Act.put, List.setIfInBounds_toArray, List.set_cons_zero, List.set_cons_succ]
    refine wpAnyH_done (by kernel_rfl) ?_ _
    clear sl GY e1
    have l9 := GP.out w10 (bthen b1 (bthen b2 (bthen b3 (bthen b4 (bthen b5 (bthen b6 (bthen b7 (bthen b8 b10))))))))
    have hc := pmay_any _ p w10 (hu.below (bthen b0 (bthen b1 (bthen b2 (bthen b3 (bthen b4 (bthen b5 (bthen b6 (bthen b7 (bthen b8 b10))))))))))
    go_wp2_with (refine wpList_ldP rfl (.tmp 3) rfl P rfl cp hs l9 ?_)
    with_reducible refine hc.mono ?_
    rintro en w11 ⟨rfl, b11⟩
    clear hc l9
    cases m1 : Pkt.may p with
    | false =>
      obtain rfl : 0 = N := by rw [← HN.out, ← HR.out]; unfold Pkt.bytes; rw [m1]; rfl
      go_wp2
      go_ret
      exact ⟨rfl, (bthen b0 (bthen b1 (bthen b2 (bthen b3 (bthen b4 (bthen b5 (bthen b6 (bthen b7 (bthen b8 (bthen b10 b11))))))))))⟩
    | true =>
      have hrb := read_bytes m1
      rw [HR.out] at hrb
      have hx0 : xe = 0 := by rw [← Hxe.out]; exact hrb.2
      have hxp : x = p := by rw [← Hx.out, hrb.1]; rfl
      clear hrb
      subst hx0
      have ix11 := ix.below (bthen b6 (bthen b7 (bthen b8 (bthen b10 b11))))
      rw [hxp] at ix11
      have gx := Gx.out w11 (bthen b7 (bthen b8 (bthen b10 b11)))
      have l11 := GP.out w11 (bthen b1 (bthen b2 (bthen b3 (bthen b4 (bthen b5 (bthen b6 (bthen b7 (bthen b8 (bthen b10 b11)))))))))
      have hc := rpsame_is (.agg cx) (.agg cp) p p w11 ix11 (hu.below (bthen b0 (bthen b1 (bthen b2 (bthen b3 (bthen b4 (bthen b5 (bthen b6 (bthen b7 (bthen b8 (bthen b10 b11))))))))))) true (by simp)
      go_wp2_with (first | (refine wpList_ldP rfl (.tmp 9) rfl w5.heap.size rfl cx sx gx ?_) | (refine wpList_ldP rfl (.tmp 3) rfl P rfl cp hs l11 ?_))
      with_reducible refine hc.mono ?_
      rintro en w12 ⟨rfl, b12⟩
      clear hc l11 gx ix11
      go_wp2_with fail
      have GPw := fun w' (hb : Below w12.heap.size w12 w') => GP.out w' (bthen (bthen b1 (bthen b2 (bthen b3 (bthen b4 (bthen b5 (bthen b6 (bthen b7 (bthen b8 (bthen b10 (bthen b11 b12)))))))))) hb)
      have GOw := fun w' (hb : Below w12.heap.size w12 w') => GO.out w' (bthen (bthen b1 (bthen b2 (bthen b3 (bthen b4 (bthen b5 (bthen b6 (bthen b7 (bthen b8 (bthen b10 (bthen b11 b12)))))))))) hb)
      have ip := hu.below (bthen b0 (bthen b1 (bthen b2 (bthen b3 (bthen b4 (bthen b5 (bthen b6 (bthen b7 (bthen b8 (bthen b10 (bthen b11 b12)))))))))))
      have io := hv.below (bthen b0 (bthen b1 (bthen b2 (bthen b3 (bthen b4 (bthen b5 (bthen b6 (bthen b7 (bthen b8 (bthen b10 (bthen b11 b12)))))))))))
      have hbW := (bthen b0 (bthen b1 (bthen b2 (bthen b3 (bthen b4 (bthen b5 (bthen b6 (bthen b7 (bthen b8 (bthen b10 (bthen b11 b12)))))))))))
      cases m2 : Pkt.may o with
      | false =>
        refine wp_region_held_drew (S := fun w' => Below w12.heap.size w12 w') (by kernel_rfl) ?_ (fun hHeld => ?_)
        · exact (Below.refl _ _).drew
        refine wpAnyH_take (i := 0) (oi := { dst := some 82, op := Op.move (Operand.tmp 7), type := 4, pos := "law.go:62", after := #[], guard := none }) (v := ?_) rfl (by kernel_rfl) (by kernel_rfl) (by kernel_rfl) (fun _ _ _ h => h) (Or.inl ⟨by rfl, ?_⟩) (by assumption) ?_
        rotate_left
        · (intro w_ hS_; go_simp; try with_reducible rfl)
        simp only [Act.put, List.setIfInBounds_toArray, List.set_cons_zero, List.set_cons_succ]
        refine wpAnyH_take (i := 1) (oi := { dst := some 83, op := Op.move (Operand.tmp 82), type := 4, pos := "law.go:62", after := #[{ on := 0, ground := Ground.data }], guard := none }) (v := ?_) rfl (by kernel_rfl) (by kernel_rfl) (by kernel_rfl) (fun _ _ _ h => h) (Or.inl ⟨by rfl, ?_⟩) (by assumption) ?_
        rotate_left
        · (intro w_ hS_; go_simp; try with_reducible rfl)
        simp only [Act.put, List.setIfInBounds_toArray, List.set_cons_zero, List.set_cons_succ]
        refine wpAnyH_take (i := 2) (oi := { dst := some 84, op := Op.load 27 (Operand.tmp 4), type := 27, pos := "law.go:62", after := #[{ on := 1, ground := Ground.guard }], guard := some (1, true) }) (v := .agg co) rfl (by kernel_rfl) (by kernel_rfl) (by kernel_rfl) (fun _ _ _ h => h) (Or.inl ⟨by rfl, fun w_ hS_ => run_ldP (.tmp 4) rfl O rfl co hs' (GOw w_ hS_)⟩) (by assumption) ?_
        simp only [Act.put, List.setIfInBounds_toArray, List.set_cons_zero, List.set_cons_succ]
        refine wpAnyH_ready (rs := [3]) (by kernel_rfl) (by simp) ?_
        refine AllReadyH.cons (o := { dst := some 85, op := Op.call { callee := Callee.value (Operand.func 11), args := #[Operand.tmp 84], argTypes := #[27] }, type := 4, pos := "law.go:62", after := #[{ on := 2, ground := Ground.data }, { on := 1, ground := Ground.chain }, { on := 1, ground := Ground.guard }], guard := some (1, true) }) rfl (fun K hK => ?_) AllReadyH.nil
        go_simp
        have hc := pmay_any (.agg co) o w12.drew (io.below (Below.refl _ _).drew)
        rw [m2] at hc
        refine hc.mono ?_
        rintro en w13 ⟨rfl, b13'⟩
        have b13 : Below w12.heap.size w12 w13 := undrew b13'
        clear hc
        dsimp only
        refine hK.out _ _ ?_ (fun hHeld => ?_)
        · exact b13
        clear hK K
        refine wpAnyH_take (i := 4) (oi := { dst := some 86, op := Op.unOp UnOp.not 4 (Operand.tmp 85), type := 4, pos := "law.go:62", after := #[{ on := 3, ground := Ground.data }, { on := 1, ground := Ground.guard }], guard := some (1, true) }) (v := ?_) rfl (by kernel_rfl) (by kernel_rfl) (by kernel_rfl) (fun _ _ _ h => h) (Or.inl ⟨by rfl, ?_⟩) (by assumption) ?_
        rotate_left
        · (intro w_ hS_; go_simp; try with_reducible rfl)
        simp only [Act.put, List.setIfInBounds_toArray, List.set_cons_zero, List.set_cons_succ]
        refine wpAnyH_take (i := 5) (oi := { dst := some 87, op := Op.move (Operand.tmp 86), type := 4, pos := "law.go:62", after := #[{ on := 4, ground := Ground.data }, { on := 3, ground := Ground.chain }, { on := 1, ground := Ground.guard }], guard := some (1, true) }) (v := ?_) rfl (by kernel_rfl) (by kernel_rfl) (by kernel_rfl) (fun _ _ _ h => h) (Or.inl ⟨by rfl, ?_⟩) (by assumption) ?_
        rotate_left
        · (intro w_ hS_; go_simp; try with_reducible rfl)
        simp only [Act.put, List.setIfInBounds_toArray, List.set_cons_zero, List.set_cons_succ]
        refine wpAnyH_take (i := 6) (oi := { dst := some 88, op := Op.move (Operand.tmp 8), type := 23, pos := "law.go:62", after := #[{ on := 5, ground := Ground.guard }], guard := some (5, false) }) (v := undef) rfl (by kernel_rfl) (by kernel_rfl) (by kernel_rfl) (fun _ _ _ h => h) (Or.inr ⟨by rfl, rfl⟩) (by assumption) ?_
        simp only [Act.put, List.setIfInBounds_toArray, List.set_cons_zero, List.set_cons_succ]
        refine wpAnyH_take (i := 7) (oi := { dst := some 89, op := Op.convert 23 9 (Operand.tmp 88), type := 9, pos := "law.go:62", after := #[{ on := 6, ground := Ground.data }, { on := 5, ground := Ground.guard }], guard := some (5, false) }) (v := undef) rfl (by kernel_rfl) (by kernel_rfl) (by kernel_rfl) (fun _ _ _ h => h) (Or.inr ⟨by rfl, rfl⟩) (by assumption) ?_
        simp only [Act.put, List.setIfInBounds_toArray, List.set_cons_zero, List.set_cons_succ]
        refine wpAnyH_take (i := 8) (oi := { dst := some 90, op := Op.load 27 (Operand.tmp 4), type := 27, pos := "law.go:62", after := #[{ on := 5, ground := Ground.guard }], guard := some (5, false) }) (v := undef) rfl (by kernel_rfl) (by kernel_rfl) (by kernel_rfl) (fun _ _ _ h => h) (Or.inr ⟨by rfl, rfl⟩) (by assumption) ?_
        simp only [Act.put, List.setIfInBounds_toArray, List.set_cons_zero, List.set_cons_succ]
        refine wpAnyH_take (i := 9) (oi := { dst := some 91, op := Op.call { callee := Callee.value (Operand.func 15), args := #[Operand.tmp 90], argTypes := #[27] }, type := 23, pos := "law.go:62", after := #[{ on := 8, ground := Ground.data }, { on := 5, ground := Ground.chain }, { on := 5, ground := Ground.guard }], guard := some (5, false) }) (v := undef) rfl (by kernel_rfl) (by kernel_rfl) (by kernel_rfl) (fun _ _ _ h => h) (Or.inr ⟨by rfl, rfl⟩) (by assumption) ?_
        simp only [Act.put, List.setIfInBounds_toArray, List.set_cons_zero, List.set_cons_succ]
        refine wpAnyH_take (i := 10) (oi := { dst := some 92, op := Op.convert 23 9 (Operand.tmp 91), type := 9, pos := "law.go:62", after := #[{ on := 9, ground := Ground.data }, { on := 5, ground := Ground.guard }], guard := some (5, false) }) (v := undef) rfl (by kernel_rfl) (by kernel_rfl) (by kernel_rfl) (fun _ _ _ h => h) (Or.inr ⟨by rfl, rfl⟩) (by assumption) ?_
        simp only [Act.put, List.setIfInBounds_toArray, List.set_cons_zero, List.set_cons_succ]
        refine wpAnyH_take (i := 11) (oi := { dst := some 93, op := Op.binOp BinOp.eql 9 (Operand.tmp 89) (Operand.tmp 92) 9, type := 4, pos := "law.go:62", after := #[{ on := 7, ground := Ground.data }, { on := 10, ground := Ground.data }, { on := 5, ground := Ground.guard }], guard := some (5, false) }) (v := undef) rfl (by kernel_rfl) (by kernel_rfl) (by kernel_rfl) (fun _ _ _ h => h) (Or.inr ⟨by rfl, rfl⟩) (by assumption) ?_
        simp only [Act.put, List.setIfInBounds_toArray, List.set_cons_zero, List.set_cons_succ]
        refine wpAnyH_take (i := 12) (oi := { dst := some 94, op := Op.load 27 (Operand.tmp 3), type := 27, pos := "law.go:62", after := #[{ on := 5, ground := Ground.guard }], guard := some (5, false) }) (v := undef) rfl (by kernel_rfl) (by kernel_rfl) (by kernel_rfl) (fun _ _ _ h => h) (Or.inr ⟨by rfl, rfl⟩) (by assumption) ?_
        simp only [Act.put, List.setIfInBounds_toArray, List.set_cons_zero, List.set_cons_succ]
        refine wpAnyH_take (i := 13) (oi := { dst := some 95, op := Op.load 27 (Operand.tmp 4), type := 27, pos := "law.go:62", after := #[{ on := 5, ground := Ground.guard }], guard := some (5, false) }) (v := undef) rfl (by kernel_rfl) (by kernel_rfl) (by kernel_rfl) (fun _ _ _ h => h) (Or.inr ⟨by rfl, rfl⟩) (by assumption) ?_
        simp only [Act.put, List.setIfInBounds_toArray, List.set_cons_zero, List.set_cons_succ]
        refine wpAnyH_take (i := 14) (oi := { dst := some 96, op := Op.call { callee := Callee.value (Operand.func 14), args := #[Operand.tmp 94, Operand.tmp 95], argTypes := #[27, 27] }, type := 4, pos := "law.go:62", after := #[{ on := 12, ground := Ground.data }, { on := 13, ground := Ground.data }, { on := 9, ground := Ground.chain }, { on := 5, ground := Ground.guard }], guard := some (5, false) }) (v := undef) rfl (by kernel_rfl) (by kernel_rfl) (by kernel_rfl) (fun _ _ _ h => h) (Or.inr ⟨by rfl, rfl⟩) (by assumption) ?_
        simp only [Act.put, List.setIfInBounds_toArray, List.set_cons_zero, List.set_cons_succ]
        refine wpAnyH_take (i := 15) (oi := { dst := some 97, op := Op.binOp BinOp.eql 4 (Operand.tmp 93) (Operand.tmp 96) 4, type := 4, pos := "law.go:62", after := #[{ on := 11, ground := Ground.data }, { on := 14, ground := Ground.data }, { on := 5, ground := Ground.guard }], guard := some (5, false) }) (v := undef) rfl (by kernel_rfl) (by kernel_rfl) (by kernel_rfl) (fun _ _ _ h => h) (Or.inr ⟨by rfl, rfl⟩) (by assumption) ?_
        simp only [Act.put, List.setIfInBounds_toArray, List.set_cons_zero, List.set_cons_succ]
        refine wpAnyH_take (i := 16) (oi := { dst := some 98, op := Op.pick (Operand.tmp 87) (Operand.const (Value.bool true)) (Operand.tmp 97), type := 4, pos := "law.go:62", after := #[{ on := 5, ground := Ground.data }, { on := 15, ground := Ground.data }, { on := 1, ground := Ground.guard }], guard := some (1, true) }) (v := ?_) rfl (by kernel_rfl) (by kernel_rfl) (by kernel_rfl) (fun _ _ _ h => h) (Or.inl ⟨by rfl, ?_⟩) (by assumption) ?_
        rotate_left
        · (intro w_ hS_; go_simp; try with_reducible rfl)
        simp only [Act.put, List.setIfInBounds_toArray, List.set_cons_zero, List.set_cons_succ]
        refine wpAnyH_take (i := 17) (oi := { dst := some 99, op := Op.pick (Operand.tmp 83) (Operand.tmp 98) (Operand.const (Value.bool false)), type := 4, pos := "law.go:62", after := #[{ on := 1, ground := Ground.data }, { on := 16, ground := Ground.data }], guard := none }) (v := ?_) rfl (by kernel_rfl) (by kernel_rfl) (by kernel_rfl) (fun _ _ _ h => h) (Or.inl ⟨by rfl, ?_⟩) (by assumption) ?_
        rotate_left
        · (intro w_ hS_; go_simp; try with_reducible rfl)
        simp only [Act.put, List.setIfInBounds_toArray, List.set_cons_zero, List.set_cons_succ]
        refine wpAnyH_take (i := 18) (oi := { dst := some 6, op := Op.assign (Operand.tmp 99), type := 4, pos := "law.go:62", after := #[{ on := 17, ground := Ground.data }, { on := 14, ground := Ground.chain }, { on := 0, ground := Ground.phase }, { on := 1, ground := Ground.phase }, { on := 2, ground := Ground.phase }, { on := 3, ground := Ground.phase }, { on := 4, ground := Ground.phase }, { on := 5, ground := Ground.phase }, { on := 6, ground := Ground.phase }, { on := 7, ground := Ground.phase }, { on := 8, ground := Ground.phase }, { on := 9, ground := Ground.phase }, { on := 10, ground := Ground.phase }, { on := 11, ground := Ground.phase }, { on := 12, ground := Ground.phase }, { on := 13, ground := Ground.phase }, { on := 14, ground := Ground.phase }, { on := 15, ground := Ground.phase }, { on := 16, ground := Ground.phase }, { on := 17, ground := Ground.phase }], guard := none }) (v := ?_) rfl (by kernel_rfl) (by kernel_rfl) (by kernel_rfl) (fun _ _ _ h => h) (Or.inl ⟨by rfl, ?_⟩) (by assumption) ?_
        rotate_left
        · (intro w_ hS_; go_simp; try with_reducible rfl)
        simp only [Act.put, List.setIfInBounds_toArray, List.set_cons_zero, List.set_cons_succ]
        refine wpAnyH_done (by kernel_rfl) ?_ _
        go_wp2
        go_ret
        exact ⟨rfl, bthen hbW b13⟩
      | true =>
        obtain ⟨Bo, hBo⟩ : ∃ Bo, Pkt.bytes o = Bo := ⟨_, rfl⟩
        obtain ⟨E, hE⟩ : ∃ E, decide (p = o) = E := ⟨_, rfl⟩
        have qb : ((str R).toList == (str Bo).toList) = E := by
          rw [str_beq, ← hE, decide_eq_decide, ← HR.out, ← hBo]
          exact ⟨fun e => pbytes_inj m1 m2 e, fun e => by rw [e]⟩
        have HBo := hidT hBo
        have HE := hidT hE
        clear hBo hE
        have sR := fun w' (hb : Below w12.heap.size w12 w') => strs r4 w' (bthen (bthen b5 (bthen b6 (bthen b7 (bthen b8 (bthen b10 (bthen b11 b12)))))) hb)
        refine wp_region_held_drew (S := fun w' => Below w12.heap.size w12 w') (by kernel_rfl) ?_ (fun hHeld => ?_)
        · exact (Below.refl _ _).drew
        refine wpAnyH_take (i := 0) (oi := { dst := some 82, op := Op.move (Operand.tmp 7), type := 4, pos := "law.go:62", after := #[], guard := none }) (v := ?_) rfl (by kernel_rfl) (by kernel_rfl) (by kernel_rfl) (fun _ _ _ h => h) (Or.inl ⟨by rfl, ?_⟩) (by assumption) ?_
        rotate_left
        · (intro w_ hS_; go_simp; try with_reducible rfl)
        simp only [Act.put, List.setIfInBounds_toArray, List.set_cons_zero, List.set_cons_succ]
        refine wpAnyH_take (i := 1) (oi := { dst := some 83, op := Op.move (Operand.tmp 82), type := 4, pos := "law.go:62", after := #[{ on := 0, ground := Ground.data }], guard := none }) (v := ?_) rfl (by kernel_rfl) (by kernel_rfl) (by kernel_rfl) (fun _ _ _ h => h) (Or.inl ⟨by rfl, ?_⟩) (by assumption) ?_
        rotate_left
        · (intro w_ hS_; go_simp; try with_reducible rfl)
        simp only [Act.put, List.setIfInBounds_toArray, List.set_cons_zero, List.set_cons_succ]
        refine wpAnyH_take (i := 2) (oi := { dst := some 84, op := Op.load 27 (Operand.tmp 4), type := 27, pos := "law.go:62", after := #[{ on := 1, ground := Ground.guard }], guard := some (1, true) }) (v := .agg co) rfl (by kernel_rfl) (by kernel_rfl) (by kernel_rfl) (fun _ _ _ h => h) (Or.inl ⟨by rfl, fun w_ hS_ => run_ldP (.tmp 4) rfl O rfl co hs' (GOw w_ hS_)⟩) (by assumption) ?_
        simp only [Act.put, List.setIfInBounds_toArray, List.set_cons_zero, List.set_cons_succ]
        refine wpAnyH_ready (rs := [3]) (by kernel_rfl) (by simp) ?_
        refine AllReadyH.cons (o := { dst := some 85, op := Op.call { callee := Callee.value (Operand.func 11), args := #[Operand.tmp 84], argTypes := #[27] }, type := 4, pos := "law.go:62", after := #[{ on := 2, ground := Ground.data }, { on := 1, ground := Ground.chain }, { on := 1, ground := Ground.guard }], guard := some (1, true) }) rfl (fun K hK => ?_) AllReadyH.nil
        go_simp
        have hc := pmay_any (.agg co) o w12.drew (io.below (Below.refl _ _).drew)
        rw [m2] at hc
        refine hc.mono ?_
        rintro en w13 ⟨rfl, b13'⟩
        have b13 : Below w12.heap.size w12 w13 := undrew b13'
        clear hc
        dsimp only
        refine hK.out _ _ ?_ (fun hHeld => ?_)
        · exact b13
        clear hK K
        refine wpAnyH_take (i := 4) (oi := { dst := some 86, op := Op.unOp UnOp.not 4 (Operand.tmp 85), type := 4, pos := "law.go:62", after := #[{ on := 3, ground := Ground.data }, { on := 1, ground := Ground.guard }], guard := some (1, true) }) (v := ?_) rfl (by kernel_rfl) (by kernel_rfl) (by kernel_rfl) (fun _ _ _ h => h) (Or.inl ⟨by rfl, ?_⟩) (by assumption) ?_
        rotate_left
        · (intro w_ hS_; go_simp; try with_reducible rfl)
        simp only [Act.put, List.setIfInBounds_toArray, List.set_cons_zero, List.set_cons_succ]
        refine wpAnyH_take (i := 5) (oi := { dst := some 87, op := Op.move (Operand.tmp 86), type := 4, pos := "law.go:62", after := #[{ on := 4, ground := Ground.data }, { on := 3, ground := Ground.chain }, { on := 1, ground := Ground.guard }], guard := some (1, true) }) (v := ?_) rfl (by kernel_rfl) (by kernel_rfl) (by kernel_rfl) (fun _ _ _ h => h) (Or.inl ⟨by rfl, ?_⟩) (by assumption) ?_
        rotate_left
        · (intro w_ hS_; go_simp; try with_reducible rfl)
        simp only [Act.put, List.setIfInBounds_toArray, List.set_cons_zero, List.set_cons_succ]
        refine wpAnyH_take (i := 6) (oi := { dst := some 88, op := Op.move (Operand.tmp 8), type := 23, pos := "law.go:62", after := #[{ on := 5, ground := Ground.guard }], guard := some (5, false) }) (v := ?_) rfl (by kernel_rfl) (by kernel_rfl) (by kernel_rfl) (fun _ _ _ h => h) (Or.inl ⟨by rfl, ?_⟩) (by assumption) ?_
        rotate_left
        · (intro w_ hS_; go_simp; try with_reducible rfl)
        simp only [Act.put, List.setIfInBounds_toArray, List.set_cons_zero, List.set_cons_succ]
        refine wpAnyH_take (i := 7) (oi := { dst := some 89, op := Op.convert 23 9 (Operand.tmp 88), type := 9, pos := "law.go:62", after := #[{ on := 6, ground := Ground.data }, { on := 5, ground := Ground.guard }], guard := some (5, false) }) (v := ?_) rfl (by kernel_rfl) (by kernel_rfl) (by kernel_rfl) (fun _ _ _ h => h) (Or.inl ⟨by rfl, ?_⟩) (by assumption) ?_
        rotate_left
        · (intro w_ hS_; go_simp; try with_reducible rfl)
        simp only [Act.put, List.setIfInBounds_toArray, List.set_cons_zero, List.set_cons_succ]
        refine wpAnyH_take (i := 8) (oi := { dst := some 90, op := Op.load 27 (Operand.tmp 4), type := 27, pos := "law.go:62", after := #[{ on := 5, ground := Ground.guard }], guard := some (5, false) }) (v := .agg co) rfl (by kernel_rfl) (by kernel_rfl) (by kernel_rfl) (fun _ _ _ h => h) (Or.inl ⟨by rfl, fun w_ hS_ => run_ldP (.tmp 4) rfl O rfl co hs' (GOw w_ hS_)⟩) (by assumption) ?_
        simp only [Act.put, List.setIfInBounds_toArray, List.set_cons_zero, List.set_cons_succ]
        refine wpAnyH_take (i := 12) (oi := { dst := some 94, op := Op.load 27 (Operand.tmp 3), type := 27, pos := "law.go:62", after := #[{ on := 5, ground := Ground.guard }], guard := some (5, false) }) (v := .agg cp) rfl (by kernel_rfl) (by kernel_rfl) (by kernel_rfl) (fun _ _ _ h => h) (Or.inl ⟨by rfl, fun w_ hS_ => run_ldP (.tmp 3) rfl P rfl cp hs (GPw w_ hS_)⟩) (by assumption) ?_
        simp only [Act.put, List.setIfInBounds_toArray, List.set_cons_zero, List.set_cons_succ]
        refine wpAnyH_take (i := 13) (oi := { dst := some 95, op := Op.load 27 (Operand.tmp 4), type := 27, pos := "law.go:62", after := #[{ on := 5, ground := Ground.guard }], guard := some (5, false) }) (v := .agg co) rfl (by kernel_rfl) (by kernel_rfl) (by kernel_rfl) (fun _ _ _ h => h) (Or.inl ⟨by rfl, fun w_ hS_ => run_ldP (.tmp 4) rfl O rfl co hs' (GOw w_ hS_)⟩) (by assumption) ?_
        simp only [Act.put, List.setIfInBounds_toArray, List.set_cons_zero, List.set_cons_succ]
        refine wpAnyH_ready (rs := [9]) (by kernel_rfl) (by simp) ?_
        refine AllReadyH.cons (o := { dst := some 91, op := Op.call { callee := Callee.value (Operand.func 15), args := #[Operand.tmp 90], argTypes := #[27] }, type := 23, pos := "law.go:62", after := #[{ on := 8, ground := Ground.data }, { on := 5, ground := Ground.chain }, { on := 5, ground := Ground.guard }], guard := some (5, false) }) rfl (fun K hK => ?_) AllReadyH.nil
        go_simp
        have hc := pbytes_any (.agg co) o w13 (hw.below (bthen hbW b13)) (io.below b13)
        rw [HBo.out] at hc
        refine hc.mono ?_
        rintro en w14 ⟨A14, c14, rfl, o14, b14'⟩
        have b14 : Below w12.heap.size w12 w14 := bthen b13 b14'
        have s14 := strs o14.same w14 (Below.refl _ _)
        clear hc
        dsimp only
        refine hK.out _ _ ?_ (fun hHeld => ?_)
        · exact b14
        clear hK K
        have s14 := fun w' (hb : Below w14.heap.size w14 w') => strs o14.same w' hb
        have S14 := hidT s14
        clear s14
        have qE : (E == E) = true := by simp
        refine wpAnyH_ready (rs := [10, 14]) (by kernel_rfl) (by simp) ?_
        refine AllReadyH.cons (o := { dst := some 92, op := Op.convert 23 9 (Operand.tmp 91), type := 9, pos := "law.go:62", after := #[{ on := 9, ground := Ground.data }, { on := 5, ground := Ground.guard }], guard := some (5, false) }) rfl (fun K hK => ?_) (AllReadyH.cons (o := { dst := some 96, op := Op.call { callee := Callee.value (Operand.func 14), args := #[Operand.tmp 94, Operand.tmp 95], argTypes := #[27, 27] }, type := 4, pos := "law.go:62", after := #[{ on := 12, ground := Ground.data }, { on := 13, ground := Ground.data }, { on := 9, ground := Ground.chain }, { on := 5, ground := Ground.guard }], guard := some (5, false) }) rfl (fun K hK => ?_) AllReadyH.nil)
        · have s1 := S14.out w14 (Below.refl _ _)
          go_simp
          refine hK.out _ _ ?_ (fun hHeld => ?_)
          · exact b14
          clear hK K s1
          refine wpAnyH_take (i := 11) (oi := { dst := some 93, op := Op.binOp BinOp.eql 9 (Operand.tmp 89) (Operand.tmp 92) 9, type := 4, pos := "law.go:62", after := #[{ on := 7, ground := Ground.data }, { on := 10, ground := Ground.data }, { on := 5, ground := Ground.guard }], guard := some (5, false) }) (v := ?_) rfl (by kernel_rfl) (by kernel_rfl) (by kernel_rfl) (fun _ _ _ h => h) (Or.inl ⟨by rfl, ?_⟩) (by assumption) ?_
          rotate_left
          · (intro w_ hS_; go_simp; try with_reducible rfl)
          simp only [Act.put, List.setIfInBounds_toArray, List.set_cons_zero, List.set_cons_succ]
          refine wpAnyH_ready (rs := [14]) (by kernel_rfl) (by simp) ?_
          refine AllReadyH.cons (o := { dst := some 96, op := Op.call { callee := Callee.value (Operand.func 14), args := #[Operand.tmp 94, Operand.tmp 95], argTypes := #[27, 27] }, type := 4, pos := "law.go:62", after := #[{ on := 12, ground := Ground.data }, { on := 13, ground := Ground.data }, { on := 9, ground := Ground.chain }, { on := 5, ground := Ground.guard }], guard := some (5, false) }) rfl (fun K hK => ?_) AllReadyH.nil
          go_simp
          refine (rpsame_is (.agg cp) (.agg co) p o w14 (ip.below b14) (io.below b14) E HE.out).mono ?_
          rintro en w15 ⟨rfl, b15'⟩
          have b15 : Below w12.heap.size w12 w15 := bthen b14 b15'
          dsimp only
          refine hK.out _ _ ?_ (fun hHeld => ?_)
          · exact b15
          clear hK K
          refine wpAnyH_take (i := 15) (oi := { dst := some 97, op := Op.binOp BinOp.eql 4 (Operand.tmp 93) (Operand.tmp 96) 4, type := 4, pos := "law.go:62", after := #[{ on := 11, ground := Ground.data }, { on := 14, ground := Ground.data }, { on := 5, ground := Ground.guard }], guard := some (5, false) }) (v := ?_) rfl (by kernel_rfl) (by kernel_rfl) (by kernel_rfl) (fun _ _ _ h => h) (Or.inl ⟨by rfl, ?_⟩) (by assumption) ?_
          rotate_left
          · (intro w_ hS_; go_simp; try with_reducible rfl)
          simp only [Act.put, List.setIfInBounds_toArray, List.set_cons_zero, List.set_cons_succ]
          refine wpAnyH_take (i := 16) (oi := { dst := some 98, op := Op.pick (Operand.tmp 87) (Operand.const (Value.bool true)) (Operand.tmp 97), type := 4, pos := "law.go:62", after := #[{ on := 5, ground := Ground.data }, { on := 15, ground := Ground.data }, { on := 1, ground := Ground.guard }], guard := some (1, true) }) (v := ?_) rfl (by kernel_rfl) (by kernel_rfl) (by kernel_rfl) (fun _ _ _ h => h) (Or.inl ⟨by rfl, ?_⟩) (by assumption) ?_
          rotate_left
          · (intro w_ hS_; go_simp; try with_reducible rfl)
          simp only [Act.put, List.setIfInBounds_toArray, List.set_cons_zero, List.set_cons_succ]
          refine wpAnyH_take (i := 17) (oi := { dst := some 99, op := Op.pick (Operand.tmp 83) (Operand.tmp 98) (Operand.const (Value.bool false)), type := 4, pos := "law.go:62", after := #[{ on := 1, ground := Ground.data }, { on := 16, ground := Ground.data }], guard := none }) (v := ?_) rfl (by kernel_rfl) (by kernel_rfl) (by kernel_rfl) (fun _ _ _ h => h) (Or.inl ⟨by rfl, ?_⟩) (by assumption) ?_
          rotate_left
          · (intro w_ hS_; go_simp; try with_reducible rfl)
          simp only [Act.put, List.setIfInBounds_toArray, List.set_cons_zero, List.set_cons_succ]
          refine wpAnyH_take (i := 18) (oi := { dst := some 6, op := Op.assign (Operand.tmp 99), type := 4, pos := "law.go:62", after := #[{ on := 17, ground := Ground.data }, { on := 14, ground := Ground.chain }, { on := 0, ground := Ground.phase }, { on := 1, ground := Ground.phase }, { on := 2, ground := Ground.phase }, { on := 3, ground := Ground.phase }, { on := 4, ground := Ground.phase }, { on := 5, ground := Ground.phase }, { on := 6, ground := Ground.phase }, { on := 7, ground := Ground.phase }, { on := 8, ground := Ground.phase }, { on := 9, ground := Ground.phase }, { on := 10, ground := Ground.phase }, { on := 11, ground := Ground.phase }, { on := 12, ground := Ground.phase }, { on := 13, ground := Ground.phase }, { on := 14, ground := Ground.phase }, { on := 15, ground := Ground.phase }, { on := 16, ground := Ground.phase }, { on := 17, ground := Ground.phase }], guard := none }) (v := ?_) rfl (by kernel_rfl) (by kernel_rfl) (by kernel_rfl) (fun _ _ _ h => h) (Or.inl ⟨by rfl, ?_⟩) (by assumption) ?_
          rotate_left
          · (intro w_ hS_; go_simp; try with_reducible rfl)
          simp only [Act.put, List.setIfInBounds_toArray, List.set_cons_zero, List.set_cons_succ]
          refine wpAnyH_done (by kernel_rfl) ?_ _
          go_wp2
          go_ret
          exact ⟨rfl, bthen hbW b15⟩
        · skip
          go_simp
          refine (rpsame_is (.agg cp) (.agg co) p o w14 (ip.below b14) (io.below b14) E HE.out).mono ?_
          rintro en w15 ⟨rfl, b15'⟩
          have b15 : Below w12.heap.size w12 w15 := bthen b14 b15'
          dsimp only
          refine hK.out _ _ ?_ (fun hHeld => ?_)
          · exact b15
          clear hK K
          have s1 := S14.out w15 b15'
          refine wpAnyH_ready (rs := [10]) (by kernel_rfl) (by simp) ?_
          refine AllReadyH.cons (o := { dst := some 92, op := Op.convert 23 9 (Operand.tmp 91), type := 9, pos := "law.go:62", after := #[{ on := 9, ground := Ground.data }, { on := 5, ground := Ground.guard }], guard := some (5, false) }) rfl (fun K hK => ?_) AllReadyH.nil
          go_simp
          refine hK.out _ _ ?_ (fun hHeld => ?_)
          · exact b15
          clear hK K
          clear s1
          refine wpAnyH_take (i := 11) (oi := { dst := some 93, op := Op.binOp BinOp.eql 9 (Operand.tmp 89) (Operand.tmp 92) 9, type := 4, pos := "law.go:62", after := #[{ on := 7, ground := Ground.data }, { on := 10, ground := Ground.data }, { on := 5, ground := Ground.guard }], guard := some (5, false) }) (v := ?_) rfl (by kernel_rfl) (by kernel_rfl) (by kernel_rfl) (fun _ _ _ h => h) (Or.inl ⟨by rfl, ?_⟩) (by assumption) ?_
          rotate_left
          · (intro w_ hS_; go_simp; try with_reducible rfl)
          simp only [Act.put, List.setIfInBounds_toArray, List.set_cons_zero, List.set_cons_succ]
          refine wpAnyH_take (i := 15) (oi := { dst := some 97, op := Op.binOp BinOp.eql 4 (Operand.tmp 93) (Operand.tmp 96) 4, type := 4, pos := "law.go:62", after := #[{ on := 11, ground := Ground.data }, { on := 14, ground := Ground.data }, { on := 5, ground := Ground.guard }], guard := some (5, false) }) (v := ?_) rfl (by kernel_rfl) (by kernel_rfl) (by kernel_rfl) (fun _ _ _ h => h) (Or.inl ⟨by rfl, ?_⟩) (by assumption) ?_
          rotate_left
          · (intro w_ hS_; go_simp; try with_reducible rfl)
          simp only [Act.put, List.setIfInBounds_toArray, List.set_cons_zero, List.set_cons_succ]
          refine wpAnyH_take (i := 16) (oi := { dst := some 98, op := Op.pick (Operand.tmp 87) (Operand.const (Value.bool true)) (Operand.tmp 97), type := 4, pos := "law.go:62", after := #[{ on := 5, ground := Ground.data }, { on := 15, ground := Ground.data }, { on := 1, ground := Ground.guard }], guard := some (1, true) }) (v := ?_) rfl (by kernel_rfl) (by kernel_rfl) (by kernel_rfl) (fun _ _ _ h => h) (Or.inl ⟨by rfl, ?_⟩) (by assumption) ?_
          rotate_left
          · (intro w_ hS_; go_simp; try with_reducible rfl)
          simp only [Act.put, List.setIfInBounds_toArray, List.set_cons_zero, List.set_cons_succ]
          refine wpAnyH_take (i := 17) (oi := { dst := some 99, op := Op.pick (Operand.tmp 83) (Operand.tmp 98) (Operand.const (Value.bool false)), type := 4, pos := "law.go:62", after := #[{ on := 1, ground := Ground.data }, { on := 16, ground := Ground.data }], guard := none }) (v := ?_) rfl (by kernel_rfl) (by kernel_rfl) (by kernel_rfl) (fun _ _ _ h => h) (Or.inl ⟨by rfl, ?_⟩) (by assumption) ?_
          rotate_left
          · (intro w_ hS_; go_simp; try with_reducible rfl)
          simp only [Act.put, List.setIfInBounds_toArray, List.set_cons_zero, List.set_cons_succ]
          refine wpAnyH_take (i := 18) (oi := { dst := some 6, op := Op.assign (Operand.tmp 99), type := 4, pos := "law.go:62", after := #[{ on := 17, ground := Ground.data }, { on := 14, ground := Ground.chain }, { on := 0, ground := Ground.phase }, { on := 1, ground := Ground.phase }, { on := 2, ground := Ground.phase }, { on := 3, ground := Ground.phase }, { on := 4, ground := Ground.phase }, { on := 5, ground := Ground.phase }, { on := 6, ground := Ground.phase }, { on := 7, ground := Ground.phase }, { on := 8, ground := Ground.phase }, { on := 9, ground := Ground.phase }, { on := 10, ground := Ground.phase }, { on := 11, ground := Ground.phase }, { on := 12, ground := Ground.phase }, { on := 13, ground := Ground.phase }, { on := 14, ground := Ground.phase }, { on := 15, ground := Ground.phase }, { on := 16, ground := Ground.phase }, { on := 17, ground := Ground.phase }], guard := none }) (v := ?_) rfl (by kernel_rfl) (by kernel_rfl) (by kernel_rfl) (fun _ _ _ h => h) (Or.inl ⟨by rfl, ?_⟩) (by assumption) ?_
          rotate_left
          · (intro w_ hS_; go_simp; try with_reducible rfl)
          simp only [Act.put, List.setIfInBounds_toArray, List.set_cons_zero, List.set_cons_succ]
          refine wpAnyH_done (by kernel_rfl) ?_ _
          go_wp2
          go_ret
          exact ⟨rfl, bthen hbW b15⟩
  · skip
    have hz : y = Pkt.Pk.zero := by rw [← Hy.out, read_bad (by rw [Hye.out]; exact y0)]; rfl
    have y1 : (ye != 0) = true := by simpa using y0
    have y2 : (ye == 0) = false := by simpa using y0
    have GY := HGY.out
    have H2 := hidT hz
    clear hz
    refine wp_region_held_drew (S := fun w' => Below w8.heap.size w8 w') (by kernel_rfl) ?_ (fun hHeld => ?_)
    · exact (Below.refl _ _).drew
    refine wpAnyH_take (i := 0) (oi := { dst := some 40, op := Op.move (Operand.tmp 12), type := 30, pos := "law.go:53", after := #[], guard := none }) (v := ?_) rfl (by kernel_rfl) (by kernel_rfl) (by kernel_rfl) (fun _ _ _ h => h) (Or.inl ⟨by rfl, ?_⟩) (by assumption) ?_
    rotate_left
    · (intro w_ hS_; go_simp; try with_reducible rfl)
    simp only [Act.put, List.setIfInBounds_toArray, List.set_cons_zero, List.set_cons_succ]
    refine wpAnyH_take (i := 1) (oi := { dst := some 41, op := Op.binOp BinOp.eql 30 (Operand.tmp 40) (Operand.const (Value.int IntKind.i64 0)) 30, type := 4, pos := "law.go:53", after := #[{ on := 0, ground := Ground.data }], guard := none }) (v := ?_) rfl (by kernel_rfl) (by kernel_rfl) (by kernel_rfl) (fun _ _ _ h => h) (Or.inl ⟨by rfl, ?_⟩) (by assumption) ?_
    rotate_left
    · (intro w_ hS_; go_simp; try with_reducible rfl)
    simp only [Act.put, List.setIfInBounds_toArray, List.set_cons_zero, List.set_cons_succ]
    refine wpAnyH_take (i := 2) (oi := { dst := some 42, op := Op.move (Operand.tmp 41), type := 4, pos := "law.go:53", after := #[{ on := 1, ground := Ground.data }], guard := none }) (v := ?_) rfl (by kernel_rfl) (by kernel_rfl) (by kernel_rfl) (fun _ _ _ h => h) (Or.inl ⟨by rfl, ?_⟩) (by assumption) ?_
    rotate_left
    · (intro w_ hS_; go_simp; try with_reducible rfl)
    simp only [Act.put, List.setIfInBounds_toArray, List.set_cons_zero, List.set_cons_succ]
    refine wpAnyH_take (i := 3) (oi := { dst := some 43, op := Op.load 27 (Operand.tmp 11), type := 27, pos := "law.go:53", after := #[{ on := 2, ground := Ground.guard }], guard := some (2, true) }) (v := undef) rfl (by kernel_rfl) (by kernel_rfl) (by kernel_rfl) (fun _ _ _ h => h) (Or.inr ⟨by rfl, rfl⟩) (by assumption) ?_
    simp only [Act.put, List.setIfInBounds_toArray, List.set_cons_zero, List.set_cons_succ]
    refine wpAnyH_take (i := 4) (oi := { dst := some 44, op := Op.call { callee := Callee.value (Operand.func 11), args := #[Operand.tmp 43], argTypes := #[27] }, type := 4, pos := "law.go:53", after := #[{ on := 3, ground := Ground.data }, { on := 2, ground := Ground.chain }, { on := 2, ground := Ground.guard }], guard := some (2, true) }) (v := undef) rfl (by kernel_rfl) (by kernel_rfl) (by kernel_rfl) (fun _ _ _ h => h) (Or.inr ⟨by rfl, rfl⟩) (by assumption) ?_
    simp only [Act.put, List.setIfInBounds_toArray, List.set_cons_zero, List.set_cons_succ]
    refine wpAnyH_take (i := 5) (oi := { dst := some 45, op := Op.unOp UnOp.not 4 (Operand.tmp 44), type := 4, pos := "law.go:53", after := #[{ on := 4, ground := Ground.data }, { on := 2, ground := Ground.guard }], guard := some (2, true) }) (v := undef) rfl (by kernel_rfl) (by kernel_rfl) (by kernel_rfl) (fun _ _ _ h => h) (Or.inr ⟨by rfl, rfl⟩) (by assumption) ?_
    simp only [Act.put, List.setIfInBounds_toArray, List.set_cons_zero, List.set_cons_succ]
    refine wpAnyH_take (i := 6) (oi := { dst := some 46, op := Op.move (Operand.tmp 45), type := 4, pos := "law.go:53", after := #[{ on := 5, ground := Ground.data }, { on := 4, ground := Ground.chain }, { on := 2, ground := Ground.guard }], guard := some (2, true) }) (v := undef) rfl (by kernel_rfl) (by kernel_rfl) (by kernel_rfl) (fun _ _ _ h => h) (Or.inr ⟨by rfl, rfl⟩) (by assumption) ?_
    simp only [Act.put, List.setIfInBounds_toArray, List.set_cons_zero, List.set_cons_succ]
    refine wpAnyH_take (i := 7) (oi := { dst := some 47, op := Op.load 27 (Operand.tmp 11), type := 27, pos := "law.go:53", after := #[{ on := 6, ground := Ground.guard }], guard := some (6, false) }) (v := undef) rfl (by kernel_rfl) (by kernel_rfl) (by kernel_rfl) (fun _ _ _ h => h) (Or.inr ⟨by rfl, rfl⟩) (by assumption) ?_
    simp only [Act.put, List.setIfInBounds_toArray, List.set_cons_zero, List.set_cons_succ]
    refine wpAnyH_take (i := 8) (oi := { dst := some 48, op := Op.call { callee := Callee.value (Operand.func 15), args := #[Operand.tmp 47], argTypes := #[27] }, type := 23, pos := "law.go:53", after := #[{ on := 7, ground := Ground.data }, { on := 6, ground := Ground.chain }, { on := 6, ground := Ground.guard }], guard := some (6, false) }) (v := undef) rfl (by kernel_rfl) (by kernel_rfl) (by kernel_rfl) (fun _ _ _ h => h) (Or.inr ⟨by rfl, rfl⟩) (by assumption) ?_
    simp only [Act.put, List.setIfInBounds_toArray, List.set_cons_zero, List.set_cons_succ]
    refine wpAnyH_take (i := 9) (oi := { dst := some 49, op := Op.convert 23 9 (Operand.tmp 48), type := 9, pos := "law.go:53", after := #[{ on := 8, ground := Ground.data }, { on := 6, ground := Ground.guard }], guard := some (6, false) }) (v := undef) rfl (by kernel_rfl) (by kernel_rfl) (by kernel_rfl) (fun _ _ _ h => h) (Or.inr ⟨by rfl, rfl⟩) (by assumption) ?_
    simp only [Act.put, List.setIfInBounds_toArray, List.set_cons_zero, List.set_cons_succ]
    refine wpAnyH_take (i := 10) (oi := { dst := some 50, op := Op.move (Operand.tmp 2), type := 23, pos := "law.go:53", after := #[{ on := 6, ground := Ground.guard }], guard := some (6, false) }) (v := undef) rfl (by kernel_rfl) (by kernel_rfl) (by kernel_rfl) (fun _ _ _ h => h) (Or.inr ⟨by rfl, rfl⟩) (by assumption) ?_
    simp only [Act.put, List.setIfInBounds_toArray, List.set_cons_zero, List.set_cons_succ]
    refine wpAnyH_take (i := 11) (oi := { dst := some 51, op := Op.convert 23 9 (Operand.tmp 50), type := 9, pos := "law.go:53", after := #[{ on := 10, ground := Ground.data }, { on := 6, ground := Ground.guard }], guard := some (6, false) }) (v := undef) rfl (by kernel_rfl) (by kernel_rfl) (by kernel_rfl) (fun _ _ _ h => h) (Or.inr ⟨by rfl, rfl⟩) (by assumption) ?_
    simp only [Act.put, List.setIfInBounds_toArray, List.set_cons_zero, List.set_cons_succ]
    refine wpAnyH_take (i := 12) (oi := { dst := some 52, op := Op.binOp BinOp.neq 9 (Operand.tmp 49) (Operand.tmp 51) 9, type := 4, pos := "law.go:53", after := #[{ on := 9, ground := Ground.data }, { on := 11, ground := Ground.data }, { on := 6, ground := Ground.guard }], guard := some (6, false) }) (v := undef) rfl (by kernel_rfl) (by kernel_rfl) (by kernel_rfl) (fun _ _ _ h => h) (Or.inr ⟨by rfl, rfl⟩) (by assumption) ?_
    simp only [Act.put, List.setIfInBounds_toArray, List.set_cons_zero, List.set_cons_succ]
    refine wpAnyH_take (i := 13) (oi := { dst := some 53, op := Op.pick (Operand.tmp 46) (Operand.const (Value.bool true)) (Operand.tmp 52), type := 4, pos := "law.go:53", after := #[{ on := 6, ground := Ground.data }, { on := 12, ground := Ground.data }, { on := 2, ground := Ground.guard }], guard := some (2, true) }) (v := undef) rfl (by kernel_rfl) (by kernel_rfl) (by kernel_rfl) (fun _ _ _ h => h) (Or.inr ⟨by rfl, rfl⟩) (by assumption) ?_
    simp only [Act.put, List.setIfInBounds_toArray, List.set_cons_zero, List.set_cons_succ]
    refine wpAnyH_take (i := 14) (oi := { dst := some 54, op := Op.pick (Operand.tmp 42) (Operand.tmp 53) (Operand.const (Value.bool false)), type := 4, pos := "law.go:53", after := #[{ on := 2, ground := Ground.data }, { on := 13, ground := Ground.data }], guard := none }) (v := ?_) rfl (by kernel_rfl) (by kernel_rfl) (by kernel_rfl) (fun _ _ _ h => h) (Or.inl ⟨by rfl, ?_⟩) (by assumption) ?_
    rotate_left
    · (intro w_ hS_; go_simp; try with_reducible rfl)
    simp only [Act.put, List.setIfInBounds_toArray, List.set_cons_zero, List.set_cons_succ]
    refine wpAnyH_take (i := 15) (oi := { dst := some 55, op := Op.move (Operand.tmp 54), type := 4, pos := "law.go:53", after := #[{ on := 14, ground := Ground.data }, { on := 8, ground := Ground.chain }], guard := none }) (v := ?_) rfl (by kernel_rfl) (by kernel_rfl) (by kernel_rfl) (fun _ _ _ h => h) (Or.inl ⟨by rfl, ?_⟩) (by assumption) ?_
    rotate_left
    · (intro w_ hS_; go_simp; try with_reducible rfl)
    simp only [Act.put, List.setIfInBounds_toArray, List.set_cons_zero, List.set_cons_succ]
    refine wpAnyH_take (i := 16) (oi := { dst := some 56, op := Op.move (Operand.tmp 12), type := 30, pos := "law.go:53", after := #[{ on := 15, ground := Ground.guard }], guard := some (15, false) }) (v := ?_) rfl (by kernel_rfl) (by kernel_rfl) (by kernel_rfl) (fun _ _ _ h => h) (Or.inl ⟨by rfl, ?_⟩) (by assumption) ?_
    rotate_left
    · (intro w_ hS_; go_simp; try with_reducible rfl)
    simp only [Act.put, List.setIfInBounds_toArray, List.set_cons_zero, List.set_cons_succ]
    refine wpAnyH_take (i := 17) (oi := { dst := some 57, op := Op.binOp BinOp.neq 30 (Operand.tmp 56) (Operand.const (Value.int IntKind.i64 0)) 30, type := 4, pos := "law.go:53", after := #[{ on := 16, ground := Ground.data }, { on := 15, ground := Ground.guard }], guard := some (15, false) }) (v := ?_) rfl (by kernel_rfl) (by kernel_rfl) (by kernel_rfl) (fun _ _ _ h => h) (Or.inl ⟨by rfl, ?_⟩) (by assumption) ?_
    rotate_left
    · (intro w_ hS_; go_simp; try with_reducible rfl)
    simp only [Act.put, List.setIfInBounds_toArray, List.set_cons_zero, List.set_cons_succ]
    refine wpAnyH_take (i := 18) (oi := { dst := some 58, op := Op.move (Operand.tmp 57), type := 4, pos := "law.go:53", after := #[{ on := 17, ground := Ground.data }, { on := 15, ground := Ground.chain }, { on := 15, ground := Ground.guard }], guard := some (15, false) }) (v := ?_) rfl (by kernel_rfl) (by kernel_rfl) (by kernel_rfl) (fun _ _ _ h => h) (Or.inl ⟨by rfl, ?_⟩) (by assumption) ?_
    rotate_left
    · (intro w_ hS_; go_simp; try with_reducible rfl)
    simp only [Act.put, List.setIfInBounds_toArray, List.set_cons_zero, List.set_cons_succ]
    refine wpAnyH_take (i := 19) (oi := { dst := some 59, op := Op.load 27 (Operand.tmp 11), type := 27, pos := "law.go:53", after := #[{ on := 18, ground := Ground.guard }], guard := some (18, true) }) (v := .agg cy) rfl (by kernel_rfl) (by kernel_rfl) (by kernel_rfl) (fun _ _ _ h => h) (Or.inl ⟨by rfl, fun w_ hS_ => run_ldP (.tmp 11) rfl w7.heap.size rfl cy sy (GY w_ hS_)⟩) (by assumption) ?_
    simp only [Act.put, List.setIfInBounds_toArray, List.set_cons_zero, List.set_cons_succ]
    refine wpAnyH_take (i := 20) (oi := { dst := some 60, op := Op.build 27 #[], type := 27, pos := "law.go:53", after := #[{ on := 18, ground := Ground.guard }], guard := some (18, true) }) (v := ?_) rfl (by kernel_rfl) (by kernel_rfl) (by kernel_rfl) (fun _ _ _ h => h) (Or.inl ⟨by rfl, ?_⟩) (by assumption) ?_
    rotate_left
    · (intro w_ hS_; go_simp; try with_reducible rfl)
    simp only [Act.put, List.setIfInBounds_toArray, List.set_cons_zero, List.set_cons_succ]
    refine wpAnyH_ready (rs := [21]) (by kernel_rfl) (by simp) ?_
    refine AllReadyH.cons (o := { dst := some 61, op := Op.call { callee := Callee.value (Operand.func 14), args := #[Operand.tmp 59, Operand.tmp 60], argTypes := #[27, 27] }, type := 4, pos := "law.go:53", after := #[{ on := 19, ground := Ground.data }, { on := 20, ground := Ground.data }, { on := 18, ground := Ground.chain }, { on := 18, ground := Ground.guard }], guard := some (18, true) }) rfl (fun K hK => ?_) AllReadyH.nil
    go_simp
    refine (rpsame_is (.agg cy) (.agg zpkt) y Pkt.Pk.zero w8.drew (iy8.below (Below.refl _ _).drew) (zero_pkt _) true (by rw [H2.out]; simp)).mono ?_
    rintro en w10 ⟨rfl, b10'⟩
    have b10 : Below w8.heap.size w8 w10 := undrew b10'
    dsimp only
    refine hK.out _ _ ?_ (fun hHeld => ?_)
    · exact b10
    clear hK K
    refine wpAnyH_take (i := 22) (oi := { dst := some 62, op := Op.unOp UnOp.not 4 (Operand.tmp 61), type := 4, pos := "law.go:53", after := #[{ on := 21, ground := Ground.data }, { on := 18, ground := Ground.guard }], guard := some (18, true) }) (v := ?_) rfl (by kernel_rfl) (by kernel_rfl) (by kernel_rfl) (fun _ _ _ h => h) (Or.inl ⟨by rfl, ?_⟩) (by assumption) ?_
    rotate_left
    · (intro w_ hS_; go_simp; try with_reducible rfl)
    simp only [Act.put, List.setIfInBounds_toArray, List.set_cons_zero, List.set_cons_succ]
    refine wpAnyH_take (i := 23) (oi := { dst := some 63, op := Op.pick (Operand.tmp 58) (Operand.tmp 62) (Operand.const (Value.bool false)), type := 4, pos := "law.go:53", after := #[{ on := 18, ground := Ground.data }, { on := 22, ground := Ground.data }, { on := 15, ground := Ground.guard }], guard := some (15, false) }) (v := ?_) rfl (by kernel_rfl) (by kernel_rfl) (by kernel_rfl) (fun _ _ _ h => h) (Or.inl ⟨by rfl, ?_⟩) (by assumption) ?_
    rotate_left
    · (intro w_ hS_; go_simp; try with_reducible rfl)
    simp only [Act.put, List.setIfInBounds_toArray, List.set_cons_zero, List.set_cons_succ]
    refine wpAnyH_take (i := 24) (oi := { dst := some 64, op := Op.pick (Operand.tmp 55) (Operand.const (Value.bool true)) (Operand.tmp 63), type := 4, pos := "law.go:53", after := #[{ on := 15, ground := Ground.data }, { on := 23, ground := Ground.data }], guard := none }) (v := ?_) rfl (by kernel_rfl) (by kernel_rfl) (by kernel_rfl) (fun _ _ _ h => h) (Or.inl ⟨by rfl, ?_⟩) (by assumption) ?_
    rotate_left
    · (intro w_ hS_; go_simp; try with_reducible rfl)
    simp only [Act.put, List.setIfInBounds_toArray, List.set_cons_zero, List.set_cons_succ]
    refine wpAnyH_done (by kernel_rfl) ?_ _
    clear GY y1 y2
    have l9 := GP.out w10 (bthen b1 (bthen b2 (bthen b3 (bthen b4 (bthen b5 (bthen b6 (bthen b7 (bthen b8 b10))))))))
    have hc := pmay_any _ p w10 (hu.below (bthen b0 (bthen b1 (bthen b2 (bthen b3 (bthen b4 (bthen b5 (bthen b6 (bthen b7 (bthen b8 b10))))))))))
    go_wp2_with (refine wpList_ldP rfl (.tmp 3) rfl P rfl cp hs l9 ?_)
    with_reducible refine hc.mono ?_
    rintro en w11 ⟨rfl, b11⟩
    clear hc l9
    cases m1 : Pkt.may p with
    | false =>
      obtain rfl : 0 = N := by rw [← HN.out, ← HR.out]; unfold Pkt.bytes; rw [m1]; rfl
      go_wp2
      go_ret
      exact ⟨rfl, (bthen b0 (bthen b1 (bthen b2 (bthen b3 (bthen b4 (bthen b5 (bthen b6 (bthen b7 (bthen b8 (bthen b10 b11))))))))))⟩
    | true =>
      have hrb := read_bytes m1
      rw [HR.out] at hrb
      have hx0 : xe = 0 := by rw [← Hxe.out]; exact hrb.2
      have hxp : x = p := by rw [← Hx.out, hrb.1]; rfl
      clear hrb
      subst hx0
      have ix11 := ix.below (bthen b6 (bthen b7 (bthen b8 (bthen b10 b11))))
      rw [hxp] at ix11
      have gx := Gx.out w11 (bthen b7 (bthen b8 (bthen b10 b11)))
      have l11 := GP.out w11 (bthen b1 (bthen b2 (bthen b3 (bthen b4 (bthen b5 (bthen b6 (bthen b7 (bthen b8 (bthen b10 b11)))))))))
      have hc := rpsame_is (.agg cx) (.agg cp) p p w11 ix11 (hu.below (bthen b0 (bthen b1 (bthen b2 (bthen b3 (bthen b4 (bthen b5 (bthen b6 (bthen b7 (bthen b8 (bthen b10 b11))))))))))) true (by simp)
      go_wp2_with (first | (refine wpList_ldP rfl (.tmp 9) rfl w5.heap.size rfl cx sx gx ?_) | (refine wpList_ldP rfl (.tmp 3) rfl P rfl cp hs l11 ?_))
      with_reducible refine hc.mono ?_
      rintro en w12 ⟨rfl, b12⟩
      clear hc l11 gx ix11
      go_wp2_with fail
      have GPw := fun w' (hb : Below w12.heap.size w12 w') => GP.out w' (bthen (bthen b1 (bthen b2 (bthen b3 (bthen b4 (bthen b5 (bthen b6 (bthen b7 (bthen b8 (bthen b10 (bthen b11 b12)))))))))) hb)
      have GOw := fun w' (hb : Below w12.heap.size w12 w') => GO.out w' (bthen (bthen b1 (bthen b2 (bthen b3 (bthen b4 (bthen b5 (bthen b6 (bthen b7 (bthen b8 (bthen b10 (bthen b11 b12)))))))))) hb)
      have ip := hu.below (bthen b0 (bthen b1 (bthen b2 (bthen b3 (bthen b4 (bthen b5 (bthen b6 (bthen b7 (bthen b8 (bthen b10 (bthen b11 b12)))))))))))
      have io := hv.below (bthen b0 (bthen b1 (bthen b2 (bthen b3 (bthen b4 (bthen b5 (bthen b6 (bthen b7 (bthen b8 (bthen b10 (bthen b11 b12)))))))))))
      have hbW := (bthen b0 (bthen b1 (bthen b2 (bthen b3 (bthen b4 (bthen b5 (bthen b6 (bthen b7 (bthen b8 (bthen b10 (bthen b11 b12)))))))))))
      cases m2 : Pkt.may o with
      | false =>
        refine wp_region_held_drew (S := fun w' => Below w12.heap.size w12 w') (by kernel_rfl) ?_ (fun hHeld => ?_)
        · exact (Below.refl _ _).drew
        refine wpAnyH_take (i := 0) (oi := { dst := some 82, op := Op.move (Operand.tmp 7), type := 4, pos := "law.go:62", after := #[], guard := none }) (v := ?_) rfl (by kernel_rfl) (by kernel_rfl) (by kernel_rfl) (fun _ _ _ h => h) (Or.inl ⟨by rfl, ?_⟩) (by assumption) ?_
        rotate_left
        · (intro w_ hS_; go_simp; try with_reducible rfl)
        simp only [Act.put, List.setIfInBounds_toArray, List.set_cons_zero, List.set_cons_succ]
        refine wpAnyH_take (i := 1) (oi := { dst := some 83, op := Op.move (Operand.tmp 82), type := 4, pos := "law.go:62", after := #[{ on := 0, ground := Ground.data }], guard := none }) (v := ?_) rfl (by kernel_rfl) (by kernel_rfl) (by kernel_rfl) (fun _ _ _ h => h) (Or.inl ⟨by rfl, ?_⟩) (by assumption) ?_
        rotate_left
        · (intro w_ hS_; go_simp; try with_reducible rfl)
        simp only [Act.put, List.setIfInBounds_toArray, List.set_cons_zero, List.set_cons_succ]
        refine wpAnyH_take (i := 2) (oi := { dst := some 84, op := Op.load 27 (Operand.tmp 4), type := 27, pos := "law.go:62", after := #[{ on := 1, ground := Ground.guard }], guard := some (1, true) }) (v := .agg co) rfl (by kernel_rfl) (by kernel_rfl) (by kernel_rfl) (fun _ _ _ h => h) (Or.inl ⟨by rfl, fun w_ hS_ => run_ldP (.tmp 4) rfl O rfl co hs' (GOw w_ hS_)⟩) (by assumption) ?_
        simp only [Act.put, List.setIfInBounds_toArray, List.set_cons_zero, List.set_cons_succ]
        refine wpAnyH_ready (rs := [3]) (by kernel_rfl) (by simp) ?_
        refine AllReadyH.cons (o := { dst := some 85, op := Op.call { callee := Callee.value (Operand.func 11), args := #[Operand.tmp 84], argTypes := #[27] }, type := 4, pos := "law.go:62", after := #[{ on := 2, ground := Ground.data }, { on := 1, ground := Ground.chain }, { on := 1, ground := Ground.guard }], guard := some (1, true) }) rfl (fun K hK => ?_) AllReadyH.nil
        go_simp
        have hc := pmay_any (.agg co) o w12.drew (io.below (Below.refl _ _).drew)
        rw [m2] at hc
        refine hc.mono ?_
        rintro en w13 ⟨rfl, b13'⟩
        have b13 : Below w12.heap.size w12 w13 := undrew b13'
        clear hc
        dsimp only
        refine hK.out _ _ ?_ (fun hHeld => ?_)
        · exact b13
        clear hK K
        refine wpAnyH_take (i := 4) (oi := { dst := some 86, op := Op.unOp UnOp.not 4 (Operand.tmp 85), type := 4, pos := "law.go:62", after := #[{ on := 3, ground := Ground.data }, { on := 1, ground := Ground.guard }], guard := some (1, true) }) (v := ?_) rfl (by kernel_rfl) (by kernel_rfl) (by kernel_rfl) (fun _ _ _ h => h) (Or.inl ⟨by rfl, ?_⟩) (by assumption) ?_
        rotate_left
        · (intro w_ hS_; go_simp; try with_reducible rfl)
        simp only [Act.put, List.setIfInBounds_toArray, List.set_cons_zero, List.set_cons_succ]
        refine wpAnyH_take (i := 5) (oi := { dst := some 87, op := Op.move (Operand.tmp 86), type := 4, pos := "law.go:62", after := #[{ on := 4, ground := Ground.data }, { on := 3, ground := Ground.chain }, { on := 1, ground := Ground.guard }], guard := some (1, true) }) (v := ?_) rfl (by kernel_rfl) (by kernel_rfl) (by kernel_rfl) (fun _ _ _ h => h) (Or.inl ⟨by rfl, ?_⟩) (by assumption) ?_
        rotate_left
        · (intro w_ hS_; go_simp; try with_reducible rfl)
        simp only [Act.put, List.setIfInBounds_toArray, List.set_cons_zero, List.set_cons_succ]
        refine wpAnyH_take (i := 6) (oi := { dst := some 88, op := Op.move (Operand.tmp 8), type := 23, pos := "law.go:62", after := #[{ on := 5, ground := Ground.guard }], guard := some (5, false) }) (v := undef) rfl (by kernel_rfl) (by kernel_rfl) (by kernel_rfl) (fun _ _ _ h => h) (Or.inr ⟨by rfl, rfl⟩) (by assumption) ?_
        simp only [Act.put, List.setIfInBounds_toArray, List.set_cons_zero, List.set_cons_succ]
        refine wpAnyH_take (i := 7) (oi := { dst := some 89, op := Op.convert 23 9 (Operand.tmp 88), type := 9, pos := "law.go:62", after := #[{ on := 6, ground := Ground.data }, { on := 5, ground := Ground.guard }], guard := some (5, false) }) (v := undef) rfl (by kernel_rfl) (by kernel_rfl) (by kernel_rfl) (fun _ _ _ h => h) (Or.inr ⟨by rfl, rfl⟩) (by assumption) ?_
        simp only [Act.put, List.setIfInBounds_toArray, List.set_cons_zero, List.set_cons_succ]
        refine wpAnyH_take (i := 8) (oi := { dst := some 90, op := Op.load 27 (Operand.tmp 4), type := 27, pos := "law.go:62", after := #[{ on := 5, ground := Ground.guard }], guard := some (5, false) }) (v := undef) rfl (by kernel_rfl) (by kernel_rfl) (by kernel_rfl) (fun _ _ _ h => h) (Or.inr ⟨by rfl, rfl⟩) (by assumption) ?_
        simp only [Act.put, List.setIfInBounds_toArray, List.set_cons_zero, List.set_cons_succ]
        refine wpAnyH_take (i := 9) (oi := { dst := some 91, op := Op.call { callee := Callee.value (Operand.func 15), args := #[Operand.tmp 90], argTypes := #[27] }, type := 23, pos := "law.go:62", after := #[{ on := 8, ground := Ground.data }, { on := 5, ground := Ground.chain }, { on := 5, ground := Ground.guard }], guard := some (5, false) }) (v := undef) rfl (by kernel_rfl) (by kernel_rfl) (by kernel_rfl) (fun _ _ _ h => h) (Or.inr ⟨by rfl, rfl⟩) (by assumption) ?_
        simp only [Act.put, List.setIfInBounds_toArray, List.set_cons_zero, List.set_cons_succ]
        refine wpAnyH_take (i := 10) (oi := { dst := some 92, op := Op.convert 23 9 (Operand.tmp 91), type := 9, pos := "law.go:62", after := #[{ on := 9, ground := Ground.data }, { on := 5, ground := Ground.guard }], guard := some (5, false) }) (v := undef) rfl (by kernel_rfl) (by kernel_rfl) (by kernel_rfl) (fun _ _ _ h => h) (Or.inr ⟨by rfl, rfl⟩) (by assumption) ?_
        simp only [Act.put, List.setIfInBounds_toArray, List.set_cons_zero, List.set_cons_succ]
        refine wpAnyH_take (i := 11) (oi := { dst := some 93, op := Op.binOp BinOp.eql 9 (Operand.tmp 89) (Operand.tmp 92) 9, type := 4, pos := "law.go:62", after := #[{ on := 7, ground := Ground.data }, { on := 10, ground := Ground.data }, { on := 5, ground := Ground.guard }], guard := some (5, false) }) (v := undef) rfl (by kernel_rfl) (by kernel_rfl) (by kernel_rfl) (fun _ _ _ h => h) (Or.inr ⟨by rfl, rfl⟩) (by assumption) ?_
        simp only [Act.put, List.setIfInBounds_toArray, List.set_cons_zero, List.set_cons_succ]
        refine wpAnyH_take (i := 12) (oi := { dst := some 94, op := Op.load 27 (Operand.tmp 3), type := 27, pos := "law.go:62", after := #[{ on := 5, ground := Ground.guard }], guard := some (5, false) }) (v := undef) rfl (by kernel_rfl) (by kernel_rfl) (by kernel_rfl) (fun _ _ _ h => h) (Or.inr ⟨by rfl, rfl⟩) (by assumption) ?_
        simp only [Act.put, List.setIfInBounds_toArray, List.set_cons_zero, List.set_cons_succ]
        refine wpAnyH_take (i := 13) (oi := { dst := some 95, op := Op.load 27 (Operand.tmp 4), type := 27, pos := "law.go:62", after := #[{ on := 5, ground := Ground.guard }], guard := some (5, false) }) (v := undef) rfl (by kernel_rfl) (by kernel_rfl) (by kernel_rfl) (fun _ _ _ h => h) (Or.inr ⟨by rfl, rfl⟩) (by assumption) ?_
        simp only [Act.put, List.setIfInBounds_toArray, List.set_cons_zero, List.set_cons_succ]
        refine wpAnyH_take (i := 14) (oi := { dst := some 96, op := Op.call { callee := Callee.value (Operand.func 14), args := #[Operand.tmp 94, Operand.tmp 95], argTypes := #[27, 27] }, type := 4, pos := "law.go:62", after := #[{ on := 12, ground := Ground.data }, { on := 13, ground := Ground.data }, { on := 9, ground := Ground.chain }, { on := 5, ground := Ground.guard }], guard := some (5, false) }) (v := undef) rfl (by kernel_rfl) (by kernel_rfl) (by kernel_rfl) (fun _ _ _ h => h) (Or.inr ⟨by rfl, rfl⟩) (by assumption) ?_
        simp only [Act.put, List.setIfInBounds_toArray, List.set_cons_zero, List.set_cons_succ]
        refine wpAnyH_take (i := 15) (oi := { dst := some 97, op := Op.binOp BinOp.eql 4 (Operand.tmp 93) (Operand.tmp 96) 4, type := 4, pos := "law.go:62", after := #[{ on := 11, ground := Ground.data }, { on := 14, ground := Ground.data }, { on := 5, ground := Ground.guard }], guard := some (5, false) }) (v := undef) rfl (by kernel_rfl) (by kernel_rfl) (by kernel_rfl) (fun _ _ _ h => h) (Or.inr ⟨by rfl, rfl⟩) (by assumption) ?_
        simp only [Act.put, List.setIfInBounds_toArray, List.set_cons_zero, List.set_cons_succ]
        refine wpAnyH_take (i := 16) (oi := { dst := some 98, op := Op.pick (Operand.tmp 87) (Operand.const (Value.bool true)) (Operand.tmp 97), type := 4, pos := "law.go:62", after := #[{ on := 5, ground := Ground.data }, { on := 15, ground := Ground.data }, { on := 1, ground := Ground.guard }], guard := some (1, true) }) (v := ?_) rfl (by kernel_rfl) (by kernel_rfl) (by kernel_rfl) (fun _ _ _ h => h) (Or.inl ⟨by rfl, ?_⟩) (by assumption) ?_
        rotate_left
        · (intro w_ hS_; go_simp; try with_reducible rfl)
        simp only [Act.put, List.setIfInBounds_toArray, List.set_cons_zero, List.set_cons_succ]
        refine wpAnyH_take (i := 17) (oi := { dst := some 99, op := Op.pick (Operand.tmp 83) (Operand.tmp 98) (Operand.const (Value.bool false)), type := 4, pos := "law.go:62", after := #[{ on := 1, ground := Ground.data }, { on := 16, ground := Ground.data }], guard := none }) (v := ?_) rfl (by kernel_rfl) (by kernel_rfl) (by kernel_rfl) (fun _ _ _ h => h) (Or.inl ⟨by rfl, ?_⟩) (by assumption) ?_
        rotate_left
        · (intro w_ hS_; go_simp; try with_reducible rfl)
        simp only [Act.put, List.setIfInBounds_toArray, List.set_cons_zero, List.set_cons_succ]
        refine wpAnyH_take (i := 18) (oi := { dst := some 6, op := Op.assign (Operand.tmp 99), type := 4, pos := "law.go:62", after := #[{ on := 17, ground := Ground.data }, { on := 14, ground := Ground.chain }, { on := 0, ground := Ground.phase }, { on := 1, ground := Ground.phase }, { on := 2, ground := Ground.phase }, { on := 3, ground := Ground.phase }, { on := 4, ground := Ground.phase }, { on := 5, ground := Ground.phase }, { on := 6, ground := Ground.phase }, { on := 7, ground := Ground.phase }, { on := 8, ground := Ground.phase }, { on := 9, ground := Ground.phase }, { on := 10, ground := Ground.phase }, { on := 11, ground := Ground.phase }, { on := 12, ground := Ground.phase }, { on := 13, ground := Ground.phase }, { on := 14, ground := Ground.phase }, { on := 15, ground := Ground.phase }, { on := 16, ground := Ground.phase }, { on := 17, ground := Ground.phase }], guard := none }) (v := ?_) rfl (by kernel_rfl) (by kernel_rfl) (by kernel_rfl) (fun _ _ _ h => h) (Or.inl ⟨by rfl, ?_⟩) (by assumption) ?_
        rotate_left
        · (intro w_ hS_; go_simp; try with_reducible rfl)
        simp only [Act.put, List.setIfInBounds_toArray, List.set_cons_zero, List.set_cons_succ]
        refine wpAnyH_done (by kernel_rfl) ?_ _
        go_wp2
        go_ret
        exact ⟨rfl, bthen hbW b13⟩
      | true =>
        obtain ⟨Bo, hBo⟩ : ∃ Bo, Pkt.bytes o = Bo := ⟨_, rfl⟩
        obtain ⟨E, hE⟩ : ∃ E, decide (p = o) = E := ⟨_, rfl⟩
        have qb : ((str R).toList == (str Bo).toList) = E := by
          rw [str_beq, ← hE, decide_eq_decide, ← HR.out, ← hBo]
          exact ⟨fun e => pbytes_inj m1 m2 e, fun e => by rw [e]⟩
        have HBo := hidT hBo
        have HE := hidT hE
        clear hBo hE
        have sR := fun w' (hb : Below w12.heap.size w12 w') => strs r4 w' (bthen (bthen b5 (bthen b6 (bthen b7 (bthen b8 (bthen b10 (bthen b11 b12)))))) hb)
        refine wp_region_held_drew (S := fun w' => Below w12.heap.size w12 w') (by kernel_rfl) ?_ (fun hHeld => ?_)
        · exact (Below.refl _ _).drew
        refine wpAnyH_take (i := 0) (oi := { dst := some 82, op := Op.move (Operand.tmp 7), type := 4, pos := "law.go:62", after := #[], guard := none }) (v := ?_) rfl (by kernel_rfl) (by kernel_rfl) (by kernel_rfl) (fun _ _ _ h => h) (Or.inl ⟨by rfl, ?_⟩) (by assumption) ?_
        rotate_left
        · (intro w_ hS_; go_simp; try with_reducible rfl)
        simp only [Act.put, List.setIfInBounds_toArray, List.set_cons_zero, List.set_cons_succ]
        refine wpAnyH_take (i := 1) (oi := { dst := some 83, op := Op.move (Operand.tmp 82), type := 4, pos := "law.go:62", after := #[{ on := 0, ground := Ground.data }], guard := none }) (v := ?_) rfl (by kernel_rfl) (by kernel_rfl) (by kernel_rfl) (fun _ _ _ h => h) (Or.inl ⟨by rfl, ?_⟩) (by assumption) ?_
        rotate_left
        · (intro w_ hS_; go_simp; try with_reducible rfl)
        simp only [Act.put, List.setIfInBounds_toArray, List.set_cons_zero, List.set_cons_succ]
        refine wpAnyH_take (i := 2) (oi := { dst := some 84, op := Op.load 27 (Operand.tmp 4), type := 27, pos := "law.go:62", after := #[{ on := 1, ground := Ground.guard }], guard := some (1, true) }) (v := .agg co) rfl (by kernel_rfl) (by kernel_rfl) (by kernel_rfl) (fun _ _ _ h => h) (Or.inl ⟨by rfl, fun w_ hS_ => run_ldP (.tmp 4) rfl O rfl co hs' (GOw w_ hS_)⟩) (by assumption) ?_
        simp only [Act.put, List.setIfInBounds_toArray, List.set_cons_zero, List.set_cons_succ]
        refine wpAnyH_ready (rs := [3]) (by kernel_rfl) (by simp) ?_
        refine AllReadyH.cons (o := { dst := some 85, op := Op.call { callee := Callee.value (Operand.func 11), args := #[Operand.tmp 84], argTypes := #[27] }, type := 4, pos := "law.go:62", after := #[{ on := 2, ground := Ground.data }, { on := 1, ground := Ground.chain }, { on := 1, ground := Ground.guard }], guard := some (1, true) }) rfl (fun K hK => ?_) AllReadyH.nil
        go_simp
        have hc := pmay_any (.agg co) o w12.drew (io.below (Below.refl _ _).drew)
        rw [m2] at hc
        refine hc.mono ?_
        rintro en w13 ⟨rfl, b13'⟩
        have b13 : Below w12.heap.size w12 w13 := undrew b13'
        clear hc
        dsimp only
        refine hK.out _ _ ?_ (fun hHeld => ?_)
        · exact b13
        clear hK K
        refine wpAnyH_take (i := 4) (oi := { dst := some 86, op := Op.unOp UnOp.not 4 (Operand.tmp 85), type := 4, pos := "law.go:62", after := #[{ on := 3, ground := Ground.data }, { on := 1, ground := Ground.guard }], guard := some (1, true) }) (v := ?_) rfl (by kernel_rfl) (by kernel_rfl) (by kernel_rfl) (fun _ _ _ h => h) (Or.inl ⟨by rfl, ?_⟩) (by assumption) ?_
        rotate_left
        · (intro w_ hS_; go_simp; try with_reducible rfl)
        simp only [Act.put, List.setIfInBounds_toArray, List.set_cons_zero, List.set_cons_succ]
        refine wpAnyH_take (i := 5) (oi := { dst := some 87, op := Op.move (Operand.tmp 86), type := 4, pos := "law.go:62", after := #[{ on := 4, ground := Ground.data }, { on := 3, ground := Ground.chain }, { on := 1, ground := Ground.guard }], guard := some (1, true) }) (v := ?_) rfl (by kernel_rfl) (by kernel_rfl) (by kernel_rfl) (fun _ _ _ h => h) (Or.inl ⟨by rfl, ?_⟩) (by assumption) ?_
        rotate_left
        · (intro w_ hS_; go_simp; try with_reducible rfl)
        simp only [Act.put, List.setIfInBounds_toArray, List.set_cons_zero, List.set_cons_succ]
        refine wpAnyH_take (i := 6) (oi := { dst := some 88, op := Op.move (Operand.tmp 8), type := 23, pos := "law.go:62", after := #[{ on := 5, ground := Ground.guard }], guard := some (5, false) }) (v := ?_) rfl (by kernel_rfl) (by kernel_rfl) (by kernel_rfl) (fun _ _ _ h => h) (Or.inl ⟨by rfl, ?_⟩) (by assumption) ?_
        rotate_left
        · (intro w_ hS_; go_simp; try with_reducible rfl)
        simp only [Act.put, List.setIfInBounds_toArray, List.set_cons_zero, List.set_cons_succ]
        refine wpAnyH_take (i := 7) (oi := { dst := some 89, op := Op.convert 23 9 (Operand.tmp 88), type := 9, pos := "law.go:62", after := #[{ on := 6, ground := Ground.data }, { on := 5, ground := Ground.guard }], guard := some (5, false) }) (v := ?_) rfl (by kernel_rfl) (by kernel_rfl) (by kernel_rfl) (fun _ _ _ h => h) (Or.inl ⟨by rfl, ?_⟩) (by assumption) ?_
        rotate_left
        · (intro w_ hS_; go_simp; try with_reducible rfl)
        simp only [Act.put, List.setIfInBounds_toArray, List.set_cons_zero, List.set_cons_succ]
        refine wpAnyH_take (i := 8) (oi := { dst := some 90, op := Op.load 27 (Operand.tmp 4), type := 27, pos := "law.go:62", after := #[{ on := 5, ground := Ground.guard }], guard := some (5, false) }) (v := .agg co) rfl (by kernel_rfl) (by kernel_rfl) (by kernel_rfl) (fun _ _ _ h => h) (Or.inl ⟨by rfl, fun w_ hS_ => run_ldP (.tmp 4) rfl O rfl co hs' (GOw w_ hS_)⟩) (by assumption) ?_
        simp only [Act.put, List.setIfInBounds_toArray, List.set_cons_zero, List.set_cons_succ]
        refine wpAnyH_take (i := 12) (oi := { dst := some 94, op := Op.load 27 (Operand.tmp 3), type := 27, pos := "law.go:62", after := #[{ on := 5, ground := Ground.guard }], guard := some (5, false) }) (v := .agg cp) rfl (by kernel_rfl) (by kernel_rfl) (by kernel_rfl) (fun _ _ _ h => h) (Or.inl ⟨by rfl, fun w_ hS_ => run_ldP (.tmp 3) rfl P rfl cp hs (GPw w_ hS_)⟩) (by assumption) ?_
        simp only [Act.put, List.setIfInBounds_toArray, List.set_cons_zero, List.set_cons_succ]
        refine wpAnyH_take (i := 13) (oi := { dst := some 95, op := Op.load 27 (Operand.tmp 4), type := 27, pos := "law.go:62", after := #[{ on := 5, ground := Ground.guard }], guard := some (5, false) }) (v := .agg co) rfl (by kernel_rfl) (by kernel_rfl) (by kernel_rfl) (fun _ _ _ h => h) (Or.inl ⟨by rfl, fun w_ hS_ => run_ldP (.tmp 4) rfl O rfl co hs' (GOw w_ hS_)⟩) (by assumption) ?_
        simp only [Act.put, List.setIfInBounds_toArray, List.set_cons_zero, List.set_cons_succ]
        refine wpAnyH_ready (rs := [9]) (by kernel_rfl) (by simp) ?_
        refine AllReadyH.cons (o := { dst := some 91, op := Op.call { callee := Callee.value (Operand.func 15), args := #[Operand.tmp 90], argTypes := #[27] }, type := 23, pos := "law.go:62", after := #[{ on := 8, ground := Ground.data }, { on := 5, ground := Ground.chain }, { on := 5, ground := Ground.guard }], guard := some (5, false) }) rfl (fun K hK => ?_) AllReadyH.nil
        go_simp
        have hc := pbytes_any (.agg co) o w13 (hw.below (bthen hbW b13)) (io.below b13)
        rw [HBo.out] at hc
        refine hc.mono ?_
        rintro en w14 ⟨A14, c14, rfl, o14, b14'⟩
        have b14 : Below w12.heap.size w12 w14 := bthen b13 b14'
        have s14 := strs o14.same w14 (Below.refl _ _)
        clear hc
        dsimp only
        refine hK.out _ _ ?_ (fun hHeld => ?_)
        · exact b14
        clear hK K
        have s14 := fun w' (hb : Below w14.heap.size w14 w') => strs o14.same w' hb
        have S14 := hidT s14
        clear s14
        have qE : (E == E) = true := by simp
        refine wpAnyH_ready (rs := [10, 14]) (by kernel_rfl) (by simp) ?_
        refine AllReadyH.cons (o := { dst := some 92, op := Op.convert 23 9 (Operand.tmp 91), type := 9, pos := "law.go:62", after := #[{ on := 9, ground := Ground.data }, { on := 5, ground := Ground.guard }], guard := some (5, false) }) rfl (fun K hK => ?_) (AllReadyH.cons (o := { dst := some 96, op := Op.call { callee := Callee.value (Operand.func 14), args := #[Operand.tmp 94, Operand.tmp 95], argTypes := #[27, 27] }, type := 4, pos := "law.go:62", after := #[{ on := 12, ground := Ground.data }, { on := 13, ground := Ground.data }, { on := 9, ground := Ground.chain }, { on := 5, ground := Ground.guard }], guard := some (5, false) }) rfl (fun K hK => ?_) AllReadyH.nil)
        · have s1 := S14.out w14 (Below.refl _ _)
          go_simp
          refine hK.out _ _ ?_ (fun hHeld => ?_)
          · exact b14
          clear hK K s1
          refine wpAnyH_take (i := 11) (oi := { dst := some 93, op := Op.binOp BinOp.eql 9 (Operand.tmp 89) (Operand.tmp 92) 9, type := 4, pos := "law.go:62", after := #[{ on := 7, ground := Ground.data }, { on := 10, ground := Ground.data }, { on := 5, ground := Ground.guard }], guard := some (5, false) }) (v := ?_) rfl (by kernel_rfl) (by kernel_rfl) (by kernel_rfl) (fun _ _ _ h => h) (Or.inl ⟨by rfl, ?_⟩) (by assumption) ?_
          rotate_left
          · (intro w_ hS_; go_simp; try with_reducible rfl)
          simp only [Act.put, List.setIfInBounds_toArray, List.set_cons_zero, List.set_cons_succ]
          refine wpAnyH_ready (rs := [14]) (by kernel_rfl) (by simp) ?_
          refine AllReadyH.cons (o := { dst := some 96, op := Op.call { callee := Callee.value (Operand.func 14), args := #[Operand.tmp 94, Operand.tmp 95], argTypes := #[27, 27] }, type := 4, pos := "law.go:62", after := #[{ on := 12, ground := Ground.data }, { on := 13, ground := Ground.data }, { on := 9, ground := Ground.chain }, { on := 5, ground := Ground.guard }], guard := some (5, false) }) rfl (fun K hK => ?_) AllReadyH.nil
          go_simp
          refine (rpsame_is (.agg cp) (.agg co) p o w14 (ip.below b14) (io.below b14) E HE.out).mono ?_
          rintro en w15 ⟨rfl, b15'⟩
          have b15 : Below w12.heap.size w12 w15 := bthen b14 b15'
          dsimp only
          refine hK.out _ _ ?_ (fun hHeld => ?_)
          · exact b15
          clear hK K
          refine wpAnyH_take (i := 15) (oi := { dst := some 97, op := Op.binOp BinOp.eql 4 (Operand.tmp 93) (Operand.tmp 96) 4, type := 4, pos := "law.go:62", after := #[{ on := 11, ground := Ground.data }, { on := 14, ground := Ground.data }, { on := 5, ground := Ground.guard }], guard := some (5, false) }) (v := ?_) rfl (by kernel_rfl) (by kernel_rfl) (by kernel_rfl) (fun _ _ _ h => h) (Or.inl ⟨by rfl, ?_⟩) (by assumption) ?_
          rotate_left
          · (intro w_ hS_; go_simp; try with_reducible rfl)
          simp only [Act.put, List.setIfInBounds_toArray, List.set_cons_zero, List.set_cons_succ]
          refine wpAnyH_take (i := 16) (oi := { dst := some 98, op := Op.pick (Operand.tmp 87) (Operand.const (Value.bool true)) (Operand.tmp 97), type := 4, pos := "law.go:62", after := #[{ on := 5, ground := Ground.data }, { on := 15, ground := Ground.data }, { on := 1, ground := Ground.guard }], guard := some (1, true) }) (v := ?_) rfl (by kernel_rfl) (by kernel_rfl) (by kernel_rfl) (fun _ _ _ h => h) (Or.inl ⟨by rfl, ?_⟩) (by assumption) ?_
          rotate_left
          · (intro w_ hS_; go_simp; try with_reducible rfl)
          simp only [Act.put, List.setIfInBounds_toArray, List.set_cons_zero, List.set_cons_succ]
          refine wpAnyH_take (i := 17) (oi := { dst := some 99, op := Op.pick (Operand.tmp 83) (Operand.tmp 98) (Operand.const (Value.bool false)), type := 4, pos := "law.go:62", after := #[{ on := 1, ground := Ground.data }, { on := 16, ground := Ground.data }], guard := none }) (v := ?_) rfl (by kernel_rfl) (by kernel_rfl) (by kernel_rfl) (fun _ _ _ h => h) (Or.inl ⟨by rfl, ?_⟩) (by assumption) ?_
          rotate_left
          · (intro w_ hS_; go_simp; try with_reducible rfl)
          simp only [Act.put, List.setIfInBounds_toArray, List.set_cons_zero, List.set_cons_succ]
          refine wpAnyH_take (i := 18) (oi := { dst := some 6, op := Op.assign (Operand.tmp 99), type := 4, pos := "law.go:62", after := #[{ on := 17, ground := Ground.data }, { on := 14, ground := Ground.chain }, { on := 0, ground := Ground.phase }, { on := 1, ground := Ground.phase }, { on := 2, ground := Ground.phase }, { on := 3, ground := Ground.phase }, { on := 4, ground := Ground.phase }, { on := 5, ground := Ground.phase }, { on := 6, ground := Ground.phase }, { on := 7, ground := Ground.phase }, { on := 8, ground := Ground.phase }, { on := 9, ground := Ground.phase }, { on := 10, ground := Ground.phase }, { on := 11, ground := Ground.phase }, { on := 12, ground := Ground.phase }, { on := 13, ground := Ground.phase }, { on := 14, ground := Ground.phase }, { on := 15, ground := Ground.phase }, { on := 16, ground := Ground.phase }, { on := 17, ground := Ground.phase }], guard := none }) (v := ?_) rfl (by kernel_rfl) (by kernel_rfl) (by kernel_rfl) (fun _ _ _ h => h) (Or.inl ⟨by rfl, ?_⟩) (by assumption) ?_
          rotate_left
          · (intro w_ hS_; go_simp; try with_reducible rfl)
          simp only [Act.put, List.setIfInBounds_toArray, List.set_cons_zero, List.set_cons_succ]
          refine wpAnyH_done (by kernel_rfl) ?_ _
          go_wp2
          go_ret
          exact ⟨rfl, bthen hbW b15⟩
        · skip
          go_simp
          refine (rpsame_is (.agg cp) (.agg co) p o w14 (ip.below b14) (io.below b14) E HE.out).mono ?_
          rintro en w15 ⟨rfl, b15'⟩
          have b15 : Below w12.heap.size w12 w15 := bthen b14 b15'
          dsimp only
          refine hK.out _ _ ?_ (fun hHeld => ?_)
          · exact b15
          clear hK K
          have s1 := S14.out w15 b15'
          refine wpAnyH_ready (rs := [10]) (by kernel_rfl) (by simp) ?_
          refine AllReadyH.cons (o := { dst := some 92, op := Op.convert 23 9 (Operand.tmp 91), type := 9, pos := "law.go:62", after := #[{ on := 9, ground := Ground.data }, { on := 5, ground := Ground.guard }], guard := some (5, false) }) rfl (fun K hK => ?_) AllReadyH.nil
          go_simp
          refine hK.out _ _ ?_ (fun hHeld => ?_)
          · exact b15
          clear hK K
          clear s1
          refine wpAnyH_take (i := 11) (oi := { dst := some 93, op := Op.binOp BinOp.eql 9 (Operand.tmp 89) (Operand.tmp 92) 9, type := 4, pos := "law.go:62", after := #[{ on := 7, ground := Ground.data }, { on := 10, ground := Ground.data }, { on := 5, ground := Ground.guard }], guard := some (5, false) }) (v := ?_) rfl (by kernel_rfl) (by kernel_rfl) (by kernel_rfl) (fun _ _ _ h => h) (Or.inl ⟨by rfl, ?_⟩) (by assumption) ?_
          rotate_left
          · (intro w_ hS_; go_simp; try with_reducible rfl)
          simp only [Act.put, List.setIfInBounds_toArray, List.set_cons_zero, List.set_cons_succ]
          refine wpAnyH_take (i := 15) (oi := { dst := some 97, op := Op.binOp BinOp.eql 4 (Operand.tmp 93) (Operand.tmp 96) 4, type := 4, pos := "law.go:62", after := #[{ on := 11, ground := Ground.data }, { on := 14, ground := Ground.data }, { on := 5, ground := Ground.guard }], guard := some (5, false) }) (v := ?_) rfl (by kernel_rfl) (by kernel_rfl) (by kernel_rfl) (fun _ _ _ h => h) (Or.inl ⟨by rfl, ?_⟩) (by assumption) ?_
          rotate_left
          · (intro w_ hS_; go_simp; try with_reducible rfl)
          simp only [Act.put, List.setIfInBounds_toArray, List.set_cons_zero, List.set_cons_succ]
          refine wpAnyH_take (i := 16) (oi := { dst := some 98, op := Op.pick (Operand.tmp 87) (Operand.const (Value.bool true)) (Operand.tmp 97), type := 4, pos := "law.go:62", after := #[{ on := 5, ground := Ground.data }, { on := 15, ground := Ground.data }, { on := 1, ground := Ground.guard }], guard := some (1, true) }) (v := ?_) rfl (by kernel_rfl) (by kernel_rfl) (by kernel_rfl) (fun _ _ _ h => h) (Or.inl ⟨by rfl, ?_⟩) (by assumption) ?_
          rotate_left
          · (intro w_ hS_; go_simp; try with_reducible rfl)
          simp only [Act.put, List.setIfInBounds_toArray, List.set_cons_zero, List.set_cons_succ]
          refine wpAnyH_take (i := 17) (oi := { dst := some 99, op := Op.pick (Operand.tmp 83) (Operand.tmp 98) (Operand.const (Value.bool false)), type := 4, pos := "law.go:62", after := #[{ on := 1, ground := Ground.data }, { on := 16, ground := Ground.data }], guard := none }) (v := ?_) rfl (by kernel_rfl) (by kernel_rfl) (by kernel_rfl) (fun _ _ _ h => h) (Or.inl ⟨by rfl, ?_⟩) (by assumption) ?_
          rotate_left
          · (intro w_ hS_; go_simp; try with_reducible rfl)
          simp only [Act.put, List.setIfInBounds_toArray, List.set_cons_zero, List.set_cons_succ]
          refine wpAnyH_take (i := 18) (oi := { dst := some 6, op := Op.assign (Operand.tmp 99), type := 4, pos := "law.go:62", after := #[{ on := 17, ground := Ground.data }, { on := 14, ground := Ground.chain }, { on := 0, ground := Ground.phase }, { on := 1, ground := Ground.phase }, { on := 2, ground := Ground.phase }, { on := 3, ground := Ground.phase }, { on := 4, ground := Ground.phase }, { on := 5, ground := Ground.phase }, { on := 6, ground := Ground.phase }, { on := 7, ground := Ground.phase }, { on := 8, ground := Ground.phase }, { on := 9, ground := Ground.phase }, { on := 10, ground := Ground.phase }, { on := 11, ground := Ground.phase }, { on := 12, ground := Ground.phase }, { on := 13, ground := Ground.phase }, { on := 14, ground := Ground.phase }, { on := 15, ground := Ground.phase }, { on := 16, ground := Ground.phase }, { on := 17, ground := Ground.phase }], guard := none }) (v := ?_) rfl (by kernel_rfl) (by kernel_rfl) (by kernel_rfl) (fun _ _ _ h => h) (Or.inl ⟨by rfl, ?_⟩) (by assumption) ?_
          rotate_left
          · (intro w_ hS_; go_simp; try with_reducible rfl)
          simp only [Act.put, List.setIfInBounds_toArray, List.set_cons_zero, List.set_cons_succ]
          refine wpAnyH_done (by kernel_rfl) ?_ _
          go_wp2
          go_ret
          exact ⟨rfl, bthen hbW b15⟩
end Go.Proofs.YtahkhideepncfaaDoor
