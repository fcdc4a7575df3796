/- The law PktEach, walked. -/
import Derived.Test.YtahkhideepncfaaDoorPktVal
set_option maxRecDepth 100000
namespace Go.Proofs.YtahkhideepncfaaDoor
open Go.RowKit
set_option linter.unusedVariables false

set_option maxRecDepth 100000 in
set_option maxHeartbeats 16000000 in
theorem peach_in (cp : Array Value) (p : Pkt.Pk) (cut : Int) (D : Option Addr) (t ec : Nat) (more : List UInt8) (w : World) (hw : Wd w) (hu : IsPkt w (.agg cp) p) (hs : cp.size = 15) (hD : Rd w D t ec more) (hc0 : 0 ≤ cut) (hc1 : cut < 65536)
    (hf : ((decide (p.it.l.length ≤ 80) && decide (p.it.b.length ≤ 1100)) && decide (p.l.length ≤ 80)) = true) (hm : Pkt.may p = true) (ht : t ≤ 100) :
    Calls Tryd.prog 6 #[.agg cp, .int .u16 cut, .slice D t ec] w (Yes w) := by
  have hq : decide ((100 : Int) < (t : Int)) = false := by simp; omega
  obtain ⟨w0, hw0⟩ : ∃ w0, w.alloc (.cells cp 27) = w0 := ⟨_, rfl⟩
  have b0 : Below w.heap.size w w0 := by rw [← hw0]; exact pkeep_alloc (Below.refl _ _) _
  have g0 : w0.heap[w.heap.size]? = some (.cells cp 27 (0, 0)) := by rw [← hw0]; exact alloc_at _ _ _ rfl
  have HW0 := hidT hw0
  obtain ⟨P, hP⟩ : ∃ P, P = w.heap.size := ⟨_, rfl⟩
  rw [← hP] at g0
  have HP := hidT hP
  have hPl := blk_ltP g0
  have GP : Hid (∀ w', Below w0.heap.size w0 w' → w'.heap[P]? = some (.cells cp 27 (0, 0))) := fun w' hb => (hb.block _ hPl).trans g0
  clear hw0 g0 hP
  go_enter Tryd.func6, Tryd.ntmps6
  go_wp2_with fail
  rw [HW0.out, ← HP.out]
  clear HW0
  with_reducible refine (pshown_any _ (hw.below b0)).mono ?_
  rintro en w1 ⟨rfl, b1⟩
  have l1 := GP.out w1 b1
  have hF := rpfew_is _ p w1 (hu.below (bthen b0 b1))
  rw [hf] at hF
  go_wp2_with (refine wpList_ldP rfl (.tmp 3) rfl P rfl cp hs l1 ?_)
  with_reducible refine hF.mono ?_
  rintro en w2 ⟨rfl, b2⟩
  clear hF l1
  have l2 := GP.out w2 (bthen b1 b2)
  have hM := rpmay_any _ p w2 (hu.below (bthen b0 (bthen b1 b2)))
  rw [hm] at hM
  go_wp2_with (refine wpList_ldP rfl (.tmp 3) rfl P rfl cp hs l2 ?_)
  with_reducible refine hM.mono ?_
  rintro en w3 ⟨rfl, b3⟩
  clear hM l2
  have b03 := bthen b0 (bthen b1 (bthen b2 b3))
  have l3 := GP.out w3 (bthen b1 (bthen b2 b3))
  have hB := pbytes_any _ p w3 (hw.below b03) (hu.below b03)
  obtain ⟨R, hR⟩ : ∃ R, Pkt.bytes p = R := ⟨_, rfl⟩
  have hR4 : 4 ≤ R.length := by rw [← hR]; exact seal_len4 p hm
  have hR5 : R.length ≤ 1104 := by rw [← hR]; exact bytes_len_le p
  rw [hR] at hB
  have HR := hidT hR
  clear hR
  go_wp2_with (refine wpList_ldP rfl (.tmp 3) rfl P rfl cp hs l3 ?_)
  with_reducible refine hB.mono ?_
  rintro en w4 ⟨A4, c4, rfl, o4, b4⟩
  clear hB l3
  obtain ⟨g, c4', hv, hgb, hgl, hc4, hc5⟩ := o4.form (by omega)
  injection hv with hv1 _ hv2
  subst hv1
  subst hv2
  have r4 := o4.same
  have b04 := bthen b03 b4
  obtain ⟨n, hn⟩ : ∃ n, R.length = n := ⟨_, rfl⟩
  rw [hn] at r4 hR4 hR5 hc4 ⊢
  have hl4 : decide ((n : Int) < 4) = false := by simp; omega
  obtain ⟨k, hk⟩ : ∃ k : Nat, cut % (n : Int) = (k : Int) := ⟨(cut % (n : Int)).toNat, by have := Int.emod_nonneg cut (b := n) (by omega); omega⟩
  have hkn : k < n := by have := Int.emod_lt_of_pos cut (b := n) (by omega); omega
  have hn0 : ¬ (n : Int) = 0 := by omega
  have k0 : (0 : Int) ≤ (k : Int) := by omega
  have k1 : (k : Int) ≤ (c4 : Int) := by omega
  have kk0 : (0 : Int) ≤ cut % (n : Int) := by rw [hk]; omega
  have kk1 : cut % (n : Int) ≤ (c4 : Int) := by rw [hk]; omega
  have HK := hidT hk
  have HN := hidT hn
  clear hk o4 hn
  have rk := r4.take (k := k) (by omega)
  have hRd := pread_any (some ⟨g, 0, none⟩) k c4 (R.take k) w4 (hw.below b04) rk (by omega)
  obtain ⟨x, hx⟩ : ∃ x, (readOf (R.take k)).getD Pkt.Pk.zero = x := ⟨_, rfl⟩
  obtain ⟨xe, hxe⟩ : ∃ xe, readCode (R.take k) = xe := ⟨_, rfl⟩
  rw [hx, hxe] at hRd
  have HX := hidT hx
  have HXE := hidT hxe
  clear hx hxe rk
  go_wp2_with fail
  rw [HK.out, Int.toNat_natCast]
  clear kk0 kk1
  with_reducible refine hRd.mono ?_
  rintro en w5 ⟨v5, rfl, i5, b5⟩
  obtain ⟨cx, rfl, sx, ox, i5⟩ := pk_letters i5
  clear hRd
  have a5 : (w5.alloc (.cells zpkt 27)).heap[w5.heap.size]? = some (.cells zpkt 27 (0, 0)) := alloc_at _ _ _ rfl
  have m5 : Below w5.heap.size w5 (w5.alloc (.cells zpkt 27)) := pkeep_alloc (Below.refl _ _) _
  have r4' := r4.below b5
  have hD5 := hD.below (bthen b04 b5)
  go_wp2_with (first
    | (refine wpList_stI rfl 27 (.tmp 10) (.tmp 44) rfl w5.heap.size cx rfl rfl _ _ a5 (by rw [sx]; exact info37) (by rw [sx]; rfl) ox ?_
       intro w6 g6 but6 bel6
       have b6 := bel6 _ _ m5 (Nat.le_refl _))
    | (at_builtin
       refine wpList_app rfl (.tmp 47) (.tmp 48) 23 rfl w6.heap.size 5 info5 Tryd.underlying23 (.slice (some ⟨w6.heap.size, 0, none⟩) 0 0) 0 [] rfl ?hole_o (some ⟨g, 0, none⟩) n c4 R rfl ?hole_r ?hole_6 ?hole_b ?_
       case hole_o => exact World.ownsRow_made (base := w6.heap.size) (e := 5) (size := 1) w6 #[] 0 (Nat.le_refl _) (Nat.zero_le _) rfl
       case hole_r => exact (r4'.below b6).alloc _
       case hole_6 => omega
       case hole_b => rw [size_alloc]; omega
       intro v7 w7 o7 b7')
    | (at_builtin
       refine wpList_app rfl (.tmp 49) (.tmp 50) 23 rfl w6.heap.size 5 info5 Tryd.underlying23 v7 (0 + n) ([] ++ R) rfl o7 D t ec more rfl ?hole_r2 ?hole_62 ?hole_b2 ?_
       case hole_r2 => exact (hD5.below b6).below ((pkeep_alloc (Below.refl _ _) _).trans b7')
       case hole_62 => omega
       case hole_b2 => exact ((pkeep_alloc (Below.refl w6.heap.size w6) (.cells #[] 5)).trans b7').size
       intro v8 w8 o8 b8'
       have b8 : Below w6.heap.size w6 w8 := ((pkeep_alloc (Below.refl _ _) _).trans b7').trans b8'
       obtain ⟨A8, c8, rfl, r8⟩ := o8.rd))
  rw [List.nil_append, Nat.zero_add] at r8
  have b06 := bthen b04 (bthen b5 b6)
  have b08 := bthen b06 b8
  have gX := fun w' (hb : Below w6.heap.size w6 w') => (hb.block _ (blk_ltP g6)).trans g6
  have hRd2 := pread_any A8 (n + t) c8 (R ++ more) w8 (hw.below b08) r8 (by omega)
  obtain ⟨y, hy⟩ : ∃ y, (readOf (R ++ more)).getD Pkt.Pk.zero = y := ⟨_, rfl⟩
  obtain ⟨ye, hye⟩ : ∃ ye, readCode (R ++ more) = ye := ⟨_, rfl⟩
  rw [hy, hye] at hRd2
  have HY := hidT hy
  have HYE := hidT hye
  clear hy hye o7 o8 b7' b8' g6 but6 bel6 a5 m5
  with_reducible refine hRd2.mono ?_
  rintro en w9 ⟨v9, rfl, i9, b9⟩
  obtain ⟨cy, rfl, sy, oy, i9⟩ := pk_letters i9
  clear hRd2
  have a9 : (w9.alloc (.cells zpkt 27)).heap[w9.heap.size]? = some (.cells zpkt 27 (0, 0)) := alloc_at _ _ _ rfl
  have m9 : Below w9.heap.size w9 (w9.alloc (.cells zpkt 27)) := pkeep_alloc (Below.refl _ _) _
  have HGX := hidT gX
  clear gX
  by_cases hmz : t = 0
  · subst hmz
    obtain rfl : more = [] := List.eq_nil_of_length_eq_zero hD.1
    have hrb := read_bytes hm
    rw [HR.out] at hrb
    obtain rfl : ye = 0 := by rw [← HYE.out, List.append_nil]; exact hrb.2
    obtain rfl : y = p := by rw [← HY.out, List.append_nil, hrb.1]; rfl
    clear hrb
    go_wp2_with (first
      | (refine wpList_stI rfl 27 (.tmp 12) (.tmp 53) rfl w9.heap.size cy rfl rfl _ _ a9 (by rw [sy]; exact info37) (by rw [sy]; rfl) oy ?_
         intro w10 g10 but10 bel10
         have b10 := bel10 _ _ m9 (Nat.le_refl _)
         have gP10 := GP.out w10 (bthen b1 (bthen b2 (bthen b3 (bthen b4 (bthen b5 (bthen b6 (bthen b8 (bthen b9 b10))))))))
         have i10 := i9.below b10
         have b010 := bthen b08 (bthen b9 b10))
      | (refine wpList_ldP rfl (.tmp 12) rfl w9.heap.size rfl cy sy g10 ?_)
      | (refine wpList_ldP rfl (.tmp 3) rfl P rfl cp hs gP10 ?_))
    with_reducible refine (rpsame_is _ _ y y w10 i10 (hu.below b010) true (by simp)).mono ?_
    rintro en w11 ⟨rfl, b11⟩
    go_wp2
    go_ret
    exact ⟨rfl, bthen b010 b11⟩
  · have hmz' : ((t : Int) == 0) = false := by simpa using hmz
    have hmz2 : (t == 0) = false := by simpa using hmz
    go_wp2_with (first
      | (refine wpList_stI rfl 27 (.tmp 12) (.tmp 53) rfl w9.heap.size cy rfl rfl _ _ a9 (by rw [sy]; exact info37) (by rw [sy]; rfl) oy ?_
         intro w10 g10 but10 bel10
         have b10 := bel10 _ _ m9 (Nat.le_refl _)))
    have b810 := bthen b9 b10
    have b610 := bthen b8 b810
    have b410 := bthen b5 (bthen b6 b610)
    have b010 := bthen b08 b810
    have GPw := fun w' (hb : Below w10.heap.size w10 w') => GP.out w' (bthen b1 (bthen b2 (bthen b3 (bthen b4 (bthen b410 hb)))))
    have GXw := fun w' (hb : Below w10.heap.size w10 w') => HGX.out w' (bthen b610 hb)
    have GYw := fun w' (hb : Below w10.heap.size w10 w') => (hb.block _ (blk_ltP g10)).trans g10
    have sk := fun w' (hb : Below w10.heap.size w10 w') => strs (r4.take (k := k) (by omega)) w' (bthen b410 hb)
    obtain ⟨Tk, hTk⟩ : ∃ Tk, R.take k = Tk := ⟨_, rfl⟩
    simp only [hTk] at sk
    have ix := i5.below (bthen b6 b610)
    have iy := i9.below b10
    have ip := hu.below b010
    have HSK := hidT sk
    clear but10 bel10 g10 hmz' hmz2 a9 m9
    have xcase : xe = 0 ∨ ¬ xe = 0 := by omega
    have ycase : ye = 0 ∨ ¬ ye = 0 := by omega
    have CB0 : Hid (xe = 0 → ∀ w', Below w10.heap.size w10 w' → Calls Tryd.prog 16 #[.agg cx] w' (Gives w' 5 Tk)) := by
      intro h0 w' hb
      obtain ⟨px, h1, h2, h3⟩ := read_ok (by rw [HXE.out]; exact h0 : readCode (R.take k) = 0)
      have ex : x = px := by rw [← HX.out, h1]; rfl
      have hcall := rpbytes_any (.agg cx) x w' (ix.below hb)
      rw [ex, h3, hTk] at hcall
      exact hcall
    have CS0 : Hid (ye = 0 → ∀ w', Below w10.heap.size w10 w' → Calls Tryd.prog 14 #[.agg cy, .agg cp] w' (BoolIs w' false)) := by
      intro h0 w' hb
      obtain ⟨py, h1, h2, h3⟩ := read_ok (by rw [HYE.out]; exact h0 : readCode (R ++ more) = 0)
      have ey : y = py := by rw [← HY.out, h1]; rfl
      refine rpsame_is (.agg cy) (.agg cp) y p w' (iy.below hb) (ip.below hb) false ?_
      rw [decide_eq_false_iff_not]
      intro e
      have h4 := congrArg List.length h3
      rw [← ey, e, HR.out, List.length_append] at h4
      have := hD.1
      omega
    clear hTk
    rcases xcase with x0 | x0
    · skip
      have CB := hidT (CB0.out x0)
      subst x0
      rcases ycase with y0 | y0
      · skip
        have CS := hidT (CS0.out y0)
        subst y0
        have sk := HSK.out
        have kq : (0 : Int) ≤ (k : Int) := by omega
        have hc40 : ¬ c4 = 0 := by omega
        refine wp_region_held_drew (S := fun w' => Below w10.heap.size w10 w') (by kernel_rfl) ?_ (fun hHeld => ?_)
        · exact (Below.refl _ _).drew
        refine wpAnyH_take (i := 0) (oi := { dst := some 68, op := Op.move (Operand.tmp 7), type := 4, pos := "more.go:42", after := #[], guard := none }) (v := ?_) rfl (by kernel_rfl) (by kernel_rfl) (by kernel_rfl) (fun _ _ _ h => h) (Or.inl ⟨by rfl, ?_⟩) (by assumption) ?_
        rotate_left
        · (intro w_ hS_; go_simp; try with_reducible rfl)
        simp only [Act.put, List.setIfInBounds_toArray, List.set_cons_zero, List.set_cons_succ]
        refine wpAnyH_take (i := 1) (oi := { dst := some 69, op := Op.move (Operand.tmp 68), type := 4, pos := "more.go:42", after := #[{ on := 0, ground := Ground.data }], guard := none }) (v := ?_) rfl (by kernel_rfl) (by kernel_rfl) (by kernel_rfl) (fun _ _ _ h => h) (Or.inl ⟨by rfl, ?_⟩) (by assumption) ?_
        rotate_left
        · (intro w_ hS_; go_simp; try with_reducible rfl)
        simp only [Act.put, List.setIfInBounds_toArray, List.set_cons_zero, List.set_cons_succ]
        refine wpAnyH_take (i := 2) (oi := { dst := some 70, op := Op.move (Operand.tmp 11), type := 30, pos := "more.go:42", after := #[{ on := 1, ground := Ground.guard }], guard := some (1, true) }) (v := ?_) rfl (by kernel_rfl) (by kernel_rfl) (by kernel_rfl) (fun _ _ _ h => h) (Or.inl ⟨by rfl, ?_⟩) (by assumption) ?_
        rotate_left
        · (intro w_ hS_; go_simp; try with_reducible rfl)
        simp only [Act.put, List.setIfInBounds_toArray, List.set_cons_zero, List.set_cons_succ]
        refine wpAnyH_take (i := 3) (oi := { dst := some 71, op := Op.binOp BinOp.neq 30 (Operand.tmp 70) (Operand.const (Value.int IntKind.i64 0)) 30, type := 4, pos := "more.go:42", after := #[{ on := 2, ground := Ground.data }, { on := 1, ground := Ground.guard }], guard := some (1, true) }) (v := ?_) rfl (by kernel_rfl) (by kernel_rfl) (by kernel_rfl) (fun _ _ _ h => h) (Or.inl ⟨by rfl, ?_⟩) (by assumption) ?_
        rotate_left
        · (intro w_ hS_; go_simp; try with_reducible rfl)
        simp only [Act.put, List.setIfInBounds_toArray, List.set_cons_zero, List.set_cons_succ]
        refine wpAnyH_take (i := 4) (oi := { dst := some 72, op := Op.move (Operand.tmp 71), type := 4, pos := "more.go:42", after := #[{ on := 3, ground := Ground.data }, { on := 1, ground := Ground.chain }, { on := 1, ground := Ground.guard }], guard := some (1, true) }) (v := ?_) rfl (by kernel_rfl) (by kernel_rfl) (by kernel_rfl) (fun _ _ _ h => h) (Or.inl ⟨by rfl, ?_⟩) (by assumption) ?_
        rotate_left
        · (intro w_ hS_; go_simp; try with_reducible rfl)
        simp only [Act.put, List.setIfInBounds_toArray, List.set_cons_zero, List.set_cons_succ]
        refine wpAnyH_take (i := 5) (oi := { dst := some 73, op := Op.load 27 (Operand.tmp 10), type := 27, pos := "more.go:42", after := #[{ on := 4, ground := Ground.guard }], guard := some (4, false) }) (v := .agg cx) rfl (by kernel_rfl) (by kernel_rfl) (by kernel_rfl) (fun _ _ _ h => h) (Or.inl ⟨by rfl, fun w_ hS_ => run_ldP (.tmp 10) rfl w5.heap.size rfl cx sx (GXw w_ hS_)⟩) (by assumption) ?_
        simp only [Act.put, List.setIfInBounds_toArray, List.set_cons_zero, List.set_cons_succ]
        refine wpAnyH_take (i := 8) (oi := { dst := some 76, op := Op.move (Operand.tmp 8), type := 23, pos := "more.go:42", after := #[{ on := 4, ground := Ground.guard }], guard := some (4, false) }) (v := ?_) rfl (by kernel_rfl) (by kernel_rfl) (by kernel_rfl) (fun _ _ _ h => h) (Or.inl ⟨by rfl, ?_⟩) (by assumption) ?_
        rotate_left
        · (intro w_ hS_; go_simp; try with_reducible rfl)
        simp only [Act.put, List.setIfInBounds_toArray, List.set_cons_zero, List.set_cons_succ]
        refine wpAnyH_take (i := 9) (oi := { dst := some 77, op := Op.move (Operand.tmp 9), type := 3, pos := "more.go:42", after := #[{ on := 4, ground := Ground.guard }], guard := some (4, false) }) (v := ?_) rfl (by kernel_rfl) (by kernel_rfl) (by kernel_rfl) (fun _ _ _ h => h) (Or.inl ⟨by rfl, ?_⟩) (by assumption) ?_
        rotate_left
        · (intro w_ hS_; go_simp; try with_reducible rfl)
        simp only [Act.put, List.setIfInBounds_toArray, List.set_cons_zero, List.set_cons_succ]
        refine wpAnyH_take (i := 10) (oi := { dst := some 78, op := Op.slice 23 (Operand.tmp 76) none (some (Operand.tmp 77)) none, type := 23, pos := "more.go:42", after := #[{ on := 8, ground := Ground.data }, { on := 9, ground := Ground.data }, { on := 4, ground := Ground.guard }], guard := some (4, false) }) (v := ?_) rfl (by kernel_rfl) (by kernel_rfl) (by kernel_rfl) (fun _ _ _ h => h) (Or.inl ⟨by rfl, ?_⟩) (by assumption) ?_
        rotate_left
        · (intro w_ hS_; go_simp; try with_reducible rfl)
        simp only [Act.put, List.setIfInBounds_toArray, List.set_cons_zero, List.set_cons_succ]
        refine wpAnyH_take (i := 11) (oi := { dst := some 79, op := Op.convert 23 9 (Operand.tmp 78), type := 9, pos := "more.go:42", after := #[{ on := 10, ground := Ground.data }, { on := 4, ground := Ground.guard }], guard := some (4, false) }) (v := ?_) rfl (by kernel_rfl) (by kernel_rfl) (by kernel_rfl) (fun _ _ _ h => h) (Or.inl ⟨by rfl, ?_⟩) (by assumption) ?_
        rotate_left
        · (intro w_ hS_; go_simp; try with_reducible rfl)
        simp only [Act.put, List.setIfInBounds_toArray, List.set_cons_zero, List.set_cons_succ]
        refine wpAnyH_ready (rs := [6]) (by kernel_rfl) (by simp) ?_
        refine AllReadyH.cons (o := { dst := some 74, op := Op.call { callee := Callee.value (Operand.func 16), args := #[Operand.tmp 73], argTypes := #[27] }, type := 23, pos := "more.go:42", after := #[{ on := 5, ground := Ground.data }, { on := 4, ground := Ground.chain }, { on := 4, ground := Ground.guard }], guard := some (4, false) }) rfl (fun K hK => ?_) AllReadyH.nil
        go_simp
        refine (CB.out w10.drew (Below.refl _ _).drew).mono ?_
        rintro en w11 ⟨A11, c11, rfl, o11, b11'⟩
        have b11 : Below w10.heap.size w10 w11 := undrew b11'
        have s11 := strs o11.same w11 (Below.refl _ _)
        dsimp only
        refine hK.out _ _ ?_ (fun hHeld => ?_)
        · exact b11
        clear hK K
        refine wpAnyH_ready (rs := [7]) (by kernel_rfl) (by simp) ?_
        refine AllReadyH.cons (o := { dst := some 75, op := Op.convert 23 9 (Operand.tmp 74), type := 9, pos := "more.go:42", after := #[{ on := 6, ground := Ground.data }, { on := 4, ground := Ground.guard }], guard := some (4, false) }) rfl (fun K hK => ?_) AllReadyH.nil
        go_simp
        refine hK.out _ _ ?_ (fun hHeld => ?_)
        · exact b11
        clear hK K
        clear s11
        refine wpAnyH_take (i := 12) (oi := { dst := some 80, op := Op.binOp BinOp.eql 9 (Operand.tmp 75) (Operand.tmp 79) 9, type := 4, pos := "more.go:42", after := #[{ on := 7, ground := Ground.data }, { on := 11, ground := Ground.data }, { on := 4, ground := Ground.guard }], guard := some (4, false) }) (v := ?_) rfl (by kernel_rfl) (by kernel_rfl) (by kernel_rfl) (fun _ _ _ h => h) (Or.inl ⟨by rfl, ?_⟩) (by assumption) ?_
        rotate_left
        · (intro w_ hS_; go_simp; try with_reducible rfl)
        simp only [Act.put, List.setIfInBounds_toArray, List.set_cons_zero, List.set_cons_succ]
        refine wpAnyH_take (i := 13) (oi := { dst := some 81, op := Op.pick (Operand.tmp 72) (Operand.const (Value.bool true)) (Operand.tmp 80), type := 4, pos := "more.go:42", after := #[{ on := 4, ground := Ground.data }, { on := 12, ground := Ground.data }, { on := 1, ground := Ground.guard }], guard := some (1, true) }) (v := ?_) rfl (by kernel_rfl) (by kernel_rfl) (by kernel_rfl) (fun _ _ _ h => h) (Or.inl ⟨by rfl, ?_⟩) (by assumption) ?_
        rotate_left
        · (intro w_ hS_; go_simp; try with_reducible rfl)
        simp only [Act.put, List.setIfInBounds_toArray, List.set_cons_zero, List.set_cons_succ]
        refine wpAnyH_take (i := 14) (oi := { dst := some 82, op := Op.pick (Operand.tmp 69) (Operand.tmp 81) (Operand.const (Value.bool false)), type := 4, pos := "more.go:42", after := #[{ on := 1, ground := Ground.data }, { on := 13, ground := Ground.data }], guard := none }) (v := ?_) rfl (by kernel_rfl) (by kernel_rfl) (by kernel_rfl) (fun _ _ _ h => h) (Or.inl ⟨by rfl, ?_⟩) (by assumption) ?_
        rotate_left
        · (intro w_ hS_; go_simp; try with_reducible rfl)
        simp only [Act.put, List.setIfInBounds_toArray, List.set_cons_zero, List.set_cons_succ]
        refine wpAnyH_take (i := 15) (oi := { dst := some 83, op := Op.move (Operand.tmp 82), type := 4, pos := "more.go:42", after := #[{ on := 14, ground := Ground.data }, { on := 6, ground := Ground.chain }], guard := none }) (v := ?_) rfl (by kernel_rfl) (by kernel_rfl) (by kernel_rfl) (fun _ _ _ h => h) (Or.inl ⟨by rfl, ?_⟩) (by assumption) ?_
        rotate_left
        · (intro w_ hS_; go_simp; try with_reducible rfl)
        simp only [Act.put, List.setIfInBounds_toArray, List.set_cons_zero, List.set_cons_succ]
        refine wpAnyH_take (i := 16) (oi := { dst := some 84, op := Op.move (Operand.tmp 13), type := 30, pos := "more.go:42", after := #[{ on := 15, ground := Ground.guard }], guard := some (15, true) }) (v := ?_) rfl (by kernel_rfl) (by kernel_rfl) (by kernel_rfl) (fun _ _ _ h => h) (Or.inl ⟨by rfl, ?_⟩) (by assumption) ?_
        rotate_left
        · (intro w_ hS_; go_simp; try with_reducible rfl)
        simp only [Act.put, List.setIfInBounds_toArray, List.set_cons_zero, List.set_cons_succ]
        refine wpAnyH_take (i := 17) (oi := { dst := some 85, op := Op.binOp BinOp.neq 30 (Operand.tmp 84) (Operand.const (Value.int IntKind.i64 0)) 30, type := 4, pos := "more.go:42", after := #[{ on := 16, ground := Ground.data }, { on := 15, ground := Ground.guard }], guard := some (15, true) }) (v := ?_) rfl (by kernel_rfl) (by kernel_rfl) (by kernel_rfl) (fun _ _ _ h => h) (Or.inl ⟨by rfl, ?_⟩) (by assumption) ?_
        rotate_left
        · (intro w_ hS_; go_simp; try with_reducible rfl)
        simp only [Act.put, List.setIfInBounds_toArray, List.set_cons_zero, List.set_cons_succ]
        refine wpAnyH_take (i := 18) (oi := { dst := some 86, op := Op.move (Operand.tmp 85), type := 4, pos := "more.go:42", after := #[{ on := 17, ground := Ground.data }, { on := 15, ground := Ground.chain }, { on := 15, ground := Ground.guard }], guard := some (15, true) }) (v := ?_) rfl (by kernel_rfl) (by kernel_rfl) (by kernel_rfl) (fun _ _ _ h => h) (Or.inl ⟨by rfl, ?_⟩) (by assumption) ?_
        rotate_left
        · (intro w_ hS_; go_simp; try with_reducible rfl)
        simp only [Act.put, List.setIfInBounds_toArray, List.set_cons_zero, List.set_cons_succ]
        refine wpAnyH_take (i := 19) (oi := { dst := some 87, op := Op.load 27 (Operand.tmp 12), type := 27, pos := "more.go:42", after := #[{ on := 18, ground := Ground.guard }], guard := some (18, false) }) (v := .agg cy) rfl (by kernel_rfl) (by kernel_rfl) (by kernel_rfl) (fun _ _ _ h => h) (Or.inl ⟨by rfl, fun w_ hS_ => run_ldP (.tmp 12) rfl w9.heap.size rfl cy sy (GYw w_ hS_)⟩) (by assumption) ?_
        simp only [Act.put, List.setIfInBounds_toArray, List.set_cons_zero, List.set_cons_succ]
        refine wpAnyH_take (i := 20) (oi := { dst := some 88, op := Op.load 27 (Operand.tmp 3), type := 27, pos := "more.go:42", after := #[{ on := 18, ground := Ground.guard }], guard := some (18, false) }) (v := .agg cp) rfl (by kernel_rfl) (by kernel_rfl) (by kernel_rfl) (fun _ _ _ h => h) (Or.inl ⟨by rfl, fun w_ hS_ => run_ldP (.tmp 3) rfl P rfl cp hs (GPw w_ hS_)⟩) (by assumption) ?_
        simp only [Act.put, List.setIfInBounds_toArray, List.set_cons_zero, List.set_cons_succ]
        refine wpAnyH_ready (rs := [21]) (by kernel_rfl) (by simp) ?_
        refine AllReadyH.cons (o := { dst := some 89, op := Op.call { callee := Callee.value (Operand.func 14), args := #[Operand.tmp 87, Operand.tmp 88], argTypes := #[27, 27] }, type := 4, pos := "more.go:42", after := #[{ on := 19, ground := Ground.data }, { on := 20, ground := Ground.data }, { on := 18, ground := Ground.chain }, { on := 18, ground := Ground.guard }], guard := some (18, false) }) rfl (fun K hK => ?_) AllReadyH.nil
        go_simp
        refine (CS.out _ b11).mono ?_
        rintro en w12 ⟨rfl, b12'⟩
        have b12 : Below w10.heap.size w10 w12 := bthen b11 b12'
        dsimp only
        refine hK.out _ _ ?_ (fun hHeld => ?_)
        · exact b12
        clear hK K
        refine wpAnyH_take (i := 22) (oi := { dst := some 90, op := Op.unOp UnOp.not 4 (Operand.tmp 89), type := 4, pos := "more.go:42", after := #[{ on := 21, ground := Ground.data }, { on := 18, ground := Ground.guard }], guard := some (18, false) }) (v := ?_) rfl (by kernel_rfl) (by kernel_rfl) (by kernel_rfl) (fun _ _ _ h => h) (Or.inl ⟨by rfl, ?_⟩) (by assumption) ?_
        rotate_left
        · (intro w_ hS_; go_simp; try with_reducible rfl)
        simp only [Act.put, List.setIfInBounds_toArray, List.set_cons_zero, List.set_cons_succ]
        refine wpAnyH_take (i := 23) (oi := { dst := some 91, op := Op.pick (Operand.tmp 86) (Operand.const (Value.bool true)) (Operand.tmp 90), type := 4, pos := "more.go:42", after := #[{ on := 18, ground := Ground.data }, { on := 22, ground := Ground.data }, { on := 15, ground := Ground.guard }], guard := some (15, true) }) (v := ?_) rfl (by kernel_rfl) (by kernel_rfl) (by kernel_rfl) (fun _ _ _ h => h) (Or.inl ⟨by rfl, ?_⟩) (by assumption) ?_
        rotate_left
        · (intro w_ hS_; go_simp; try with_reducible rfl)
        simp only [Act.put, List.setIfInBounds_toArray, List.set_cons_zero, List.set_cons_succ]
        refine wpAnyH_take (i := 24) (oi := { dst := some 92, op := Op.pick (Operand.tmp 83) (Operand.tmp 91) (Operand.const (Value.bool false)), type := 4, pos := "more.go:42", after := #[{ on := 15, ground := Ground.data }, { on := 23, ground := Ground.data }], guard := none }) (v := ?_) rfl (by kernel_rfl) (by kernel_rfl) (by kernel_rfl) (fun _ _ _ h => h) (Or.inl ⟨by rfl, ?_⟩) (by assumption) ?_
        rotate_left
        · (intro w_ hS_; go_simp; try with_reducible rfl)
        simp only [Act.put, List.setIfInBounds_toArray, List.set_cons_zero, List.set_cons_succ]
        refine wpAnyH_take (i := 25) (oi := { dst := some 6, op := Op.assign (Operand.tmp 92), type := 4, pos := "more.go:42", after := #[{ on := 24, ground := Ground.data }, { on := 21, ground := Ground.chain }, { on := 0, ground := Ground.phase }, { on := 1, ground := Ground.phase }, { on := 2, ground := Ground.phase }, { on := 3, ground := Ground.phase }, { on := 4, ground := Ground.phase }, { on := 5, ground := Ground.phase }, { on := 6, ground := Ground.phase }, { on := 7, ground := Ground.phase }, { on := 8, ground := Ground.phase }, { on := 9, ground := Ground.phase }, { on := 10, ground := Ground.phase }, { on := 11, ground := Ground.phase }, { on := 12, ground := Ground.phase }, { on := 13, ground := Ground.phase }, { on := 14, ground := Ground.phase }, { on := 15, ground := Ground.phase }, { on := 16, ground := Ground.phase }, { on := 17, ground := Ground.phase }, { on := 18, ground := Ground.phase }, { on := 19, ground := Ground.phase }, { on := 20, ground := Ground.phase }, { on := 21, ground := Ground.phase }, { on := 22, ground := Ground.phase }, { on := 23, ground := Ground.phase }, { on := 24, ground := Ground.phase }], guard := none }) (v := ?_) rfl (by kernel_rfl) (by kernel_rfl) (by kernel_rfl) (fun _ _ _ h => h) (Or.inl ⟨by rfl, ?_⟩) (by assumption) ?_
        rotate_left
        · (intro w_ hS_; go_simp; try with_reducible rfl)
        simp only [Act.put, List.setIfInBounds_toArray, List.set_cons_zero, List.set_cons_succ]
        refine wpAnyH_done (by kernel_rfl) ?_ _
        go_wp2
        go_ret
        exact ⟨rfl, bthen b010 b12⟩
      · skip
        have y1 : (ye != 0) = true := by simpa using y0
        have y2 : (ye == 0) = false := by simpa using y0
        have sk := HSK.out
        have kq : (0 : Int) ≤ (k : Int) := by omega
        have hc40 : ¬ c4 = 0 := by omega
        refine wp_region_held_drew (S := fun w' => Below w10.heap.size w10 w') (by kernel_rfl) ?_ (fun hHeld => ?_)
        · exact (Below.refl _ _).drew
        refine wpAnyH_take (i := 0) (oi := { dst := some 68, op := Op.move (Operand.tmp 7), type := 4, pos := "more.go:42", after := #[], guard := none }) (v := ?_) rfl (by kernel_rfl) (by kernel_rfl) (by kernel_rfl) (fun _ _ _ h => h) (Or.inl ⟨by rfl, ?_⟩) (by assumption) ?_
        rotate_left
        · (intro w_ hS_; go_simp; try with_reducible rfl)
        simp only [Act.put, List.setIfInBounds_toArray, List.set_cons_zero, List.set_cons_succ]
        refine wpAnyH_take (i := 1) (oi := { dst := some 69, op := Op.move (Operand.tmp 68), type := 4, pos := "more.go:42", after := #[{ on := 0, ground := Ground.data }], guard := none }) (v := ?_) rfl (by kernel_rfl) (by kernel_rfl) (by kernel_rfl) (fun _ _ _ h => h) (Or.inl ⟨by rfl, ?_⟩) (by assumption) ?_
        rotate_left
        · (intro w_ hS_; go_simp; try with_reducible rfl)
        simp only [Act.put, List.setIfInBounds_toArray, List.set_cons_zero, List.set_cons_succ]
        refine wpAnyH_take (i := 2) (oi := { dst := some 70, op := Op.move (Operand.tmp 11), type := 30, pos := "more.go:42", after := #[{ on := 1, ground := Ground.guard }], guard := some (1, true) }) (v := ?_) rfl (by kernel_rfl) (by kernel_rfl) (by kernel_rfl) (fun _ _ _ h => h) (Or.inl ⟨by rfl, ?_⟩) (by assumption) ?_
        rotate_left
        · (intro w_ hS_; go_simp; try with_reducible rfl)
        simp only [Act.put, List.setIfInBounds_toArray, List.set_cons_zero, List.set_cons_succ]
        refine wpAnyH_take (i := 3) (oi := { dst := some 71, op := Op.binOp BinOp.neq 30 (Operand.tmp 70) (Operand.const (Value.int IntKind.i64 0)) 30, type := 4, pos := "more.go:42", after := #[{ on := 2, ground := Ground.data }, { on := 1, ground := Ground.guard }], guard := some (1, true) }) (v := ?_) rfl (by kernel_rfl) (by kernel_rfl) (by kernel_rfl) (fun _ _ _ h => h) (Or.inl ⟨by rfl, ?_⟩) (by assumption) ?_
        rotate_left
        · (intro w_ hS_; go_simp; try with_reducible rfl)
        simp only [Act.put, List.setIfInBounds_toArray, List.set_cons_zero, List.set_cons_succ]
        refine wpAnyH_take (i := 4) (oi := { dst := some 72, op := Op.move (Operand.tmp 71), type := 4, pos := "more.go:42", after := #[{ on := 3, ground := Ground.data }, { on := 1, ground := Ground.chain }, { on := 1, ground := Ground.guard }], guard := some (1, true) }) (v := ?_) rfl (by kernel_rfl) (by kernel_rfl) (by kernel_rfl) (fun _ _ _ h => h) (Or.inl ⟨by rfl, ?_⟩) (by assumption) ?_
        rotate_left
        · (intro w_ hS_; go_simp; try with_reducible rfl)
        simp only [Act.put, List.setIfInBounds_toArray, List.set_cons_zero, List.set_cons_succ]
        refine wpAnyH_take (i := 5) (oi := { dst := some 73, op := Op.load 27 (Operand.tmp 10), type := 27, pos := "more.go:42", after := #[{ on := 4, ground := Ground.guard }], guard := some (4, false) }) (v := .agg cx) rfl (by kernel_rfl) (by kernel_rfl) (by kernel_rfl) (fun _ _ _ h => h) (Or.inl ⟨by rfl, fun w_ hS_ => run_ldP (.tmp 10) rfl w5.heap.size rfl cx sx (GXw w_ hS_)⟩) (by assumption) ?_
        simp only [Act.put, List.setIfInBounds_toArray, List.set_cons_zero, List.set_cons_succ]
        refine wpAnyH_take (i := 8) (oi := { dst := some 76, op := Op.move (Operand.tmp 8), type := 23, pos := "more.go:42", after := #[{ on := 4, ground := Ground.guard }], guard := some (4, false) }) (v := ?_) rfl (by kernel_rfl) (by kernel_rfl) (by kernel_rfl) (fun _ _ _ h => h) (Or.inl ⟨by rfl, ?_⟩) (by assumption) ?_
        rotate_left
        · (intro w_ hS_; go_simp; try with_reducible rfl)
        simp only [Act.put, List.setIfInBounds_toArray, List.set_cons_zero, List.set_cons_succ]
        refine wpAnyH_take (i := 9) (oi := { dst := some 77, op := Op.move (Operand.tmp 9), type := 3, pos := "more.go:42", after := #[{ on := 4, ground := Ground.guard }], guard := some (4, false) }) (v := ?_) rfl (by kernel_rfl) (by kernel_rfl) (by kernel_rfl) (fun _ _ _ h => h) (Or.inl ⟨by rfl, ?_⟩) (by assumption) ?_
        rotate_left
        · (intro w_ hS_; go_simp; try with_reducible rfl)
        simp only [Act.put, List.setIfInBounds_toArray, List.set_cons_zero, List.set_cons_succ]
        refine wpAnyH_take (i := 10) (oi := { dst := some 78, op := Op.slice 23 (Operand.tmp 76) none (some (Operand.tmp 77)) none, type := 23, pos := "more.go:42", after := #[{ on := 8, ground := Ground.data }, { on := 9, ground := Ground.data }, { on := 4, ground := Ground.guard }], guard := some (4, false) }) (v := ?_) rfl (by kernel_rfl) (by kernel_rfl) (by kernel_rfl) (fun _ _ _ h => h) (Or.inl ⟨by rfl, ?_⟩) (by assumption) ?_
        rotate_left
        · (intro w_ hS_; go_simp; try with_reducible rfl)
        simp only [Act.put, List.setIfInBounds_toArray, List.set_cons_zero, List.set_cons_succ]
        refine wpAnyH_take (i := 11) (oi := { dst := some 79, op := Op.convert 23 9 (Operand.tmp 78), type := 9, pos := "more.go:42", after := #[{ on := 10, ground := Ground.data }, { on := 4, ground := Ground.guard }], guard := some (4, false) }) (v := ?_) rfl (by kernel_rfl) (by kernel_rfl) (by kernel_rfl) (fun _ _ _ h => h) (Or.inl ⟨by rfl, ?_⟩) (by assumption) ?_
        rotate_left
        · (intro w_ hS_; go_simp; try with_reducible rfl)
        simp only [Act.put, List.setIfInBounds_toArray, List.set_cons_zero, List.set_cons_succ]
        refine wpAnyH_ready (rs := [6]) (by kernel_rfl) (by simp) ?_
        refine AllReadyH.cons (o := { dst := some 74, op := Op.call { callee := Callee.value (Operand.func 16), args := #[Operand.tmp 73], argTypes := #[27] }, type := 23, pos := "more.go:42", after := #[{ on := 5, ground := Ground.data }, { on := 4, ground := Ground.chain }, { on := 4, ground := Ground.guard }], guard := some (4, false) }) rfl (fun K hK => ?_) AllReadyH.nil
        go_simp
        refine (CB.out w10.drew (Below.refl _ _).drew).mono ?_
        rintro en w11 ⟨A11, c11, rfl, o11, b11'⟩
        have b11 : Below w10.heap.size w10 w11 := undrew b11'
        have s11 := strs o11.same w11 (Below.refl _ _)
        dsimp only
        refine hK.out _ _ ?_ (fun hHeld => ?_)
        · exact b11
        clear hK K
        refine wpAnyH_ready (rs := [7]) (by kernel_rfl) (by simp) ?_
        refine AllReadyH.cons (o := { dst := some 75, op := Op.convert 23 9 (Operand.tmp 74), type := 9, pos := "more.go:42", after := #[{ on := 6, ground := Ground.data }, { on := 4, ground := Ground.guard }], guard := some (4, false) }) rfl (fun K hK => ?_) AllReadyH.nil
        go_simp
        refine hK.out _ _ ?_ (fun hHeld => ?_)
        · exact b11
        clear hK K
        clear s11
        refine wpAnyH_take (i := 12) (oi := { dst := some 80, op := Op.binOp BinOp.eql 9 (Operand.tmp 75) (Operand.tmp 79) 9, type := 4, pos := "more.go:42", after := #[{ on := 7, ground := Ground.data }, { on := 11, ground := Ground.data }, { on := 4, ground := Ground.guard }], guard := some (4, false) }) (v := ?_) rfl (by kernel_rfl) (by kernel_rfl) (by kernel_rfl) (fun _ _ _ h => h) (Or.inl ⟨by rfl, ?_⟩) (by assumption) ?_
        rotate_left
        · (intro w_ hS_; go_simp; try with_reducible rfl)
        simp only [Act.put, List.setIfInBounds_toArray, List.set_cons_zero, List.set_cons_succ]
        refine wpAnyH_take (i := 13) (oi := { dst := some 81, op := Op.pick (Operand.tmp 72) (Operand.const (Value.bool true)) (Operand.tmp 80), type := 4, pos := "more.go:42", after := #[{ on := 4, ground := Ground.data }, { on := 12, ground := Ground.data }, { on := 1, ground := Ground.guard }], guard := some (1, true) }) (v := ?_) rfl (by kernel_rfl) (by kernel_rfl) (by kernel_rfl) (fun _ _ _ h => h) (Or.inl ⟨by rfl, ?_⟩) (by assumption) ?_
        rotate_left
        · (intro w_ hS_; go_simp; try with_reducible rfl)
        simp only [Act.put, List.setIfInBounds_toArray, List.set_cons_zero, List.set_cons_succ]
        refine wpAnyH_take (i := 14) (oi := { dst := some 82, op := Op.pick (Operand.tmp 69) (Operand.tmp 81) (Operand.const (Value.bool false)), type := 4, pos := "more.go:42", after := #[{ on := 1, ground := Ground.data }, { on := 13, ground := Ground.data }], guard := none }) (v := ?_) rfl (by kernel_rfl) (by kernel_rfl) (by kernel_rfl) (fun _ _ _ h => h) (Or.inl ⟨by rfl, ?_⟩) (by assumption) ?_
        rotate_left
        · (intro w_ hS_; go_simp; try with_reducible rfl)
        simp only [Act.put, List.setIfInBounds_toArray, List.set_cons_zero, List.set_cons_succ]
        refine wpAnyH_take (i := 15) (oi := { dst := some 83, op := Op.move (Operand.tmp 82), type := 4, pos := "more.go:42", after := #[{ on := 14, ground := Ground.data }, { on := 6, ground := Ground.chain }], guard := none }) (v := ?_) rfl (by kernel_rfl) (by kernel_rfl) (by kernel_rfl) (fun _ _ _ h => h) (Or.inl ⟨by rfl, ?_⟩) (by assumption) ?_
        rotate_left
        · (intro w_ hS_; go_simp; try with_reducible rfl)
        simp only [Act.put, List.setIfInBounds_toArray, List.set_cons_zero, List.set_cons_succ]
        refine wpAnyH_take (i := 16) (oi := { dst := some 84, op := Op.move (Operand.tmp 13), type := 30, pos := "more.go:42", after := #[{ on := 15, ground := Ground.guard }], guard := some (15, true) }) (v := ?_) rfl (by kernel_rfl) (by kernel_rfl) (by kernel_rfl) (fun _ _ _ h => h) (Or.inl ⟨by rfl, ?_⟩) (by assumption) ?_
        rotate_left
        · (intro w_ hS_; go_simp; try with_reducible rfl)
        simp only [Act.put, List.setIfInBounds_toArray, List.set_cons_zero, List.set_cons_succ]
        refine wpAnyH_take (i := 17) (oi := { dst := some 85, op := Op.binOp BinOp.neq 30 (Operand.tmp 84) (Operand.const (Value.int IntKind.i64 0)) 30, type := 4, pos := "more.go:42", after := #[{ on := 16, ground := Ground.data }, { on := 15, ground := Ground.guard }], guard := some (15, true) }) (v := ?_) rfl (by kernel_rfl) (by kernel_rfl) (by kernel_rfl) (fun _ _ _ h => h) (Or.inl ⟨by rfl, ?_⟩) (by assumption) ?_
        rotate_left
        · (intro w_ hS_; go_simp; try with_reducible rfl)
        simp only [Act.put, List.setIfInBounds_toArray, List.set_cons_zero, List.set_cons_succ]
        refine wpAnyH_take (i := 18) (oi := { dst := some 86, op := Op.move (Operand.tmp 85), type := 4, pos := "more.go:42", after := #[{ on := 17, ground := Ground.data }, { on := 15, ground := Ground.chain }, { on := 15, ground := Ground.guard }], guard := some (15, true) }) (v := ?_) rfl (by kernel_rfl) (by kernel_rfl) (by kernel_rfl) (fun _ _ _ h => h) (Or.inl ⟨by rfl, ?_⟩) (by assumption) ?_
        rotate_left
        · (intro w_ hS_; go_simp; try with_reducible rfl)
        simp only [Act.put, List.setIfInBounds_toArray, List.set_cons_zero, List.set_cons_succ]
        refine wpAnyH_take (i := 19) (oi := { dst := some 87, op := Op.load 27 (Operand.tmp 12), type := 27, pos := "more.go:42", after := #[{ on := 18, ground := Ground.guard }], guard := some (18, false) }) (v := undef) rfl (by kernel_rfl) (by kernel_rfl) (by kernel_rfl) (fun _ _ _ h => h) (Or.inr ⟨by rfl, rfl⟩) (by assumption) ?_
        simp only [Act.put, List.setIfInBounds_toArray, List.set_cons_zero, List.set_cons_succ]
        refine wpAnyH_take (i := 20) (oi := { dst := some 88, op := Op.load 27 (Operand.tmp 3), type := 27, pos := "more.go:42", after := #[{ on := 18, ground := Ground.guard }], guard := some (18, false) }) (v := undef) rfl (by kernel_rfl) (by kernel_rfl) (by kernel_rfl) (fun _ _ _ h => h) (Or.inr ⟨by rfl, rfl⟩) (by assumption) ?_
        simp only [Act.put, List.setIfInBounds_toArray, List.set_cons_zero, List.set_cons_succ]
        refine wpAnyH_take (i := 21) (oi := { dst := some 89, op := Op.call { callee := Callee.value (Operand.func 14), args := #[Operand.tmp 87, Operand.tmp 88], argTypes := #[27, 27] }, type := 4, pos := "more.go:42", after := #[{ on := 19, ground := Ground.data }, { on := 20, ground := Ground.data }, { on := 18, ground := Ground.chain }, { on := 18, ground := Ground.guard }], guard := some (18, false) }) (v := undef) rfl (by kernel_rfl) (by kernel_rfl) (by kernel_rfl) (fun _ _ _ h => h) (Or.inr ⟨by rfl, rfl⟩) (by assumption) ?_
        simp only [Act.put, List.setIfInBounds_toArray, List.set_cons_zero, List.set_cons_succ]
        refine wpAnyH_take (i := 22) (oi := { dst := some 90, op := Op.unOp UnOp.not 4 (Operand.tmp 89), type := 4, pos := "more.go:42", after := #[{ on := 21, ground := Ground.data }, { on := 18, ground := Ground.guard }], guard := some (18, false) }) (v := undef) rfl (by kernel_rfl) (by kernel_rfl) (by kernel_rfl) (fun _ _ _ h => h) (Or.inr ⟨by rfl, rfl⟩) (by assumption) ?_
        simp only [Act.put, List.setIfInBounds_toArray, List.set_cons_zero, List.set_cons_succ]
        refine wpAnyH_take (i := 23) (oi := { dst := some 91, op := Op.pick (Operand.tmp 86) (Operand.const (Value.bool true)) (Operand.tmp 90), type := 4, pos := "more.go:42", after := #[{ on := 18, ground := Ground.data }, { on := 22, ground := Ground.data }, { on := 15, ground := Ground.guard }], guard := some (15, true) }) (v := ?_) rfl (by kernel_rfl) (by kernel_rfl) (by kernel_rfl) (fun _ _ _ h => h) (Or.inl ⟨by rfl, ?_⟩) (by assumption) ?_
        rotate_left
        · (intro w_ hS_; go_simp; try with_reducible rfl)
        simp only [Act.put, List.setIfInBounds_toArray, List.set_cons_zero, List.set_cons_succ]
        refine wpAnyH_take (i := 24) (oi := { dst := some 92, op := Op.pick (Operand.tmp 83) (Operand.tmp 91) (Operand.const (Value.bool false)), type := 4, pos := "more.go:42", after := #[{ on := 15, ground := Ground.data }, { on := 23, ground := Ground.data }], guard := none }) (v := ?_) rfl (by kernel_rfl) (by kernel_rfl) (by kernel_rfl) (fun _ _ _ h => h) (Or.inl ⟨by rfl, ?_⟩) (by assumption) ?_
        rotate_left
        · (intro w_ hS_; go_simp; try with_reducible rfl)
        simp only [Act.put, List.setIfInBounds_toArray, List.set_cons_zero, List.set_cons_succ]
        refine wpAnyH_take (i := 25) (oi := { dst := some 6, op := Op.assign (Operand.tmp 92), type := 4, pos := "more.go:42", after := #[{ on := 24, ground := Ground.data }, { on := 21, ground := Ground.chain }, { on := 0, ground := Ground.phase }, { on := 1, ground := Ground.phase }, { on := 2, ground := Ground.phase }, { on := 3, ground := Ground.phase }, { on := 4, ground := Ground.phase }, { on := 5, ground := Ground.phase }, { on := 6, ground := Ground.phase }, { on := 7, ground := Ground.phase }, { on := 8, ground := Ground.phase }, { on := 9, ground := Ground.phase }, { on := 10, ground := Ground.phase }, { on := 11, ground := Ground.phase }, { on := 12, ground := Ground.phase }, { on := 13, ground := Ground.phase }, { on := 14, ground := Ground.phase }, { on := 15, ground := Ground.phase }, { on := 16, ground := Ground.phase }, { on := 17, ground := Ground.phase }, { on := 18, ground := Ground.phase }, { on := 19, ground := Ground.phase }, { on := 20, ground := Ground.phase }, { on := 21, ground := Ground.phase }, { on := 22, ground := Ground.phase }, { on := 23, ground := Ground.phase }, { on := 24, ground := Ground.phase }], guard := none }) (v := ?_) rfl (by kernel_rfl) (by kernel_rfl) (by kernel_rfl) (fun _ _ _ h => h) (Or.inl ⟨by rfl, ?_⟩) (by assumption) ?_
        rotate_left
        · (intro w_ hS_; go_simp; try with_reducible rfl)
        simp only [Act.put, List.setIfInBounds_toArray, List.set_cons_zero, List.set_cons_succ]
        refine wpAnyH_done (by kernel_rfl) ?_ _
        go_wp2
        go_ret
        exact ⟨rfl, bthen b010 b11⟩
    · skip
      have x1 : (xe != 0) = true := by simpa using x0
      have x2 : (xe == 0) = false := by simpa using x0
      rcases ycase with y0 | y0
      · skip
        have CS := hidT (CS0.out y0)
        subst y0
        refine wp_region_held_drew (S := fun w' => Below w10.heap.size w10 w') (by kernel_rfl) ?_ (fun hHeld => ?_)
        · exact (Below.refl _ _).drew
        refine wpAnyH_take (i := 0) (oi := { dst := some 68, op := Op.move (Operand.tmp 7), type := 4, pos := "more.go:42", after := #[], guard := none }) (v := ?_) rfl (by kernel_rfl) (by kernel_rfl) (by kernel_rfl) (fun _ _ _ h => h) (Or.inl ⟨by rfl, ?_⟩) (by assumption) ?_
        rotate_left
        · (intro w_ hS_; go_simp; try with_reducible rfl)
        simp only [Act.put, List.setIfInBounds_toArray, List.set_cons_zero, List.set_cons_succ]
        refine wpAnyH_take (i := 1) (oi := { dst := some 69, op := Op.move (Operand.tmp 68), type := 4, pos := "more.go:42", after := #[{ on := 0, ground := Ground.data }], guard := none }) (v := ?_) rfl (by kernel_rfl) (by kernel_rfl) (by kernel_rfl) (fun _ _ _ h => h) (Or.inl ⟨by rfl, ?_⟩) (by assumption) ?_
        rotate_left
        · (intro w_ hS_; go_simp; try with_reducible rfl)
        simp only [Act.put, List.setIfInBounds_toArray, List.set_cons_zero, List.set_cons_succ]
        refine wpAnyH_take (i := 2) (oi := { dst := some 70, op := Op.move (Operand.tmp 11), type := 30, pos := "more.go:42", after := #[{ on := 1, ground := Ground.guard }], guard := some (1, true) }) (v := ?_) rfl (by kernel_rfl) (by kernel_rfl) (by kernel_rfl) (fun _ _ _ h => h) (Or.inl ⟨by rfl, ?_⟩) (by assumption) ?_
        rotate_left
        · (intro w_ hS_; go_simp; try with_reducible rfl)
        simp only [Act.put, List.setIfInBounds_toArray, List.set_cons_zero, List.set_cons_succ]
        refine wpAnyH_take (i := 3) (oi := { dst := some 71, op := Op.binOp BinOp.neq 30 (Operand.tmp 70) (Operand.const (Value.int IntKind.i64 0)) 30, type := 4, pos := "more.go:42", after := #[{ on := 2, ground := Ground.data }, { on := 1, ground := Ground.guard }], guard := some (1, true) }) (v := ?_) rfl (by kernel_rfl) (by kernel_rfl) (by kernel_rfl) (fun _ _ _ h => h) (Or.inl ⟨by rfl, ?_⟩) (by assumption) ?_
        rotate_left
        · (intro w_ hS_; go_simp; try with_reducible rfl)
        simp only [Act.put, List.setIfInBounds_toArray, List.set_cons_zero, List.set_cons_succ]
        refine wpAnyH_take (i := 4) (oi := { dst := some 72, op := Op.move (Operand.tmp 71), type := 4, pos := "more.go:42", after := #[{ on := 3, ground := Ground.data }, { on := 1, ground := Ground.chain }, { on := 1, ground := Ground.guard }], guard := some (1, true) }) (v := ?_) rfl (by kernel_rfl) (by kernel_rfl) (by kernel_rfl) (fun _ _ _ h => h) (Or.inl ⟨by rfl, ?_⟩) (by assumption) ?_
        rotate_left
        · (intro w_ hS_; go_simp; try with_reducible rfl)
        simp only [Act.put, List.setIfInBounds_toArray, List.set_cons_zero, List.set_cons_succ]
        refine wpAnyH_take (i := 5) (oi := { dst := some 73, op := Op.load 27 (Operand.tmp 10), type := 27, pos := "more.go:42", after := #[{ on := 4, ground := Ground.guard }], guard := some (4, false) }) (v := undef) rfl (by kernel_rfl) (by kernel_rfl) (by kernel_rfl) (fun _ _ _ h => h) (Or.inr ⟨by rfl, rfl⟩) (by assumption) ?_
        simp only [Act.put, List.setIfInBounds_toArray, List.set_cons_zero, List.set_cons_succ]
        refine wpAnyH_take (i := 6) (oi := { dst := some 74, op := Op.call { callee := Callee.value (Operand.func 16), args := #[Operand.tmp 73], argTypes := #[27] }, type := 23, pos := "more.go:42", after := #[{ on := 5, ground := Ground.data }, { on := 4, ground := Ground.chain }, { on := 4, ground := Ground.guard }], guard := some (4, false) }) (v := undef) rfl (by kernel_rfl) (by kernel_rfl) (by kernel_rfl) (fun _ _ _ h => h) (Or.inr ⟨by rfl, rfl⟩) (by assumption) ?_
        simp only [Act.put, List.setIfInBounds_toArray, List.set_cons_zero, List.set_cons_succ]
        refine wpAnyH_take (i := 7) (oi := { dst := some 75, op := Op.convert 23 9 (Operand.tmp 74), type := 9, pos := "more.go:42", after := #[{ on := 6, ground := Ground.data }, { on := 4, ground := Ground.guard }], guard := some (4, false) }) (v := undef) rfl (by kernel_rfl) (by kernel_rfl) (by kernel_rfl) (fun _ _ _ h => h) (Or.inr ⟨by rfl, rfl⟩) (by assumption) ?_
        simp only [Act.put, List.setIfInBounds_toArray, List.set_cons_zero, List.set_cons_succ]
        refine wpAnyH_take (i := 8) (oi := { dst := some 76, op := Op.move (Operand.tmp 8), type := 23, pos := "more.go:42", after := #[{ on := 4, ground := Ground.guard }], guard := some (4, false) }) (v := undef) rfl (by kernel_rfl) (by kernel_rfl) (by kernel_rfl) (fun _ _ _ h => h) (Or.inr ⟨by rfl, rfl⟩) (by assumption) ?_
        simp only [Act.put, List.setIfInBounds_toArray, List.set_cons_zero, List.set_cons_succ]
        refine wpAnyH_take (i := 9) (oi := { dst := some 77, op := Op.move (Operand.tmp 9), type := 3, pos := "more.go:42", after := #[{ on := 4, ground := Ground.guard }], guard := some (4, false) }) (v := undef) rfl (by kernel_rfl) (by kernel_rfl) (by kernel_rfl) (fun _ _ _ h => h) (Or.inr ⟨by rfl, rfl⟩) (by assumption) ?_
        simp only [Act.put, List.setIfInBounds_toArray, List.set_cons_zero, List.set_cons_succ]
        refine wpAnyH_take (i := 10) (oi := { dst := some 78, op := Op.slice 23 (Operand.tmp 76) none (some (Operand.tmp 77)) none, type := 23, pos := "more.go:42", after := #[{ on := 8, ground := Ground.data }, { on := 9, ground := Ground.data }, { on := 4, ground := Ground.guard }], guard := some (4, false) }) (v := undef) rfl (by kernel_rfl) (by kernel_rfl) (by kernel_rfl) (fun _ _ _ h => h) (Or.inr ⟨by rfl, rfl⟩) (by assumption) ?_
        simp only [Act.put, List.setIfInBounds_toArray, List.set_cons_zero, List.set_cons_succ]
        refine wpAnyH_take (i := 11) (oi := { dst := some 79, op := Op.convert 23 9 (Operand.tmp 78), type := 9, pos := "more.go:42", after := #[{ on := 10, ground := Ground.data }, { on := 4, ground := Ground.guard }], guard := some (4, false) }) (v := undef) rfl (by kernel_rfl) (by kernel_rfl) (by kernel_rfl) (fun _ _ _ h => h) (Or.inr ⟨by rfl, rfl⟩) (by assumption) ?_
        simp only [Act.put, List.setIfInBounds_toArray, List.set_cons_zero, List.set_cons_succ]
        refine wpAnyH_take (i := 12) (oi := { dst := some 80, op := Op.binOp BinOp.eql 9 (Operand.tmp 75) (Operand.tmp 79) 9, type := 4, pos := "more.go:42", after := #[{ on := 7, ground := Ground.data }, { on := 11, ground := Ground.data }, { on := 4, ground := Ground.guard }], guard := some (4, false) }) (v := undef) rfl (by kernel_rfl) (by kernel_rfl) (by kernel_rfl) (fun _ _ _ h => h) (Or.inr ⟨by rfl, rfl⟩) (by assumption) ?_
        simp only [Act.put, List.setIfInBounds_toArray, List.set_cons_zero, List.set_cons_succ]
        refine wpAnyH_take (i := 13) (oi := { dst := some 81, op := Op.pick (Operand.tmp 72) (Operand.const (Value.bool true)) (Operand.tmp 80), type := 4, pos := "more.go:42", after := #[{ on := 4, ground := Ground.data }, { on := 12, ground := Ground.data }, { on := 1, ground := Ground.guard }], guard := some (1, true) }) (v := ?_) rfl (by kernel_rfl) (by kernel_rfl) (by kernel_rfl) (fun _ _ _ h => h) (Or.inl ⟨by rfl, ?_⟩) (by assumption) ?_
        rotate_left
        · (intro w_ hS_; go_simp; try with_reducible rfl)
        simp only [Act.put, List.setIfInBounds_toArray, List.set_cons_zero, List.set_cons_succ]
        refine wpAnyH_take (i := 14) (oi := { dst := some 82, op := Op.pick (Operand.tmp 69) (Operand.tmp 81) (Operand.const (Value.bool false)), type := 4, pos := "more.go:42", after := #[{ on := 1, ground := Ground.data }, { on := 13, ground := Ground.data }], guard := none }) (v := ?_) rfl (by kernel_rfl) (by kernel_rfl) (by kernel_rfl) (fun _ _ _ h => h) (Or.inl ⟨by rfl, ?_⟩) (by assumption) ?_
        rotate_left
        · (intro w_ hS_; go_simp; try with_reducible rfl)
        simp only [Act.put, List.setIfInBounds_toArray, List.set_cons_zero, List.set_cons_succ]
        refine wpAnyH_take (i := 15) (oi := { dst := some 83, op := Op.move (Operand.tmp 82), type := 4, pos := "more.go:42", after := #[{ on := 14, ground := Ground.data }, { on := 6, ground := Ground.chain }], guard := none }) (v := ?_) rfl (by kernel_rfl) (by kernel_rfl) (by kernel_rfl) (fun _ _ _ h => h) (Or.inl ⟨by rfl, ?_⟩) (by assumption) ?_
        rotate_left
        · (intro w_ hS_; go_simp; try with_reducible rfl)
        simp only [Act.put, List.setIfInBounds_toArray, List.set_cons_zero, List.set_cons_succ]
        refine wpAnyH_take (i := 16) (oi := { dst := some 84, op := Op.move (Operand.tmp 13), type := 30, pos := "more.go:42", after := #[{ on := 15, ground := Ground.guard }], guard := some (15, true) }) (v := ?_) rfl (by kernel_rfl) (by kernel_rfl) (by kernel_rfl) (fun _ _ _ h => h) (Or.inl ⟨by rfl, ?_⟩) (by assumption) ?_
        rotate_left
        · (intro w_ hS_; go_simp; try with_reducible rfl)
        simp only [Act.put, List.setIfInBounds_toArray, List.set_cons_zero, List.set_cons_succ]
        refine wpAnyH_take (i := 17) (oi := { dst := some 85, op := Op.binOp BinOp.neq 30 (Operand.tmp 84) (Operand.const (Value.int IntKind.i64 0)) 30, type := 4, pos := "more.go:42", after := #[{ on := 16, ground := Ground.data }, { on := 15, ground := Ground.guard }], guard := some (15, true) }) (v := ?_) rfl (by kernel_rfl) (by kernel_rfl) (by kernel_rfl) (fun _ _ _ h => h) (Or.inl ⟨by rfl, ?_⟩) (by assumption) ?_
        rotate_left
        · (intro w_ hS_; go_simp; try with_reducible rfl)
        simp only [Act.put, List.setIfInBounds_toArray, List.set_cons_zero, List.set_cons_succ]
        refine wpAnyH_take (i := 18) (oi := { dst := some 86, op := Op.move (Operand.tmp 85), type := 4, pos := "more.go:42", after := #[{ on := 17, ground := Ground.data }, { on := 15, ground := Ground.chain }, { on := 15, ground := Ground.guard }], guard := some (15, true) }) (v := ?_) rfl (by kernel_rfl) (by kernel_rfl) (by kernel_rfl) (fun _ _ _ h => h) (Or.inl ⟨by rfl, ?_⟩) (by assumption) ?_
        rotate_left
        · (intro w_ hS_; go_simp; try with_reducible rfl)
        simp only [Act.put, List.setIfInBounds_toArray, List.set_cons_zero, List.set_cons_succ]
        refine wpAnyH_take (i := 19) (oi := { dst := some 87, op := Op.load 27 (Operand.tmp 12), type := 27, pos := "more.go:42", after := #[{ on := 18, ground := Ground.guard }], guard := some (18, false) }) (v := .agg cy) rfl (by kernel_rfl) (by kernel_rfl) (by kernel_rfl) (fun _ _ _ h => h) (Or.inl ⟨by rfl, fun w_ hS_ => run_ldP (.tmp 12) rfl w9.heap.size rfl cy sy (GYw w_ hS_)⟩) (by assumption) ?_
        simp only [Act.put, List.setIfInBounds_toArray, List.set_cons_zero, List.set_cons_succ]
        refine wpAnyH_take (i := 20) (oi := { dst := some 88, op := Op.load 27 (Operand.tmp 3), type := 27, pos := "more.go:42", after := #[{ on := 18, ground := Ground.guard }], guard := some (18, false) }) (v := .agg cp) rfl (by kernel_rfl) (by kernel_rfl) (by kernel_rfl) (fun _ _ _ h => h) (Or.inl ⟨by rfl, fun w_ hS_ => run_ldP (.tmp 3) rfl P rfl cp hs (GPw w_ hS_)⟩) (by assumption) ?_
        simp only [Act.put, List.setIfInBounds_toArray, List.set_cons_zero, List.set_cons_succ]
        refine wpAnyH_ready (rs := [21]) (by kernel_rfl) (by simp) ?_
        refine AllReadyH.cons (o := { dst := some 89, op := Op.call { callee := Callee.value (Operand.func 14), args := #[Operand.tmp 87, Operand.tmp 88], argTypes := #[27, 27] }, type := 4, pos := "more.go:42", after := #[{ on := 19, ground := Ground.data }, { on := 20, ground := Ground.data }, { on := 18, ground := Ground.chain }, { on := 18, ground := Ground.guard }], guard := some (18, false) }) rfl (fun K hK => ?_) AllReadyH.nil
        go_simp
        refine (CS.out _ (Below.refl _ _).drew).mono ?_
        rintro en w12 ⟨rfl, b12'⟩
        have b12 : Below w10.heap.size w10 w12 := undrew b12'
        dsimp only
        refine hK.out _ _ ?_ (fun hHeld => ?_)
        · exact b12
        clear hK K
        refine wpAnyH_take (i := 22) (oi := { dst := some 90, op := Op.unOp UnOp.not 4 (Operand.tmp 89), type := 4, pos := "more.go:42", after := #[{ on := 21, ground := Ground.data }, { on := 18, ground := Ground.guard }], guard := some (18, false) }) (v := ?_) rfl (by kernel_rfl) (by kernel_rfl) (by kernel_rfl) (fun _ _ _ h => h) (Or.inl ⟨by rfl, ?_⟩) (by assumption) ?_
        rotate_left
        · (intro w_ hS_; go_simp; try with_reducible rfl)
        simp only [Act.put, List.setIfInBounds_toArray, List.set_cons_zero, List.set_cons_succ]
        refine wpAnyH_take (i := 23) (oi := { dst := some 91, op := Op.pick (Operand.tmp 86) (Operand.const (Value.bool true)) (Operand.tmp 90), type := 4, pos := "more.go:42", after := #[{ on := 18, ground := Ground.data }, { on := 22, ground := Ground.data }, { on := 15, ground := Ground.guard }], guard := some (15, true) }) (v := ?_) rfl (by kernel_rfl) (by kernel_rfl) (by kernel_rfl) (fun _ _ _ h => h) (Or.inl ⟨by rfl, ?_⟩) (by assumption) ?_
        rotate_left
        · (intro w_ hS_; go_simp; try with_reducible rfl)
        simp only [Act.put, List.setIfInBounds_toArray, List.set_cons_zero, List.set_cons_succ]
        refine wpAnyH_take (i := 24) (oi := { dst := some 92, op := Op.pick (Operand.tmp 83) (Operand.tmp 91) (Operand.const (Value.bool false)), type := 4, pos := "more.go:42", after := #[{ on := 15, ground := Ground.data }, { on := 23, ground := Ground.data }], guard := none }) (v := ?_) rfl (by kernel_rfl) (by kernel_rfl) (by kernel_rfl) (fun _ _ _ h => h) (Or.inl ⟨by rfl, ?_⟩) (by assumption) ?_
        rotate_left
        · (intro w_ hS_; go_simp; try with_reducible rfl)
        simp only [Act.put, List.setIfInBounds_toArray, List.set_cons_zero, List.set_cons_succ]
        refine wpAnyH_take (i := 25) (oi := { dst := some 6, op := Op.assign (Operand.tmp 92), type := 4, pos := "more.go:42", after := #[{ on := 24, ground := Ground.data }, { on := 21, ground := Ground.chain }, { on := 0, ground := Ground.phase }, { on := 1, ground := Ground.phase }, { on := 2, ground := Ground.phase }, { on := 3, ground := Ground.phase }, { on := 4, ground := Ground.phase }, { on := 5, ground := Ground.phase }, { on := 6, ground := Ground.phase }, { on := 7, ground := Ground.phase }, { on := 8, ground := Ground.phase }, { on := 9, ground := Ground.phase }, { on := 10, ground := Ground.phase }, { on := 11, ground := Ground.phase }, { on := 12, ground := Ground.phase }, { on := 13, ground := Ground.phase }, { on := 14, ground := Ground.phase }, { on := 15, ground := Ground.phase }, { on := 16, ground := Ground.phase }, { on := 17, ground := Ground.phase }, { on := 18, ground := Ground.phase }, { on := 19, ground := Ground.phase }, { on := 20, ground := Ground.phase }, { on := 21, ground := Ground.phase }, { on := 22, ground := Ground.phase }, { on := 23, ground := Ground.phase }, { on := 24, ground := Ground.phase }], guard := none }) (v := ?_) rfl (by kernel_rfl) (by kernel_rfl) (by kernel_rfl) (fun _ _ _ h => h) (Or.inl ⟨by rfl, ?_⟩) (by assumption) ?_
        rotate_left
        · (intro w_ hS_; go_simp; try with_reducible rfl)
        simp only [Act.put, List.setIfInBounds_toArray, List.set_cons_zero, List.set_cons_succ]
        refine wpAnyH_done (by kernel_rfl) ?_ _
        go_wp2
        go_ret
        exact ⟨rfl, bthen b010 b12⟩
      · skip
        have y1 : (ye != 0) = true := by simpa using y0
        have y2 : (ye == 0) = false := by simpa using y0
        refine wp_region_held_drew (S := fun w' => Below w10.heap.size w10 w') (by kernel_rfl) ?_ (fun hHeld => ?_)
        · exact (Below.refl _ _).drew
        refine wpAnyH_take (i := 0) (oi := { dst := some 68, op := Op.move (Operand.tmp 7), type := 4, pos := "more.go:42", after := #[], guard := none }) (v := ?_) rfl (by kernel_rfl) (by kernel_rfl) (by kernel_rfl) (fun _ _ _ h => h) (Or.inl ⟨by rfl, ?_⟩) (by assumption) ?_
        rotate_left
        · (intro w_ hS_; go_simp; try with_reducible rfl)
        simp only [Act.put, List.setIfInBounds_toArray, List.set_cons_zero, List.set_cons_succ]
        refine wpAnyH_take (i := 1) (oi := { dst := some 69, op := Op.move (Operand.tmp 68), type := 4, pos := "more.go:42", after := #[{ on := 0, ground := Ground.data }], guard := none }) (v := ?_) rfl (by kernel_rfl) (by kernel_rfl) (by kernel_rfl) (fun _ _ _ h => h) (Or.inl ⟨by rfl, ?_⟩) (by assumption) ?_
        rotate_left
        · (intro w_ hS_; go_simp; try with_reducible rfl)
        simp only [Act.put, List.setIfInBounds_toArray, List.set_cons_zero, List.set_cons_succ]
        refine wpAnyH_take (i := 2) (oi := { dst := some 70, op := Op.move (Operand.tmp 11), type := 30, pos := "more.go:42", after := #[{ on := 1, ground := Ground.guard }], guard := some (1, true) }) (v := ?_) rfl (by kernel_rfl) (by kernel_rfl) (by kernel_rfl) (fun _ _ _ h => h) (Or.inl ⟨by rfl, ?_⟩) (by assumption) ?_
        rotate_left
        · (intro w_ hS_; go_simp; try with_reducible rfl)
        simp only [Act.put, List.setIfInBounds_toArray, List.set_cons_zero, List.set_cons_succ]
        refine wpAnyH_take (i := 3) (oi := { dst := some 71, op := Op.binOp BinOp.neq 30 (Operand.tmp 70) (Operand.const (Value.int IntKind.i64 0)) 30, type := 4, pos := "more.go:42", after := #[{ on := 2, ground := Ground.data }, { on := 1, ground := Ground.guard }], guard := some (1, true) }) (v := ?_) rfl (by kernel_rfl) (by kernel_rfl) (by kernel_rfl) (fun _ _ _ h => h) (Or.inl ⟨by rfl, ?_⟩) (by assumption) ?_
        rotate_left
        · (intro w_ hS_; go_simp; try with_reducible rfl)
        simp only [Act.put, List.setIfInBounds_toArray, List.set_cons_zero, List.set_cons_succ]
        refine wpAnyH_take (i := 4) (oi := { dst := some 72, op := Op.move (Operand.tmp 71), type := 4, pos := "more.go:42", after := #[{ on := 3, ground := Ground.data }, { on := 1, ground := Ground.chain }, { on := 1, ground := Ground.guard }], guard := some (1, true) }) (v := ?_) rfl (by kernel_rfl) (by kernel_rfl) (by kernel_rfl) (fun _ _ _ h => h) (Or.inl ⟨by rfl, ?_⟩) (by assumption) ?_
        rotate_left
        · (intro w_ hS_; go_simp; try with_reducible rfl)
        simp only [Act.put, List.setIfInBounds_toArray, List.set_cons_zero, List.set_cons_succ]
        refine wpAnyH_take (i := 5) (oi := { dst := some 73, op := Op.load 27 (Operand.tmp 10), type := 27, pos := "more.go:42", after := #[{ on := 4, ground := Ground.guard }], guard := some (4, false) }) (v := undef) rfl (by kernel_rfl) (by kernel_rfl) (by kernel_rfl) (fun _ _ _ h => h) (Or.inr ⟨by rfl, rfl⟩) (by assumption) ?_
        simp only [Act.put, List.setIfInBounds_toArray, List.set_cons_zero, List.set_cons_succ]
        refine wpAnyH_take (i := 6) (oi := { dst := some 74, op := Op.call { callee := Callee.value (Operand.func 16), args := #[Operand.tmp 73], argTypes := #[27] }, type := 23, pos := "more.go:42", after := #[{ on := 5, ground := Ground.data }, { on := 4, ground := Ground.chain }, { on := 4, ground := Ground.guard }], guard := some (4, false) }) (v := undef) rfl (by kernel_rfl) (by kernel_rfl) (by kernel_rfl) (fun _ _ _ h => h) (Or.inr ⟨by rfl, rfl⟩) (by assumption) ?_
        simp only [Act.put, List.setIfInBounds_toArray, List.set_cons_zero, List.set_cons_succ]
        refine wpAnyH_take (i := 7) (oi := { dst := some 75, op := Op.convert 23 9 (Operand.tmp 74), type := 9, pos := "more.go:42", after := #[{ on := 6, ground := Ground.data }, { on := 4, ground := Ground.guard }], guard := some (4, false) }) (v := undef) rfl (by kernel_rfl) (by kernel_rfl) (by kernel_rfl) (fun _ _ _ h => h) (Or.inr ⟨by rfl, rfl⟩) (by assumption) ?_
        simp only [Act.put, List.setIfInBounds_toArray, List.set_cons_zero, List.set_cons_succ]
        refine wpAnyH_take (i := 8) (oi := { dst := some 76, op := Op.move (Operand.tmp 8), type := 23, pos := "more.go:42", after := #[{ on := 4, ground := Ground.guard }], guard := some (4, false) }) (v := undef) rfl (by kernel_rfl) (by kernel_rfl) (by kernel_rfl) (fun _ _ _ h => h) (Or.inr ⟨by rfl, rfl⟩) (by assumption) ?_
        simp only [Act.put, List.setIfInBounds_toArray, List.set_cons_zero, List.set_cons_succ]
        refine wpAnyH_take (i := 9) (oi := { dst := some 77, op := Op.move (Operand.tmp 9), type := 3, pos := "more.go:42", after := #[{ on := 4, ground := Ground.guard }], guard := some (4, false) }) (v := undef) rfl (by kernel_rfl) (by kernel_rfl) (by kernel_rfl) (fun _ _ _ h => h) (Or.inr ⟨by rfl, rfl⟩) (by assumption) ?_
        simp only [Act.put, List.setIfInBounds_toArray, List.set_cons_zero, List.set_cons_succ]
        refine wpAnyH_take (i := 10) (oi := { dst := some 78, op := Op.slice 23 (Operand.tmp 76) none (some (Operand.tmp 77)) none, type := 23, pos := "more.go:42", after := #[{ on := 8, ground := Ground.data }, { on := 9, ground := Ground.data }, { on := 4, ground := Ground.guard }], guard := some (4, false) }) (v := undef) rfl (by kernel_rfl) (by kernel_rfl) (by kernel_rfl) (fun _ _ _ h => h) (Or.inr ⟨by rfl, rfl⟩) (by assumption) ?_
        simp only [Act.put, List.setIfInBounds_toArray, List.set_cons_zero, List.set_cons_succ]
        refine wpAnyH_take (i := 11) (oi := { dst := some 79, op := Op.convert 23 9 (Operand.tmp 78), type := 9, pos := "more.go:42", after := #[{ on := 10, ground := Ground.data }, { on := 4, ground := Ground.guard }], guard := some (4, false) }) (v := undef) rfl (by kernel_rfl) (by kernel_rfl) (by kernel_rfl) (fun _ _ _ h => h) (Or.inr ⟨by rfl, rfl⟩) (by assumption) ?_
        simp only [Act.put, List.setIfInBounds_toArray, List.set_cons_zero, List.set_cons_succ]
        refine wpAnyH_take (i := 12) (oi := { dst := some 80, op := Op.binOp BinOp.eql 9 (Operand.tmp 75) (Operand.tmp 79) 9, type := 4, pos := "more.go:42", after := #[{ on := 7, ground := Ground.data }, { on := 11, ground := Ground.data }, { on := 4, ground := Ground.guard }], guard := some (4, false) }) (v := undef) rfl (by kernel_rfl) (by kernel_rfl) (by kernel_rfl) (fun _ _ _ h => h) (Or.inr ⟨by rfl, rfl⟩) (by assumption) ?_
        simp only [Act.put, List.setIfInBounds_toArray, List.set_cons_zero, List.set_cons_succ]
        refine wpAnyH_take (i := 13) (oi := { dst := some 81, op := Op.pick (Operand.tmp 72) (Operand.const (Value.bool true)) (Operand.tmp 80), type := 4, pos := "more.go:42", after := #[{ on := 4, ground := Ground.data }, { on := 12, ground := Ground.data }, { on := 1, ground := Ground.guard }], guard := some (1, true) }) (v := ?_) rfl (by kernel_rfl) (by kernel_rfl) (by kernel_rfl) (fun _ _ _ h => h) (Or.inl ⟨by rfl, ?_⟩) (by assumption) ?_
        rotate_left
        · (intro w_ hS_; go_simp; try with_reducible rfl)
        simp only [Act.put, List.setIfInBounds_toArray, List.set_cons_zero, List.set_cons_succ]
        refine wpAnyH_take (i := 14) (oi := { dst := some 82, op := Op.pick (Operand.tmp 69) (Operand.tmp 81) (Operand.const (Value.bool false)), type := 4, pos := "more.go:42", after := #[{ on := 1, ground := Ground.data }, { on := 13, ground := Ground.data }], guard := none }) (v := ?_) rfl (by kernel_rfl) (by kernel_rfl) (by kernel_rfl) (fun _ _ _ h => h) (Or.inl ⟨by rfl, ?_⟩) (by assumption) ?_
        rotate_left
        · (intro w_ hS_; go_simp; try with_reducible rfl)
        simp only [Act.put, List.setIfInBounds_toArray, List.set_cons_zero, List.set_cons_succ]
        refine wpAnyH_take (i := 15) (oi := { dst := some 83, op := Op.move (Operand.tmp 82), type := 4, pos := "more.go:42", after := #[{ on := 14, ground := Ground.data }, { on := 6, ground := Ground.chain }], guard := none }) (v := ?_) rfl (by kernel_rfl) (by kernel_rfl) (by kernel_rfl) (fun _ _ _ h => h) (Or.inl ⟨by rfl, ?_⟩) (by assumption) ?_
        rotate_left
        · (intro w_ hS_; go_simp; try with_reducible rfl)
        simp only [Act.put, List.setIfInBounds_toArray, List.set_cons_zero, List.set_cons_succ]
        refine wpAnyH_take (i := 16) (oi := { dst := some 84, op := Op.move (Operand.tmp 13), type := 30, pos := "more.go:42", after := #[{ on := 15, ground := Ground.guard }], guard := some (15, true) }) (v := ?_) rfl (by kernel_rfl) (by kernel_rfl) (by kernel_rfl) (fun _ _ _ h => h) (Or.inl ⟨by rfl, ?_⟩) (by assumption) ?_
        rotate_left
        · (intro w_ hS_; go_simp; try with_reducible rfl)
        simp only [Act.put, List.setIfInBounds_toArray, List.set_cons_zero, List.set_cons_succ]
        refine wpAnyH_take (i := 17) (oi := { dst := some 85, op := Op.binOp BinOp.neq 30 (Operand.tmp 84) (Operand.const (Value.int IntKind.i64 0)) 30, type := 4, pos := "more.go:42", after := #[{ on := 16, ground := Ground.data }, { on := 15, ground := Ground.guard }], guard := some (15, true) }) (v := ?_) rfl (by kernel_rfl) (by kernel_rfl) (by kernel_rfl) (fun _ _ _ h => h) (Or.inl ⟨by rfl, ?_⟩) (by assumption) ?_
        rotate_left
        · (intro w_ hS_; go_simp; try with_reducible rfl)
        simp only [Act.put, List.setIfInBounds_toArray, List.set_cons_zero, List.set_cons_succ]
        refine wpAnyH_take (i := 18) (oi := { dst := some 86, op := Op.move (Operand.tmp 85), type := 4, pos := "more.go:42", after := #[{ on := 17, ground := Ground.data }, { on := 15, ground := Ground.chain }, { on := 15, ground := Ground.guard }], guard := some (15, true) }) (v := ?_) rfl (by kernel_rfl) (by kernel_rfl) (by kernel_rfl) (fun _ _ _ h => h) (Or.inl ⟨by rfl, ?_⟩) (by assumption) ?_
        rotate_left
        · (intro w_ hS_; go_simp; try with_reducible rfl)
        simp only [Act.put, List.setIfInBounds_toArray, List.set_cons_zero, List.set_cons_succ]
        refine wpAnyH_take (i := 19) (oi := { dst := some 87, op := Op.load 27 (Operand.tmp 12), type := 27, pos := "more.go:42", after := #[{ on := 18, ground := Ground.guard }], guard := some (18, false) }) (v := undef) rfl (by kernel_rfl) (by kernel_rfl) (by kernel_rfl) (fun _ _ _ h => h) (Or.inr ⟨by rfl, rfl⟩) (by assumption) ?_
        simp only [Act.put, List.setIfInBounds_toArray, List.set_cons_zero, List.set_cons_succ]
        refine wpAnyH_take (i := 20) (oi := { dst := some 88, op := Op.load 27 (Operand.tmp 3), type := 27, pos := "more.go:42", after := #[{ on := 18, ground := Ground.guard }], guard := some (18, false) }) (v := undef) rfl (by kernel_rfl) (by kernel_rfl) (by kernel_rfl) (fun _ _ _ h => h) (Or.inr ⟨by rfl, rfl⟩) (by assumption) ?_
        simp only [Act.put, List.setIfInBounds_toArray, List.set_cons_zero, List.set_cons_succ]
        refine wpAnyH_take (i := 21) (oi := { dst := some 89, op := Op.call { callee := Callee.value (Operand.func 14), args := #[Operand.tmp 87, Operand.tmp 88], argTypes := #[27, 27] }, type := 4, pos := "more.go:42", after := #[{ on := 19, ground := Ground.data }, { on := 20, ground := Ground.data }, { on := 18, ground := Ground.chain }, { on := 18, ground := Ground.guard }], guard := some (18, false) }) (v := undef) rfl (by kernel_rfl) (by kernel_rfl) (by kernel_rfl) (fun _ _ _ h => h) (Or.inr ⟨by rfl, rfl⟩) (by assumption) ?_
        simp only [Act.put, List.setIfInBounds_toArray, List.set_cons_zero, List.set_cons_succ]
        refine wpAnyH_take (i := 22) (oi := { dst := some 90, op := Op.unOp UnOp.not 4 (Operand.tmp 89), type := 4, pos := "more.go:42", after := #[{ on := 21, ground := Ground.data }, { on := 18, ground := Ground.guard }], guard := some (18, false) }) (v := undef) rfl (by kernel_rfl) (by kernel_rfl) (by kernel_rfl) (fun _ _ _ h => h) (Or.inr ⟨by rfl, rfl⟩) (by assumption) ?_
        simp only [Act.put, List.setIfInBounds_toArray, List.set_cons_zero, List.set_cons_succ]
        refine wpAnyH_take (i := 23) (oi := { dst := some 91, op := Op.pick (Operand.tmp 86) (Operand.const (Value.bool true)) (Operand.tmp 90), type := 4, pos := "more.go:42", after := #[{ on := 18, ground := Ground.data }, { on := 22, ground := Ground.data }, { on := 15, ground := Ground.guard }], guard := some (15, true) }) (v := ?_) rfl (by kernel_rfl) (by kernel_rfl) (by kernel_rfl) (fun _ _ _ h => h) (Or.inl ⟨by rfl, ?_⟩) (by assumption) ?_
        rotate_left
        · (intro w_ hS_; go_simp; try with_reducible rfl)
        simp only [Act.put, List.setIfInBounds_toArray, List.set_cons_zero, List.set_cons_succ]
        refine wpAnyH_take (i := 24) (oi := { dst := some 92, op := Op.pick (Operand.tmp 83) (Operand.tmp 91) (Operand.const (Value.bool false)), type := 4, pos := "more.go:42", after := #[{ on := 15, ground := Ground.data }, { on := 23, ground := Ground.data }], guard := none }) (v := ?_) rfl (by kernel_rfl) (by kernel_rfl) (by kernel_rfl) (fun _ _ _ h => h) (Or.inl ⟨by rfl, ?_⟩) (by assumption) ?_
        rotate_left
        · (intro w_ hS_; go_simp; try with_reducible rfl)
        simp only [Act.put, List.setIfInBounds_toArray, List.set_cons_zero, List.set_cons_succ]
        refine wpAnyH_take (i := 25) (oi := { dst := some 6, op := Op.assign (Operand.tmp 92), type := 4, pos := "more.go:42", after := #[{ on := 24, ground := Ground.data }, { on := 21, ground := Ground.chain }, { on := 0, ground := Ground.phase }, { on := 1, ground := Ground.phase }, { on := 2, ground := Ground.phase }, { on := 3, ground := Ground.phase }, { on := 4, ground := Ground.phase }, { on := 5, ground := Ground.phase }, { on := 6, ground := Ground.phase }, { on := 7, ground := Ground.phase }, { on := 8, ground := Ground.phase }, { on := 9, ground := Ground.phase }, { on := 10, ground := Ground.phase }, { on := 11, ground := Ground.phase }, { on := 12, ground := Ground.phase }, { on := 13, ground := Ground.phase }, { on := 14, ground := Ground.phase }, { on := 15, ground := Ground.phase }, { on := 16, ground := Ground.phase }, { on := 17, ground := Ground.phase }, { on := 18, ground := Ground.phase }, { on := 19, ground := Ground.phase }, { on := 20, ground := Ground.phase }, { on := 21, ground := Ground.phase }, { on := 22, ground := Ground.phase }, { on := 23, ground := Ground.phase }, { on := 24, ground := Ground.phase }], guard := none }) (v := ?_) rfl (by kernel_rfl) (by kernel_rfl) (by kernel_rfl) (fun _ _ _ h => h) (Or.inl ⟨by rfl, ?_⟩) (by assumption) ?_
        rotate_left
        · (intro w_ hS_; go_simp; try with_reducible rfl)
        simp only [Act.put, List.setIfInBounds_toArray, List.set_cons_zero, List.set_cons_succ]
        refine wpAnyH_done (by kernel_rfl) ?_ _
        go_wp2
        go_ret
        exact ⟨rfl, bthen b010 (Below.refl _ _).drew⟩
end Go.Proofs.YtahkhideepncfaaDoor
