import Derived.Test.YtahkhideepncfaaDoorPkt0
import Derived.Test.YtahkhideepncfaaDoorIE
import Derived.Test.YtahkhideepncfaaDoorPKA
import Derived.Test.YtahkhideepncfaaDoorPLS
set_option maxRecDepth 100000
/- A packet that came in, opened to its parts; an array of four bytes likewise. -/
namespace Go.Proofs.YtahkhideepncfaaDoor
open Go.RowKit Go.ChangeShapes Go.WideShapes Go.ChangeAt
set_option linter.unusedVariables false

theorem pkt_open {W : World} {r : Reach} {b0 : Nat} {v : Value} (o : Value.okWide Tryd.prog W r b0 27 v) (h : Tr Tryd.prog W 27 v.cells.toList) : ∃ p, IsPkt W v p := by
  have c37 : Tryd.prog.cellsOf 27 = 15 := by kernel_rfl
  obtain ⟨cs, rfl, hsz⟩ := okWide_struct Tryd.underlying27 o
  obtain ⟨l⟩ := cs
  obtain ⟨_, hall⟩ := h.struct Tryd.underlying27
  match l, hsz.trans c37 with
  | [v0, v1, v2, v3, v4, v5, v6, v7, v8, v9, v10, v11, v12, v13, v14], _ =>
    have f0 := hall 0 _ rfl
    have f1 := hall 1 _ rfl
    have f2 := hall 2 _ rfl
    have f3 := hall 3 _ rfl
    have f4 := hall 4 _ rfl
    have f5 := hall 5 _ rfl
    have f6 := hall 6 _ rfl
    have f7 := hall 7 _ rfl
    simp only [Value.cells] at f0 f1 f2 f3 f4 f5 f6 f7
    have f2' : Tr Tryd.prog W 25 [v2, v3, v4, v5, v6, v7, v8, v9] := f2
    obtain ⟨_, hit⟩ := f2'.struct Tryd.underlying25
    have h0 := hit 0 _ rfl
    have h1 := hit 1 _ rfl
    have h2 := hit 2 _ rfl
    have h3 := hit 3 _ rfl
    have h4 := hit 4 _ rfl
    have h5 := hit 5 _ rfl
    have h6 := hit 6 _ rfl
    have h7 := hit 7 _ rfl
    obtain ⟨pk, ef0, _⟩ := f0.int Tryd.underlying3
    obtain ⟨pf, ef1, _⟩ := f1.int Tryd.underlying3
    obtain ⟨to, ef3, _⟩ := f3.int Tryd.underlying3
    obtain ⟨lo, ef4, _⟩ := f4.int Tryd.underlying3
    obtain ⟨many, ef5, _⟩ := f5.int Tryd.underlying3
    obtain ⟨top, ef6, _⟩ := f6.int Tryd.underlying3
    obtain ⟨k, eh0, _⟩ := h0.int Tryd.underlying3
    obtain ⟨q, eh1, _⟩ := h1.int Tryd.underlying3
    obtain ⟨e, eh2, _⟩ := h2.int Tryd.underlying3
    obtain ⟨i, eh3, _⟩ := h3.int Tryd.underlying3
    obtain ⟨t, eh4, _⟩ := h4.int Tryd.underlying3
    obtain ⟨c, eh5, _⟩ := h5.int Tryd.underlying3
    obtain ⟨LA, ln, lc, L, eh6, rl⟩ := h6.ints Tryd.underlying22 Tryd.underlying3 (by kernel_rfl)
    obtain ⟨BA, bn, bc, B, eh7, rb⟩ := h7.bytes Tryd.underlying23 Tryd.underlying5 (by kernel_rfl)
    obtain ⟨PA, pn, pc, P, ef7, rp⟩ := f7.ints Tryd.underlying22 Tryd.underlying3 (by kernel_rfl)
    injection ef0 with ef0
    injection ef1 with ef1
    injection ef3 with ef3
    injection ef4 with ef4
    injection ef5 with ef5
    injection ef6 with ef6
    injection ef7 with ef7
    injection eh0 with eh0
    injection eh1 with eh1
    injection eh2 with eh2
    injection eh3 with eh3
    injection eh4 with eh4
    injection eh5 with eh5
    injection eh6 with eh6
    injection eh7 with eh7
    subst ef0 ef1 ef3 ef4 ef5 ef6 ef7 eh0 eh1 eh2 eh3 eh4 eh5 eh6 eh7
    exact ⟨⟨pk, pf, ⟨k, q, e, i, t, c, L, B⟩, to, lo, many, top, P⟩, LA, ln, lc, BA, bn, bc, PA, pn, pc, rfl, rl, rb, rp⟩
theorem four_open {W : World} {r : Reach} {b0 : Nat} {v : Value} (o : Value.okWide Tryd.prog W r b0 68 v) (h : Tr Tryd.prog W 68 v.cells.toList) : ∃ y0 y1 y2 y3 : UInt8, v = .agg #[.int .u8 (y0.toNat : Int), .int .u8 (y1.toNat : Int), .int .u8 (y2.toNat : Int), .int .u8 (y3.toNat : Int)] := by
  have c48 : Tryd.prog.cellsOf 68 = 4 := by kernel_rfl
  have c5 : Tryd.prog.cellsOf 5 = 1 := by kernel_rfl
  obtain ⟨cs, rfl, hsz, _⟩ : ∃ cs, v = .agg cs ∧ cs.size = Tryd.prog.cellsOf 68 ∧ Row.okWide Tryd.prog W r b0 68 cs := by
    simpa [Value.okWide, Tryd.underlying68] using o
  obtain ⟨l⟩ := cs
  obtain ⟨_, hall⟩ := h.array Tryd.underlying68
  have hb : ∀ a : Int, (Lit.int .u8 a).wf = true → ∃ y : UInt8, a = (y.toNat : Int) := fun a ha => by
    have := wf_u8 ha
    exact ⟨UInt8.ofNat a.toNat, by rw [UInt8.toNat_ofNat']; omega⟩
  match l, hsz.trans c48 with
  | [v0, v1, v2, v3], _ =>
    have h0 := hall 0 (by omega)
    have h1 := hall 1 (by omega)
    have h2 := hall 2 (by omega)
    have h3 := hall 3 (by omega)
    rw [c5] at h0 h1 h2 h3
    simp only [Value.cells] at h0 h1 h2 h3
    obtain ⟨a0, e0, w0⟩ := h0.int Tryd.underlying5
    obtain ⟨a1, e1, w1⟩ := h1.int Tryd.underlying5
    obtain ⟨a2, e2, w2⟩ := h2.int Tryd.underlying5
    obtain ⟨a3, e3, w3⟩ := h3.int Tryd.underlying5
    injection e0 with e0
    injection e1 with e1
    injection e2 with e2
    injection e3 with e3
    subst e0 e1 e2 e3
    obtain ⟨y0, rfl⟩ := hb _ w0
    obtain ⟨y1, rfl⟩ := hb _ w1
    obtain ⟨y2, rfl⟩ := hb _ w2
    obtain ⟨y3, rfl⟩ := hb _ w3
    exact ⟨y0, y1, y2, y3, rfl⟩
end Go.Proofs.YtahkhideepncfaaDoor
/- The law PktTells, walked. (Written by wip/gen/pktl1.py.) -/
namespace Go.Proofs.YtahkhideepncfaaDoor
open Go.RowKit
set_option linter.unusedVariables false

set_option maxRecDepth 100000 in
set_option maxHeartbeats 16000000 in
theorem ptells_in (cp co : Array Value) (p o : Pkt.Pk) (A : Option Addr) (n c : Nat) (l : List UInt8) (w : World) (hw : Wd w) (hu : IsPkt w (.agg cp) p) (hv : IsPkt w (.agg co) o) (hs : cp.size = 15) (hs' : co.size = 15) (hl : Rd w A n c l)
    (hf : ((decide (p.it.l.length ≤ 80) && decide (p.it.b.length ≤ 1100)) && decide (p.l.length ≤ 80)) = true) (hf' : ((decide (o.it.l.length ≤ 80) && decide (o.it.b.length ≤ 1100)) && decide (o.l.length ≤ 80)) = true) (hn : n ≤ 1300) :
    Calls Tryd.prog 3 #[.agg cp, .agg co, .slice A n c] w (Yes w) := by
  have hq : decide ((1300 : Int) < (n : Int)) = false := by simp; omega
  obtain ⟨w0, hw0⟩ : ∃ w0, (w.alloc (.cells cp 27)).alloc (.cells co 27) = w0 := ⟨_, rfl⟩
  have b0 : Below w.heap.size w w0 := by rw [← hw0]; exact pkeep_alloc (pkeep_alloc (Below.refl _ _) _) _
  have g0 : w0.heap[w.heap.size]? = some (.cells cp 27 (0, 0)) := by rw [← hw0, alloc_old _ _ _ (by rw [size_alloc]; omega)]; exact alloc_at _ _ _ rfl
  have g1 : w0.heap[w.heap.size + 1]? = some (.cells co 27 (0, 0)) := by rw [← hw0]; exact alloc_at _ _ _ (by rw [size_alloc])
  have HW0 := hidT hw0
  obtain ⟨P, hP⟩ : ∃ P, P = w.heap.size := ⟨_, rfl⟩
  obtain ⟨O, hO⟩ : ∃ O, O = w.heap.size + 1 := ⟨_, rfl⟩
  rw [← hP] at g0
  rw [← hO] at g1
  have HP := hidT hP
  have HO := hidT hO
  have GP : Hid (∀ w', Below w0.heap.size w0 w' → w'.heap[P]? = some (.cells cp 27 (0, 0))) := fun w' hb => (hb.block _ (blk_ltP g0)).trans g0
  have GO : Hid (∀ w', Below w0.heap.size w0 w' → w'.heap[O]? = some (.cells co 27 (0, 0))) := fun w' hb => (hb.block _ (blk_ltP g1)).trans g1
  clear hw0 g0 g1 hP hO
  go_enter Tryd.func3, Tryd.ntmps3
  go_wp2_with fail
  rw [HW0.out, ← HO.out, ← HP.out]
  clear HW0
  with_reducible refine (pshown_any _ (hw.below b0)).mono ?_
  rintro en w1 ⟨rfl, b1⟩
  have l1 := GP.out w1 b1
  have hc := rpfew_is _ p w1 (hu.below (bthen b0 b1))
  rw [hf] at hc
  go_wp2_with (refine wpList_ldP rfl (.tmp 3) rfl P rfl cp hs l1 ?_)
  with_reducible refine hc.mono ?_
  rintro en w2 ⟨rfl, b2⟩
  clear hc l1
  have l2 := GO.out w2 (bthen b1 b2)
  have hc := rpfew_is _ o w2 (hv.below (bthen b0 (bthen b1 b2)))
  rw [hf'] at hc
  go_wp2_with (refine wpList_ldP rfl (.tmp 4) rfl O rfl co hs' l2 ?_)
  with_reducible refine hc.mono ?_
  rintro en w3 ⟨rfl, b3⟩
  clear hc l2
  have hl3 := hl.below (bthen b0 (bthen b1 (bthen b2 b3)))
  have hc := pread_any A n c l w3 (hw.below (bthen b0 (bthen b1 (bthen b2 b3)))) hl3 (by omega)
  obtain ⟨x, hx⟩ : ∃ z, (readOf l).getD Pkt.Pk.zero = z := ⟨_, rfl⟩
  obtain ⟨xe, hxe⟩ : ∃ z, readCode l = z := ⟨_, rfl⟩
  rw [hx, hxe] at hc
  have Hx := hidT hx
  have Hxe := hidT hxe
  clear hx hxe
  go_wp2_with fail
  with_reducible refine hc.mono ?_
  rintro en w4 ⟨v4, rfl, ix, b4⟩
  obtain ⟨cx, rfl, sx, ox, ix⟩ := pk_letters ix
  clear hc
  have ak : (w4.alloc (.cells zpkt 27)).heap[w4.heap.size]? = some (.cells zpkt 27 (0, 0)) := alloc_at _ _ _ rfl
  have mk : Below w4.heap.size w4 (w4.alloc (.cells zpkt 27)) := pkeep_alloc (Below.refl _ _) _
  go_wp2_with (first
    | (refine wpList_stI rfl 27 (.tmp 8) (.tmp 30) rfl w4.heap.size cx rfl rfl _ _ ak (by rw [sx]; exact info37) (by rw [sx]; rfl) ox ?_
       intro w5 gk but_ bel_
       have b5 := bel_ _ _ mk (Nat.le_refl _)))
  have Gx : Hid (∀ w', Below w5.heap.size w5 w' → w'.heap[w4.heap.size]? = some (.cells cx 27 (0, 0))) := fun w' hb => (hb.block _ (blk_ltP gk)).trans gk
  clear gk but_ bel_ ak mk
  clear hl3
  have hl5 := hl.below (bthen b0 (bthen b1 (bthen b2 (bthen b3 (bthen b4 b5)))))
  have hc := rpread_any A n c l w5 hl5 (by omega)
  obtain ⟨y, hy⟩ : ∃ z, (readOf l).getD Pkt.Pk.zero = z := ⟨_, rfl⟩
  obtain ⟨ye, hye⟩ : ∃ z, readCode l = z := ⟨_, rfl⟩
  rw [hy, hye] at hc
  have Hy := hidT hy
  have Hye := hidT hye
  clear hy hye
  go_wp2_with fail
  with_reducible refine hc.mono ?_
  rintro en w6 ⟨v6, rfl, iy, b6⟩
  obtain ⟨cy, rfl, sy, oy, iy⟩ := pk_letters iy
  clear hc
  have ak : (w6.alloc (.cells zpkt 27)).heap[w6.heap.size]? = some (.cells zpkt 27 (0, 0)) := alloc_at _ _ _ rfl
  have mk : Below w6.heap.size w6 (w6.alloc (.cells zpkt 27)) := pkeep_alloc (Below.refl _ _) _
  go_wp2_with (first
    | (refine wpList_stI rfl 27 (.tmp 10) (.tmp 35) rfl w6.heap.size cy rfl rfl _ _ ak (by rw [sy]; exact info37) (by rw [sy]; rfl) oy ?_
       intro w7 gk but_ bel_
       have b7 := bel_ _ _ mk (Nat.le_refl _)))
  have Gy : Hid (∀ w', Below w7.heap.size w7 w' → w'.heap[w6.heap.size]? = some (.cells cy 27 (0, 0))) := fun w' hb => (hb.block _ (blk_ltP gk)).trans gk
  clear gk but_ bel_ ak mk
  clear hl5
  obtain rfl : x = y := by rw [← Hx.out, ← Hy.out]
  obtain rfl : xe = ye := by rw [← Hxe.out, ← Hye.out]
  have GPw := fun w' (hb : Below w7.heap.size w7 w') => GP.out w' (bthen (bthen b1 (bthen b2 (bthen b3 (bthen b4 (bthen b5 (bthen b6 b7)))))) hb)
  have GOw := fun w' (hb : Below w7.heap.size w7 w') => GO.out w' (bthen (bthen b1 (bthen b2 (bthen b3 (bthen b4 (bthen b5 (bthen b6 b7)))))) hb)
  have GXw := fun w' (hb : Below w7.heap.size w7 w') => Gx.out w' (bthen (bthen b6 b7) hb)
  have GYw := fun w' (hb : Below w7.heap.size w7 w') => Gy.out w' hb
  have ip := hu.below (bthen b0 (bthen b1 (bthen b2 (bthen b3 (bthen b4 (bthen b5 (bthen b6 b7)))))))
  have io := hv.below (bthen b0 (bthen b1 (bthen b2 (bthen b3 (bthen b4 (bthen b5 (bthen b6 b7)))))))
  have ix7 := ix.below (bthen b5 (bthen b6 b7))
  have iy7 := iy.below b7
  have hbW := (bthen b0 (bthen b1 (bthen b2 (bthen b3 (bthen b4 (bthen b5 (bthen b6 b7)))))))
  obtain ⟨M, hM⟩ : ∃ M, Pkt.may p = M := ⟨_, rfl⟩
  obtain ⟨E, hE⟩ : ∃ E, decide (p = o) = E := ⟨_, rfl⟩
  obtain ⟨R, hR⟩ : ∃ R, Pkt.bytes p = R := ⟨_, rfl⟩
  have HM := hidT hM
  have HE := hidT hE
  have HRR := hidT hR
  clear hM hE hR
  have e1 : (M == M) = true := by simp
  have e2 : (E == E) = true := by simp
  have e3 : ((str R).toList == (str R).toList) = true := by simp
  have e4 : (xe == xe) = true := by simp
  refine wp_region_held_drew (S := fun w' => Below w7.heap.size w7 w') (by kernel_rfl) ?_ (fun hHeld => ?_)
  · exact (Below.refl _ _).drew
  refine wpAnyH_take (i := 0) (oi := { dst := some 37, op := Op.move (Operand.tmp 7), type := 4, pos := "law.go:30", after := #[], guard := none }) (v := ?_) rfl (by kernel_rfl) (by kernel_rfl) (by kernel_rfl) (fun _ _ _ h => h) (Or.inl ⟨by rfl, ?_⟩) (by assumption) ?_
  rotate_left
  · (intro w_ hS_; go_simp; try with_reducible rfl)
  simp only [Act.put, List.setIfInBounds_toArray, List.set_cons_zero, List.set_cons_succ]
  refine wpAnyH_take (i := 1) (oi := { dst := some 38, op := Op.move (Operand.tmp 37), type := 4, pos := "law.go:30", after := #[{ on := 0, ground := Ground.data }], guard := none }) (v := ?_) rfl (by kernel_rfl) (by kernel_rfl) (by kernel_rfl) (fun _ _ _ h => h) (Or.inl ⟨by rfl, ?_⟩) (by assumption) ?_
  rotate_left
  · (intro w_ hS_; go_simp; try with_reducible rfl)
  simp only [Act.put, List.setIfInBounds_toArray, List.set_cons_zero, List.set_cons_succ]
  refine wpAnyH_take (i := 2) (oi := { dst := some 39, op := Op.load 27 (Operand.tmp 3), type := 27, pos := "law.go:30", after := #[{ on := 1, ground := Ground.guard }], guard := some (1, true) }) (v := .agg cp) rfl (by kernel_rfl) (by kernel_rfl) (by kernel_rfl) (fun _ _ _ h => h) (Or.inl ⟨by rfl, fun w_ hS_ => run_ldP (.tmp 3) rfl P rfl cp hs (GPw w_ hS_)⟩) (by assumption) ?_
  simp only [Act.put, List.setIfInBounds_toArray, List.set_cons_zero, List.set_cons_succ]
  refine wpAnyH_take (i := 4) (oi := { dst := some 41, op := Op.load 27 (Operand.tmp 3), type := 27, pos := "law.go:30", after := #[{ on := 1, ground := Ground.guard }], guard := some (1, true) }) (v := .agg cp) rfl (by kernel_rfl) (by kernel_rfl) (by kernel_rfl) (fun _ _ _ h => h) (Or.inl ⟨by rfl, fun w_ hS_ => run_ldP (.tmp 3) rfl P rfl cp hs (GPw w_ hS_)⟩) (by assumption) ?_
  simp only [Act.put, List.setIfInBounds_toArray, List.set_cons_zero, List.set_cons_succ]
  refine wpAnyH_ready (rs := [3]) (by kernel_rfl) (by simp) ?_
  refine AllReadyH.cons (o := { dst := some 40, op := Op.call { callee := Callee.value (Operand.func 11), args := #[Operand.tmp 39], argTypes := #[27] }, type := 4, pos := "law.go:30", after := #[{ on := 2, ground := Ground.data }, { on := 1, ground := Ground.chain }, { on := 1, ground := Ground.guard }], guard := some (1, true) }) rfl (fun K hK => ?_) AllReadyH.nil
  go_simp
  have hc := pmay_any (.agg cp) p w7.drew (ip.below (Below.refl _ _).drew)
  rw [HM.out] at hc
  refine hc.mono ?_
  rintro en w8 ⟨rfl, b8'⟩
  have b8 : Below w7.heap.size w7 w8 := undrew b8'
  clear hc
  dsimp only
  refine hK.out _ _ ?_ (fun hHeld => ?_)
  · exact b8
  clear hK K
  refine wpAnyH_ready (rs := [5]) (by kernel_rfl) (by simp) ?_
  refine AllReadyH.cons (o := { dst := some 42, op := Op.call { callee := Callee.value (Operand.func 12), args := #[Operand.tmp 41], argTypes := #[27] }, type := 4, pos := "law.go:30", after := #[{ on := 4, ground := Ground.data }, { on := 3, ground := Ground.chain }, { on := 1, ground := Ground.guard }], guard := some (1, true) }) rfl (fun K hK => ?_) AllReadyH.nil
  go_simp
  have hc := rpmay_any (.agg cp) p w8 (ip.below b8)
  rw [HM.out] at hc
  refine hc.mono ?_
  rintro en w9 ⟨rfl, b9'⟩
  have b9 : Below w7.heap.size w7 w9 := bthen b8 b9'
  clear hc
  dsimp only
  refine hK.out _ _ ?_ (fun hHeld => ?_)
  · exact b9
  clear hK K
  refine wpAnyH_take (i := 6) (oi := { dst := some 43, op := Op.binOp BinOp.eql 4 (Operand.tmp 40) (Operand.tmp 42) 4, type := 4, pos := "law.go:30", after := #[{ on := 3, ground := Ground.data }, { on := 5, ground := Ground.data }, { on := 1, ground := Ground.guard }], guard := some (1, true) }) (v := ?_) rfl (by kernel_rfl) (by kernel_rfl) (by kernel_rfl) (fun _ _ _ h => h) (Or.inl ⟨by rfl, ?_⟩) (by assumption) ?_
  rotate_left
  · (intro w_ hS_; go_simp; try with_reducible rfl)
  simp only [Act.put, List.setIfInBounds_toArray, List.set_cons_zero, List.set_cons_succ]
  refine wpAnyH_take (i := 7) (oi := { dst := some 44, op := Op.pick (Operand.tmp 38) (Operand.tmp 43) (Operand.const (Value.bool false)), type := 4, pos := "law.go:30", after := #[{ on := 1, ground := Ground.data }, { on := 6, ground := Ground.data }], guard := none }) (v := ?_) rfl (by kernel_rfl) (by kernel_rfl) (by kernel_rfl) (fun _ _ _ h => h) (Or.inl ⟨by rfl, ?_⟩) (by assumption) ?_
  rotate_left
  · (intro w_ hS_; go_simp; try with_reducible rfl)
  simp only [Act.put, List.setIfInBounds_toArray, List.set_cons_zero, List.set_cons_succ]
  refine wpAnyH_take (i := 8) (oi := { dst := some 45, op := Op.move (Operand.tmp 44), type := 4, pos := "law.go:30", after := #[{ on := 7, ground := Ground.data }, { on := 5, ground := Ground.chain }], guard := none }) (v := ?_) rfl (by kernel_rfl) (by kernel_rfl) (by kernel_rfl) (fun _ _ _ h => h) (Or.inl ⟨by rfl, ?_⟩) (by assumption) ?_
  rotate_left
  · (intro w_ hS_; go_simp; try with_reducible rfl)
  simp only [Act.put, List.setIfInBounds_toArray, List.set_cons_zero, List.set_cons_succ]
  refine wpAnyH_take (i := 9) (oi := { dst := some 46, op := Op.load 27 (Operand.tmp 3), type := 27, pos := "law.go:30", after := #[{ on := 8, ground := Ground.guard }], guard := some (8, true) }) (v := .agg cp) rfl (by kernel_rfl) (by kernel_rfl) (by kernel_rfl) (fun _ _ _ h => h) (Or.inl ⟨by rfl, fun w_ hS_ => run_ldP (.tmp 3) rfl P rfl cp hs (GPw w_ hS_)⟩) (by assumption) ?_
  simp only [Act.put, List.setIfInBounds_toArray, List.set_cons_zero, List.set_cons_succ]
  refine wpAnyH_take (i := 10) (oi := { dst := some 47, op := Op.load 27 (Operand.tmp 4), type := 27, pos := "law.go:30", after := #[{ on := 8, ground := Ground.guard }], guard := some (8, true) }) (v := .agg co) rfl (by kernel_rfl) (by kernel_rfl) (by kernel_rfl) (fun _ _ _ h => h) (Or.inl ⟨by rfl, fun w_ hS_ => run_ldP (.tmp 4) rfl O rfl co hs' (GOw w_ hS_)⟩) (by assumption) ?_
  simp only [Act.put, List.setIfInBounds_toArray, List.set_cons_zero, List.set_cons_succ]
  refine wpAnyH_take (i := 12) (oi := { dst := some 49, op := Op.load 27 (Operand.tmp 3), type := 27, pos := "law.go:30", after := #[{ on := 8, ground := Ground.guard }], guard := some (8, true) }) (v := .agg cp) rfl (by kernel_rfl) (by kernel_rfl) (by kernel_rfl) (fun _ _ _ h => h) (Or.inl ⟨by rfl, fun w_ hS_ => run_ldP (.tmp 3) rfl P rfl cp hs (GPw w_ hS_)⟩) (by assumption) ?_
  simp only [Act.put, List.setIfInBounds_toArray, List.set_cons_zero, List.set_cons_succ]
  refine wpAnyH_take (i := 13) (oi := { dst := some 50, op := Op.load 27 (Operand.tmp 4), type := 27, pos := "law.go:30", after := #[{ on := 8, ground := Ground.guard }], guard := some (8, true) }) (v := .agg co) rfl (by kernel_rfl) (by kernel_rfl) (by kernel_rfl) (fun _ _ _ h => h) (Or.inl ⟨by rfl, fun w_ hS_ => run_ldP (.tmp 4) rfl O rfl co hs' (GOw w_ hS_)⟩) (by assumption) ?_
  simp only [Act.put, List.setIfInBounds_toArray, List.set_cons_zero, List.set_cons_succ]
  refine wpAnyH_ready (rs := [11]) (by kernel_rfl) (by simp) ?_
  refine AllReadyH.cons (o := { dst := some 48, op := Op.call { callee := Callee.value (Operand.func 13), args := #[Operand.tmp 46, Operand.tmp 47], argTypes := #[27, 27] }, type := 4, pos := "law.go:30", after := #[{ on := 9, ground := Ground.data }, { on := 10, ground := Ground.data }, { on := 8, ground := Ground.chain }, { on := 8, ground := Ground.guard }], guard := some (8, true) }) rfl (fun K hK => ?_) AllReadyH.nil
  go_simp
  refine (psame_is (.agg cp) (.agg co) p o w9 (ip.below b9) (io.below b9) E HE.out).mono ?_
  rintro en w10 ⟨rfl, b10'⟩
  have b10 : Below w7.heap.size w7 w10 := bthen b9 b10'
  dsimp only
  refine hK.out _ _ ?_ (fun hHeld => ?_)
  · exact b10
  clear hK K
  refine wpAnyH_ready (rs := [14]) (by kernel_rfl) (by simp) ?_
  refine AllReadyH.cons (o := { dst := some 51, op := Op.call { callee := Callee.value (Operand.func 14), args := #[Operand.tmp 49, Operand.tmp 50], argTypes := #[27, 27] }, type := 4, pos := "law.go:30", after := #[{ on := 12, ground := Ground.data }, { on := 13, ground := Ground.data }, { on := 11, ground := Ground.chain }, { on := 8, ground := Ground.guard }], guard := some (8, true) }) rfl (fun K hK => ?_) AllReadyH.nil
  go_simp
  refine (rpsame_is (.agg cp) (.agg co) p o w10 (ip.below b10) (io.below b10) E HE.out).mono ?_
  rintro en w11 ⟨rfl, b11'⟩
  have b11 : Below w7.heap.size w7 w11 := bthen b10 b11'
  dsimp only
  refine hK.out _ _ ?_ (fun hHeld => ?_)
  · exact b11
  clear hK K
  refine wpAnyH_take (i := 15) (oi := { dst := some 52, op := Op.binOp BinOp.eql 4 (Operand.tmp 48) (Operand.tmp 51) 4, type := 4, pos := "law.go:30", after := #[{ on := 11, ground := Ground.data }, { on := 14, ground := Ground.data }, { on := 8, ground := Ground.guard }], guard := some (8, true) }) (v := ?_) rfl (by kernel_rfl) (by kernel_rfl) (by kernel_rfl) (fun _ _ _ h => h) (Or.inl ⟨by rfl, ?_⟩) (by assumption) ?_
  rotate_left
  · (intro w_ hS_; go_simp; try with_reducible rfl)
  simp only [Act.put, List.setIfInBounds_toArray, List.set_cons_zero, List.set_cons_succ]
  refine wpAnyH_take (i := 16) (oi := { dst := some 53, op := Op.pick (Operand.tmp 45) (Operand.tmp 52) (Operand.const (Value.bool false)), type := 4, pos := "law.go:30", after := #[{ on := 8, ground := Ground.data }, { on := 15, ground := Ground.data }], guard := none }) (v := ?_) rfl (by kernel_rfl) (by kernel_rfl) (by kernel_rfl) (fun _ _ _ h => h) (Or.inl ⟨by rfl, ?_⟩) (by assumption) ?_
  rotate_left
  · (intro w_ hS_; go_simp; try with_reducible rfl)
  simp only [Act.put, List.setIfInBounds_toArray, List.set_cons_zero, List.set_cons_succ]
  refine wpAnyH_take (i := 17) (oi := { dst := some 54, op := Op.move (Operand.tmp 53), type := 4, pos := "law.go:30", after := #[{ on := 16, ground := Ground.data }, { on := 14, ground := Ground.chain }], guard := none }) (v := ?_) rfl (by kernel_rfl) (by kernel_rfl) (by kernel_rfl) (fun _ _ _ h => h) (Or.inl ⟨by rfl, ?_⟩) (by assumption) ?_
  rotate_left
  · (intro w_ hS_; go_simp; try with_reducible rfl)
  simp only [Act.put, List.setIfInBounds_toArray, List.set_cons_zero, List.set_cons_succ]
  refine wpAnyH_take (i := 18) (oi := { dst := some 55, op := Op.load 27 (Operand.tmp 3), type := 27, pos := "law.go:30", after := #[{ on := 17, ground := Ground.guard }], guard := some (17, true) }) (v := .agg cp) rfl (by kernel_rfl) (by kernel_rfl) (by kernel_rfl) (fun _ _ _ h => h) (Or.inl ⟨by rfl, fun w_ hS_ => run_ldP (.tmp 3) rfl P rfl cp hs (GPw w_ hS_)⟩) (by assumption) ?_
  simp only [Act.put, List.setIfInBounds_toArray, List.set_cons_zero, List.set_cons_succ]
  refine wpAnyH_take (i := 21) (oi := { dst := some 58, op := Op.load 27 (Operand.tmp 3), type := 27, pos := "law.go:30", after := #[{ on := 17, ground := Ground.guard }], guard := some (17, true) }) (v := .agg cp) rfl (by kernel_rfl) (by kernel_rfl) (by kernel_rfl) (fun _ _ _ h => h) (Or.inl ⟨by rfl, fun w_ hS_ => run_ldP (.tmp 3) rfl P rfl cp hs (GPw w_ hS_)⟩) (by assumption) ?_
  simp only [Act.put, List.setIfInBounds_toArray, List.set_cons_zero, List.set_cons_succ]
  refine wpAnyH_ready (rs := [19]) (by kernel_rfl) (by simp) ?_
  refine AllReadyH.cons (o := { dst := some 56, op := Op.call { callee := Callee.value (Operand.func 15), args := #[Operand.tmp 55], argTypes := #[27] }, type := 23, pos := "law.go:30", after := #[{ on := 18, ground := Ground.data }, { on := 17, ground := Ground.chain }, { on := 17, ground := Ground.guard }], guard := some (17, true) }) rfl (fun K hK => ?_) AllReadyH.nil
  go_simp
  have hc := pbytes_any (.agg cp) p w11 (hw.below (bthen hbW b11)) (ip.below b11)
  rw [HRR.out] at hc
  refine hc.mono ?_
  rintro en w12 ⟨A12, c12, rfl, o12, b12'⟩
  have b12 : Below w7.heap.size w7 w12 := bthen b11 b12'
  have s12 := fun w' (hb : Below w12.heap.size w12 w') => strs o12.same w' hb
  have S12 := hidT s12
  clear s12 hc
  dsimp only
  refine hK.out _ _ ?_ (fun hHeld => ?_)
  · exact b12
  clear hK K
  refine wpAnyH_ready (rs := [20, 22]) (by kernel_rfl) (by simp) ?_
  refine AllReadyH.cons (o := { dst := some 57, op := Op.convert 23 9 (Operand.tmp 56), type := 9, pos := "law.go:30", after := #[{ on := 19, ground := Ground.data }, { on := 17, ground := Ground.guard }], guard := some (17, true) }) rfl (fun K hK => ?_) (AllReadyH.cons (o := { dst := some 59, op := Op.call { callee := Callee.value (Operand.func 16), args := #[Operand.tmp 58], argTypes := #[27] }, type := 23, pos := "law.go:30", after := #[{ on := 21, ground := Ground.data }, { on := 19, ground := Ground.chain }, { on := 17, ground := Ground.guard }], guard := some (17, true) }) rfl (fun K hK => ?_) AllReadyH.nil)
  · have s1 := S12.out w12 (Below.refl _ _)
    go_simp
    refine hK.out _ _ ?_ (fun hHeld => ?_)
    · exact b12
    clear hK K s1
    refine wpAnyH_ready (rs := [22]) (by kernel_rfl) (by simp) ?_
    refine AllReadyH.cons (o := { dst := some 59, op := Op.call { callee := Callee.value (Operand.func 16), args := #[Operand.tmp 58], argTypes := #[27] }, type := 23, pos := "law.go:30", after := #[{ on := 21, ground := Ground.data }, { on := 19, ground := Ground.chain }, { on := 17, ground := Ground.guard }], guard := some (17, true) }) rfl (fun K hK => ?_) AllReadyH.nil
    go_simp
    have hc := rpbytes_any (.agg cp) p w12 (ip.below b12)
    rw [HRR.out] at hc
    refine hc.mono ?_
    rintro en w13 ⟨A13, c13, rfl, o13, b13'⟩
    have b13 : Below w7.heap.size w7 w13 := bthen b12 b13'
    have s13 := strs o13.same w13 (Below.refl _ _)
    clear hc
    dsimp only
    refine hK.out _ _ ?_ (fun hHeld => ?_)
    · exact b13
    clear hK K
    refine wpAnyH_ready (rs := [23]) (by kernel_rfl) (by simp) ?_
    refine AllReadyH.cons (o := { dst := some 60, op := Op.convert 23 9 (Operand.tmp 59), type := 9, pos := "law.go:30", after := #[{ on := 22, ground := Ground.data }, { on := 17, ground := Ground.guard }], guard := some (17, true) }) rfl (fun K hK => ?_) AllReadyH.nil
    go_simp
    refine hK.out _ _ ?_ (fun hHeld => ?_)
    · exact b13
    clear hK K
    clear s13
    refine wpAnyH_take (i := 24) (oi := { dst := some 61, op := Op.binOp BinOp.eql 9 (Operand.tmp 57) (Operand.tmp 60) 9, type := 4, pos := "law.go:30", after := #[{ on := 20, ground := Ground.data }, { on := 23, ground := Ground.data }, { on := 17, ground := Ground.guard }], guard := some (17, true) }) (v := ?_) rfl (by kernel_rfl) (by kernel_rfl) (by kernel_rfl) (fun _ _ _ h => h) (Or.inl ⟨by rfl, ?_⟩) (by assumption) ?_
    rotate_left
    · (intro w_ hS_; go_simp; try with_reducible rfl)
    simp only [Act.put, List.setIfInBounds_toArray, List.set_cons_zero, List.set_cons_succ]
    refine wpAnyH_take (i := 25) (oi := { dst := some 62, op := Op.pick (Operand.tmp 54) (Operand.tmp 61) (Operand.const (Value.bool false)), type := 4, pos := "law.go:30", after := #[{ on := 17, ground := Ground.data }, { on := 24, ground := Ground.data }], guard := none }) (v := ?_) rfl (by kernel_rfl) (by kernel_rfl) (by kernel_rfl) (fun _ _ _ h => h) (Or.inl ⟨by rfl, ?_⟩) (by assumption) ?_
    rotate_left
    · (intro w_ hS_; go_simp; try with_reducible rfl)
    simp only [Act.put, List.setIfInBounds_toArray, List.set_cons_zero, List.set_cons_succ]
    refine wpAnyH_take (i := 26) (oi := { dst := some 63, op := Op.move (Operand.tmp 62), type := 4, pos := "law.go:30", after := #[{ on := 25, ground := Ground.data }, { on := 22, ground := Ground.chain }], guard := none }) (v := ?_) rfl (by kernel_rfl) (by kernel_rfl) (by kernel_rfl) (fun _ _ _ h => h) (Or.inl ⟨by rfl, ?_⟩) (by assumption) ?_
    rotate_left
    · (intro w_ hS_; go_simp; try with_reducible rfl)
    simp only [Act.put, List.setIfInBounds_toArray, List.set_cons_zero, List.set_cons_succ]
    refine wpAnyH_take (i := 27) (oi := { dst := some 64, op := Op.load 27 (Operand.tmp 8), type := 27, pos := "law.go:30", after := #[{ on := 26, ground := Ground.guard }], guard := some (26, true) }) (v := .agg cx) rfl (by kernel_rfl) (by kernel_rfl) (by kernel_rfl) (fun _ _ _ h => h) (Or.inl ⟨by rfl, fun w_ hS_ => run_ldP (.tmp 8) rfl w4.heap.size rfl cx sx (GXw w_ hS_)⟩) (by assumption) ?_
    simp only [Act.put, List.setIfInBounds_toArray, List.set_cons_zero, List.set_cons_succ]
    refine wpAnyH_take (i := 28) (oi := { dst := some 65, op := Op.load 27 (Operand.tmp 10), type := 27, pos := "law.go:30", after := #[{ on := 26, ground := Ground.guard }], guard := some (26, true) }) (v := .agg cy) rfl (by kernel_rfl) (by kernel_rfl) (by kernel_rfl) (fun _ _ _ h => h) (Or.inl ⟨by rfl, fun w_ hS_ => run_ldP (.tmp 10) rfl w6.heap.size rfl cy sy (GYw w_ hS_)⟩) (by assumption) ?_
    simp only [Act.put, List.setIfInBounds_toArray, List.set_cons_zero, List.set_cons_succ]
    refine wpAnyH_ready (rs := [29]) (by kernel_rfl) (by simp) ?_
    refine AllReadyH.cons (o := { dst := some 66, op := Op.call { callee := Callee.value (Operand.func 14), args := #[Operand.tmp 64, Operand.tmp 65], argTypes := #[27, 27] }, type := 4, pos := "law.go:30", after := #[{ on := 27, ground := Ground.data }, { on := 28, ground := Ground.data }, { on := 26, ground := Ground.chain }, { on := 26, ground := Ground.guard }], guard := some (26, true) }) rfl (fun K hK => ?_) AllReadyH.nil
    go_simp
    refine (rpsame_is (.agg cx) (.agg cy) x x w13 (ix7.below b13) (iy7.below b13) true (by simp)).mono ?_
    rintro en w14 ⟨rfl, b14'⟩
    have b14 : Below w7.heap.size w7 w14 := bthen b13 b14'
    dsimp only
    refine hK.out _ _ ?_ (fun hHeld => ?_)
    · exact b14
    clear hK K
    refine wpAnyH_take (i := 30) (oi := { dst := some 67, op := Op.pick (Operand.tmp 63) (Operand.tmp 66) (Operand.const (Value.bool false)), type := 4, pos := "law.go:30", after := #[{ on := 26, ground := Ground.data }, { on := 29, ground := Ground.data }], guard := none }) (v := ?_) rfl (by kernel_rfl) (by kernel_rfl) (by kernel_rfl) (fun _ _ _ h => h) (Or.inl ⟨by rfl, ?_⟩) (by assumption) ?_
    rotate_left
    · (intro w_ hS_; go_simp; try with_reducible rfl)
    simp only [Act.put, List.setIfInBounds_toArray, List.set_cons_zero, List.set_cons_succ]
    refine wpAnyH_take (i := 31) (oi := { dst := some 68, op := Op.move (Operand.tmp 67), type := 4, pos := "law.go:30", after := #[{ on := 30, ground := Ground.data }, { on := 29, ground := Ground.chain }], guard := none }) (v := ?_) rfl (by kernel_rfl) (by kernel_rfl) (by kernel_rfl) (fun _ _ _ h => h) (Or.inl ⟨by rfl, ?_⟩) (by assumption) ?_
    rotate_left
    · (intro w_ hS_; go_simp; try with_reducible rfl)
    simp only [Act.put, List.setIfInBounds_toArray, List.set_cons_zero, List.set_cons_succ]
    refine wpAnyH_take (i := 32) (oi := { dst := some 69, op := Op.move (Operand.tmp 9), type := 30, pos := "law.go:30", after := #[{ on := 31, ground := Ground.guard }], guard := some (31, true) }) (v := ?_) rfl (by kernel_rfl) (by kernel_rfl) (by kernel_rfl) (fun _ _ _ h => h) (Or.inl ⟨by rfl, ?_⟩) (by assumption) ?_
    rotate_left
    · (intro w_ hS_; go_simp; try with_reducible rfl)
    simp only [Act.put, List.setIfInBounds_toArray, List.set_cons_zero, List.set_cons_succ]
    refine wpAnyH_take (i := 33) (oi := { dst := some 70, op := Op.move (Operand.tmp 11), type := 3, pos := "law.go:30", after := #[{ on := 31, ground := Ground.guard }], guard := some (31, true) }) (v := ?_) rfl (by kernel_rfl) (by kernel_rfl) (by kernel_rfl) (fun _ _ _ h => h) (Or.inl ⟨by rfl, ?_⟩) (by assumption) ?_
    rotate_left
    · (intro w_ hS_; go_simp; try with_reducible rfl)
    simp only [Act.put, List.setIfInBounds_toArray, List.set_cons_zero, List.set_cons_succ]
    refine wpAnyH_take (i := 34) (oi := { dst := some 71, op := Op.binOp BinOp.eql 3 (Operand.tmp 69) (Operand.tmp 70) 3, type := 4, pos := "law.go:30", after := #[{ on := 32, ground := Ground.data }, { on := 33, ground := Ground.data }, { on := 31, ground := Ground.guard }], guard := some (31, true) }) (v := ?_) rfl (by kernel_rfl) (by kernel_rfl) (by kernel_rfl) (fun _ _ _ h => h) (Or.inl ⟨by rfl, ?_⟩) (by assumption) ?_
    rotate_left
    · (intro w_ hS_; go_simp; try with_reducible rfl)
    simp only [Act.put, List.setIfInBounds_toArray, List.set_cons_zero, List.set_cons_succ]
    refine wpAnyH_take (i := 35) (oi := { dst := some 72, op := Op.pick (Operand.tmp 68) (Operand.tmp 71) (Operand.const (Value.bool false)), type := 4, pos := "law.go:30", after := #[{ on := 31, ground := Ground.data }, { on := 34, ground := Ground.data }], guard := none }) (v := ?_) rfl (by kernel_rfl) (by kernel_rfl) (by kernel_rfl) (fun _ _ _ h => h) (Or.inl ⟨by rfl, ?_⟩) (by assumption) ?_
    rotate_left
    · (intro w_ hS_; go_simp; try with_reducible rfl)
    simp only [Act.put, List.setIfInBounds_toArray, List.set_cons_zero, List.set_cons_succ]
    refine wpAnyH_take (i := 36) (oi := { dst := some 6, op := Op.assign (Operand.tmp 72), type := 4, pos := "law.go:30", after := #[{ on := 35, ground := Ground.data }, { on := 31, ground := Ground.chain }, { on := 0, ground := Ground.phase }, { on := 1, ground := Ground.phase }, { on := 2, ground := Ground.phase }, { on := 3, ground := Ground.phase }, { on := 4, ground := Ground.phase }, { on := 5, ground := Ground.phase }, { on := 6, ground := Ground.phase }, { on := 7, ground := Ground.phase }, { on := 8, ground := Ground.phase }, { on := 9, ground := Ground.phase }, { on := 10, ground := Ground.phase }, { on := 11, ground := Ground.phase }, { on := 12, ground := Ground.phase }, { on := 13, ground := Ground.phase }, { on := 14, ground := Ground.phase }, { on := 15, ground := Ground.phase }, { on := 16, ground := Ground.phase }, { on := 17, ground := Ground.phase }, { on := 18, ground := Ground.phase }, { on := 19, ground := Ground.phase }, { on := 20, ground := Ground.phase }, { on := 21, ground := Ground.phase }, { on := 22, ground := Ground.phase }, { on := 23, ground := Ground.phase }, { on := 24, ground := Ground.phase }, { on := 25, ground := Ground.phase }, { on := 26, ground := Ground.phase }, { on := 27, ground := Ground.phase }, { on := 28, ground := Ground.phase }, { on := 29, ground := Ground.phase }, { on := 30, ground := Ground.phase }, { on := 31, ground := Ground.phase }, { on := 32, ground := Ground.phase }, { on := 33, ground := Ground.phase }, { on := 34, ground := Ground.phase }, { on := 35, ground := Ground.phase }], guard := none }) (v := ?_) rfl (by kernel_rfl) (by kernel_rfl) (by kernel_rfl) (fun _ _ _ h => h) (Or.inl ⟨by rfl, ?_⟩) (by assumption) ?_
    rotate_left
    · (intro w_ hS_; go_simp; try with_reducible rfl)
    simp only [Act.put, List.setIfInBounds_toArray, List.set_cons_zero, List.set_cons_succ]
    refine wpAnyH_done (by kernel_rfl) ?_ _
    go_wp2
    go_ret
    exact ⟨rfl, bthen hbW b14⟩
  · skip
    go_simp
    have hc := rpbytes_any (.agg cp) p w12 (ip.below b12)
    rw [HRR.out] at hc
    refine hc.mono ?_
    rintro en w13 ⟨A13, c13, rfl, o13, b13'⟩
    have b13 : Below w7.heap.size w7 w13 := bthen b12 b13'
    have s13 := strs o13.same w13 (Below.refl _ _)
    clear hc
    dsimp only
    refine hK.out _ _ ?_ (fun hHeld => ?_)
    · exact b13
    clear hK K
    have s1 := S12.out w13 b13'
    refine wpAnyH_ready (rs := [20, 23]) (by kernel_rfl) (by simp) ?_
    refine AllReadyH.cons (o := { dst := some 57, op := Op.convert 23 9 (Operand.tmp 56), type := 9, pos := "law.go:30", after := #[{ on := 19, ground := Ground.data }, { on := 17, ground := Ground.guard }], guard := some (17, true) }) rfl (fun K hK => ?_) (AllReadyH.cons (o := { dst := some 60, op := Op.convert 23 9 (Operand.tmp 59), type := 9, pos := "law.go:30", after := #[{ on := 22, ground := Ground.data }, { on := 17, ground := Ground.guard }], guard := some (17, true) }) rfl (fun K hK => ?_) AllReadyH.nil)
    · skip
      go_simp
      refine hK.out _ _ ?_ (fun hHeld => ?_)
      · exact b13
      clear hK K
      refine wpAnyH_ready (rs := [23]) (by kernel_rfl) (by simp) ?_
      refine AllReadyH.cons (o := { dst := some 60, op := Op.convert 23 9 (Operand.tmp 59), type := 9, pos := "law.go:30", after := #[{ on := 22, ground := Ground.data }, { on := 17, ground := Ground.guard }], guard := some (17, true) }) rfl (fun K hK => ?_) AllReadyH.nil
      go_simp
      refine hK.out _ _ ?_ (fun hHeld => ?_)
      · exact b13
      clear hK K
      clear s1 s13
      refine wpAnyH_take (i := 24) (oi := { dst := some 61, op := Op.binOp BinOp.eql 9 (Operand.tmp 57) (Operand.tmp 60) 9, type := 4, pos := "law.go:30", after := #[{ on := 20, ground := Ground.data }, { on := 23, ground := Ground.data }, { on := 17, ground := Ground.guard }], guard := some (17, true) }) (v := ?_) rfl (by kernel_rfl) (by kernel_rfl) (by kernel_rfl) (fun _ _ _ h => h) (Or.inl ⟨by rfl, ?_⟩) (by assumption) ?_
      rotate_left
      · (intro w_ hS_; go_simp; try with_reducible rfl)
      simp only [Act.put, List.setIfInBounds_toArray, List.set_cons_zero, List.set_cons_succ]
      refine wpAnyH_take (i := 25) (oi := { dst := some 62, op := Op.pick (Operand.tmp 54) (Operand.tmp 61) (Operand.const (Value.bool false)), type := 4, pos := "law.go:30", after := #[{ on := 17, ground := Ground.data }, { on := 24, ground := Ground.data }], guard := none }) (v := ?_) rfl (by kernel_rfl) (by kernel_rfl) (by kernel_rfl) (fun _ _ _ h => h) (Or.inl ⟨by rfl, ?_⟩) (by assumption) ?_
      rotate_left
      · (intro w_ hS_; go_simp; try with_reducible rfl)
      simp only [Act.put, List.setIfInBounds_toArray, List.set_cons_zero, List.set_cons_succ]
      refine wpAnyH_take (i := 26) (oi := { dst := some 63, op := Op.move (Operand.tmp 62), type := 4, pos := "law.go:30", after := #[{ on := 25, ground := Ground.data }, { on := 22, ground := Ground.chain }], guard := none }) (v := ?_) rfl (by kernel_rfl) (by kernel_rfl) (by kernel_rfl) (fun _ _ _ h => h) (Or.inl ⟨by rfl, ?_⟩) (by assumption) ?_
      rotate_left
      · (intro w_ hS_; go_simp; try with_reducible rfl)
      simp only [Act.put, List.setIfInBounds_toArray, List.set_cons_zero, List.set_cons_succ]
      refine wpAnyH_take (i := 27) (oi := { dst := some 64, op := Op.load 27 (Operand.tmp 8), type := 27, pos := "law.go:30", after := #[{ on := 26, ground := Ground.guard }], guard := some (26, true) }) (v := .agg cx) rfl (by kernel_rfl) (by kernel_rfl) (by kernel_rfl) (fun _ _ _ h => h) (Or.inl ⟨by rfl, fun w_ hS_ => run_ldP (.tmp 8) rfl w4.heap.size rfl cx sx (GXw w_ hS_)⟩) (by assumption) ?_
      simp only [Act.put, List.setIfInBounds_toArray, List.set_cons_zero, List.set_cons_succ]
      refine wpAnyH_take (i := 28) (oi := { dst := some 65, op := Op.load 27 (Operand.tmp 10), type := 27, pos := "law.go:30", after := #[{ on := 26, ground := Ground.guard }], guard := some (26, true) }) (v := .agg cy) rfl (by kernel_rfl) (by kernel_rfl) (by kernel_rfl) (fun _ _ _ h => h) (Or.inl ⟨by rfl, fun w_ hS_ => run_ldP (.tmp 10) rfl w6.heap.size rfl cy sy (GYw w_ hS_)⟩) (by assumption) ?_
      simp only [Act.put, List.setIfInBounds_toArray, List.set_cons_zero, List.set_cons_succ]
      refine wpAnyH_ready (rs := [29]) (by kernel_rfl) (by simp) ?_
      refine AllReadyH.cons (o := { dst := some 66, op := Op.call { callee := Callee.value (Operand.func 14), args := #[Operand.tmp 64, Operand.tmp 65], argTypes := #[27, 27] }, type := 4, pos := "law.go:30", after := #[{ on := 27, ground := Ground.data }, { on := 28, ground := Ground.data }, { on := 26, ground := Ground.chain }, { on := 26, ground := Ground.guard }], guard := some (26, true) }) rfl (fun K hK => ?_) AllReadyH.nil
      go_simp
      refine (rpsame_is (.agg cx) (.agg cy) x x w13 (ix7.below b13) (iy7.below b13) true (by simp)).mono ?_
      rintro en w14 ⟨rfl, b14'⟩
      have b14 : Below w7.heap.size w7 w14 := bthen b13 b14'
      dsimp only
      refine hK.out _ _ ?_ (fun hHeld => ?_)
      · exact b14
      clear hK K
      refine wpAnyH_take (i := 30) (oi := { dst := some 67, op := Op.pick (Operand.tmp 63) (Operand.tmp 66) (Operand.const (Value.bool false)), type := 4, pos := "law.go:30", after := #[{ on := 26, ground := Ground.data }, { on := 29, ground := Ground.data }], guard := none }) (v := ?_) rfl (by kernel_rfl) (by kernel_rfl) (by kernel_rfl) (fun _ _ _ h => h) (Or.inl ⟨by rfl, ?_⟩) (by assumption) ?_
      rotate_left
      · (intro w_ hS_; go_simp; try with_reducible rfl)
      simp only [Act.put, List.setIfInBounds_toArray, List.set_cons_zero, List.set_cons_succ]
      refine wpAnyH_take (i := 31) (oi := { dst := some 68, op := Op.move (Operand.tmp 67), type := 4, pos := "law.go:30", after := #[{ on := 30, ground := Ground.data }, { on := 29, ground := Ground.chain }], guard := none }) (v := ?_) rfl (by kernel_rfl) (by kernel_rfl) (by kernel_rfl) (fun _ _ _ h => h) (Or.inl ⟨by rfl, ?_⟩) (by assumption) ?_
      rotate_left
      · (intro w_ hS_; go_simp; try with_reducible rfl)
      simp only [Act.put, List.setIfInBounds_toArray, List.set_cons_zero, List.set_cons_succ]
      refine wpAnyH_take (i := 32) (oi := { dst := some 69, op := Op.move (Operand.tmp 9), type := 30, pos := "law.go:30", after := #[{ on := 31, ground := Ground.guard }], guard := some (31, true) }) (v := ?_) rfl (by kernel_rfl) (by kernel_rfl) (by kernel_rfl) (fun _ _ _ h => h) (Or.inl ⟨by rfl, ?_⟩) (by assumption) ?_
      rotate_left
      · (intro w_ hS_; go_simp; try with_reducible rfl)
      simp only [Act.put, List.setIfInBounds_toArray, List.set_cons_zero, List.set_cons_succ]
      refine wpAnyH_take (i := 33) (oi := { dst := some 70, op := Op.move (Operand.tmp 11), type := 3, pos := "law.go:30", after := #[{ on := 31, ground := Ground.guard }], guard := some (31, true) }) (v := ?_) rfl (by kernel_rfl) (by kernel_rfl) (by kernel_rfl) (fun _ _ _ h => h) (Or.inl ⟨by rfl, ?_⟩) (by assumption) ?_
      rotate_left
      · (intro w_ hS_; go_simp; try with_reducible rfl)
      simp only [Act.put, List.setIfInBounds_toArray, List.set_cons_zero, List.set_cons_succ]
      refine wpAnyH_take (i := 34) (oi := { dst := some 71, op := Op.binOp BinOp.eql 3 (Operand.tmp 69) (Operand.tmp 70) 3, type := 4, pos := "law.go:30", after := #[{ on := 32, ground := Ground.data }, { on := 33, ground := Ground.data }, { on := 31, ground := Ground.guard }], guard := some (31, true) }) (v := ?_) rfl (by kernel_rfl) (by kernel_rfl) (by kernel_rfl) (fun _ _ _ h => h) (Or.inl ⟨by rfl, ?_⟩) (by assumption) ?_
      rotate_left
      · (intro w_ hS_; go_simp; try with_reducible rfl)
      simp only [Act.put, List.setIfInBounds_toArray, List.set_cons_zero, List.set_cons_succ]
      refine wpAnyH_take (i := 35) (oi := { dst := some 72, op := Op.pick (Operand.tmp 68) (Operand.tmp 71) (Operand.const (Value.bool false)), type := 4, pos := "law.go:30", after := #[{ on := 31, ground := Ground.data }, { on := 34, ground := Ground.data }], guard := none }) (v := ?_) rfl (by kernel_rfl) (by kernel_rfl) (by kernel_rfl) (fun _ _ _ h => h) (Or.inl ⟨by rfl, ?_⟩) (by assumption) ?_
      rotate_left
      · (intro w_ hS_; go_simp; try with_reducible rfl)
      simp only [Act.put, List.setIfInBounds_toArray, List.set_cons_zero, List.set_cons_succ]
      refine wpAnyH_take (i := 36) (oi := { dst := some 6, op := Op.assign (Operand.tmp 72), type := 4, pos := "law.go:30", after := #[{ on := 35, ground := Ground.data }, { on := 31, ground := Ground.chain }, { on := 0, ground := Ground.phase }, { on := 1, ground := Ground.phase }, { on := 2, ground := Ground.phase }, { on := 3, ground := Ground.phase }, { on := 4, ground := Ground.phase }, { on := 5, ground := Ground.phase }, { on := 6, ground := Ground.phase }, { on := 7, ground := Ground.phase }, { on := 8, ground := Ground.phase }, { on := 9, ground := Ground.phase }, { on := 10, ground := Ground.phase }, { on := 11, ground := Ground.phase }, { on := 12, ground := Ground.phase }, { on := 13, ground := Ground.phase }, { on := 14, ground := Ground.phase }, { on := 15, ground := Ground.phase }, { on := 16, ground := Ground.phase }, { on := 17, ground := Ground.phase }, { on := 18, ground := Ground.phase }, { on := 19, ground := Ground.phase }, { on := 20, ground := Ground.phase }, { on := 21, ground := Ground.phase }, { on := 22, ground := Ground.phase }, { on := 23, ground := Ground.phase }, { on := 24, ground := Ground.phase }, { on := 25, ground := Ground.phase }, { on := 26, ground := Ground.phase }, { on := 27, ground := Ground.phase }, { on := 28, ground := Ground.phase }, { on := 29, ground := Ground.phase }, { on := 30, ground := Ground.phase }, { on := 31, ground := Ground.phase }, { on := 32, ground := Ground.phase }, { on := 33, ground := Ground.phase }, { on := 34, ground := Ground.phase }, { on := 35, ground := Ground.phase }], guard := none }) (v := ?_) rfl (by kernel_rfl) (by kernel_rfl) (by kernel_rfl) (fun _ _ _ h => h) (Or.inl ⟨by rfl, ?_⟩) (by assumption) ?_
      rotate_left
      · (intro w_ hS_; go_simp; try with_reducible rfl)
      simp only [Act.put, List.setIfInBounds_toArray, List.set_cons_zero, List.set_cons_succ]
      refine wpAnyH_done (by kernel_rfl) ?_ _
      go_wp2
      go_ret
      exact ⟨rfl, bthen hbW b14⟩
    · skip
      go_simp
      refine hK.out _ _ ?_ (fun hHeld => ?_)
      · exact b13
      clear hK K
      refine wpAnyH_ready (rs := [20]) (by kernel_rfl) (by simp) ?_
      refine AllReadyH.cons (o := { dst := some 57, op := Op.convert 23 9 (Operand.tmp 56), type := 9, pos := "law.go:30", after := #[{ on := 19, ground := Ground.data }, { on := 17, ground := Ground.guard }], guard := some (17, true) }) rfl (fun K hK => ?_) AllReadyH.nil
      go_simp
      refine hK.out _ _ ?_ (fun hHeld => ?_)
      · exact b13
      clear hK K
      clear s1 s13
      refine wpAnyH_take (i := 24) (oi := { dst := some 61, op := Op.binOp BinOp.eql 9 (Operand.tmp 57) (Operand.tmp 60) 9, type := 4, pos := "law.go:30", after := #[{ on := 20, ground := Ground.data }, { on := 23, ground := Ground.data }, { on := 17, ground := Ground.guard }], guard := some (17, true) }) (v := ?_) rfl (by kernel_rfl) (by kernel_rfl) (by kernel_rfl) (fun _ _ _ h => h) (Or.inl ⟨by rfl, ?_⟩) (by assumption) ?_
      rotate_left
      · (intro w_ hS_; go_simp; try with_reducible rfl)
      simp only [Act.put, List.setIfInBounds_toArray, List.set_cons_zero, List.set_cons_succ]
      refine wpAnyH_take (i := 25) (oi := { dst := some 62, op := Op.pick (Operand.tmp 54) (Operand.tmp 61) (Operand.const (Value.bool false)), type := 4, pos := "law.go:30", after := #[{ on := 17, ground := Ground.data }, { on := 24, ground := Ground.data }], guard := none }) (v := ?_) rfl (by kernel_rfl) (by kernel_rfl) (by kernel_rfl) (fun _ _ _ h => h) (Or.inl ⟨by rfl, ?_⟩) (by assumption) ?_
      rotate_left
      · (intro w_ hS_; go_simp; try with_reducible rfl)
      simp only [Act.put, List.setIfInBounds_toArray, List.set_cons_zero, List.set_cons_succ]
      refine wpAnyH_take (i := 26) (oi := { dst := some 63, op := Op.move (Operand.tmp 62), type := 4, pos := "law.go:30", after := #[{ on := 25, ground := Ground.data }, { on := 22, ground := Ground.chain }], guard := none }) (v := ?_) rfl (by kernel_rfl) (by kernel_rfl) (by kernel_rfl) (fun _ _ _ h => h) (Or.inl ⟨by rfl, ?_⟩) (by assumption) ?_
      rotate_left
      · (intro w_ hS_; go_simp; try with_reducible rfl)
      simp only [Act.put, List.setIfInBounds_toArray, List.set_cons_zero, List.set_cons_succ]
      refine wpAnyH_take (i := 27) (oi := { dst := some 64, op := Op.load 27 (Operand.tmp 8), type := 27, pos := "law.go:30", after := #[{ on := 26, ground := Ground.guard }], guard := some (26, true) }) (v := .agg cx) rfl (by kernel_rfl) (by kernel_rfl) (by kernel_rfl) (fun _ _ _ h => h) (Or.inl ⟨by rfl, fun w_ hS_ => run_ldP (.tmp 8) rfl w4.heap.size rfl cx sx (GXw w_ hS_)⟩) (by assumption) ?_
      simp only [Act.put, List.setIfInBounds_toArray, List.set_cons_zero, List.set_cons_succ]
      refine wpAnyH_take (i := 28) (oi := { dst := some 65, op := Op.load 27 (Operand.tmp 10), type := 27, pos := "law.go:30", after := #[{ on := 26, ground := Ground.guard }], guard := some (26, true) }) (v := .agg cy) rfl (by kernel_rfl) (by kernel_rfl) (by kernel_rfl) (fun _ _ _ h => h) (Or.inl ⟨by rfl, fun w_ hS_ => run_ldP (.tmp 10) rfl w6.heap.size rfl cy sy (GYw w_ hS_)⟩) (by assumption) ?_
      simp only [Act.put, List.setIfInBounds_toArray, List.set_cons_zero, List.set_cons_succ]
      refine wpAnyH_ready (rs := [29]) (by kernel_rfl) (by simp) ?_
      refine AllReadyH.cons (o := { dst := some 66, op := Op.call { callee := Callee.value (Operand.func 14), args := #[Operand.tmp 64, Operand.tmp 65], argTypes := #[27, 27] }, type := 4, pos := "law.go:30", after := #[{ on := 27, ground := Ground.data }, { on := 28, ground := Ground.data }, { on := 26, ground := Ground.chain }, { on := 26, ground := Ground.guard }], guard := some (26, true) }) rfl (fun K hK => ?_) AllReadyH.nil
      go_simp
      refine (rpsame_is (.agg cx) (.agg cy) x x w13 (ix7.below b13) (iy7.below b13) true (by simp)).mono ?_
      rintro en w14 ⟨rfl, b14'⟩
      have b14 : Below w7.heap.size w7 w14 := bthen b13 b14'
      dsimp only
      refine hK.out _ _ ?_ (fun hHeld => ?_)
      · exact b14
      clear hK K
      refine wpAnyH_take (i := 30) (oi := { dst := some 67, op := Op.pick (Operand.tmp 63) (Operand.tmp 66) (Operand.const (Value.bool false)), type := 4, pos := "law.go:30", after := #[{ on := 26, ground := Ground.data }, { on := 29, ground := Ground.data }], guard := none }) (v := ?_) rfl (by kernel_rfl) (by kernel_rfl) (by kernel_rfl) (fun _ _ _ h => h) (Or.inl ⟨by rfl, ?_⟩) (by assumption) ?_
      rotate_left
      · (intro w_ hS_; go_simp; try with_reducible rfl)
      simp only [Act.put, List.setIfInBounds_toArray, List.set_cons_zero, List.set_cons_succ]
      refine wpAnyH_take (i := 31) (oi := { dst := some 68, op := Op.move (Operand.tmp 67), type := 4, pos := "law.go:30", after := #[{ on := 30, ground := Ground.data }, { on := 29, ground := Ground.chain }], guard := none }) (v := ?_) rfl (by kernel_rfl) (by kernel_rfl) (by kernel_rfl) (fun _ _ _ h => h) (Or.inl ⟨by rfl, ?_⟩) (by assumption) ?_
      rotate_left
      · (intro w_ hS_; go_simp; try with_reducible rfl)
      simp only [Act.put, List.setIfInBounds_toArray, List.set_cons_zero, List.set_cons_succ]
      refine wpAnyH_take (i := 32) (oi := { dst := some 69, op := Op.move (Operand.tmp 9), type := 30, pos := "law.go:30", after := #[{ on := 31, ground := Ground.guard }], guard := some (31, true) }) (v := ?_) rfl (by kernel_rfl) (by kernel_rfl) (by kernel_rfl) (fun _ _ _ h => h) (Or.inl ⟨by rfl, ?_⟩) (by assumption) ?_
      rotate_left
      · (intro w_ hS_; go_simp; try with_reducible rfl)
      simp only [Act.put, List.setIfInBounds_toArray, List.set_cons_zero, List.set_cons_succ]
      refine wpAnyH_take (i := 33) (oi := { dst := some 70, op := Op.move (Operand.tmp 11), type := 3, pos := "law.go:30", after := #[{ on := 31, ground := Ground.guard }], guard := some (31, true) }) (v := ?_) rfl (by kernel_rfl) (by kernel_rfl) (by kernel_rfl) (fun _ _ _ h => h) (Or.inl ⟨by rfl, ?_⟩) (by assumption) ?_
      rotate_left
      · (intro w_ hS_; go_simp; try with_reducible rfl)
      simp only [Act.put, List.setIfInBounds_toArray, List.set_cons_zero, List.set_cons_succ]
      refine wpAnyH_take (i := 34) (oi := { dst := some 71, op := Op.binOp BinOp.eql 3 (Operand.tmp 69) (Operand.tmp 70) 3, type := 4, pos := "law.go:30", after := #[{ on := 32, ground := Ground.data }, { on := 33, ground := Ground.data }, { on := 31, ground := Ground.guard }], guard := some (31, true) }) (v := ?_) rfl (by kernel_rfl) (by kernel_rfl) (by kernel_rfl) (fun _ _ _ h => h) (Or.inl ⟨by rfl, ?_⟩) (by assumption) ?_
      rotate_left
      · (intro w_ hS_; go_simp; try with_reducible rfl)
      simp only [Act.put, List.setIfInBounds_toArray, List.set_cons_zero, List.set_cons_succ]
      refine wpAnyH_take (i := 35) (oi := { dst := some 72, op := Op.pick (Operand.tmp 68) (Operand.tmp 71) (Operand.const (Value.bool false)), type := 4, pos := "law.go:30", after := #[{ on := 31, ground := Ground.data }, { on := 34, ground := Ground.data }], guard := none }) (v := ?_) rfl (by kernel_rfl) (by kernel_rfl) (by kernel_rfl) (fun _ _ _ h => h) (Or.inl ⟨by rfl, ?_⟩) (by assumption) ?_
      rotate_left
      · (intro w_ hS_; go_simp; try with_reducible rfl)
      simp only [Act.put, List.setIfInBounds_toArray, List.set_cons_zero, List.set_cons_succ]
      refine wpAnyH_take (i := 36) (oi := { dst := some 6, op := Op.assign (Operand.tmp 72), type := 4, pos := "law.go:30", after := #[{ on := 35, ground := Ground.data }, { on := 31, ground := Ground.chain }, { on := 0, ground := Ground.phase }, { on := 1, ground := Ground.phase }, { on := 2, ground := Ground.phase }, { on := 3, ground := Ground.phase }, { on := 4, ground := Ground.phase }, { on := 5, ground := Ground.phase }, { on := 6, ground := Ground.phase }, { on := 7, ground := Ground.phase }, { on := 8, ground := Ground.phase }, { on := 9, ground := Ground.phase }, { on := 10, ground := Ground.phase }, { on := 11, ground := Ground.phase }, { on := 12, ground := Ground.phase }, { on := 13, ground := Ground.phase }, { on := 14, ground := Ground.phase }, { on := 15, ground := Ground.phase }, { on := 16, ground := Ground.phase }, { on := 17, ground := Ground.phase }, { on := 18, ground := Ground.phase }, { on := 19, ground := Ground.phase }, { on := 20, ground := Ground.phase }, { on := 21, ground := Ground.phase }, { on := 22, ground := Ground.phase }, { on := 23, ground := Ground.phase }, { on := 24, ground := Ground.phase }, { on := 25, ground := Ground.phase }, { on := 26, ground := Ground.phase }, { on := 27, ground := Ground.phase }, { on := 28, ground := Ground.phase }, { on := 29, ground := Ground.phase }, { on := 30, ground := Ground.phase }, { on := 31, ground := Ground.phase }, { on := 32, ground := Ground.phase }, { on := 33, ground := Ground.phase }, { on := 34, ground := Ground.phase }, { on := 35, ground := Ground.phase }], guard := none }) (v := ?_) rfl (by kernel_rfl) (by kernel_rfl) (by kernel_rfl) (fun _ _ _ h => h) (Or.inl ⟨by rfl, ?_⟩) (by assumption) ?_
      rotate_left
      · (intro w_ hS_; go_simp; try with_reducible rfl)
      simp only [Act.put, List.setIfInBounds_toArray, List.set_cons_zero, List.set_cons_succ]
      refine wpAnyH_done (by kernel_rfl) ?_ _
      go_wp2
      go_ret
      exact ⟨rfl, bthen hbW b14⟩
end Go.Proofs.YtahkhideepncfaaDoor
/- The law PktTells, for every input. (Written by wip/gen/pktl3b.py.) -/
namespace Go.Proofs.YtahkhideepncfaaDoor
open Go.RowKit Go.ChangeShapes Go.WideShapes Go.ChangeAt
set_option linter.unusedVariables false

set_option maxRecDepth 100000 in
set_option maxHeartbeats 4000000 in
theorem ptells_any (u v : Value) (p o : Pkt.Pk) (A : Option Addr) (n c : Nat) (l : List UInt8) (w : World) (hw : Wd w) (hu : IsPkt w u p) (hv : IsPkt w v o) (hl : Rd w A n c l) :
    Calls Tryd.prog 3 #[u, v, .slice A n c] w (Yes w) := by
  obtain ⟨cp, rfl, hs, ho, hu⟩ := pk_letters hu
  obtain ⟨co, rfl, hs2, ho2, hv⟩ := pk_letters hv
  cases hf : ((decide (p.it.l.length ≤ 80) && decide (p.it.b.length ≤ 1100)) && decide (p.l.length ≤ 80)) with
  | true =>
    cases hf2 : ((decide (o.it.l.length ≤ 80) && decide (o.it.b.length ≤ 1100)) && decide (o.l.length ≤ 80)) with
    | true =>
      by_cases hn : n ≤ 1300
      · exact ptells_in cp co p o A n c l w hw hu hv hs hs2 hl hf hf2 hn
      · have hq : decide ((1300 : Int) < (n : Int)) = true := by simp; omega
        obtain ⟨w0, hw0⟩ : ∃ w0, (w.alloc (.cells cp 27)).alloc (.cells co 27) = w0 := ⟨_, rfl⟩
        have b0 : Below w.heap.size w w0 := by rw [← hw0]; exact pkeep_alloc (pkeep_alloc (Below.refl _ _) _) _
        have g0 : w0.heap[w.heap.size]? = some (.cells cp 27 (0, 0)) := by rw [← hw0, alloc_old _ _ _ (by rw [size_alloc]; omega)]; exact alloc_at _ _ _ rfl
        have g1 : w0.heap[w.heap.size + 1]? = some (.cells co 27 (0, 0)) := by rw [← hw0]; exact alloc_at _ _ _ (by rw [size_alloc])
        have HW0 := hidT hw0
        clear hw0
        go_enter Tryd.func3, Tryd.ntmps3
        go_wp2_with fail
        rw [HW0.out]
        clear HW0
        with_reducible refine (pshown_any _ (hw.below b0)).mono ?_
        rintro en w1 ⟨rfl, b1⟩
        have l1 := (b1.block _ (blk_ltP g0)).trans g0
        have hc := rpfew_is _ p w1 (hu.below (bthen b0 b1))
        rw [hf] at hc
        go_wp2_with (refine wpList_ldP rfl (.tmp 3) rfl w.heap.size rfl cp hs l1 ?_)
        with_reducible refine hc.mono ?_
        rintro en w2 ⟨rfl, b2⟩
        clear hc l1
        have l2 := ((bthen b1 b2).block _ (blk_ltP g1)).trans g1
        have hc := rpfew_is _ o w2 (hv.below (bthen b0 (bthen b1 b2)))
        rw [hf2] at hc
        go_wp2_with (refine wpList_ldP rfl (.tmp 4) rfl (w.heap.size + 1) rfl co hs2 l2 ?_)
        with_reducible refine hc.mono ?_
        rintro en w3 ⟨rfl, b3⟩
        clear hc l2
        go_wp2
        go_ret
        exact ⟨rfl, bthen b0 (bthen b1 (bthen b2 b3))⟩
    | false =>
      obtain ⟨w0, hw0⟩ : ∃ w0, (w.alloc (.cells cp 27)).alloc (.cells co 27) = w0 := ⟨_, rfl⟩
      have b0 : Below w.heap.size w w0 := by rw [← hw0]; exact pkeep_alloc (pkeep_alloc (Below.refl _ _) _) _
      have g0 : w0.heap[w.heap.size]? = some (.cells cp 27 (0, 0)) := by rw [← hw0, alloc_old _ _ _ (by rw [size_alloc]; omega)]; exact alloc_at _ _ _ rfl
      have g1 : w0.heap[w.heap.size + 1]? = some (.cells co 27 (0, 0)) := by rw [← hw0]; exact alloc_at _ _ _ (by rw [size_alloc])
      have HW0 := hidT hw0
      clear hw0
      go_enter Tryd.func3, Tryd.ntmps3
      go_wp2_with fail
      rw [HW0.out]
      clear HW0
      with_reducible refine (pshown_any _ (hw.below b0)).mono ?_
      rintro en w1 ⟨rfl, b1⟩
      have l1 := (b1.block _ (blk_ltP g0)).trans g0
      have hc := rpfew_is _ p w1 (hu.below (bthen b0 b1))
      rw [hf] at hc
      go_wp2_with (refine wpList_ldP rfl (.tmp 3) rfl w.heap.size rfl cp hs l1 ?_)
      with_reducible refine hc.mono ?_
      rintro en w2 ⟨rfl, b2⟩
      clear hc l1
      have l2 := ((bthen b1 b2).block _ (blk_ltP g1)).trans g1
      have hc := rpfew_is _ o w2 (hv.below (bthen b0 (bthen b1 b2)))
      rw [hf2] at hc
      go_wp2_with (refine wpList_ldP rfl (.tmp 4) rfl (w.heap.size + 1) rfl co hs2 l2 ?_)
      with_reducible refine hc.mono ?_
      rintro en w3 ⟨rfl, b3⟩
      clear hc l2
      go_wp2
      go_ret
      exact ⟨rfl, bthen b0 (bthen b1 (bthen b2 b3))⟩
  | false =>
    obtain ⟨w0, hw0⟩ : ∃ w0, (w.alloc (.cells cp 27)).alloc (.cells co 27) = w0 := ⟨_, rfl⟩
    have b0 : Below w.heap.size w w0 := by rw [← hw0]; exact pkeep_alloc (pkeep_alloc (Below.refl _ _) _) _
    have g0 : w0.heap[w.heap.size]? = some (.cells cp 27 (0, 0)) := by rw [← hw0, alloc_old _ _ _ (by rw [size_alloc]; omega)]; exact alloc_at _ _ _ rfl
    have g1 : w0.heap[w.heap.size + 1]? = some (.cells co 27 (0, 0)) := by rw [← hw0]; exact alloc_at _ _ _ (by rw [size_alloc])
    have HW0 := hidT hw0
    clear hw0
    go_enter Tryd.func3, Tryd.ntmps3
    go_wp2_with fail
    rw [HW0.out]
    clear HW0
    with_reducible refine (pshown_any _ (hw.below b0)).mono ?_
    rintro en w1 ⟨rfl, b1⟩
    have l1 := (b1.block _ (blk_ltP g0)).trans g0
    have hc := rpfew_is _ p w1 (hu.below (bthen b0 b1))
    rw [hf] at hc
    go_wp2_with (refine wpList_ldP rfl (.tmp 3) rfl w.heap.size rfl cp hs l1 ?_)
    with_reducible refine hc.mono ?_
    rintro en w2 ⟨rfl, b2⟩
    clear hc l1
    go_wp2
    go_ret
    exact ⟨rfl, bthen b0 (bthen b1 b2)⟩
end Go.Proofs.YtahkhideepncfaaDoor
