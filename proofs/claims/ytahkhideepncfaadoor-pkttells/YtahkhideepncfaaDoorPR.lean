import Derived.Test.YtahkhideepncfaaDoorPKA
set_option maxRecDepth 100000
/- What the document's Read comes to, kind by kind. (Written by wip/gen/refpkt5.py.) -/
namespace Go.Proofs.YtahkhideepncfaaDoor
open Go.RowKit
set_option linter.unusedVariables false

set_option maxRecDepth 100000 in
set_option maxHeartbeats 16000000 in
theorem rpr_3t (A : Option Addr) (n c : Nat) (l : List UInt8) (w : World) (h : Rd w A n c l) (hn : n ≤ 65536) (hc : openCode l = 0) (C : List UInt8) (hC : opened l = C) (hC3 : 3 ≤ C.length) (hC6 : C.length ≤ 65536) (k f : Int) (hk : Item.at_ C 1 = k) (hff : Item.at_ C 2 = f) (hkv : 3 = k) (h13 : C.length = 13) :
    Calls Tryd.prog 10 #[.slice A n c] w (PRead w ((Pkt.tried (Pkt.refC k f (C.drop 3)) l).getD Pkt.Pk.zero) (if (Pkt.tried (Pkt.refC k f (C.drop 3)) l).isSome = true then 0 else 2)) := by
  obtain ⟨q, hq⟩ : ∃ q, Pkt.refC k f (C.drop 3) = q := ⟨_, rfl⟩
  rw [hq]
  have HQ := hidT hq
  clear hq
  obtain ⟨z, hz⟩ : ∃ z, (Pkt.tried q l).getD Pkt.Pk.zero = z := ⟨_, rfl⟩
  obtain ⟨code, hcode⟩ : ∃ code : Int, (if (Pkt.tried q l).isSome = true then 0 else 2) = code := ⟨_, rfl⟩
  rw [hz, hcode]
  have HZ : Hid (∀ o, Pkt.tried q l = o → z = o.getD Pkt.Pk.zero ∧ code = if o.isSome = true then 0 else 2) := fun o ho => ⟨by rw [← ho, hz], by rw [← ho, hcode]⟩
  clear hz hcode
  obtain ⟨w0, hw0⟩ : ∃ w0, w.alloc (.cells #[.int .i64 0, .int .i64 0, .int .i64 0, .int .i64 0, .int .i64 0, .int .i64 0, .int .i64 0, .int .i64 0, .slice none 0 0, .slice none 0 0, .int .i64 0, .int .i64 0, .int .i64 0, .int .i64 0, .slice none 0 0] 27) = w0 := ⟨_, rfl⟩
  have b0 : Below w.heap.size w w0 := by rw [← hw0]; exact pkeep_alloc (Below.refl _ _) _
  have g0 : w0.heap[w.heap.size]? = some (.cells #[.int .i64 0, .int .i64 0, .int .i64 0, .int .i64 0, .int .i64 0, .int .i64 0, .int .i64 0, .int .i64 0, .slice none 0 0, .slice none 0 0, .int .i64 0, .int .i64 0, .int .i64 0, .int .i64 0, .slice none 0 0] 27 (0, 0)) := by rw [← hw0]; exact alloc_at _ _ _ rfl
  have HW0 := hidT hw0
  clear hw0
  have hO := ropen_any A n c l w0 (h.below b0) hn
  rw [hc, hC] at hO
  obtain ⟨N, hN⟩ : ∃ N, C.length = N := ⟨_, rfl⟩
  obtain ⟨r, hr⟩ : ∃ r, r = w.heap.size := ⟨_, rfl⟩
  rw [← hr] at g0
  have HR := hidT hr
  have hr0 : w.heap.size ≤ r := by omega
  clear hr
  go_enter Tryd.func10, Tryd.ntmps10
  go_wp2_with fail
  rw [HW0.out, ← HR.out]
  clear HW0
  with_reducible refine hO.mono ?_
  rintro en w1 ⟨A1, c1, rfl, r1, b1⟩
  clear hO
  rw [hN] at r1 hC3 hC6 ⊢
  have hcap := r1.2.1
  have hcle : c1 ≤ 9223372036854775807 := by have := r1.2.2.1; unfold maxLen at this; omega
  obtain ⟨b1_, o1, rfl, hcell⟩ := r1.at_ (by omega)
  obtain ⟨z1, hz1, e1⟩ := hcell 1 (by omega)
  obtain ⟨z2, hz2, e2⟩ := hcell 2 (by omega)
  have hzk : (z1.toNat : Int) = k := by rw [← hk, Item.at_, List.getD_eq_getElem?_getD, hz1]; rfl
  have hzf : (z2.toNat : Int) = f := by rw [← hff, Item.at_, List.getD_eq_getElem?_getD, hz2]; rfl
  have kb : 0 ≤ k ∧ k < 256 := by have := Num.byte_lt z1; omega
  have fb : 0 ≤ f ∧ f < 256 := by have := Num.byte_lt z2; omega
  obtain ⟨kb1, kb2⟩ := kb
  obtain ⟨fb1, fb2⟩ := fb
  rw [hzk] at e1
  rw [hzf] at e2
  have hbl := World.block_lt_of_cell? _ _ e1
  dsimp only at hbl
  have HN := hidT hN
  have q3 : decide ((N : Int) < 3) = false := by simp; omega
  have gs1 := (b1.block _ (blk_ltP g0)).trans g0
  have b01 := bthen b0 b1
  have hrl : r < w1.heap.size := blk_ltP gs1
  clear hcell hz1 hz2 hzk hzf hN hk hff g0 b0 b1
  subst hkv
  have i1 : (1 : Int) < (N : Int) := by omega
  have i2 : (2 : Int) < (N : Int) := by omega
  go_wp2
  go_region
  skip
  have hbU : Below w.heap.size w (w1.alloc (.cells #[.int .i64 3, .int .i64 f, .int .i64 0, .int .i64 0, .int .i64 0, .int .i64 0, .int .i64 0, .int .i64 0, .slice none 0 0, .slice none 0 0, .int .i64 0, .int .i64 0, .int .i64 0, .int .i64 0, .slice none 0 0] 27)).drew := (b01.alloc b01.size _).drew
  have gi : (w1.alloc (.cells #[.int .i64 3, .int .i64 f, .int .i64 0, .int .i64 0, .int .i64 0, .int .i64 0, .int .i64 0, .int .i64 0, .slice none 0 0, .slice none 0 0, .int .i64 0, .int .i64 0, .int .i64 0, .int .i64 0, .slice none 0 0] 27)).drew.heap[w1.heap.size]? = some (.cells #[.int .i64 3, .int .i64 f, .int .i64 0, .int .i64 0, .int .i64 0, .int .i64 0, .int .i64 0, .int .i64 0, .slice none 0 0, .slice none 0 0, .int .i64 0, .int .i64 0, .int .i64 0, .int .i64 0, .slice none 0 0] 27 (0, 0)) := alloc_at w1 _ _ rfl
  have gs : (w1.alloc (.cells #[.int .i64 3, .int .i64 f, .int .i64 0, .int .i64 0, .int .i64 0, .int .i64 0, .int .i64 0, .int .i64 0, .slice none 0 0, .slice none 0 0, .int .i64 0, .int .i64 0, .int .i64 0, .int .i64 0, .slice none 0 0] 27)).drew.heap[r]? = some (.cells #[.int .i64 0, .int .i64 0, .int .i64 0, .int .i64 0, .int .i64 0, .int .i64 0, .int .i64 0, .int .i64 0, .slice none 0 0, .slice none 0 0, .int .i64 0, .int .i64 0, .int .i64 0, .int .i64 0, .slice none 0 0] 27 (0, 0)) := (alloc_old w1 _ _ hrl).trans gs1
  have rU : Rd (w1.alloc (.cells #[.int .i64 3, .int .i64 f, .int .i64 0, .int .i64 0, .int .i64 0, .int .i64 0, .int .i64 0, .int .i64 0, .slice none 0 0, .slice none 0 0, .int .i64 0, .int .i64 0, .int .i64 0, .int .i64 0, .slice none 0 0] 27)).drew (some ⟨b1_, o1, none⟩) N c1 C := r1.below ((Below.refl w1.heap.size w1).alloc (Nat.le_refl _) _).drew
  obtain ⟨Gb, hGb⟩ : ∃ Gb, Gb = w1.heap.size := ⟨_, rfl⟩
  rw [← hGb] at gi ⊢
  have hGr : r ≠ Gb := by omega
  have hbG : ¬ b1_ = Gb := by omega
  have hbG2 : ¬ Gb = b1_ := by omega
  have hG0 : w.heap.size ≤ Gb := by have := b01.size; omega
  generalize (w1.alloc (.cells #[.int .i64 3, .int .i64 f, .int .i64 0, .int .i64 0, .int .i64 0, .int .i64 0, .int .i64 0, .int .i64 0, .slice none 0 0, .slice none 0 0, .int .i64 0, .int .i64 0, .int .i64 0, .int .i64 0, .slice none 0 0] 27)).drew = u at hbU gi gs rU ⊢
  clear gs1 b01 hrl hGb r1 e1 e2 hbl
  have hN13 : 13 = N := by have := HN.out; omega
  subst hN13
  obtain ⟨D, hD⟩ : ∃ D, C.drop 3 = D := ⟨_, rfl⟩
  have hDl : D.length = 10 := by rw [← hD, List.length_drop]; have := HN.out; omega
  have rd : Rd u (some ⟨b1_, o1 + 3, none⟩) 10 (c1 - 3) D := by rw [← hD]; exact rU.drop (k := 3) (by omega)
  have hc13 : ¬ c1 = 3 := by omega
  have hc14 : ¬ c1 - 3 = 1 := by omega
  obtain ⟨⟨y0, y1⟩, Y1, Y2⟩ := cells15 gi
  clear Y1 Y2 y1
  obtain ⟨lo, hlo⟩ : ∃ lo, Num.num (D.drop 1) 8 = lo := ⟨_, rfl⟩
  have hT := rtake_any (some ⟨b1_, o1 + 3 + 1, none⟩) 9 (c1 - 3 - 1) (D.drop 1) 8 u (rd.drop (k := 1) (by omega)) (by omega)
  rw [hlo] at hT
  skip
  go_wp2_with fail
  with_reducible refine hT.mono ?_
  rintro en u2 ⟨A2, c2, rfl, o2, b2⟩
  clear hT o2 y0
  obtain ⟨bb, oo, hA, hcell⟩ := (rd.below b2).at_ (by omega)
  injection hA with hA
  injection hA with ea eb
  subst ea
  subst eb
  obtain ⟨a0, ha0, e0⟩ := hcell 0 (by omega)
  obtain ⟨a9, ha9, e9⟩ := hcell 9 (by omega)
  rw [Nat.add_zero] at e0
  clear hcell
  have n0 := Num.byte_lt a0
  have n9 := Num.byte_lt a9
  obtain ⟨t0, ht0⟩ : ∃ t : Int, (a0.toNat : Int) = t := ⟨_, rfl⟩
  obtain ⟨t9, ht9⟩ : ∃ t : Int, (a9.toNat : Int) = t := ⟨_, rfl⟩
  rw [ht0] at e0
  rw [ht9] at e9
  have tb0 : 0 ≤ t0 ∧ t0 < 256 := by omega
  have tb9 : 0 ≤ t9 ∧ t9 < 256 := by omega
  obtain ⟨tb1, tb2⟩ := tb0
  obtain ⟨tb3, tb4⟩ := tb9
  have hqv : q = ⟨3, f, Item.It.zero, t0, lo, t9, 0, []⟩ := by
    rw [← HQ.out, hD, Pkt.refC, if_neg (by decide), if_pos rfl, if_pos hDl, hlo, ← ht0, ← ht9, Item.at_, Item.at_, List.getD_eq_getElem?_getD, List.getD_eq_getElem?_getD, ha0, ha9]
    rfl
  clear ha0 ha9 ht0 ht9 n0 n9 hlo HQ
  have gi2 := (b2.block _ (blk_ltP gi)).trans gi
  have gs2 := (b2.block _ (blk_ltP gs)).trans gs
  have bU2 := bthen hbU b2
  obtain ⟨⟨y0, y1⟩, ⟨y2, y3, y4, y5, y6, y7, y8, y9⟩, ⟨y10, y11, y12, y13, y14⟩⟩ := cells15 gi2
  have f10 := frozen_of_row u2 Gb 10 _ _ gi2
  have f11 := frozen_of_row u2 Gb 11 _ _ gi2
  have f12 := frozen_of_row u2 Gb 12 _ _ gi2
  clear y1 y2 y3 y4 y5 y6 y7 y8 y9 y13 y14
  have s10 : (u2.setCell ⟨Gb, 10, none⟩ (.int .i64 t0)).heap[Gb]? = some (.cells #[.int .i64 3, .int .i64 f, .int .i64 0, .int .i64 0, .int .i64 0, .int .i64 0, .int .i64 0, .int .i64 0, .slice none 0 0, .slice none 0 0, .int .i64 t0, .int .i64 0, .int .i64 0, .int .i64 0, .slice none 0 0] 27 (0, 0)) := heap_setCell_same _ Gb 10 _ 27 (.int .i64 t0) gi2
  have s11 : ((u2.setCell ⟨Gb, 10, none⟩ (.int .i64 t0)).setCell ⟨Gb, 11, none⟩ (.int .i64 lo)).heap[Gb]? = some (.cells #[.int .i64 3, .int .i64 f, .int .i64 0, .int .i64 0, .int .i64 0, .int .i64 0, .int .i64 0, .int .i64 0, .slice none 0 0, .slice none 0 0, .int .i64 t0, .int .i64 lo, .int .i64 0, .int .i64 0, .slice none 0 0] 27 (0, 0)) := heap_setCell_same _ Gb 11 _ 27 (.int .i64 lo) s10
  have s12 : (((u2.setCell ⟨Gb, 10, none⟩ (.int .i64 t0)).setCell ⟨Gb, 11, none⟩ (.int .i64 lo)).setCell ⟨Gb, 12, none⟩ (.int .i64 t9)).heap[Gb]? = some (.cells #[.int .i64 3, .int .i64 f, .int .i64 0, .int .i64 0, .int .i64 0, .int .i64 0, .int .i64 0, .int .i64 0, .slice none 0 0, .slice none 0 0, .int .i64 t0, .int .i64 lo, .int .i64 t9, .int .i64 0, .slice none 0 0] 27 (0, 0)) := heap_setCell_same _ Gb 12 _ 27 (.int .i64 t9) s11
  have gs3 : (((u2.setCell ⟨Gb, 10, none⟩ (.int .i64 t0)).setCell ⟨Gb, 11, none⟩ (.int .i64 lo)).setCell ⟨Gb, 12, none⟩ (.int .i64 t9)).heap[r]? = some (.cells #[.int .i64 0, .int .i64 0, .int .i64 0, .int .i64 0, .int .i64 0, .int .i64 0, .int .i64 0, .int .i64 0, .slice none 0 0, .slice none 0 0, .int .i64 0, .int .i64 0, .int .i64 0, .int .i64 0, .slice none 0 0] 27 (0, 0)) := ((((But.setCell u2 Gb 10 _).trans (But.setCell _ Gb 11 _)).trans (But.setCell _ Gb 12 _)).2 r hGr).trans gs2
  have hb3 : Below w.heap.size w (((u2.setCell ⟨Gb, 10, none⟩ (.int .i64 t0)).setCell ⟨Gb, 11, none⟩ (.int .i64 lo)).setCell ⟨Gb, 12, none⟩ (.int .i64 t9)) := ((bU2.setCell (p := ⟨Gb, 10, none⟩) hG0 _).setCell (p := ⟨Gb, 11, none⟩) hG0 _).setCell (p := ⟨Gb, 12, none⟩) hG0 _
  have S12 := hidT s12
  have S3 := hidT gs3
  have B3 := hidT hb3
  clear s10 s11 s12 gs3 hb3
  go_wp2_with (refine wpList_ldP rfl (.tmp 6) rfl Gb rfl #[.int .i64 3, .int .i64 f, .int .i64 0, .int .i64 0, .int .i64 0, .int .i64 0, .int .i64 0, .int .i64 0, .slice none 0 0, .slice none 0 0, .int .i64 t0, .int .i64 lo, .int .i64 t9, .int .i64 0, .slice none 0 0] rfl S12.out ?_)
  have gi := S12.out
  have gs := S3.out
  have hbU := B3.out
  clear S12 S3 B3 y0 y10 y11 y12 f10 f11 f12 e0 e9 rd
  generalize (((u2.setCell ⟨Gb, 10, none⟩ (.int .i64 t0)).setCell ⟨Gb, 11, none⟩ (.int .i64 lo)).setCell ⟨Gb, 12, none⟩ (.int .i64 t9)) = u at gi gs hbU ⊢
  have ip : IsPkt u (.agg #[.int .i64 3, .int .i64 f, .int .i64 0, .int .i64 0, .int .i64 0, .int .i64 0, .int .i64 0, .int .i64 0, .slice none 0 0, .slice none 0 0, .int .i64 t0, .int .i64 lo, .int .i64 t9, .int .i64 0, .slice none 0 0]) q := by rw [hqv]; exact nil_pk u 3 f t0 lo t9 0
  have IPB : Hid (∀ w2 w9, Below u.heap.size u w2 → But r w2 w9 → IsPkt w9 (.agg #[.int .i64 3, .int .i64 f, .int .i64 0, .int .i64 0, .int .i64 0, .int .i64 0, .int .i64 0, .int .i64 0, .slice none 0 0, .slice none 0 0, .int .i64 t0, .int .i64 lo, .int .i64 t9, .int .i64 0, .slice none 0 0]) q) := fun w2 w9 hb2 hbut => by rw [hqv]; exact nil_pk w9 3 f t0 lo t9 0
  obtain ⟨cs, hcs⟩ : ∃ cs : Array Value, #[.int .i64 3, .int .i64 f, .int .i64 0, .int .i64 0, .int .i64 0, .int .i64 0, .int .i64 0, .int .i64 0, .slice none 0 0, .slice none 0 0, .int .i64 t0, .int .i64 lo, .int .i64 t9, .int .i64 0, .slice none 0 0] = cs := ⟨_, rfl⟩
  have sz : cs.size = 15 := by rw [← hcs]; rfl
  have oc : cs.all (·.oneCell') = true := by rw [← hcs]; exact (all15 rfl rfl rfl rfl rfl rfl rfl rfl rfl rfl rfl rfl rfl rfl rfl)
  skip
  rw [hcs] at ip IPB ⊢
  have gi := (by rw [hcs] at gi; exact gi : u.heap[Gb]? = some (.cells cs 27 (0, 0)))
  clear hcs
  clear hqv
  have hM := rpmay_any _ q u ip
  with_reducible refine hM.mono ?_
  rintro en u5 ⟨rfl, b5⟩
  have gs5 := (b5.block _ (blk_ltP gs)).trans gs
  have gi5 := (b5.block _ (blk_ltP gi)).trans gi
  have bU5 := bthen hbU b5
  have ip5 := ip.below b5
  clear hM gs
  have GI5 := fun w' (hb : Below u5.heap.size u5 w') => (hb.block _ (blk_ltP gi5)).trans gi5
  skip
  cases hm : Pkt.may q with
  | false =>
    have HT : Hid (Pkt.tried q l = none) := hidT (by rw [Pkt.tried, if_neg (by rw [hm]; simp)])
    go_wp2_with fail
    refine wp_region_held_drew (S := fun w' => Below u5.heap.size u5 w') (by kernel_rfl) ?_ (fun hHeld => ?_)
    · exact (Below.refl _ _).drew
    refine wpAnyH_take (i := 0) (oi := { dst := some 117, op := Op.move (Operand.tmp 19), type := 4, pos := "ref.go:92", after := #[], guard := none }) (v := ?_) rfl (by kernel_rfl) (by kernel_rfl) (by kernel_rfl) (fun _ _ _ h => h) (Or.inl ⟨by rfl, ?_⟩) (by assumption) ?_
    rotate_left
    · (intro w_ hS_; go_simp; try with_reducible rfl)
    simp only [Act.put, List.setIfInBounds_toArray, List.set_cons_zero, List.set_cons_succ]
    refine wpAnyH_take (i := 1) (oi := { dst := some 118, op := Op.unOp UnOp.not 4 (Operand.tmp 117), type := 4, pos := "ref.go:92", after := #[{ on := 0, ground := Ground.data }], guard := none }) (v := ?_) rfl (by kernel_rfl) (by kernel_rfl) (by kernel_rfl) (fun _ _ _ h => h) (Or.inl ⟨by rfl, ?_⟩) (by assumption) ?_
    rotate_left
    · (intro w_ hS_; go_simp; try with_reducible rfl)
    simp only [Act.put, List.setIfInBounds_toArray, List.set_cons_zero, List.set_cons_succ]
    refine wpAnyH_take (i := 2) (oi := { dst := some 119, op := Op.move (Operand.tmp 118), type := 4, pos := "ref.go:92", after := #[{ on := 1, ground := Ground.data }], guard := none }) (v := ?_) rfl (by kernel_rfl) (by kernel_rfl) (by kernel_rfl) (fun _ _ _ h => h) (Or.inl ⟨by rfl, ?_⟩) (by assumption) ?_
    rotate_left
    · (intro w_ hS_; go_simp; try with_reducible rfl)
    simp only [Act.put, List.setIfInBounds_toArray, List.set_cons_zero, List.set_cons_succ]
    refine wpAnyH_take (i := 3) (oi := { dst := some 120, op := Op.load 27 (Operand.tmp 6), type := 27, pos := "ref.go:92", after := #[{ on := 2, ground := Ground.guard }], guard := some (2, false) }) (v := undef) rfl (by kernel_rfl) (by kernel_rfl) (by kernel_rfl) (fun _ _ _ h => h) (Or.inr ⟨by rfl, rfl⟩) (by assumption) ?_
    simp only [Act.put, List.setIfInBounds_toArray, List.set_cons_zero, List.set_cons_succ]
    refine wpAnyH_take (i := 4) (oi := { dst := some 121, op := Op.call { callee := Callee.value (Operand.func 16), args := #[Operand.tmp 120], argTypes := #[27] }, type := 23, pos := "ref.go:92", after := #[{ on := 3, ground := Ground.data }, { on := 2, ground := Ground.chain }, { on := 2, ground := Ground.guard }], guard := some (2, false) }) (v := undef) rfl (by kernel_rfl) (by kernel_rfl) (by kernel_rfl) (fun _ _ _ h => h) (Or.inr ⟨by rfl, rfl⟩) (by assumption) ?_
    simp only [Act.put, List.setIfInBounds_toArray, List.set_cons_zero, List.set_cons_succ]
    refine wpAnyH_take (i := 5) (oi := { dst := some 122, op := Op.convert 23 9 (Operand.tmp 121), type := 9, pos := "ref.go:92", after := #[{ on := 4, ground := Ground.data }, { on := 2, ground := Ground.guard }], guard := some (2, false) }) (v := undef) rfl (by kernel_rfl) (by kernel_rfl) (by kernel_rfl) (fun _ _ _ h => h) (Or.inr ⟨by rfl, rfl⟩) (by assumption) ?_
    simp only [Act.put, List.setIfInBounds_toArray, List.set_cons_zero, List.set_cons_succ]
    refine wpAnyH_take (i := 6) (oi := { dst := some 123, op := Op.move (Operand.tmp 0), type := 23, pos := "ref.go:92", after := #[{ on := 2, ground := Ground.guard }], guard := some (2, false) }) (v := undef) rfl (by kernel_rfl) (by kernel_rfl) (by kernel_rfl) (fun _ _ _ h => h) (Or.inr ⟨by rfl, rfl⟩) (by assumption) ?_
    simp only [Act.put, List.setIfInBounds_toArray, List.set_cons_zero, List.set_cons_succ]
    refine wpAnyH_take (i := 7) (oi := { dst := some 124, op := Op.convert 23 9 (Operand.tmp 123), type := 9, pos := "ref.go:92", after := #[{ on := 6, ground := Ground.data }, { on := 2, ground := Ground.guard }], guard := some (2, false) }) (v := undef) rfl (by kernel_rfl) (by kernel_rfl) (by kernel_rfl) (fun _ _ _ h => h) (Or.inr ⟨by rfl, rfl⟩) (by assumption) ?_
    simp only [Act.put, List.setIfInBounds_toArray, List.set_cons_zero, List.set_cons_succ]
    refine wpAnyH_take (i := 8) (oi := { dst := some 125, op := Op.binOp BinOp.neq 9 (Operand.tmp 122) (Operand.tmp 124) 9, type := 4, pos := "ref.go:92", after := #[{ on := 5, ground := Ground.data }, { on := 7, ground := Ground.data }, { on := 2, ground := Ground.guard }], guard := some (2, false) }) (v := undef) rfl (by kernel_rfl) (by kernel_rfl) (by kernel_rfl) (fun _ _ _ h => h) (Or.inr ⟨by rfl, rfl⟩) (by assumption) ?_
    simp only [Act.put, List.setIfInBounds_toArray, List.set_cons_zero, List.set_cons_succ]
    refine wpAnyH_take (i := 9) (oi := { dst := some 126, op := Op.pick (Operand.tmp 119) (Operand.const (Value.bool true)) (Operand.tmp 125), type := 4, pos := "ref.go:92", after := #[{ on := 2, ground := Ground.data }, { on := 8, ground := Ground.data }], guard := none }) (v := ?_) rfl (by kernel_rfl) (by kernel_rfl) (by kernel_rfl) (fun _ _ _ h => h) (Or.inl ⟨by rfl, ?_⟩) (by assumption) ?_
    rotate_left
    · (intro w_ hS_; go_simp; try with_reducible rfl)
    simp only [Act.put, List.setIfInBounds_toArray, List.set_cons_zero, List.set_cons_succ]
    refine wpAnyH_done (by kernel_rfl) ?_ _
    go_wp2_with (first
      | (refine wpList_stI rfl 27 (.tmp 2) (.tmp 127) rfl r zpkt rfl rfl _ _ gs5 info37 rfl (all15 rfl rfl rfl rfl rfl rfl rfl rfl rfl rfl rfl rfl rfl rfl rfl) ?_
         intro w9 hg9 hbut9 hbel9))
    exact bodyPost_ret (results_cellP rfl _ w9 r zpkt rfl rfl hg9 _ rfl) rfl (by obtain ⟨z1, z2⟩ := HZ.out _ HT.out; rw [z1, z2]; exact ⟨_, rfl, zero_pkt _, hbel9 _ _ (bthen bU5 (Below.refl _ _).drew) hr0⟩)
  | true =>
    obtain ⟨BX, HBX⟩ : ∃ BX, Hid (Pkt.bytes q = BX) := ⟨_, hidT rfl⟩
    have hBy := rpbytes_any (.agg cs) q u5.drew ip5
    rw [HBX.out] at hBy
    have sl := fun w' (hb : Below u5.heap.size u5 w') => strs (h.below bU5) w' hb
    have qb := str_beq BX l
    by_cases hbx : BX = l
    · skip
      have HT : Hid (Pkt.tried q l = some q) := hidT (by rw [Pkt.tried, if_pos ⟨hm, HBX.out.trans hbx⟩])
      rw [decide_eq_true hbx] at qb
      clear hbx
      have qn : ((str BX).toList != (str l).toList) = false := by simp only [bne, qb]; rfl
      go_wp2_with fail
      refine wp_region_held_drew (S := fun w' => Below u5.heap.size u5 w') (by kernel_rfl) ?_ (fun hHeld => ?_)
      · exact (Below.refl _ _).drew
      refine wpAnyH_take (i := 0) (oi := { dst := some 117, op := Op.move (Operand.tmp 19), type := 4, pos := "ref.go:92", after := #[], guard := none }) (v := ?_) rfl (by kernel_rfl) (by kernel_rfl) (by kernel_rfl) (fun _ _ _ h => h) (Or.inl ⟨by rfl, ?_⟩) (by assumption) ?_
      rotate_left
      · (intro w_ hS_; go_simp; try with_reducible rfl)
      simp only [Act.put, List.setIfInBounds_toArray, List.set_cons_zero, List.set_cons_succ]
      refine wpAnyH_take (i := 1) (oi := { dst := some 118, op := Op.unOp UnOp.not 4 (Operand.tmp 117), type := 4, pos := "ref.go:92", after := #[{ on := 0, ground := Ground.data }], guard := none }) (v := ?_) rfl (by kernel_rfl) (by kernel_rfl) (by kernel_rfl) (fun _ _ _ h => h) (Or.inl ⟨by rfl, ?_⟩) (by assumption) ?_
      rotate_left
      · (intro w_ hS_; go_simp; try with_reducible rfl)
      simp only [Act.put, List.setIfInBounds_toArray, List.set_cons_zero, List.set_cons_succ]
      refine wpAnyH_take (i := 2) (oi := { dst := some 119, op := Op.move (Operand.tmp 118), type := 4, pos := "ref.go:92", after := #[{ on := 1, ground := Ground.data }], guard := none }) (v := ?_) rfl (by kernel_rfl) (by kernel_rfl) (by kernel_rfl) (fun _ _ _ h => h) (Or.inl ⟨by rfl, ?_⟩) (by assumption) ?_
      rotate_left
      · (intro w_ hS_; go_simp; try with_reducible rfl)
      simp only [Act.put, List.setIfInBounds_toArray, List.set_cons_zero, List.set_cons_succ]
      refine wpAnyH_take (i := 3) (oi := { dst := some 120, op := Op.load 27 (Operand.tmp 6), type := 27, pos := "ref.go:92", after := #[{ on := 2, ground := Ground.guard }], guard := some (2, false) }) (v := .agg cs) rfl (by kernel_rfl) (by kernel_rfl) (by kernel_rfl) (fun _ _ _ h => h) (Or.inl ⟨by rfl, fun w_ hS_ => run_ldP (.tmp 6) rfl Gb rfl cs sz (GI5 w_ hS_)⟩) (by assumption) ?_
      simp only [Act.put, List.setIfInBounds_toArray, List.set_cons_zero, List.set_cons_succ]
      refine wpAnyH_take (i := 6) (oi := { dst := some 123, op := Op.move (Operand.tmp 0), type := 23, pos := "ref.go:92", after := #[{ on := 2, ground := Ground.guard }], guard := some (2, false) }) (v := ?_) rfl (by kernel_rfl) (by kernel_rfl) (by kernel_rfl) (fun _ _ _ h => h) (Or.inl ⟨by rfl, ?_⟩) (by assumption) ?_
      rotate_left
      · (intro w_ hS_; go_simp; try with_reducible rfl)
      simp only [Act.put, List.setIfInBounds_toArray, List.set_cons_zero, List.set_cons_succ]
      refine wpAnyH_take (i := 7) (oi := { dst := some 124, op := Op.convert 23 9 (Operand.tmp 123), type := 9, pos := "ref.go:92", after := #[{ on := 6, ground := Ground.data }, { on := 2, ground := Ground.guard }], guard := some (2, false) }) (v := ?_) rfl (by kernel_rfl) (by kernel_rfl) (by kernel_rfl) (fun _ _ _ h => h) (Or.inl ⟨by rfl, ?_⟩) (by assumption) ?_
      rotate_left
      · (intro w_ hS_; go_simp; try with_reducible rfl)
      simp only [Act.put, List.setIfInBounds_toArray, List.set_cons_zero, List.set_cons_succ]
      refine wpAnyH_ready (rs := [4]) (by kernel_rfl) (by simp) ?_
      refine AllReadyH.cons (o := { dst := some 121, op := Op.call { callee := Callee.value (Operand.func 16), args := #[Operand.tmp 120], argTypes := #[27] }, type := 23, pos := "ref.go:92", after := #[{ on := 3, ground := Ground.data }, { on := 2, ground := Ground.chain }, { on := 2, ground := Ground.guard }], guard := some (2, false) }) rfl (fun K hK => ?_) AllReadyH.nil
      go_simp
      refine hBy.mono ?_
      rintro en w6 ⟨A6, n6, rfl, o6, h6⟩
      have b6 : Below u5.heap.size u5 w6 := undrew h6
      have s6 := strs o6.same w6 (Below.refl _ _)
      dsimp only
      refine hK.out _ _ ?_ (fun hHeld => ?_)
      · exact b6
      clear hK K
      refine wpAnyH_ready (rs := [5]) (by kernel_rfl) (by simp) ?_
      refine AllReadyH.cons (o := { dst := some 122, op := Op.convert 23 9 (Operand.tmp 121), type := 9, pos := "ref.go:92", after := #[{ on := 4, ground := Ground.data }, { on := 2, ground := Ground.guard }], guard := some (2, false) }) rfl (fun K hK => ?_) AllReadyH.nil
      go_simp
      refine hK.out _ _ ?_ (fun hHeld => ?_)
      · exact b6
      clear hK K
      clear s6
      refine wpAnyH_take (i := 8) (oi := { dst := some 125, op := Op.binOp BinOp.neq 9 (Operand.tmp 122) (Operand.tmp 124) 9, type := 4, pos := "ref.go:92", after := #[{ on := 5, ground := Ground.data }, { on := 7, ground := Ground.data }, { on := 2, ground := Ground.guard }], guard := some (2, false) }) (v := ?_) rfl (by kernel_rfl) (by kernel_rfl) (by kernel_rfl) (fun _ _ _ h => h) (Or.inl ⟨by rfl, ?_⟩) (by assumption) ?_
      rotate_left
      · (intro w_ hS_; go_simp; try with_reducible rfl)
      simp only [Act.put, List.setIfInBounds_toArray, List.set_cons_zero, List.set_cons_succ]
      refine wpAnyH_take (i := 9) (oi := { dst := some 126, op := Op.pick (Operand.tmp 119) (Operand.const (Value.bool true)) (Operand.tmp 125), type := 4, pos := "ref.go:92", after := #[{ on := 2, ground := Ground.data }, { on := 8, ground := Ground.data }], guard := none }) (v := ?_) rfl (by kernel_rfl) (by kernel_rfl) (by kernel_rfl) (fun _ _ _ h => h) (Or.inl ⟨by rfl, ?_⟩) (by assumption) ?_
      rotate_left
      · (intro w_ hS_; go_simp; try with_reducible rfl)
      simp only [Act.put, List.setIfInBounds_toArray, List.set_cons_zero, List.set_cons_succ]
      refine wpAnyH_done (by kernel_rfl) ?_ _
      have gs6 := (b6.block _ (blk_ltP gs5)).trans gs5
      have bU6 := bthen bU5 b6
      have gi6 := GI5 w6 b6
      go_wp2_with (first
        | (refine wpList_ldP rfl (.tmp 6) rfl Gb rfl cs sz gi6 ?_)
        | (refine wpList_stI rfl 27 (.tmp 2) (.tmp 128) rfl r cs rfl rfl _ _ gs6 (by rw [sz]; exact info37) (by rw [sz]; rfl) oc ?_
           intro w9 hg9 hbut9 hbel9))
      exact bodyPost_ret (results_cellP rfl _ w9 r cs sz rfl hg9 _ rfl) rfl (by obtain ⟨z1, z2⟩ := HZ.out _ HT.out; rw [z1, z2]; exact ⟨_, rfl, IPB.out w6 w9 (bthen b5 b6) hbut9, hbel9 _ _ bU6 hr0⟩)
    · skip
      have HT : Hid (Pkt.tried q l = none) := hidT (by rw [Pkt.tried, if_neg (fun hh => hbx (HBX.out.symm.trans hh.2))])
      rw [decide_eq_false hbx] at qb
      clear hbx
      have qn : ((str BX).toList != (str l).toList) = true := by simp only [bne, qb]; rfl
      go_wp2_with fail
      refine wp_region_held_drew (S := fun w' => Below u5.heap.size u5 w') (by kernel_rfl) ?_ (fun hHeld => ?_)
      · exact (Below.refl _ _).drew
      refine wpAnyH_take (i := 0) (oi := { dst := some 117, op := Op.move (Operand.tmp 19), type := 4, pos := "ref.go:92", after := #[], guard := none }) (v := ?_) rfl (by kernel_rfl) (by kernel_rfl) (by kernel_rfl) (fun _ _ _ h => h) (Or.inl ⟨by rfl, ?_⟩) (by assumption) ?_
      rotate_left
      · (intro w_ hS_; go_simp; try with_reducible rfl)
      simp only [Act.put, List.setIfInBounds_toArray, List.set_cons_zero, List.set_cons_succ]
      refine wpAnyH_take (i := 1) (oi := { dst := some 118, op := Op.unOp UnOp.not 4 (Operand.tmp 117), type := 4, pos := "ref.go:92", after := #[{ on := 0, ground := Ground.data }], guard := none }) (v := ?_) rfl (by kernel_rfl) (by kernel_rfl) (by kernel_rfl) (fun _ _ _ h => h) (Or.inl ⟨by rfl, ?_⟩) (by assumption) ?_
      rotate_left
      · (intro w_ hS_; go_simp; try with_reducible rfl)
      simp only [Act.put, List.setIfInBounds_toArray, List.set_cons_zero, List.set_cons_succ]
      refine wpAnyH_take (i := 2) (oi := { dst := some 119, op := Op.move (Operand.tmp 118), type := 4, pos := "ref.go:92", after := #[{ on := 1, ground := Ground.data }], guard := none }) (v := ?_) rfl (by kernel_rfl) (by kernel_rfl) (by kernel_rfl) (fun _ _ _ h => h) (Or.inl ⟨by rfl, ?_⟩) (by assumption) ?_
      rotate_left
      · (intro w_ hS_; go_simp; try with_reducible rfl)
      simp only [Act.put, List.setIfInBounds_toArray, List.set_cons_zero, List.set_cons_succ]
      refine wpAnyH_take (i := 3) (oi := { dst := some 120, op := Op.load 27 (Operand.tmp 6), type := 27, pos := "ref.go:92", after := #[{ on := 2, ground := Ground.guard }], guard := some (2, false) }) (v := .agg cs) rfl (by kernel_rfl) (by kernel_rfl) (by kernel_rfl) (fun _ _ _ h => h) (Or.inl ⟨by rfl, fun w_ hS_ => run_ldP (.tmp 6) rfl Gb rfl cs sz (GI5 w_ hS_)⟩) (by assumption) ?_
      simp only [Act.put, List.setIfInBounds_toArray, List.set_cons_zero, List.set_cons_succ]
      refine wpAnyH_take (i := 6) (oi := { dst := some 123, op := Op.move (Operand.tmp 0), type := 23, pos := "ref.go:92", after := #[{ on := 2, ground := Ground.guard }], guard := some (2, false) }) (v := ?_) rfl (by kernel_rfl) (by kernel_rfl) (by kernel_rfl) (fun _ _ _ h => h) (Or.inl ⟨by rfl, ?_⟩) (by assumption) ?_
      rotate_left
      · (intro w_ hS_; go_simp; try with_reducible rfl)
      simp only [Act.put, List.setIfInBounds_toArray, List.set_cons_zero, List.set_cons_succ]
      refine wpAnyH_take (i := 7) (oi := { dst := some 124, op := Op.convert 23 9 (Operand.tmp 123), type := 9, pos := "ref.go:92", after := #[{ on := 6, ground := Ground.data }, { on := 2, ground := Ground.guard }], guard := some (2, false) }) (v := ?_) rfl (by kernel_rfl) (by kernel_rfl) (by kernel_rfl) (fun _ _ _ h => h) (Or.inl ⟨by rfl, ?_⟩) (by assumption) ?_
      rotate_left
      · (intro w_ hS_; go_simp; try with_reducible rfl)
      simp only [Act.put, List.setIfInBounds_toArray, List.set_cons_zero, List.set_cons_succ]
      refine wpAnyH_ready (rs := [4]) (by kernel_rfl) (by simp) ?_
      refine AllReadyH.cons (o := { dst := some 121, op := Op.call { callee := Callee.value (Operand.func 16), args := #[Operand.tmp 120], argTypes := #[27] }, type := 23, pos := "ref.go:92", after := #[{ on := 3, ground := Ground.data }, { on := 2, ground := Ground.chain }, { on := 2, ground := Ground.guard }], guard := some (2, false) }) rfl (fun K hK => ?_) AllReadyH.nil
      go_simp
      refine hBy.mono ?_
      rintro en w6 ⟨A6, n6, rfl, o6, h6⟩
      have b6 : Below u5.heap.size u5 w6 := undrew h6
      have s6 := strs o6.same w6 (Below.refl _ _)
      dsimp only
      refine hK.out _ _ ?_ (fun hHeld => ?_)
      · exact b6
      clear hK K
      refine wpAnyH_ready (rs := [5]) (by kernel_rfl) (by simp) ?_
      refine AllReadyH.cons (o := { dst := some 122, op := Op.convert 23 9 (Operand.tmp 121), type := 9, pos := "ref.go:92", after := #[{ on := 4, ground := Ground.data }, { on := 2, ground := Ground.guard }], guard := some (2, false) }) rfl (fun K hK => ?_) AllReadyH.nil
      go_simp
      refine hK.out _ _ ?_ (fun hHeld => ?_)
      · exact b6
      clear hK K
      clear s6
      refine wpAnyH_take (i := 8) (oi := { dst := some 125, op := Op.binOp BinOp.neq 9 (Operand.tmp 122) (Operand.tmp 124) 9, type := 4, pos := "ref.go:92", after := #[{ on := 5, ground := Ground.data }, { on := 7, ground := Ground.data }, { on := 2, ground := Ground.guard }], guard := some (2, false) }) (v := ?_) rfl (by kernel_rfl) (by kernel_rfl) (by kernel_rfl) (fun _ _ _ h => h) (Or.inl ⟨by rfl, ?_⟩) (by assumption) ?_
      rotate_left
      · (intro w_ hS_; go_simp; try with_reducible rfl)
      simp only [Act.put, List.setIfInBounds_toArray, List.set_cons_zero, List.set_cons_succ]
      refine wpAnyH_take (i := 9) (oi := { dst := some 126, op := Op.pick (Operand.tmp 119) (Operand.const (Value.bool true)) (Operand.tmp 125), type := 4, pos := "ref.go:92", after := #[{ on := 2, ground := Ground.data }, { on := 8, ground := Ground.data }], guard := none }) (v := ?_) rfl (by kernel_rfl) (by kernel_rfl) (by kernel_rfl) (fun _ _ _ h => h) (Or.inl ⟨by rfl, ?_⟩) (by assumption) ?_
      rotate_left
      · (intro w_ hS_; go_simp; try with_reducible rfl)
      simp only [Act.put, List.setIfInBounds_toArray, List.set_cons_zero, List.set_cons_succ]
      refine wpAnyH_done (by kernel_rfl) ?_ _
      have gs6 := (b6.block _ (blk_ltP gs5)).trans gs5
      have bU6 := bthen bU5 b6
      have gi6 := GI5 w6 b6
      go_wp2_with (first
        | (refine wpList_stI rfl 27 (.tmp 2) (.tmp 127) rfl r zpkt rfl rfl _ _ gs6 info37 rfl (all15 rfl rfl rfl rfl rfl rfl rfl rfl rfl rfl rfl rfl rfl rfl rfl) ?_
           intro w9 hg9 hbut9 hbel9))
      exact bodyPost_ret (results_cellP rfl _ w9 r zpkt rfl rfl hg9 _ rfl) rfl (by obtain ⟨z1, z2⟩ := HZ.out _ HT.out; rw [z1, z2]; exact ⟨_, rfl, zero_pkt _, hbel9 _ _ bU6 hr0⟩)
end Go.Proofs.YtahkhideepncfaaDoor
/- What the document's Read comes to, kind by kind. (Written by wip/gen/refpkt5.py.) -/
namespace Go.Proofs.YtahkhideepncfaaDoor
open Go.RowKit
set_option linter.unusedVariables false

theorem cutk {w : World} {b o n c k : Nat} {l : List UInt8} (h : Rd w (some ⟨b, o, none⟩) n c l) (hn : k ≤ n) : Rd w (if c = k then some ⟨b, o, none⟩ else some ⟨b, o + k, none⟩) (n - k) (c - k) (l.drop k) := by
  have hnc := h.2.1
  have hl := h.1
  split
  · rename_i hc
    rw [show n - k = 0 from by omega, show c - k = 0 from by omega, List.drop_of_length_le (by omega)]
    exact Rd.empty _ _
  · exact h.drop hn

set_option maxRecDepth 100000 in
set_option maxHeartbeats 16000000 in
theorem rpr_4g (A : Option Addr) (n c : Nat) (l : List UInt8) (w : World) (h : Rd w A n c l) (hn : n ≤ 65536) (hc : openCode l = 0) (C : List UInt8) (hC : opened l = C) (hC3 : 3 ≤ C.length) (hC6 : C.length ≤ 65536) (k f : Int) (hk : Item.at_ C 1 = k) (hff : Item.at_ C 2 = f) (hkv : 4 = k) (h11 : 11 ≤ C.length) :
    Calls Tryd.prog 10 #[.slice A n c] w (PRead w ((Pkt.tried (Pkt.refC k f (C.drop 3)) l).getD Pkt.Pk.zero) (if (Pkt.tried (Pkt.refC k f (C.drop 3)) l).isSome = true then 0 else 2)) := by
  obtain ⟨q, hq⟩ : ∃ q, Pkt.refC k f (C.drop 3) = q := ⟨_, rfl⟩
  rw [hq]
  have HQ := hidT hq
  clear hq
  obtain ⟨z, hz⟩ : ∃ z, (Pkt.tried q l).getD Pkt.Pk.zero = z := ⟨_, rfl⟩
  obtain ⟨code, hcode⟩ : ∃ code : Int, (if (Pkt.tried q l).isSome = true then 0 else 2) = code := ⟨_, rfl⟩
  rw [hz, hcode]
  have HZ : Hid (∀ o, Pkt.tried q l = o → z = o.getD Pkt.Pk.zero ∧ code = if o.isSome = true then 0 else 2) := fun o ho => ⟨by rw [← ho, hz], by rw [← ho, hcode]⟩
  clear hz hcode
  obtain ⟨w0, hw0⟩ : ∃ w0, w.alloc (.cells #[.int .i64 0, .int .i64 0, .int .i64 0, .int .i64 0, .int .i64 0, .int .i64 0, .int .i64 0, .int .i64 0, .slice none 0 0, .slice none 0 0, .int .i64 0, .int .i64 0, .int .i64 0, .int .i64 0, .slice none 0 0] 27) = w0 := ⟨_, rfl⟩
  have b0 : Below w.heap.size w w0 := by rw [← hw0]; exact pkeep_alloc (Below.refl _ _) _
  have g0 : w0.heap[w.heap.size]? = some (.cells #[.int .i64 0, .int .i64 0, .int .i64 0, .int .i64 0, .int .i64 0, .int .i64 0, .int .i64 0, .int .i64 0, .slice none 0 0, .slice none 0 0, .int .i64 0, .int .i64 0, .int .i64 0, .int .i64 0, .slice none 0 0] 27 (0, 0)) := by rw [← hw0]; exact alloc_at _ _ _ rfl
  have HW0 := hidT hw0
  clear hw0
  have hO := ropen_any A n c l w0 (h.below b0) hn
  rw [hc, hC] at hO
  obtain ⟨N, hN⟩ : ∃ N, C.length = N := ⟨_, rfl⟩
  obtain ⟨r, hr⟩ : ∃ r, r = w.heap.size := ⟨_, rfl⟩
  rw [← hr] at g0
  have HR := hidT hr
  have hr0 : w.heap.size ≤ r := by omega
  clear hr
  go_enter Tryd.func10, Tryd.ntmps10
  go_wp2_with fail
  rw [HW0.out, ← HR.out]
  clear HW0
  with_reducible refine hO.mono ?_
  rintro en w1 ⟨A1, c1, rfl, r1, b1⟩
  clear hO
  rw [hN] at r1 hC3 hC6 ⊢
  have hcap := r1.2.1
  have hcle : c1 ≤ 9223372036854775807 := by have := r1.2.2.1; unfold maxLen at this; omega
  obtain ⟨b1_, o1, rfl, hcell⟩ := r1.at_ (by omega)
  obtain ⟨z1, hz1, e1⟩ := hcell 1 (by omega)
  obtain ⟨z2, hz2, e2⟩ := hcell 2 (by omega)
  have hzk : (z1.toNat : Int) = k := by rw [← hk, Item.at_, List.getD_eq_getElem?_getD, hz1]; rfl
  have hzf : (z2.toNat : Int) = f := by rw [← hff, Item.at_, List.getD_eq_getElem?_getD, hz2]; rfl
  have kb : 0 ≤ k ∧ k < 256 := by have := Num.byte_lt z1; omega
  have fb : 0 ≤ f ∧ f < 256 := by have := Num.byte_lt z2; omega
  obtain ⟨kb1, kb2⟩ := kb
  obtain ⟨fb1, fb2⟩ := fb
  rw [hzk] at e1
  rw [hzf] at e2
  have hbl := World.block_lt_of_cell? _ _ e1
  dsimp only at hbl
  have HN := hidT hN
  have q3 : decide ((N : Int) < 3) = false := by simp; omega
  have gs1 := (b1.block _ (blk_ltP g0)).trans g0
  have b01 := bthen b0 b1
  have hrl : r < w1.heap.size := blk_ltP gs1
  clear hcell hz1 hz2 hzk hzf hN hk hff g0 b0 b1
  subst hkv
  have i1 : (1 : Int) < (N : Int) := by omega
  have i2 : (2 : Int) < (N : Int) := by omega
  go_wp2
  go_region
  skip
  have hbU : Below w.heap.size w (w1.alloc (.cells #[.int .i64 4, .int .i64 f, .int .i64 0, .int .i64 0, .int .i64 0, .int .i64 0, .int .i64 0, .int .i64 0, .slice none 0 0, .slice none 0 0, .int .i64 0, .int .i64 0, .int .i64 0, .int .i64 0, .slice none 0 0] 27)).drew := (b01.alloc b01.size _).drew
  have gi : (w1.alloc (.cells #[.int .i64 4, .int .i64 f, .int .i64 0, .int .i64 0, .int .i64 0, .int .i64 0, .int .i64 0, .int .i64 0, .slice none 0 0, .slice none 0 0, .int .i64 0, .int .i64 0, .int .i64 0, .int .i64 0, .slice none 0 0] 27)).drew.heap[w1.heap.size]? = some (.cells #[.int .i64 4, .int .i64 f, .int .i64 0, .int .i64 0, .int .i64 0, .int .i64 0, .int .i64 0, .int .i64 0, .slice none 0 0, .slice none 0 0, .int .i64 0, .int .i64 0, .int .i64 0, .int .i64 0, .slice none 0 0] 27 (0, 0)) := alloc_at w1 _ _ rfl
  have gs : (w1.alloc (.cells #[.int .i64 4, .int .i64 f, .int .i64 0, .int .i64 0, .int .i64 0, .int .i64 0, .int .i64 0, .int .i64 0, .slice none 0 0, .slice none 0 0, .int .i64 0, .int .i64 0, .int .i64 0, .int .i64 0, .slice none 0 0] 27)).drew.heap[r]? = some (.cells #[.int .i64 0, .int .i64 0, .int .i64 0, .int .i64 0, .int .i64 0, .int .i64 0, .int .i64 0, .int .i64 0, .slice none 0 0, .slice none 0 0, .int .i64 0, .int .i64 0, .int .i64 0, .int .i64 0, .slice none 0 0] 27 (0, 0)) := (alloc_old w1 _ _ hrl).trans gs1
  have rU : Rd (w1.alloc (.cells #[.int .i64 4, .int .i64 f, .int .i64 0, .int .i64 0, .int .i64 0, .int .i64 0, .int .i64 0, .int .i64 0, .slice none 0 0, .slice none 0 0, .int .i64 0, .int .i64 0, .int .i64 0, .int .i64 0, .slice none 0 0] 27)).drew (some ⟨b1_, o1, none⟩) N c1 C := r1.below ((Below.refl w1.heap.size w1).alloc (Nat.le_refl _) _).drew
  obtain ⟨Gb, hGb⟩ : ∃ Gb, Gb = w1.heap.size := ⟨_, rfl⟩
  rw [← hGb] at gi ⊢
  have hGr : r ≠ Gb := by omega
  have hbG : ¬ b1_ = Gb := by omega
  have hbG2 : ¬ Gb = b1_ := by omega
  have hG0 : w.heap.size ≤ Gb := by have := b01.size; omega
  generalize (w1.alloc (.cells #[.int .i64 4, .int .i64 f, .int .i64 0, .int .i64 0, .int .i64 0, .int .i64 0, .int .i64 0, .int .i64 0, .slice none 0 0, .slice none 0 0, .int .i64 0, .int .i64 0, .int .i64 0, .int .i64 0, .slice none 0 0] 27)).drew = u at hbU gi gs rU ⊢
  clear gs1 b01 hrl hGb r1 e1 e2 hbl
  have hN11 : 11 ≤ N := by have := HN.out; omega
  obtain ⟨M, hM⟩ : ∃ M, N - 3 = M := ⟨_, rfl⟩
  have s3 : (3 : Int) ≤ (N : Int) := by omega
  have hMN : N = M + 3 := by omega
  have HMN := hidT hMN
  clear hMN
  have hc13 : ¬ c1 = 3 := by have := HMN.out; omega
  have rd : Rd u (some ⟨b1_, o1 + 3, none⟩) M (c1 - 3) (C.drop 3) := by rw [← hM]; exact rU.drop hC3
  obtain ⟨D, hD⟩ : ∃ D, C.drop 3 = D := ⟨_, rfl⟩
  rw [hD] at rd
  have hDl := rd.1
  have hM8 : 8 ≤ M := by have := HMN.out; have := HN.out; omega
  have hM6 : M ≤ 65536 := by have := HMN.out; omega
  have hcM : M ≤ c1 - 3 := by have := HMN.out; omega
  have t8 : decide ((8 : Int) ≤ (M : Int)) = true := by simp; omega
  have t8b : (8 : Int) ≤ (M : Int) := by omega
  obtain ⟨⟨y0, y1⟩, Y1, Y2⟩ := cells15 gi
  clear Y1 Y2 y1
  obtain ⟨top, htop⟩ : ∃ top, Num.num D 8 = top := ⟨_, rfl⟩
  have hT := rtake_any (some ⟨b1_, o1 + 3, none⟩) M (c1 - 3) D 8 u rd (by omega)
  rw [htop] at hT
  go_wp2_with fail
  with_reducible refine hT.mono ?_
  rintro en u2 ⟨A2, c2, rfl, o2, b2⟩
  clear hT o2
  obtain ⟨X2, hX2⟩ : ∃ X2, (if c1 - 3 = 8 then some (⟨b1_, o1 + 3, none⟩ : Addr) else some ⟨b1_, o1 + 3 + 8, none⟩) = X2 := ⟨_, rfl⟩
  have rd2 : Rd u2 X2 (M - 8) (c1 - 3 - 8) (D.drop 8) := by rw [← hX2]; exact (cutk rd hM8).below b2
  have hRw := rtakeRow_any X2 (M - 8) (c1 - 3 - 8) (D.drop 8) ((M : Int) / 8 - 1) 8 u2 rd2 (by omega)
  obtain ⟨row, hrow⟩ : ∃ row, (Num.rowOf (D.drop 8) ((M : Int) / 8 - 1) 8).1 = row := ⟨_, rfl⟩
  have md : (0 : Int) ≤ (M : Int) / 8 := by omega
  have md2 : (M : Int) / 8 ≤ 65536 := by omega
  have y02 := keepC b2 y0
  clear y0
  go_wp2_with fail
  with_reducible refine hRw.mono ?_
  rintro en u3 ⟨A3, c3, B3_, d3, rfl, o3, o3b, b3⟩
  rw [hrow] at o3 ⊢
  clear hRw o3b
  obtain ⟨rn, hrn⟩ : ∃ rn, row.length = rn := ⟨_, rfl⟩
  rw [hrn] at o3 ⊢
  clear hrn y02
  have hqv : q = ⟨4, f, Item.It.zero, 0, 0, 0, top, row⟩ := by
    rw [← HQ.out, hD, Pkt.refC, if_neg (by decide), if_neg (by decide), if_pos rfl, if_pos (by omega), htop, show (D.length : Int) = (M : Int) from by omega, hrow]
  clear htop hrow HQ
  have b23 := bthen b2 b3
  have gi3 := (b23.block _ (blk_ltP gi)).trans gi
  have gs3 := (b23.block _ (blk_ltP gs)).trans gs
  have bU3 := bthen hbU b23
  have hu2 : u.heap.size ≤ u2.heap.size := b2.size
  have hGu : Gb < u.heap.size := blk_ltP gi
  have hru : r < u.heap.size := blk_ltP gs
  have r3 : RdI u3 A3 rn c3 row := OwnV.same o3
  have aG : ∀ b o, A3 = some ⟨b, o, none⟩ → b ≠ Gb := fun b o hA => by have := addrV o3 (Nat.le_refl _) b o hA; omega
  have aR : ∀ b o, A3 = some ⟨b, o, none⟩ → b ≠ r := fun b o hA => by have := addrV o3 (Nat.le_refl _) b o hA; omega
  obtain ⟨⟨y0, y1⟩, ⟨y2, y3, y4, y5, y6, y7, y8, y9⟩, ⟨y10, y11, y12, y13, y14⟩⟩ := cells15 gi3
  have f13 := frozen_of_row u3 Gb 13 _ _ gi3
  have f14 := frozen_of_row u3 Gb 14 _ _ gi3
  clear y1 y2 y3 y4 y5 y6 y7 y8 y9 y10 y11 y12
  have s13 : (u3.setCell ⟨Gb, 13, none⟩ (.int .i64 top)).heap[Gb]? = some (.cells #[.int .i64 4, .int .i64 f, .int .i64 0, .int .i64 0, .int .i64 0, .int .i64 0, .int .i64 0, .int .i64 0, .slice none 0 0, .slice none 0 0, .int .i64 0, .int .i64 0, .int .i64 0, .int .i64 top, .slice none 0 0] 27 (0, 0)) := heap_setCell_same _ Gb 13 _ 27 (.int .i64 top) gi3
  have s14 : ((u3.setCell ⟨Gb, 13, none⟩ (.int .i64 top)).setCell ⟨Gb, 14, none⟩ (.slice A3 rn c3)).heap[Gb]? = some (.cells #[.int .i64 4, .int .i64 f, .int .i64 0, .int .i64 0, .int .i64 0, .int .i64 0, .int .i64 0, .int .i64 0, .slice none 0 0, .slice none 0 0, .int .i64 0, .int .i64 0, .int .i64 0, .int .i64 top, .slice A3 rn c3] 27 (0, 0)) := heap_setCell_same _ Gb 14 _ 27 (.slice A3 rn c3) s13
  have but3 : But Gb u3 ((u3.setCell ⟨Gb, 13, none⟩ (.int .i64 top)).setCell ⟨Gb, 14, none⟩ (.slice A3 rn c3)) := (But.setCell u3 Gb 13 _).trans (But.setCell _ Gb 14 _)
  have gs4 : ((u3.setCell ⟨Gb, 13, none⟩ (.int .i64 top)).setCell ⟨Gb, 14, none⟩ (.slice A3 rn c3)).heap[r]? = some (.cells #[.int .i64 0, .int .i64 0, .int .i64 0, .int .i64 0, .int .i64 0, .int .i64 0, .int .i64 0, .int .i64 0, .slice none 0 0, .slice none 0 0, .int .i64 0, .int .i64 0, .int .i64 0, .int .i64 0, .slice none 0 0] 27 (0, 0)) := (but3.2 r hGr).trans gs3
  have hb4 : Below w.heap.size w ((u3.setCell ⟨Gb, 13, none⟩ (.int .i64 top)).setCell ⟨Gb, 14, none⟩ (.slice A3 rn c3)) := (bU3.setCell (p := ⟨Gb, 13, none⟩) hG0 _).setCell (p := ⟨Gb, 14, none⟩) hG0 _
  have r4 : RdI ((u3.setCell ⟨Gb, 13, none⟩ (.int .i64 top)).setCell ⟨Gb, 14, none⟩ (.slice A3 rn c3)) A3 rn c3 row := RdV.but r3 aG but3
  have S14 := hidT s14
  have S3 := hidT gs4
  have B4 := hidT hb4
  have R4 := hidT r4
  clear s13 s14 gs4 hb4 but3 r4 r3 o3 rd rd2 hX2
  go_wp2_with (refine wpList_ldP rfl (.tmp 6) rfl Gb rfl #[.int .i64 4, .int .i64 f, .int .i64 0, .int .i64 0, .int .i64 0, .int .i64 0, .int .i64 0, .int .i64 0, .slice none 0 0, .slice none 0 0, .int .i64 0, .int .i64 0, .int .i64 0, .int .i64 top, .slice A3 rn c3] rfl S14.out ?_)
  have gi := S14.out
  have gs := S3.out
  have hbU := B4.out
  have r4 := R4.out
  clear S14 S3 B4 R4 y0 y13 y14 f13 f14
  generalize ((u3.setCell ⟨Gb, 13, none⟩ (.int .i64 top)).setCell ⟨Gb, 14, none⟩ (.slice A3 rn c3)) = u at gi gs hbU r4 ⊢
  have ip : IsPkt u (.agg #[.int .i64 4, .int .i64 f, .int .i64 0, .int .i64 0, .int .i64 0, .int .i64 0, .int .i64 0, .int .i64 0, .slice none 0 0, .slice none 0 0, .int .i64 0, .int .i64 0, .int .i64 0, .int .i64 top, .slice A3 rn c3]) q := by rw [hqv]; exact ⟨none, 0, 0, none, 0, 0, A3, rn, c3, rfl, RdV.nil_ _, Rd.nil_ _, r4⟩
  have IPB : Hid (∀ w2 w9, Below u.heap.size u w2 → But r w2 w9 → IsPkt w9 (.agg #[.int .i64 4, .int .i64 f, .int .i64 0, .int .i64 0, .int .i64 0, .int .i64 0, .int .i64 0, .int .i64 0, .slice none 0 0, .slice none 0 0, .int .i64 0, .int .i64 0, .int .i64 0, .int .i64 top, .slice A3 rn c3]) q) := fun w2 w9 hb2 hbut => by rw [hqv]; exact ⟨none, 0, 0, none, 0, 0, A3, rn, c3, rfl, RdV.nil_ _, Rd.nil_ _, RdV.but (RdV.below r4 hb2) aR hbut⟩
  obtain ⟨cs, hcs⟩ : ∃ cs : Array Value, #[.int .i64 4, .int .i64 f, .int .i64 0, .int .i64 0, .int .i64 0, .int .i64 0, .int .i64 0, .int .i64 0, .slice none 0 0, .slice none 0 0, .int .i64 0, .int .i64 0, .int .i64 0, .int .i64 top, .slice A3 rn c3] = cs := ⟨_, rfl⟩
  have sz : cs.size = 15 := by rw [← hcs]; rfl
  have oc : cs.all (·.oneCell') = true := by rw [← hcs]; exact (all15 rfl rfl rfl rfl rfl rfl rfl rfl rfl rfl rfl rfl rfl rfl rfl)
  skip
  rw [hcs] at ip IPB ⊢
  have gi := (by rw [hcs] at gi; exact gi : u.heap[Gb]? = some (.cells cs 27 (0, 0)))
  clear hcs
  clear hqv
  have hM := rpmay_any _ q u ip
  with_reducible refine hM.mono ?_
  rintro en u5 ⟨rfl, b5⟩
  have gs5 := (b5.block _ (blk_ltP gs)).trans gs
  have gi5 := (b5.block _ (blk_ltP gi)).trans gi
  have bU5 := bthen hbU b5
  have ip5 := ip.below b5
  clear hM gs
  have GI5 := fun w' (hb : Below u5.heap.size u5 w') => (hb.block _ (blk_ltP gi5)).trans gi5
  skip
  cases hm : Pkt.may q with
  | false =>
    have HT : Hid (Pkt.tried q l = none) := hidT (by rw [Pkt.tried, if_neg (by rw [hm]; simp)])
    go_wp2_with fail
    refine wp_region_held_drew (S := fun w' => Below u5.heap.size u5 w') (by kernel_rfl) ?_ (fun hHeld => ?_)
    · exact (Below.refl _ _).drew
    refine wpAnyH_take (i := 0) (oi := { dst := some 117, op := Op.move (Operand.tmp 19), type := 4, pos := "ref.go:92", after := #[], guard := none }) (v := ?_) rfl (by kernel_rfl) (by kernel_rfl) (by kernel_rfl) (fun _ _ _ h => h) (Or.inl ⟨by rfl, ?_⟩) (by assumption) ?_
    rotate_left
    · (intro w_ hS_; go_simp; try with_reducible rfl)
    simp only [Act.put, List.setIfInBounds_toArray, List.set_cons_zero, List.set_cons_succ]
    refine wpAnyH_take (i := 1) (oi := { dst := some 118, op := Op.unOp UnOp.not 4 (Operand.tmp 117), type := 4, pos := "ref.go:92", after := #[{ on := 0, ground := Ground.data }], guard := none }) (v := ?_) rfl (by kernel_rfl) (by kernel_rfl) (by kernel_rfl) (fun _ _ _ h => h) (Or.inl ⟨by rfl, ?_⟩) (by assumption) ?_
    rotate_left
    · (intro w_ hS_; go_simp; try with_reducible rfl)
    simp only [Act.put, List.setIfInBounds_toArray, List.set_cons_zero, List.set_cons_succ]
    refine wpAnyH_take (i := 2) (oi := { dst := some 119, op := Op.move (Operand.tmp 118), type := 4, pos := "ref.go:92", after := #[{ on := 1, ground := Ground.data }], guard := none }) (v := ?_) rfl (by kernel_rfl) (by kernel_rfl) (by kernel_rfl) (fun _ _ _ h => h) (Or.inl ⟨by rfl, ?_⟩) (by assumption) ?_
    rotate_left
    · (intro w_ hS_; go_simp; try with_reducible rfl)
    simp only [Act.put, List.setIfInBounds_toArray, List.set_cons_zero, List.set_cons_succ]
    refine wpAnyH_take (i := 3) (oi := { dst := some 120, op := Op.load 27 (Operand.tmp 6), type := 27, pos := "ref.go:92", after := #[{ on := 2, ground := Ground.guard }], guard := some (2, false) }) (v := undef) rfl (by kernel_rfl) (by kernel_rfl) (by kernel_rfl) (fun _ _ _ h => h) (Or.inr ⟨by rfl, rfl⟩) (by assumption) ?_
    simp only [Act.put, List.setIfInBounds_toArray, List.set_cons_zero, List.set_cons_succ]
    refine wpAnyH_take (i := 4) (oi := { dst := some 121, op := Op.call { callee := Callee.value (Operand.func 16), args := #[Operand.tmp 120], argTypes := #[27] }, type := 23, pos := "ref.go:92", after := #[{ on := 3, ground := Ground.data }, { on := 2, ground := Ground.chain }, { on := 2, ground := Ground.guard }], guard := some (2, false) }) (v := undef) rfl (by kernel_rfl) (by kernel_rfl) (by kernel_rfl) (fun _ _ _ h => h) (Or.inr ⟨by rfl, rfl⟩) (by assumption) ?_
    simp only [Act.put, List.setIfInBounds_toArray, List.set_cons_zero, List.set_cons_succ]
    refine wpAnyH_take (i := 5) (oi := { dst := some 122, op := Op.convert 23 9 (Operand.tmp 121), type := 9, pos := "ref.go:92", after := #[{ on := 4, ground := Ground.data }, { on := 2, ground := Ground.guard }], guard := some (2, false) }) (v := undef) rfl (by kernel_rfl) (by kernel_rfl) (by kernel_rfl) (fun _ _ _ h => h) (Or.inr ⟨by rfl, rfl⟩) (by assumption) ?_
    simp only [Act.put, List.setIfInBounds_toArray, List.set_cons_zero, List.set_cons_succ]
    refine wpAnyH_take (i := 6) (oi := { dst := some 123, op := Op.move (Operand.tmp 0), type := 23, pos := "ref.go:92", after := #[{ on := 2, ground := Ground.guard }], guard := some (2, false) }) (v := undef) rfl (by kernel_rfl) (by kernel_rfl) (by kernel_rfl) (fun _ _ _ h => h) (Or.inr ⟨by rfl, rfl⟩) (by assumption) ?_
    simp only [Act.put, List.setIfInBounds_toArray, List.set_cons_zero, List.set_cons_succ]
    refine wpAnyH_take (i := 7) (oi := { dst := some 124, op := Op.convert 23 9 (Operand.tmp 123), type := 9, pos := "ref.go:92", after := #[{ on := 6, ground := Ground.data }, { on := 2, ground := Ground.guard }], guard := some (2, false) }) (v := undef) rfl (by kernel_rfl) (by kernel_rfl) (by kernel_rfl) (fun _ _ _ h => h) (Or.inr ⟨by rfl, rfl⟩) (by assumption) ?_
    simp only [Act.put, List.setIfInBounds_toArray, List.set_cons_zero, List.set_cons_succ]
    refine wpAnyH_take (i := 8) (oi := { dst := some 125, op := Op.binOp BinOp.neq 9 (Operand.tmp 122) (Operand.tmp 124) 9, type := 4, pos := "ref.go:92", after := #[{ on := 5, ground := Ground.data }, { on := 7, ground := Ground.data }, { on := 2, ground := Ground.guard }], guard := some (2, false) }) (v := undef) rfl (by kernel_rfl) (by kernel_rfl) (by kernel_rfl) (fun _ _ _ h => h) (Or.inr ⟨by rfl, rfl⟩) (by assumption) ?_
    simp only [Act.put, List.setIfInBounds_toArray, List.set_cons_zero, List.set_cons_succ]
    refine wpAnyH_take (i := 9) (oi := { dst := some 126, op := Op.pick (Operand.tmp 119) (Operand.const (Value.bool true)) (Operand.tmp 125), type := 4, pos := "ref.go:92", after := #[{ on := 2, ground := Ground.data }, { on := 8, ground := Ground.data }], guard := none }) (v := ?_) rfl (by kernel_rfl) (by kernel_rfl) (by kernel_rfl) (fun _ _ _ h => h) (Or.inl ⟨by rfl, ?_⟩) (by assumption) ?_
    rotate_left
    · (intro w_ hS_; go_simp; try with_reducible rfl)
    simp only [Act.put, List.setIfInBounds_toArray, List.set_cons_zero, List.set_cons_succ]
    refine wpAnyH_done (by kernel_rfl) ?_ _
    go_wp2_with (first
      | (refine wpList_stI rfl 27 (.tmp 2) (.tmp 127) rfl r zpkt rfl rfl _ _ gs5 info37 rfl (all15 rfl rfl rfl rfl rfl rfl rfl rfl rfl rfl rfl rfl rfl rfl rfl) ?_
         intro w9 hg9 hbut9 hbel9))
    exact bodyPost_ret (results_cellP rfl _ w9 r zpkt rfl rfl hg9 _ rfl) rfl (by obtain ⟨z1, z2⟩ := HZ.out _ HT.out; rw [z1, z2]; exact ⟨_, rfl, zero_pkt _, hbel9 _ _ (bthen bU5 (Below.refl _ _).drew) hr0⟩)
  | true =>
    obtain ⟨BX, HBX⟩ : ∃ BX, Hid (Pkt.bytes q = BX) := ⟨_, hidT rfl⟩
    have hBy := rpbytes_any (.agg cs) q u5.drew ip5
    rw [HBX.out] at hBy
    have sl := fun w' (hb : Below u5.heap.size u5 w') => strs (h.below bU5) w' hb
    have qb := str_beq BX l
    by_cases hbx : BX = l
    · skip
      have HT : Hid (Pkt.tried q l = some q) := hidT (by rw [Pkt.tried, if_pos ⟨hm, HBX.out.trans hbx⟩])
      rw [decide_eq_true hbx] at qb
      clear hbx
      have qn : ((str BX).toList != (str l).toList) = false := by simp only [bne, qb]; rfl
      go_wp2_with fail
      refine wp_region_held_drew (S := fun w' => Below u5.heap.size u5 w') (by kernel_rfl) ?_ (fun hHeld => ?_)
      · exact (Below.refl _ _).drew
      refine wpAnyH_take (i := 0) (oi := { dst := some 117, op := Op.move (Operand.tmp 19), type := 4, pos := "ref.go:92", after := #[], guard := none }) (v := ?_) rfl (by kernel_rfl) (by kernel_rfl) (by kernel_rfl) (fun _ _ _ h => h) (Or.inl ⟨by rfl, ?_⟩) (by assumption) ?_
      rotate_left
      · (intro w_ hS_; go_simp; try with_reducible rfl)
      simp only [Act.put, List.setIfInBounds_toArray, List.set_cons_zero, List.set_cons_succ]
      refine wpAnyH_take (i := 1) (oi := { dst := some 118, op := Op.unOp UnOp.not 4 (Operand.tmp 117), type := 4, pos := "ref.go:92", after := #[{ on := 0, ground := Ground.data }], guard := none }) (v := ?_) rfl (by kernel_rfl) (by kernel_rfl) (by kernel_rfl) (fun _ _ _ h => h) (Or.inl ⟨by rfl, ?_⟩) (by assumption) ?_
      rotate_left
      · (intro w_ hS_; go_simp; try with_reducible rfl)
      simp only [Act.put, List.setIfInBounds_toArray, List.set_cons_zero, List.set_cons_succ]
      refine wpAnyH_take (i := 2) (oi := { dst := some 119, op := Op.move (Operand.tmp 118), type := 4, pos := "ref.go:92", after := #[{ on := 1, ground := Ground.data }], guard := none }) (v := ?_) rfl (by kernel_rfl) (by kernel_rfl) (by kernel_rfl) (fun _ _ _ h => h) (Or.inl ⟨by rfl, ?_⟩) (by assumption) ?_
      rotate_left
      · (intro w_ hS_; go_simp; try with_reducible rfl)
      simp only [Act.put, List.setIfInBounds_toArray, List.set_cons_zero, List.set_cons_succ]
      refine wpAnyH_take (i := 3) (oi := { dst := some 120, op := Op.load 27 (Operand.tmp 6), type := 27, pos := "ref.go:92", after := #[{ on := 2, ground := Ground.guard }], guard := some (2, false) }) (v := .agg cs) rfl (by kernel_rfl) (by kernel_rfl) (by kernel_rfl) (fun _ _ _ h => h) (Or.inl ⟨by rfl, fun w_ hS_ => run_ldP (.tmp 6) rfl Gb rfl cs sz (GI5 w_ hS_)⟩) (by assumption) ?_
      simp only [Act.put, List.setIfInBounds_toArray, List.set_cons_zero, List.set_cons_succ]
      refine wpAnyH_take (i := 6) (oi := { dst := some 123, op := Op.move (Operand.tmp 0), type := 23, pos := "ref.go:92", after := #[{ on := 2, ground := Ground.guard }], guard := some (2, false) }) (v := ?_) rfl (by kernel_rfl) (by kernel_rfl) (by kernel_rfl) (fun _ _ _ h => h) (Or.inl ⟨by rfl, ?_⟩) (by assumption) ?_
      rotate_left
      · (intro w_ hS_; go_simp; try with_reducible rfl)
      simp only [Act.put, List.setIfInBounds_toArray, List.set_cons_zero, List.set_cons_succ]
      refine wpAnyH_take (i := 7) (oi := { dst := some 124, op := Op.convert 23 9 (Operand.tmp 123), type := 9, pos := "ref.go:92", after := #[{ on := 6, ground := Ground.data }, { on := 2, ground := Ground.guard }], guard := some (2, false) }) (v := ?_) rfl (by kernel_rfl) (by kernel_rfl) (by kernel_rfl) (fun _ _ _ h => h) (Or.inl ⟨by rfl, ?_⟩) (by assumption) ?_
      rotate_left
      · (intro w_ hS_; go_simp; try with_reducible rfl)
      simp only [Act.put, List.setIfInBounds_toArray, List.set_cons_zero, List.set_cons_succ]
      refine wpAnyH_ready (rs := [4]) (by kernel_rfl) (by simp) ?_
      refine AllReadyH.cons (o := { dst := some 121, op := Op.call { callee := Callee.value (Operand.func 16), args := #[Operand.tmp 120], argTypes := #[27] }, type := 23, pos := "ref.go:92", after := #[{ on := 3, ground := Ground.data }, { on := 2, ground := Ground.chain }, { on := 2, ground := Ground.guard }], guard := some (2, false) }) rfl (fun K hK => ?_) AllReadyH.nil
      go_simp
      refine hBy.mono ?_
      rintro en w6 ⟨A6, n6, rfl, o6, h6⟩
      have b6 : Below u5.heap.size u5 w6 := undrew h6
      have s6 := strs o6.same w6 (Below.refl _ _)
      dsimp only
      refine hK.out _ _ ?_ (fun hHeld => ?_)
      · exact b6
      clear hK K
      refine wpAnyH_ready (rs := [5]) (by kernel_rfl) (by simp) ?_
      refine AllReadyH.cons (o := { dst := some 122, op := Op.convert 23 9 (Operand.tmp 121), type := 9, pos := "ref.go:92", after := #[{ on := 4, ground := Ground.data }, { on := 2, ground := Ground.guard }], guard := some (2, false) }) rfl (fun K hK => ?_) AllReadyH.nil
      go_simp
      refine hK.out _ _ ?_ (fun hHeld => ?_)
      · exact b6
      clear hK K
      clear s6
      refine wpAnyH_take (i := 8) (oi := { dst := some 125, op := Op.binOp BinOp.neq 9 (Operand.tmp 122) (Operand.tmp 124) 9, type := 4, pos := "ref.go:92", after := #[{ on := 5, ground := Ground.data }, { on := 7, ground := Ground.data }, { on := 2, ground := Ground.guard }], guard := some (2, false) }) (v := ?_) rfl (by kernel_rfl) (by kernel_rfl) (by kernel_rfl) (fun _ _ _ h => h) (Or.inl ⟨by rfl, ?_⟩) (by assumption) ?_
      rotate_left
      · (intro w_ hS_; go_simp; try with_reducible rfl)
      simp only [Act.put, List.setIfInBounds_toArray, List.set_cons_zero, List.set_cons_succ]
      refine wpAnyH_take (i := 9) (oi := { dst := some 126, op := Op.pick (Operand.tmp 119) (Operand.const (Value.bool true)) (Operand.tmp 125), type := 4, pos := "ref.go:92", after := #[{ on := 2, ground := Ground.data }, { on := 8, ground := Ground.data }], guard := none }) (v := ?_) rfl (by kernel_rfl) (by kernel_rfl) (by kernel_rfl) (fun _ _ _ h => h) (Or.inl ⟨by rfl, ?_⟩) (by assumption) ?_
      rotate_left
      · (intro w_ hS_; go_simp; try with_reducible rfl)
      simp only [Act.put, List.setIfInBounds_toArray, List.set_cons_zero, List.set_cons_succ]
      refine wpAnyH_done (by kernel_rfl) ?_ _
      have gs6 := (b6.block _ (blk_ltP gs5)).trans gs5
      have bU6 := bthen bU5 b6
      have gi6 := GI5 w6 b6
      go_wp2_with (first
        | (refine wpList_ldP rfl (.tmp 6) rfl Gb rfl cs sz gi6 ?_)
        | (refine wpList_stI rfl 27 (.tmp 2) (.tmp 128) rfl r cs rfl rfl _ _ gs6 (by rw [sz]; exact info37) (by rw [sz]; rfl) oc ?_
           intro w9 hg9 hbut9 hbel9))
      exact bodyPost_ret (results_cellP rfl _ w9 r cs sz rfl hg9 _ rfl) rfl (by obtain ⟨z1, z2⟩ := HZ.out _ HT.out; rw [z1, z2]; exact ⟨_, rfl, IPB.out w6 w9 (bthen b5 b6) hbut9, hbel9 _ _ bU6 hr0⟩)
    · skip
      have HT : Hid (Pkt.tried q l = none) := hidT (by rw [Pkt.tried, if_neg (fun hh => hbx (HBX.out.symm.trans hh.2))])
      rw [decide_eq_false hbx] at qb
      clear hbx
      have qn : ((str BX).toList != (str l).toList) = true := by simp only [bne, qb]; rfl
      go_wp2_with fail
      refine wp_region_held_drew (S := fun w' => Below u5.heap.size u5 w') (by kernel_rfl) ?_ (fun hHeld => ?_)
      · exact (Below.refl _ _).drew
      refine wpAnyH_take (i := 0) (oi := { dst := some 117, op := Op.move (Operand.tmp 19), type := 4, pos := "ref.go:92", after := #[], guard := none }) (v := ?_) rfl (by kernel_rfl) (by kernel_rfl) (by kernel_rfl) (fun _ _ _ h => h) (Or.inl ⟨by rfl, ?_⟩) (by assumption) ?_
      rotate_left
      · (intro w_ hS_; go_simp; try with_reducible rfl)
      simp only [Act.put, List.setIfInBounds_toArray, List.set_cons_zero, List.set_cons_succ]
      refine wpAnyH_take (i := 1) (oi := { dst := some 118, op := Op.unOp UnOp.not 4 (Operand.tmp 117), type := 4, pos := "ref.go:92", after := #[{ on := 0, ground := Ground.data }], guard := none }) (v := ?_) rfl (by kernel_rfl) (by kernel_rfl) (by kernel_rfl) (fun _ _ _ h => h) (Or.inl ⟨by rfl, ?_⟩) (by assumption) ?_
      rotate_left
      · (intro w_ hS_; go_simp; try with_reducible rfl)
      simp only [Act.put, List.setIfInBounds_toArray, List.set_cons_zero, List.set_cons_succ]
      refine wpAnyH_take (i := 2) (oi := { dst := some 119, op := Op.move (Operand.tmp 118), type := 4, pos := "ref.go:92", after := #[{ on := 1, ground := Ground.data }], guard := none }) (v := ?_) rfl (by kernel_rfl) (by kernel_rfl) (by kernel_rfl) (fun _ _ _ h => h) (Or.inl ⟨by rfl, ?_⟩) (by assumption) ?_
      rotate_left
      · (intro w_ hS_; go_simp; try with_reducible rfl)
      simp only [Act.put, List.setIfInBounds_toArray, List.set_cons_zero, List.set_cons_succ]
      refine wpAnyH_take (i := 3) (oi := { dst := some 120, op := Op.load 27 (Operand.tmp 6), type := 27, pos := "ref.go:92", after := #[{ on := 2, ground := Ground.guard }], guard := some (2, false) }) (v := .agg cs) rfl (by kernel_rfl) (by kernel_rfl) (by kernel_rfl) (fun _ _ _ h => h) (Or.inl ⟨by rfl, fun w_ hS_ => run_ldP (.tmp 6) rfl Gb rfl cs sz (GI5 w_ hS_)⟩) (by assumption) ?_
      simp only [Act.put, List.setIfInBounds_toArray, List.set_cons_zero, List.set_cons_succ]
      refine wpAnyH_take (i := 6) (oi := { dst := some 123, op := Op.move (Operand.tmp 0), type := 23, pos := "ref.go:92", after := #[{ on := 2, ground := Ground.guard }], guard := some (2, false) }) (v := ?_) rfl (by kernel_rfl) (by kernel_rfl) (by kernel_rfl) (fun _ _ _ h => h) (Or.inl ⟨by rfl, ?_⟩) (by assumption) ?_
      rotate_left
      · (intro w_ hS_; go_simp; try with_reducible rfl)
      simp only [Act.put, List.setIfInBounds_toArray, List.set_cons_zero, List.set_cons_succ]
      refine wpAnyH_take (i := 7) (oi := { dst := some 124, op := Op.convert 23 9 (Operand.tmp 123), type := 9, pos := "ref.go:92", after := #[{ on := 6, ground := Ground.data }, { on := 2, ground := Ground.guard }], guard := some (2, false) }) (v := ?_) rfl (by kernel_rfl) (by kernel_rfl) (by kernel_rfl) (fun _ _ _ h => h) (Or.inl ⟨by rfl, ?_⟩) (by assumption) ?_
      rotate_left
      · (intro w_ hS_; go_simp; try with_reducible rfl)
      simp only [Act.put, List.setIfInBounds_toArray, List.set_cons_zero, List.set_cons_succ]
      refine wpAnyH_ready (rs := [4]) (by kernel_rfl) (by simp) ?_
      refine AllReadyH.cons (o := { dst := some 121, op := Op.call { callee := Callee.value (Operand.func 16), args := #[Operand.tmp 120], argTypes := #[27] }, type := 23, pos := "ref.go:92", after := #[{ on := 3, ground := Ground.data }, { on := 2, ground := Ground.chain }, { on := 2, ground := Ground.guard }], guard := some (2, false) }) rfl (fun K hK => ?_) AllReadyH.nil
      go_simp
      refine hBy.mono ?_
      rintro en w6 ⟨A6, n6, rfl, o6, h6⟩
      have b6 : Below u5.heap.size u5 w6 := undrew h6
      have s6 := strs o6.same w6 (Below.refl _ _)
      dsimp only
      refine hK.out _ _ ?_ (fun hHeld => ?_)
      · exact b6
      clear hK K
      refine wpAnyH_ready (rs := [5]) (by kernel_rfl) (by simp) ?_
      refine AllReadyH.cons (o := { dst := some 122, op := Op.convert 23 9 (Operand.tmp 121), type := 9, pos := "ref.go:92", after := #[{ on := 4, ground := Ground.data }, { on := 2, ground := Ground.guard }], guard := some (2, false) }) rfl (fun K hK => ?_) AllReadyH.nil
      go_simp
      refine hK.out _ _ ?_ (fun hHeld => ?_)
      · exact b6
      clear hK K
      clear s6
      refine wpAnyH_take (i := 8) (oi := { dst := some 125, op := Op.binOp BinOp.neq 9 (Operand.tmp 122) (Operand.tmp 124) 9, type := 4, pos := "ref.go:92", after := #[{ on := 5, ground := Ground.data }, { on := 7, ground := Ground.data }, { on := 2, ground := Ground.guard }], guard := some (2, false) }) (v := ?_) rfl (by kernel_rfl) (by kernel_rfl) (by kernel_rfl) (fun _ _ _ h => h) (Or.inl ⟨by rfl, ?_⟩) (by assumption) ?_
      rotate_left
      · (intro w_ hS_; go_simp; try with_reducible rfl)
      simp only [Act.put, List.setIfInBounds_toArray, List.set_cons_zero, List.set_cons_succ]
      refine wpAnyH_take (i := 9) (oi := { dst := some 126, op := Op.pick (Operand.tmp 119) (Operand.const (Value.bool true)) (Operand.tmp 125), type := 4, pos := "ref.go:92", after := #[{ on := 2, ground := Ground.data }, { on := 8, ground := Ground.data }], guard := none }) (v := ?_) rfl (by kernel_rfl) (by kernel_rfl) (by kernel_rfl) (fun _ _ _ h => h) (Or.inl ⟨by rfl, ?_⟩) (by assumption) ?_
      rotate_left
      · (intro w_ hS_; go_simp; try with_reducible rfl)
      simp only [Act.put, List.setIfInBounds_toArray, List.set_cons_zero, List.set_cons_succ]
      refine wpAnyH_done (by kernel_rfl) ?_ _
      have gs6 := (b6.block _ (blk_ltP gs5)).trans gs5
      have bU6 := bthen bU5 b6
      have gi6 := GI5 w6 b6
      go_wp2_with (first
        | (refine wpList_stI rfl 27 (.tmp 2) (.tmp 127) rfl r zpkt rfl rfl _ _ gs6 info37 rfl (all15 rfl rfl rfl rfl rfl rfl rfl rfl rfl rfl rfl rfl rfl rfl rfl) ?_
           intro w9 hg9 hbut9 hbel9))
      exact bodyPost_ret (results_cellP rfl _ w9 r zpkt rfl rfl hg9 _ rfl) rfl (by obtain ⟨z1, z2⟩ := HZ.out _ HT.out; rw [z1, z2]; exact ⟨_, rfl, zero_pkt _, hbel9 _ _ bU6 hr0⟩)
end Go.Proofs.YtahkhideepncfaaDoor
/- What the document's Read comes to, kind by kind. (Written by wip/gen/refpkt5.py.) -/
namespace Go.Proofs.YtahkhideepncfaaDoor
open Go.RowKit
set_option linter.unusedVariables false

set_option maxRecDepth 100000 in
set_option maxHeartbeats 16000000 in
theorem rpr_o (A : Option Addr) (n c : Nat) (l : List UInt8) (w : World) (h : Rd w A n c l) (hn : n ≤ 65536) (hc : openCode l = 0) (C : List UInt8) (hC : opened l = C) (hC3 : 3 ≤ C.length) (hC6 : C.length ≤ 65536) (k f : Int) (hk : Item.at_ C 1 = k) (hff : Item.at_ C 2 = f) (h1 : k ≠ 1) (h2 : k ≠ 2) (h3 : k ≠ 3) (h4 : k ≠ 4) :
    Calls Tryd.prog 10 #[.slice A n c] w (PRead w ((Pkt.tried (Pkt.refC k f (C.drop 3)) l).getD Pkt.Pk.zero) (if (Pkt.tried (Pkt.refC k f (C.drop 3)) l).isSome = true then 0 else 2)) := by
  obtain ⟨q, hq⟩ : ∃ q, Pkt.refC k f (C.drop 3) = q := ⟨_, rfl⟩
  rw [hq]
  have HQ := hidT hq
  clear hq
  obtain ⟨z, hz⟩ : ∃ z, (Pkt.tried q l).getD Pkt.Pk.zero = z := ⟨_, rfl⟩
  obtain ⟨code, hcode⟩ : ∃ code : Int, (if (Pkt.tried q l).isSome = true then 0 else 2) = code := ⟨_, rfl⟩
  rw [hz, hcode]
  have HZ : Hid (∀ o, Pkt.tried q l = o → z = o.getD Pkt.Pk.zero ∧ code = if o.isSome = true then 0 else 2) := fun o ho => ⟨by rw [← ho, hz], by rw [← ho, hcode]⟩
  clear hz hcode
  have t1 : (k == 1) = false := by simpa using h1
  have t2 : (k == 2) = false := by simpa using h2
  have t3 : (k == 3) = false := by simpa using h3
  have t4 : (k == 4) = false := by simpa using h4
  obtain ⟨w0, hw0⟩ : ∃ w0, w.alloc (.cells #[.int .i64 0, .int .i64 0, .int .i64 0, .int .i64 0, .int .i64 0, .int .i64 0, .int .i64 0, .int .i64 0, .slice none 0 0, .slice none 0 0, .int .i64 0, .int .i64 0, .int .i64 0, .int .i64 0, .slice none 0 0] 27) = w0 := ⟨_, rfl⟩
  have b0 : Below w.heap.size w w0 := by rw [← hw0]; exact pkeep_alloc (Below.refl _ _) _
  have g0 : w0.heap[w.heap.size]? = some (.cells #[.int .i64 0, .int .i64 0, .int .i64 0, .int .i64 0, .int .i64 0, .int .i64 0, .int .i64 0, .int .i64 0, .slice none 0 0, .slice none 0 0, .int .i64 0, .int .i64 0, .int .i64 0, .int .i64 0, .slice none 0 0] 27 (0, 0)) := by rw [← hw0]; exact alloc_at _ _ _ rfl
  have HW0 := hidT hw0
  clear hw0
  have hO := ropen_any A n c l w0 (h.below b0) hn
  rw [hc, hC] at hO
  obtain ⟨N, hN⟩ : ∃ N, C.length = N := ⟨_, rfl⟩
  obtain ⟨r, hr⟩ : ∃ r, r = w.heap.size := ⟨_, rfl⟩
  rw [← hr] at g0
  have HR := hidT hr
  have hr0 : w.heap.size ≤ r := by omega
  clear hr
  go_enter Tryd.func10, Tryd.ntmps10
  go_wp2_with fail
  rw [HW0.out, ← HR.out]
  clear HW0
  with_reducible refine hO.mono ?_
  rintro en w1 ⟨A1, c1, rfl, r1, b1⟩
  clear hO
  rw [hN] at r1 hC3 hC6 ⊢
  have hcap := r1.2.1
  have hcle : c1 ≤ 9223372036854775807 := by have := r1.2.2.1; unfold maxLen at this; omega
  obtain ⟨b1_, o1, rfl, hcell⟩ := r1.at_ (by omega)
  obtain ⟨z1, hz1, e1⟩ := hcell 1 (by omega)
  obtain ⟨z2, hz2, e2⟩ := hcell 2 (by omega)
  have hzk : (z1.toNat : Int) = k := by rw [← hk, Item.at_, List.getD_eq_getElem?_getD, hz1]; rfl
  have hzf : (z2.toNat : Int) = f := by rw [← hff, Item.at_, List.getD_eq_getElem?_getD, hz2]; rfl
  have kb : 0 ≤ k ∧ k < 256 := by have := Num.byte_lt z1; omega
  have fb : 0 ≤ f ∧ f < 256 := by have := Num.byte_lt z2; omega
  obtain ⟨kb1, kb2⟩ := kb
  obtain ⟨fb1, fb2⟩ := fb
  rw [hzk] at e1
  rw [hzf] at e2
  have hbl := World.block_lt_of_cell? _ _ e1
  dsimp only at hbl
  have HN := hidT hN
  have q3 : decide ((N : Int) < 3) = false := by simp; omega
  have gs1 := (b1.block _ (blk_ltP g0)).trans g0
  have b01 := bthen b0 b1
  have hrl : r < w1.heap.size := blk_ltP gs1
  clear hcell hz1 hz2 hzk hzf hN hk hff g0 b0 b1
  have i1 : (1 : Int) < (N : Int) := by omega
  have i2 : (2 : Int) < (N : Int) := by omega
  go_wp2
  go_region
  skip
  have hbU : Below w.heap.size w (w1.alloc (.cells #[.int .i64 k, .int .i64 f, .int .i64 0, .int .i64 0, .int .i64 0, .int .i64 0, .int .i64 0, .int .i64 0, .slice none 0 0, .slice none 0 0, .int .i64 0, .int .i64 0, .int .i64 0, .int .i64 0, .slice none 0 0] 27)).drew := (b01.alloc b01.size _).drew
  have gi : (w1.alloc (.cells #[.int .i64 k, .int .i64 f, .int .i64 0, .int .i64 0, .int .i64 0, .int .i64 0, .int .i64 0, .int .i64 0, .slice none 0 0, .slice none 0 0, .int .i64 0, .int .i64 0, .int .i64 0, .int .i64 0, .slice none 0 0] 27)).drew.heap[w1.heap.size]? = some (.cells #[.int .i64 k, .int .i64 f, .int .i64 0, .int .i64 0, .int .i64 0, .int .i64 0, .int .i64 0, .int .i64 0, .slice none 0 0, .slice none 0 0, .int .i64 0, .int .i64 0, .int .i64 0, .int .i64 0, .slice none 0 0] 27 (0, 0)) := alloc_at w1 _ _ rfl
  have gs : (w1.alloc (.cells #[.int .i64 k, .int .i64 f, .int .i64 0, .int .i64 0, .int .i64 0, .int .i64 0, .int .i64 0, .int .i64 0, .slice none 0 0, .slice none 0 0, .int .i64 0, .int .i64 0, .int .i64 0, .int .i64 0, .slice none 0 0] 27)).drew.heap[r]? = some (.cells #[.int .i64 0, .int .i64 0, .int .i64 0, .int .i64 0, .int .i64 0, .int .i64 0, .int .i64 0, .int .i64 0, .slice none 0 0, .slice none 0 0, .int .i64 0, .int .i64 0, .int .i64 0, .int .i64 0, .slice none 0 0] 27 (0, 0)) := (alloc_old w1 _ _ hrl).trans gs1
  have rU : Rd (w1.alloc (.cells #[.int .i64 k, .int .i64 f, .int .i64 0, .int .i64 0, .int .i64 0, .int .i64 0, .int .i64 0, .int .i64 0, .slice none 0 0, .slice none 0 0, .int .i64 0, .int .i64 0, .int .i64 0, .int .i64 0, .slice none 0 0] 27)).drew (some ⟨b1_, o1, none⟩) N c1 C := r1.below ((Below.refl w1.heap.size w1).alloc (Nat.le_refl _) _).drew
  obtain ⟨Gb, hGb⟩ : ∃ Gb, Gb = w1.heap.size := ⟨_, rfl⟩
  rw [← hGb] at gi ⊢
  have hGr : r ≠ Gb := by omega
  have hbG : ¬ b1_ = Gb := by omega
  have hbG2 : ¬ Gb = b1_ := by omega
  have hG0 : w.heap.size ≤ Gb := by have := b01.size; omega
  generalize (w1.alloc (.cells #[.int .i64 k, .int .i64 f, .int .i64 0, .int .i64 0, .int .i64 0, .int .i64 0, .int .i64 0, .int .i64 0, .slice none 0 0, .slice none 0 0, .int .i64 0, .int .i64 0, .int .i64 0, .int .i64 0, .slice none 0 0] 27)).drew = u at hbU gi gs rU ⊢
  clear gs1 b01 hrl hGb r1 e1 e2 hbl
  obtain ⟨M, hM⟩ : ∃ M, N - 3 = M := ⟨_, rfl⟩
  have s3 : (3 : Int) ≤ (N : Int) := by omega
  have hMN : N = M + 3 := by omega
  have HMN := hidT hMN
  clear hMN
  obtain ⟨X, hX⟩ : ∃ X, (if c1 = 3 then some (⟨b1_, o1, none⟩ : Addr) else some ⟨b1_, o1 + 3, none⟩) = X := ⟨_, rfl⟩
  have rd : Rd u X M (c1 - 3) (C.drop 3) := by rw [← hX, ← hM]; exact cut3 rU hC3
  obtain ⟨⟨y0, y1⟩, Y1, Y2⟩ := cells15 gi
  clear Y1 Y2 y1
  have hqv : q = ⟨k, f, Item.It.zero, 0, 0, 0, 0, []⟩ := by rw [← HQ.out]; simp [Pkt.refC, h1, h2, h3, h4]
  have ip : IsPkt u (.agg #[.int .i64 k, .int .i64 f, .int .i64 0, .int .i64 0, .int .i64 0, .int .i64 0, .int .i64 0, .int .i64 0, .slice none 0 0, .slice none 0 0, .int .i64 0, .int .i64 0, .int .i64 0, .int .i64 0, .slice none 0 0]) q := by rw [hqv]; exact nil_pk u k f 0 0 0 0
  have IPB : Hid (∀ w2 w9, Below u.heap.size u w2 → But r w2 w9 → IsPkt w9 (.agg #[.int .i64 k, .int .i64 f, .int .i64 0, .int .i64 0, .int .i64 0, .int .i64 0, .int .i64 0, .int .i64 0, .slice none 0 0, .slice none 0 0, .int .i64 0, .int .i64 0, .int .i64 0, .int .i64 0, .slice none 0 0]) q) := fun w2 w9 hb2 hbut => by rw [hqv]; exact nil_pk w9 k f 0 0 0 0
  obtain ⟨cs, hcs⟩ : ∃ cs : Array Value, #[.int .i64 k, .int .i64 f, .int .i64 0, .int .i64 0, .int .i64 0, .int .i64 0, .int .i64 0, .int .i64 0, .slice none 0 0, .slice none 0 0, .int .i64 0, .int .i64 0, .int .i64 0, .int .i64 0, .slice none 0 0] = cs := ⟨_, rfl⟩
  have sz : cs.size = 15 := by rw [← hcs]; rfl
  have oc : cs.all (·.oneCell') = true := by rw [← hcs]; exact (all15 rfl rfl rfl rfl rfl rfl rfl rfl rfl rfl rfl rfl rfl rfl rfl)
  skip
  rw [hcs] at ip IPB
  have gi := (by rw [hcs] at gi; exact gi : u.heap[Gb]? = some (.cells cs 27 (0, 0)))
  clear hcs
  clear hqv HQ h1 h2 h3 h4
  have hM := rpmay_any _ q u ip
  go_wp2_with (refine wpList_ldP rfl (.tmp 6) rfl Gb rfl cs sz gi ?_)
  with_reducible refine hM.mono ?_
  rintro en u5 ⟨rfl, b5⟩
  have gs5 := (b5.block _ (blk_ltP gs)).trans gs
  have gi5 := (b5.block _ (blk_ltP gi)).trans gi
  have bU5 := bthen hbU b5
  have ip5 := ip.below b5
  clear hM gs
  have GI5 := fun w' (hb : Below u5.heap.size u5 w') => (hb.block _ (blk_ltP gi5)).trans gi5
  skip
  cases hm : Pkt.may q with
  | false =>
    have HT : Hid (Pkt.tried q l = none) := hidT (by rw [Pkt.tried, if_neg (by rw [hm]; simp)])
    go_wp2_with fail
    refine wp_region_held_drew (S := fun w' => Below u5.heap.size u5 w') (by kernel_rfl) ?_ (fun hHeld => ?_)
    · exact (Below.refl _ _).drew
    refine wpAnyH_take (i := 0) (oi := { dst := some 117, op := Op.move (Operand.tmp 19), type := 4, pos := "ref.go:92", after := #[], guard := none }) (v := ?_) rfl (by kernel_rfl) (by kernel_rfl) (by kernel_rfl) (fun _ _ _ h => h) (Or.inl ⟨by rfl, ?_⟩) (by assumption) ?_
    rotate_left
    · (intro w_ hS_; go_simp; try with_reducible rfl)
    simp only [Act.put, List.setIfInBounds_toArray, List.set_cons_zero, List.set_cons_succ]
    refine wpAnyH_take (i := 1) (oi := { dst := some 118, op := Op.unOp UnOp.not 4 (Operand.tmp 117), type := 4, pos := "ref.go:92", after := #[{ on := 0, ground := Ground.data }], guard := none }) (v := ?_) rfl (by kernel_rfl) (by kernel_rfl) (by kernel_rfl) (fun _ _ _ h => h) (Or.inl ⟨by rfl, ?_⟩) (by assumption) ?_
    rotate_left
    · (intro w_ hS_; go_simp; try with_reducible rfl)
    simp only [Act.put, List.setIfInBounds_toArray, List.set_cons_zero, List.set_cons_succ]
    refine wpAnyH_take (i := 2) (oi := { dst := some 119, op := Op.move (Operand.tmp 118), type := 4, pos := "ref.go:92", after := #[{ on := 1, ground := Ground.data }], guard := none }) (v := ?_) rfl (by kernel_rfl) (by kernel_rfl) (by kernel_rfl) (fun _ _ _ h => h) (Or.inl ⟨by rfl, ?_⟩) (by assumption) ?_
    rotate_left
    · (intro w_ hS_; go_simp; try with_reducible rfl)
    simp only [Act.put, List.setIfInBounds_toArray, List.set_cons_zero, List.set_cons_succ]
    refine wpAnyH_take (i := 3) (oi := { dst := some 120, op := Op.load 27 (Operand.tmp 6), type := 27, pos := "ref.go:92", after := #[{ on := 2, ground := Ground.guard }], guard := some (2, false) }) (v := undef) rfl (by kernel_rfl) (by kernel_rfl) (by kernel_rfl) (fun _ _ _ h => h) (Or.inr ⟨by rfl, rfl⟩) (by assumption) ?_
    simp only [Act.put, List.setIfInBounds_toArray, List.set_cons_zero, List.set_cons_succ]
    refine wpAnyH_take (i := 4) (oi := { dst := some 121, op := Op.call { callee := Callee.value (Operand.func 16), args := #[Operand.tmp 120], argTypes := #[27] }, type := 23, pos := "ref.go:92", after := #[{ on := 3, ground := Ground.data }, { on := 2, ground := Ground.chain }, { on := 2, ground := Ground.guard }], guard := some (2, false) }) (v := undef) rfl (by kernel_rfl) (by kernel_rfl) (by kernel_rfl) (fun _ _ _ h => h) (Or.inr ⟨by rfl, rfl⟩) (by assumption) ?_
    simp only [Act.put, List.setIfInBounds_toArray, List.set_cons_zero, List.set_cons_succ]
    refine wpAnyH_take (i := 5) (oi := { dst := some 122, op := Op.convert 23 9 (Operand.tmp 121), type := 9, pos := "ref.go:92", after := #[{ on := 4, ground := Ground.data }, { on := 2, ground := Ground.guard }], guard := some (2, false) }) (v := undef) rfl (by kernel_rfl) (by kernel_rfl) (by kernel_rfl) (fun _ _ _ h => h) (Or.inr ⟨by rfl, rfl⟩) (by assumption) ?_
    simp only [Act.put, List.setIfInBounds_toArray, List.set_cons_zero, List.set_cons_succ]
    refine wpAnyH_take (i := 6) (oi := { dst := some 123, op := Op.move (Operand.tmp 0), type := 23, pos := "ref.go:92", after := #[{ on := 2, ground := Ground.guard }], guard := some (2, false) }) (v := undef) rfl (by kernel_rfl) (by kernel_rfl) (by kernel_rfl) (fun _ _ _ h => h) (Or.inr ⟨by rfl, rfl⟩) (by assumption) ?_
    simp only [Act.put, List.setIfInBounds_toArray, List.set_cons_zero, List.set_cons_succ]
    refine wpAnyH_take (i := 7) (oi := { dst := some 124, op := Op.convert 23 9 (Operand.tmp 123), type := 9, pos := "ref.go:92", after := #[{ on := 6, ground := Ground.data }, { on := 2, ground := Ground.guard }], guard := some (2, false) }) (v := undef) rfl (by kernel_rfl) (by kernel_rfl) (by kernel_rfl) (fun _ _ _ h => h) (Or.inr ⟨by rfl, rfl⟩) (by assumption) ?_
    simp only [Act.put, List.setIfInBounds_toArray, List.set_cons_zero, List.set_cons_succ]
    refine wpAnyH_take (i := 8) (oi := { dst := some 125, op := Op.binOp BinOp.neq 9 (Operand.tmp 122) (Operand.tmp 124) 9, type := 4, pos := "ref.go:92", after := #[{ on := 5, ground := Ground.data }, { on := 7, ground := Ground.data }, { on := 2, ground := Ground.guard }], guard := some (2, false) }) (v := undef) rfl (by kernel_rfl) (by kernel_rfl) (by kernel_rfl) (fun _ _ _ h => h) (Or.inr ⟨by rfl, rfl⟩) (by assumption) ?_
    simp only [Act.put, List.setIfInBounds_toArray, List.set_cons_zero, List.set_cons_succ]
    refine wpAnyH_take (i := 9) (oi := { dst := some 126, op := Op.pick (Operand.tmp 119) (Operand.const (Value.bool true)) (Operand.tmp 125), type := 4, pos := "ref.go:92", after := #[{ on := 2, ground := Ground.data }, { on := 8, ground := Ground.data }], guard := none }) (v := ?_) rfl (by kernel_rfl) (by kernel_rfl) (by kernel_rfl) (fun _ _ _ h => h) (Or.inl ⟨by rfl, ?_⟩) (by assumption) ?_
    rotate_left
    · (intro w_ hS_; go_simp; try with_reducible rfl)
    simp only [Act.put, List.setIfInBounds_toArray, List.set_cons_zero, List.set_cons_succ]
    refine wpAnyH_done (by kernel_rfl) ?_ _
    go_wp2_with (first
      | (refine wpList_stI rfl 27 (.tmp 2) (.tmp 127) rfl r zpkt rfl rfl _ _ gs5 info37 rfl (all15 rfl rfl rfl rfl rfl rfl rfl rfl rfl rfl rfl rfl rfl rfl rfl) ?_
         intro w9 hg9 hbut9 hbel9))
    exact bodyPost_ret (results_cellP rfl _ w9 r zpkt rfl rfl hg9 _ rfl) rfl (by obtain ⟨z1, z2⟩ := HZ.out _ HT.out; rw [z1, z2]; exact ⟨_, rfl, zero_pkt _, hbel9 _ _ (bthen bU5 (Below.refl _ _).drew) hr0⟩)
  | true =>
    obtain ⟨BX, HBX⟩ : ∃ BX, Hid (Pkt.bytes q = BX) := ⟨_, hidT rfl⟩
    have hBy := rpbytes_any (.agg cs) q u5.drew ip5
    rw [HBX.out] at hBy
    have sl := fun w' (hb : Below u5.heap.size u5 w') => strs (h.below bU5) w' hb
    have qb := str_beq BX l
    by_cases hbx : BX = l
    · skip
      have HT : Hid (Pkt.tried q l = some q) := hidT (by rw [Pkt.tried, if_pos ⟨hm, HBX.out.trans hbx⟩])
      rw [decide_eq_true hbx] at qb
      clear hbx
      have qn : ((str BX).toList != (str l).toList) = false := by simp only [bne, qb]; rfl
      go_wp2_with fail
      refine wp_region_held_drew (S := fun w' => Below u5.heap.size u5 w') (by kernel_rfl) ?_ (fun hHeld => ?_)
      · exact (Below.refl _ _).drew
      refine wpAnyH_take (i := 0) (oi := { dst := some 117, op := Op.move (Operand.tmp 19), type := 4, pos := "ref.go:92", after := #[], guard := none }) (v := ?_) rfl (by kernel_rfl) (by kernel_rfl) (by kernel_rfl) (fun _ _ _ h => h) (Or.inl ⟨by rfl, ?_⟩) (by assumption) ?_
      rotate_left
      · (intro w_ hS_; go_simp; try with_reducible rfl)
      simp only [Act.put, List.setIfInBounds_toArray, List.set_cons_zero, List.set_cons_succ]
      refine wpAnyH_take (i := 1) (oi := { dst := some 118, op := Op.unOp UnOp.not 4 (Operand.tmp 117), type := 4, pos := "ref.go:92", after := #[{ on := 0, ground := Ground.data }], guard := none }) (v := ?_) rfl (by kernel_rfl) (by kernel_rfl) (by kernel_rfl) (fun _ _ _ h => h) (Or.inl ⟨by rfl, ?_⟩) (by assumption) ?_
      rotate_left
      · (intro w_ hS_; go_simp; try with_reducible rfl)
      simp only [Act.put, List.setIfInBounds_toArray, List.set_cons_zero, List.set_cons_succ]
      refine wpAnyH_take (i := 2) (oi := { dst := some 119, op := Op.move (Operand.tmp 118), type := 4, pos := "ref.go:92", after := #[{ on := 1, ground := Ground.data }], guard := none }) (v := ?_) rfl (by kernel_rfl) (by kernel_rfl) (by kernel_rfl) (fun _ _ _ h => h) (Or.inl ⟨by rfl, ?_⟩) (by assumption) ?_
      rotate_left
      · (intro w_ hS_; go_simp; try with_reducible rfl)
      simp only [Act.put, List.setIfInBounds_toArray, List.set_cons_zero, List.set_cons_succ]
      refine wpAnyH_take (i := 3) (oi := { dst := some 120, op := Op.load 27 (Operand.tmp 6), type := 27, pos := "ref.go:92", after := #[{ on := 2, ground := Ground.guard }], guard := some (2, false) }) (v := .agg cs) rfl (by kernel_rfl) (by kernel_rfl) (by kernel_rfl) (fun _ _ _ h => h) (Or.inl ⟨by rfl, fun w_ hS_ => run_ldP (.tmp 6) rfl Gb rfl cs sz (GI5 w_ hS_)⟩) (by assumption) ?_
      simp only [Act.put, List.setIfInBounds_toArray, List.set_cons_zero, List.set_cons_succ]
      refine wpAnyH_take (i := 6) (oi := { dst := some 123, op := Op.move (Operand.tmp 0), type := 23, pos := "ref.go:92", after := #[{ on := 2, ground := Ground.guard }], guard := some (2, false) }) (v := ?_) rfl (by kernel_rfl) (by kernel_rfl) (by kernel_rfl) (fun _ _ _ h => h) (Or.inl ⟨by rfl, ?_⟩) (by assumption) ?_
      rotate_left
      · (intro w_ hS_; go_simp; try with_reducible rfl)
      simp only [Act.put, List.setIfInBounds_toArray, List.set_cons_zero, List.set_cons_succ]
      refine wpAnyH_take (i := 7) (oi := { dst := some 124, op := Op.convert 23 9 (Operand.tmp 123), type := 9, pos := "ref.go:92", after := #[{ on := 6, ground := Ground.data }, { on := 2, ground := Ground.guard }], guard := some (2, false) }) (v := ?_) rfl (by kernel_rfl) (by kernel_rfl) (by kernel_rfl) (fun _ _ _ h => h) (Or.inl ⟨by rfl, ?_⟩) (by assumption) ?_
      rotate_left
      · (intro w_ hS_; go_simp; try with_reducible rfl)
      simp only [Act.put, List.setIfInBounds_toArray, List.set_cons_zero, List.set_cons_succ]
      refine wpAnyH_ready (rs := [4]) (by kernel_rfl) (by simp) ?_
      refine AllReadyH.cons (o := { dst := some 121, op := Op.call { callee := Callee.value (Operand.func 16), args := #[Operand.tmp 120], argTypes := #[27] }, type := 23, pos := "ref.go:92", after := #[{ on := 3, ground := Ground.data }, { on := 2, ground := Ground.chain }, { on := 2, ground := Ground.guard }], guard := some (2, false) }) rfl (fun K hK => ?_) AllReadyH.nil
      go_simp
      refine hBy.mono ?_
      rintro en w6 ⟨A6, n6, rfl, o6, h6⟩
      have b6 : Below u5.heap.size u5 w6 := undrew h6
      have s6 := strs o6.same w6 (Below.refl _ _)
      dsimp only
      refine hK.out _ _ ?_ (fun hHeld => ?_)
      · exact b6
      clear hK K
      refine wpAnyH_ready (rs := [5]) (by kernel_rfl) (by simp) ?_
      refine AllReadyH.cons (o := { dst := some 122, op := Op.convert 23 9 (Operand.tmp 121), type := 9, pos := "ref.go:92", after := #[{ on := 4, ground := Ground.data }, { on := 2, ground := Ground.guard }], guard := some (2, false) }) rfl (fun K hK => ?_) AllReadyH.nil
      go_simp
      refine hK.out _ _ ?_ (fun hHeld => ?_)
      · exact b6
      clear hK K
      clear s6
      refine wpAnyH_take (i := 8) (oi := { dst := some 125, op := Op.binOp BinOp.neq 9 (Operand.tmp 122) (Operand.tmp 124) 9, type := 4, pos := "ref.go:92", after := #[{ on := 5, ground := Ground.data }, { on := 7, ground := Ground.data }, { on := 2, ground := Ground.guard }], guard := some (2, false) }) (v := ?_) rfl (by kernel_rfl) (by kernel_rfl) (by kernel_rfl) (fun _ _ _ h => h) (Or.inl ⟨by rfl, ?_⟩) (by assumption) ?_
      rotate_left
      · (intro w_ hS_; go_simp; try with_reducible rfl)
      simp only [Act.put, List.setIfInBounds_toArray, List.set_cons_zero, List.set_cons_succ]
      refine wpAnyH_take (i := 9) (oi := { dst := some 126, op := Op.pick (Operand.tmp 119) (Operand.const (Value.bool true)) (Operand.tmp 125), type := 4, pos := "ref.go:92", after := #[{ on := 2, ground := Ground.data }, { on := 8, ground := Ground.data }], guard := none }) (v := ?_) rfl (by kernel_rfl) (by kernel_rfl) (by kernel_rfl) (fun _ _ _ h => h) (Or.inl ⟨by rfl, ?_⟩) (by assumption) ?_
      rotate_left
      · (intro w_ hS_; go_simp; try with_reducible rfl)
      simp only [Act.put, List.setIfInBounds_toArray, List.set_cons_zero, List.set_cons_succ]
      refine wpAnyH_done (by kernel_rfl) ?_ _
      have gs6 := (b6.block _ (blk_ltP gs5)).trans gs5
      have bU6 := bthen bU5 b6
      have gi6 := GI5 w6 b6
      go_wp2_with (first
        | (refine wpList_ldP rfl (.tmp 6) rfl Gb rfl cs sz gi6 ?_)
        | (refine wpList_stI rfl 27 (.tmp 2) (.tmp 128) rfl r cs rfl rfl _ _ gs6 (by rw [sz]; exact info37) (by rw [sz]; rfl) oc ?_
           intro w9 hg9 hbut9 hbel9))
      exact bodyPost_ret (results_cellP rfl _ w9 r cs sz rfl hg9 _ rfl) rfl (by obtain ⟨z1, z2⟩ := HZ.out _ HT.out; rw [z1, z2]; exact ⟨_, rfl, IPB.out w6 w9 (bthen b5 b6) hbut9, hbel9 _ _ bU6 hr0⟩)
    · skip
      have HT : Hid (Pkt.tried q l = none) := hidT (by rw [Pkt.tried, if_neg (fun hh => hbx (HBX.out.symm.trans hh.2))])
      rw [decide_eq_false hbx] at qb
      clear hbx
      have qn : ((str BX).toList != (str l).toList) = true := by simp only [bne, qb]; rfl
      go_wp2_with fail
      refine wp_region_held_drew (S := fun w' => Below u5.heap.size u5 w') (by kernel_rfl) ?_ (fun hHeld => ?_)
      · exact (Below.refl _ _).drew
      refine wpAnyH_take (i := 0) (oi := { dst := some 117, op := Op.move (Operand.tmp 19), type := 4, pos := "ref.go:92", after := #[], guard := none }) (v := ?_) rfl (by kernel_rfl) (by kernel_rfl) (by kernel_rfl) (fun _ _ _ h => h) (Or.inl ⟨by rfl, ?_⟩) (by assumption) ?_
      rotate_left
      · (intro w_ hS_; go_simp; try with_reducible rfl)
      simp only [Act.put, List.setIfInBounds_toArray, List.set_cons_zero, List.set_cons_succ]
      refine wpAnyH_take (i := 1) (oi := { dst := some 118, op := Op.unOp UnOp.not 4 (Operand.tmp 117), type := 4, pos := "ref.go:92", after := #[{ on := 0, ground := Ground.data }], guard := none }) (v := ?_) rfl (by kernel_rfl) (by kernel_rfl) (by kernel_rfl) (fun _ _ _ h => h) (Or.inl ⟨by rfl, ?_⟩) (by assumption) ?_
      rotate_left
      · (intro w_ hS_; go_simp; try with_reducible rfl)
      simp only [Act.put, List.setIfInBounds_toArray, List.set_cons_zero, List.set_cons_succ]
      refine wpAnyH_take (i := 2) (oi := { dst := some 119, op := Op.move (Operand.tmp 118), type := 4, pos := "ref.go:92", after := #[{ on := 1, ground := Ground.data }], guard := none }) (v := ?_) rfl (by kernel_rfl) (by kernel_rfl) (by kernel_rfl) (fun _ _ _ h => h) (Or.inl ⟨by rfl, ?_⟩) (by assumption) ?_
      rotate_left
      · (intro w_ hS_; go_simp; try with_reducible rfl)
      simp only [Act.put, List.setIfInBounds_toArray, List.set_cons_zero, List.set_cons_succ]
      refine wpAnyH_take (i := 3) (oi := { dst := some 120, op := Op.load 27 (Operand.tmp 6), type := 27, pos := "ref.go:92", after := #[{ on := 2, ground := Ground.guard }], guard := some (2, false) }) (v := .agg cs) rfl (by kernel_rfl) (by kernel_rfl) (by kernel_rfl) (fun _ _ _ h => h) (Or.inl ⟨by rfl, fun w_ hS_ => run_ldP (.tmp 6) rfl Gb rfl cs sz (GI5 w_ hS_)⟩) (by assumption) ?_
      simp only [Act.put, List.setIfInBounds_toArray, List.set_cons_zero, List.set_cons_succ]
      refine wpAnyH_take (i := 6) (oi := { dst := some 123, op := Op.move (Operand.tmp 0), type := 23, pos := "ref.go:92", after := #[{ on := 2, ground := Ground.guard }], guard := some (2, false) }) (v := ?_) rfl (by kernel_rfl) (by kernel_rfl) (by kernel_rfl) (fun _ _ _ h => h) (Or.inl ⟨by rfl, ?_⟩) (by assumption) ?_
      rotate_left
      · (intro w_ hS_; go_simp; try with_reducible rfl)
      simp only [Act.put, List.setIfInBounds_toArray, List.set_cons_zero, List.set_cons_succ]
      refine wpAnyH_take (i := 7) (oi := { dst := some 124, op := Op.convert 23 9 (Operand.tmp 123), type := 9, pos := "ref.go:92", after := #[{ on := 6, ground := Ground.data }, { on := 2, ground := Ground.guard }], guard := some (2, false) }) (v := ?_) rfl (by kernel_rfl) (by kernel_rfl) (by kernel_rfl) (fun _ _ _ h => h) (Or.inl ⟨by rfl, ?_⟩) (by assumption) ?_
      rotate_left
      · (intro w_ hS_; go_simp; try with_reducible rfl)
      simp only [Act.put, List.setIfInBounds_toArray, List.set_cons_zero, List.set_cons_succ]
      refine wpAnyH_ready (rs := [4]) (by kernel_rfl) (by simp) ?_
      refine AllReadyH.cons (o := { dst := some 121, op := Op.call { callee := Callee.value (Operand.func 16), args := #[Operand.tmp 120], argTypes := #[27] }, type := 23, pos := "ref.go:92", after := #[{ on := 3, ground := Ground.data }, { on := 2, ground := Ground.chain }, { on := 2, ground := Ground.guard }], guard := some (2, false) }) rfl (fun K hK => ?_) AllReadyH.nil
      go_simp
      refine hBy.mono ?_
      rintro en w6 ⟨A6, n6, rfl, o6, h6⟩
      have b6 : Below u5.heap.size u5 w6 := undrew h6
      have s6 := strs o6.same w6 (Below.refl _ _)
      dsimp only
      refine hK.out _ _ ?_ (fun hHeld => ?_)
      · exact b6
      clear hK K
      refine wpAnyH_ready (rs := [5]) (by kernel_rfl) (by simp) ?_
      refine AllReadyH.cons (o := { dst := some 122, op := Op.convert 23 9 (Operand.tmp 121), type := 9, pos := "ref.go:92", after := #[{ on := 4, ground := Ground.data }, { on := 2, ground := Ground.guard }], guard := some (2, false) }) rfl (fun K hK => ?_) AllReadyH.nil
      go_simp
      refine hK.out _ _ ?_ (fun hHeld => ?_)
      · exact b6
      clear hK K
      clear s6
      refine wpAnyH_take (i := 8) (oi := { dst := some 125, op := Op.binOp BinOp.neq 9 (Operand.tmp 122) (Operand.tmp 124) 9, type := 4, pos := "ref.go:92", after := #[{ on := 5, ground := Ground.data }, { on := 7, ground := Ground.data }, { on := 2, ground := Ground.guard }], guard := some (2, false) }) (v := ?_) rfl (by kernel_rfl) (by kernel_rfl) (by kernel_rfl) (fun _ _ _ h => h) (Or.inl ⟨by rfl, ?_⟩) (by assumption) ?_
      rotate_left
      · (intro w_ hS_; go_simp; try with_reducible rfl)
      simp only [Act.put, List.setIfInBounds_toArray, List.set_cons_zero, List.set_cons_succ]
      refine wpAnyH_take (i := 9) (oi := { dst := some 126, op := Op.pick (Operand.tmp 119) (Operand.const (Value.bool true)) (Operand.tmp 125), type := 4, pos := "ref.go:92", after := #[{ on := 2, ground := Ground.data }, { on := 8, ground := Ground.data }], guard := none }) (v := ?_) rfl (by kernel_rfl) (by kernel_rfl) (by kernel_rfl) (fun _ _ _ h => h) (Or.inl ⟨by rfl, ?_⟩) (by assumption) ?_
      rotate_left
      · (intro w_ hS_; go_simp; try with_reducible rfl)
      simp only [Act.put, List.setIfInBounds_toArray, List.set_cons_zero, List.set_cons_succ]
      refine wpAnyH_done (by kernel_rfl) ?_ _
      have gs6 := (b6.block _ (blk_ltP gs5)).trans gs5
      have bU6 := bthen bU5 b6
      have gi6 := GI5 w6 b6
      go_wp2_with (first
        | (refine wpList_stI rfl 27 (.tmp 2) (.tmp 127) rfl r zpkt rfl rfl _ _ gs6 info37 rfl (all15 rfl rfl rfl rfl rfl rfl rfl rfl rfl rfl rfl rfl rfl rfl rfl) ?_
           intro w9 hg9 hbut9 hbel9))
      exact bodyPost_ret (results_cellP rfl _ w9 r zpkt rfl rfl hg9 _ rfl) rfl (by obtain ⟨z1, z2⟩ := HZ.out _ HT.out; rw [z1, z2]; exact ⟨_, rfl, zero_pkt _, hbel9 _ _ bU6 hr0⟩)
set_option maxRecDepth 100000 in
set_option maxHeartbeats 16000000 in
theorem rpr_3o (A : Option Addr) (n c : Nat) (l : List UInt8) (w : World) (h : Rd w A n c l) (hn : n ≤ 65536) (hc : openCode l = 0) (C : List UInt8) (hC : opened l = C) (hC3 : 3 ≤ C.length) (hC6 : C.length ≤ 65536) (k f : Int) (hk : Item.at_ C 1 = k) (hff : Item.at_ C 2 = f) (hkv : 3 = k) (h10 : C.length ≠ 13) :
    Calls Tryd.prog 10 #[.slice A n c] w (PRead w ((Pkt.tried (Pkt.refC k f (C.drop 3)) l).getD Pkt.Pk.zero) (if (Pkt.tried (Pkt.refC k f (C.drop 3)) l).isSome = true then 0 else 2)) := by
  obtain ⟨q, hq⟩ : ∃ q, Pkt.refC k f (C.drop 3) = q := ⟨_, rfl⟩
  rw [hq]
  have HQ := hidT hq
  clear hq
  obtain ⟨z, hz⟩ : ∃ z, (Pkt.tried q l).getD Pkt.Pk.zero = z := ⟨_, rfl⟩
  obtain ⟨code, hcode⟩ : ∃ code : Int, (if (Pkt.tried q l).isSome = true then 0 else 2) = code := ⟨_, rfl⟩
  rw [hz, hcode]
  have HZ : Hid (∀ o, Pkt.tried q l = o → z = o.getD Pkt.Pk.zero ∧ code = if o.isSome = true then 0 else 2) := fun o ho => ⟨by rw [← ho, hz], by rw [← ho, hcode]⟩
  clear hz hcode
  obtain ⟨w0, hw0⟩ : ∃ w0, w.alloc (.cells #[.int .i64 0, .int .i64 0, .int .i64 0, .int .i64 0, .int .i64 0, .int .i64 0, .int .i64 0, .int .i64 0, .slice none 0 0, .slice none 0 0, .int .i64 0, .int .i64 0, .int .i64 0, .int .i64 0, .slice none 0 0] 27) = w0 := ⟨_, rfl⟩
  have b0 : Below w.heap.size w w0 := by rw [← hw0]; exact pkeep_alloc (Below.refl _ _) _
  have g0 : w0.heap[w.heap.size]? = some (.cells #[.int .i64 0, .int .i64 0, .int .i64 0, .int .i64 0, .int .i64 0, .int .i64 0, .int .i64 0, .int .i64 0, .slice none 0 0, .slice none 0 0, .int .i64 0, .int .i64 0, .int .i64 0, .int .i64 0, .slice none 0 0] 27 (0, 0)) := by rw [← hw0]; exact alloc_at _ _ _ rfl
  have HW0 := hidT hw0
  clear hw0
  have hO := ropen_any A n c l w0 (h.below b0) hn
  rw [hc, hC] at hO
  obtain ⟨N, hN⟩ : ∃ N, C.length = N := ⟨_, rfl⟩
  obtain ⟨r, hr⟩ : ∃ r, r = w.heap.size := ⟨_, rfl⟩
  rw [← hr] at g0
  have HR := hidT hr
  have hr0 : w.heap.size ≤ r := by omega
  clear hr
  go_enter Tryd.func10, Tryd.ntmps10
  go_wp2_with fail
  rw [HW0.out, ← HR.out]
  clear HW0
  with_reducible refine hO.mono ?_
  rintro en w1 ⟨A1, c1, rfl, r1, b1⟩
  clear hO
  rw [hN] at r1 hC3 hC6 ⊢
  have hcap := r1.2.1
  have hcle : c1 ≤ 9223372036854775807 := by have := r1.2.2.1; unfold maxLen at this; omega
  obtain ⟨b1_, o1, rfl, hcell⟩ := r1.at_ (by omega)
  obtain ⟨z1, hz1, e1⟩ := hcell 1 (by omega)
  obtain ⟨z2, hz2, e2⟩ := hcell 2 (by omega)
  have hzk : (z1.toNat : Int) = k := by rw [← hk, Item.at_, List.getD_eq_getElem?_getD, hz1]; rfl
  have hzf : (z2.toNat : Int) = f := by rw [← hff, Item.at_, List.getD_eq_getElem?_getD, hz2]; rfl
  have kb : 0 ≤ k ∧ k < 256 := by have := Num.byte_lt z1; omega
  have fb : 0 ≤ f ∧ f < 256 := by have := Num.byte_lt z2; omega
  obtain ⟨kb1, kb2⟩ := kb
  obtain ⟨fb1, fb2⟩ := fb
  rw [hzk] at e1
  rw [hzf] at e2
  have hbl := World.block_lt_of_cell? _ _ e1
  dsimp only at hbl
  have HN := hidT hN
  have q3 : decide ((N : Int) < 3) = false := by simp; omega
  have gs1 := (b1.block _ (blk_ltP g0)).trans g0
  have b01 := bthen b0 b1
  have hrl : r < w1.heap.size := blk_ltP gs1
  clear hcell hz1 hz2 hzk hzf hN hk hff g0 b0 b1
  subst hkv
  have i1 : (1 : Int) < (N : Int) := by omega
  have i2 : (2 : Int) < (N : Int) := by omega
  go_wp2
  go_region
  skip
  have hbU : Below w.heap.size w (w1.alloc (.cells #[.int .i64 3, .int .i64 f, .int .i64 0, .int .i64 0, .int .i64 0, .int .i64 0, .int .i64 0, .int .i64 0, .slice none 0 0, .slice none 0 0, .int .i64 0, .int .i64 0, .int .i64 0, .int .i64 0, .slice none 0 0] 27)).drew := (b01.alloc b01.size _).drew
  have gi : (w1.alloc (.cells #[.int .i64 3, .int .i64 f, .int .i64 0, .int .i64 0, .int .i64 0, .int .i64 0, .int .i64 0, .int .i64 0, .slice none 0 0, .slice none 0 0, .int .i64 0, .int .i64 0, .int .i64 0, .int .i64 0, .slice none 0 0] 27)).drew.heap[w1.heap.size]? = some (.cells #[.int .i64 3, .int .i64 f, .int .i64 0, .int .i64 0, .int .i64 0, .int .i64 0, .int .i64 0, .int .i64 0, .slice none 0 0, .slice none 0 0, .int .i64 0, .int .i64 0, .int .i64 0, .int .i64 0, .slice none 0 0] 27 (0, 0)) := alloc_at w1 _ _ rfl
  have gs : (w1.alloc (.cells #[.int .i64 3, .int .i64 f, .int .i64 0, .int .i64 0, .int .i64 0, .int .i64 0, .int .i64 0, .int .i64 0, .slice none 0 0, .slice none 0 0, .int .i64 0, .int .i64 0, .int .i64 0, .int .i64 0, .slice none 0 0] 27)).drew.heap[r]? = some (.cells #[.int .i64 0, .int .i64 0, .int .i64 0, .int .i64 0, .int .i64 0, .int .i64 0, .int .i64 0, .int .i64 0, .slice none 0 0, .slice none 0 0, .int .i64 0, .int .i64 0, .int .i64 0, .int .i64 0, .slice none 0 0] 27 (0, 0)) := (alloc_old w1 _ _ hrl).trans gs1
  have rU : Rd (w1.alloc (.cells #[.int .i64 3, .int .i64 f, .int .i64 0, .int .i64 0, .int .i64 0, .int .i64 0, .int .i64 0, .int .i64 0, .slice none 0 0, .slice none 0 0, .int .i64 0, .int .i64 0, .int .i64 0, .int .i64 0, .slice none 0 0] 27)).drew (some ⟨b1_, o1, none⟩) N c1 C := r1.below ((Below.refl w1.heap.size w1).alloc (Nat.le_refl _) _).drew
  obtain ⟨Gb, hGb⟩ : ∃ Gb, Gb = w1.heap.size := ⟨_, rfl⟩
  rw [← hGb] at gi ⊢
  have hGr : r ≠ Gb := by omega
  have hbG : ¬ b1_ = Gb := by omega
  have hbG2 : ¬ Gb = b1_ := by omega
  have hG0 : w.heap.size ≤ Gb := by have := b01.size; omega
  generalize (w1.alloc (.cells #[.int .i64 3, .int .i64 f, .int .i64 0, .int .i64 0, .int .i64 0, .int .i64 0, .int .i64 0, .int .i64 0, .slice none 0 0, .slice none 0 0, .int .i64 0, .int .i64 0, .int .i64 0, .int .i64 0, .slice none 0 0] 27)).drew = u at hbU gi gs rU ⊢
  clear gs1 b01 hrl hGb r1 e1 e2 hbl
  obtain ⟨M, hM⟩ : ∃ M, N - 3 = M := ⟨_, rfl⟩
  have s3 : (3 : Int) ≤ (N : Int) := by omega
  have hMN : N = M + 3 := by omega
  have HMN := hidT hMN
  clear hMN
  obtain ⟨X, hX⟩ : ∃ X, (if c1 = 3 then some (⟨b1_, o1, none⟩ : Addr) else some ⟨b1_, o1 + 3, none⟩) = X := ⟨_, rfl⟩
  have rd : Rd u X M (c1 - 3) (C.drop 3) := by rw [← hX, ← hM]; exact cut3 rU hC3
  have t10 : ((M : Int) == 10) = false := by have := HMN.out; have := HN.out; simp; omega
  obtain ⟨⟨y0, y1⟩, Y1, Y2⟩ := cells15 gi
  clear Y1 Y2 y1
  have hqv : q = ⟨3, f, Item.It.zero, 0, 0, 0, 0, []⟩ := by rw [← HQ.out]; rw [Pkt.refC, if_neg (by decide), if_pos rfl, if_neg (by rw [List.length_drop]; have := HN.out; omega)]
  have ip : IsPkt u (.agg #[.int .i64 3, .int .i64 f, .int .i64 0, .int .i64 0, .int .i64 0, .int .i64 0, .int .i64 0, .int .i64 0, .slice none 0 0, .slice none 0 0, .int .i64 0, .int .i64 0, .int .i64 0, .int .i64 0, .slice none 0 0]) q := by rw [hqv]; exact nil_pk u 3 f 0 0 0 0
  have IPB : Hid (∀ w2 w9, Below u.heap.size u w2 → But r w2 w9 → IsPkt w9 (.agg #[.int .i64 3, .int .i64 f, .int .i64 0, .int .i64 0, .int .i64 0, .int .i64 0, .int .i64 0, .int .i64 0, .slice none 0 0, .slice none 0 0, .int .i64 0, .int .i64 0, .int .i64 0, .int .i64 0, .slice none 0 0]) q) := fun w2 w9 hb2 hbut => by rw [hqv]; exact nil_pk w9 3 f 0 0 0 0
  obtain ⟨cs, hcs⟩ : ∃ cs : Array Value, #[.int .i64 3, .int .i64 f, .int .i64 0, .int .i64 0, .int .i64 0, .int .i64 0, .int .i64 0, .int .i64 0, .slice none 0 0, .slice none 0 0, .int .i64 0, .int .i64 0, .int .i64 0, .int .i64 0, .slice none 0 0] = cs := ⟨_, rfl⟩
  have sz : cs.size = 15 := by rw [← hcs]; rfl
  have oc : cs.all (·.oneCell') = true := by rw [← hcs]; exact (all15 rfl rfl rfl rfl rfl rfl rfl rfl rfl rfl rfl rfl rfl rfl rfl)
  skip
  rw [hcs] at ip IPB
  have gi := (by rw [hcs] at gi; exact gi : u.heap[Gb]? = some (.cells cs 27 (0, 0)))
  clear hcs
  clear hqv HQ
  have hM := rpmay_any _ q u ip
  go_wp2_with (refine wpList_ldP rfl (.tmp 6) rfl Gb rfl cs sz gi ?_)
  with_reducible refine hM.mono ?_
  rintro en u5 ⟨rfl, b5⟩
  have gs5 := (b5.block _ (blk_ltP gs)).trans gs
  have gi5 := (b5.block _ (blk_ltP gi)).trans gi
  have bU5 := bthen hbU b5
  have ip5 := ip.below b5
  clear hM gs
  have GI5 := fun w' (hb : Below u5.heap.size u5 w') => (hb.block _ (blk_ltP gi5)).trans gi5
  skip
  cases hm : Pkt.may q with
  | false =>
    have HT : Hid (Pkt.tried q l = none) := hidT (by rw [Pkt.tried, if_neg (by rw [hm]; simp)])
    go_wp2_with fail
    refine wp_region_held_drew (S := fun w' => Below u5.heap.size u5 w') (by kernel_rfl) ?_ (fun hHeld => ?_)
    · exact (Below.refl _ _).drew
    refine wpAnyH_take (i := 0) (oi := { dst := some 117, op := Op.move (Operand.tmp 19), type := 4, pos := "ref.go:92", after := #[], guard := none }) (v := ?_) rfl (by kernel_rfl) (by kernel_rfl) (by kernel_rfl) (fun _ _ _ h => h) (Or.inl ⟨by rfl, ?_⟩) (by assumption) ?_
    rotate_left
    · (intro w_ hS_; go_simp; try with_reducible rfl)
    simp only [Act.put, List.setIfInBounds_toArray, List.set_cons_zero, List.set_cons_succ]
    refine wpAnyH_take (i := 1) (oi := { dst := some 118, op := Op.unOp UnOp.not 4 (Operand.tmp 117), type := 4, pos := "ref.go:92", after := #[{ on := 0, ground := Ground.data }], guard := none }) (v := ?_) rfl (by kernel_rfl) (by kernel_rfl) (by kernel_rfl) (fun _ _ _ h => h) (Or.inl ⟨by rfl, ?_⟩) (by assumption) ?_
    rotate_left
    · (intro w_ hS_; go_simp; try with_reducible rfl)
    simp only [Act.put, List.setIfInBounds_toArray, List.set_cons_zero, List.set_cons_succ]
    refine wpAnyH_take (i := 2) (oi := { dst := some 119, op := Op.move (Operand.tmp 118), type := 4, pos := "ref.go:92", after := #[{ on := 1, ground := Ground.data }], guard := none }) (v := ?_) rfl (by kernel_rfl) (by kernel_rfl) (by kernel_rfl) (fun _ _ _ h => h) (Or.inl ⟨by rfl, ?_⟩) (by assumption) ?_
    rotate_left
    · (intro w_ hS_; go_simp; try with_reducible rfl)
    simp only [Act.put, List.setIfInBounds_toArray, List.set_cons_zero, List.set_cons_succ]
    refine wpAnyH_take (i := 3) (oi := { dst := some 120, op := Op.load 27 (Operand.tmp 6), type := 27, pos := "ref.go:92", after := #[{ on := 2, ground := Ground.guard }], guard := some (2, false) }) (v := undef) rfl (by kernel_rfl) (by kernel_rfl) (by kernel_rfl) (fun _ _ _ h => h) (Or.inr ⟨by rfl, rfl⟩) (by assumption) ?_
    simp only [Act.put, List.setIfInBounds_toArray, List.set_cons_zero, List.set_cons_succ]
    refine wpAnyH_take (i := 4) (oi := { dst := some 121, op := Op.call { callee := Callee.value (Operand.func 16), args := #[Operand.tmp 120], argTypes := #[27] }, type := 23, pos := "ref.go:92", after := #[{ on := 3, ground := Ground.data }, { on := 2, ground := Ground.chain }, { on := 2, ground := Ground.guard }], guard := some (2, false) }) (v := undef) rfl (by kernel_rfl) (by kernel_rfl) (by kernel_rfl) (fun _ _ _ h => h) (Or.inr ⟨by rfl, rfl⟩) (by assumption) ?_
    simp only [Act.put, List.setIfInBounds_toArray, List.set_cons_zero, List.set_cons_succ]
    refine wpAnyH_take (i := 5) (oi := { dst := some 122, op := Op.convert 23 9 (Operand.tmp 121), type := 9, pos := "ref.go:92", after := #[{ on := 4, ground := Ground.data }, { on := 2, ground := Ground.guard }], guard := some (2, false) }) (v := undef) rfl (by kernel_rfl) (by kernel_rfl) (by kernel_rfl) (fun _ _ _ h => h) (Or.inr ⟨by rfl, rfl⟩) (by assumption) ?_
    simp only [Act.put, List.setIfInBounds_toArray, List.set_cons_zero, List.set_cons_succ]
    refine wpAnyH_take (i := 6) (oi := { dst := some 123, op := Op.move (Operand.tmp 0), type := 23, pos := "ref.go:92", after := #[{ on := 2, ground := Ground.guard }], guard := some (2, false) }) (v := undef) rfl (by kernel_rfl) (by kernel_rfl) (by kernel_rfl) (fun _ _ _ h => h) (Or.inr ⟨by rfl, rfl⟩) (by assumption) ?_
    simp only [Act.put, List.setIfInBounds_toArray, List.set_cons_zero, List.set_cons_succ]
    refine wpAnyH_take (i := 7) (oi := { dst := some 124, op := Op.convert 23 9 (Operand.tmp 123), type := 9, pos := "ref.go:92", after := #[{ on := 6, ground := Ground.data }, { on := 2, ground := Ground.guard }], guard := some (2, false) }) (v := undef) rfl (by kernel_rfl) (by kernel_rfl) (by kernel_rfl) (fun _ _ _ h => h) (Or.inr ⟨by rfl, rfl⟩) (by assumption) ?_
    simp only [Act.put, List.setIfInBounds_toArray, List.set_cons_zero, List.set_cons_succ]
    refine wpAnyH_take (i := 8) (oi := { dst := some 125, op := Op.binOp BinOp.neq 9 (Operand.tmp 122) (Operand.tmp 124) 9, type := 4, pos := "ref.go:92", after := #[{ on := 5, ground := Ground.data }, { on := 7, ground := Ground.data }, { on := 2, ground := Ground.guard }], guard := some (2, false) }) (v := undef) rfl (by kernel_rfl) (by kernel_rfl) (by kernel_rfl) (fun _ _ _ h => h) (Or.inr ⟨by rfl, rfl⟩) (by assumption) ?_
    simp only [Act.put, List.setIfInBounds_toArray, List.set_cons_zero, List.set_cons_succ]
    refine wpAnyH_take (i := 9) (oi := { dst := some 126, op := Op.pick (Operand.tmp 119) (Operand.const (Value.bool true)) (Operand.tmp 125), type := 4, pos := "ref.go:92", after := #[{ on := 2, ground := Ground.data }, { on := 8, ground := Ground.data }], guard := none }) (v := ?_) rfl (by kernel_rfl) (by kernel_rfl) (by kernel_rfl) (fun _ _ _ h => h) (Or.inl ⟨by rfl, ?_⟩) (by assumption) ?_
    rotate_left
    · (intro w_ hS_; go_simp; try with_reducible rfl)
    simp only [Act.put, List.setIfInBounds_toArray, List.set_cons_zero, List.set_cons_succ]
    refine wpAnyH_done (by kernel_rfl) ?_ _
    go_wp2_with (first
      | (refine wpList_stI rfl 27 (.tmp 2) (.tmp 127) rfl r zpkt rfl rfl _ _ gs5 info37 rfl (all15 rfl rfl rfl rfl rfl rfl rfl rfl rfl rfl rfl rfl rfl rfl rfl) ?_
         intro w9 hg9 hbut9 hbel9))
    exact bodyPost_ret (results_cellP rfl _ w9 r zpkt rfl rfl hg9 _ rfl) rfl (by obtain ⟨z1, z2⟩ := HZ.out _ HT.out; rw [z1, z2]; exact ⟨_, rfl, zero_pkt _, hbel9 _ _ (bthen bU5 (Below.refl _ _).drew) hr0⟩)
  | true =>
    obtain ⟨BX, HBX⟩ : ∃ BX, Hid (Pkt.bytes q = BX) := ⟨_, hidT rfl⟩
    have hBy := rpbytes_any (.agg cs) q u5.drew ip5
    rw [HBX.out] at hBy
    have sl := fun w' (hb : Below u5.heap.size u5 w') => strs (h.below bU5) w' hb
    have qb := str_beq BX l
    by_cases hbx : BX = l
    · skip
      have HT : Hid (Pkt.tried q l = some q) := hidT (by rw [Pkt.tried, if_pos ⟨hm, HBX.out.trans hbx⟩])
      rw [decide_eq_true hbx] at qb
      clear hbx
      have qn : ((str BX).toList != (str l).toList) = false := by simp only [bne, qb]; rfl
      go_wp2_with fail
      refine wp_region_held_drew (S := fun w' => Below u5.heap.size u5 w') (by kernel_rfl) ?_ (fun hHeld => ?_)
      · exact (Below.refl _ _).drew
      refine wpAnyH_take (i := 0) (oi := { dst := some 117, op := Op.move (Operand.tmp 19), type := 4, pos := "ref.go:92", after := #[], guard := none }) (v := ?_) rfl (by kernel_rfl) (by kernel_rfl) (by kernel_rfl) (fun _ _ _ h => h) (Or.inl ⟨by rfl, ?_⟩) (by assumption) ?_
      rotate_left
      · (intro w_ hS_; go_simp; try with_reducible rfl)
      simp only [Act.put, List.setIfInBounds_toArray, List.set_cons_zero, List.set_cons_succ]
      refine wpAnyH_take (i := 1) (oi := { dst := some 118, op := Op.unOp UnOp.not 4 (Operand.tmp 117), type := 4, pos := "ref.go:92", after := #[{ on := 0, ground := Ground.data }], guard := none }) (v := ?_) rfl (by kernel_rfl) (by kernel_rfl) (by kernel_rfl) (fun _ _ _ h => h) (Or.inl ⟨by rfl, ?_⟩) (by assumption) ?_
      rotate_left
      · (intro w_ hS_; go_simp; try with_reducible rfl)
      simp only [Act.put, List.setIfInBounds_toArray, List.set_cons_zero, List.set_cons_succ]
      refine wpAnyH_take (i := 2) (oi := { dst := some 119, op := Op.move (Operand.tmp 118), type := 4, pos := "ref.go:92", after := #[{ on := 1, ground := Ground.data }], guard := none }) (v := ?_) rfl (by kernel_rfl) (by kernel_rfl) (by kernel_rfl) (fun _ _ _ h => h) (Or.inl ⟨by rfl, ?_⟩) (by assumption) ?_
      rotate_left
      · (intro w_ hS_; go_simp; try with_reducible rfl)
      simp only [Act.put, List.setIfInBounds_toArray, List.set_cons_zero, List.set_cons_succ]
      refine wpAnyH_take (i := 3) (oi := { dst := some 120, op := Op.load 27 (Operand.tmp 6), type := 27, pos := "ref.go:92", after := #[{ on := 2, ground := Ground.guard }], guard := some (2, false) }) (v := .agg cs) rfl (by kernel_rfl) (by kernel_rfl) (by kernel_rfl) (fun _ _ _ h => h) (Or.inl ⟨by rfl, fun w_ hS_ => run_ldP (.tmp 6) rfl Gb rfl cs sz (GI5 w_ hS_)⟩) (by assumption) ?_
      simp only [Act.put, List.setIfInBounds_toArray, List.set_cons_zero, List.set_cons_succ]
      refine wpAnyH_take (i := 6) (oi := { dst := some 123, op := Op.move (Operand.tmp 0), type := 23, pos := "ref.go:92", after := #[{ on := 2, ground := Ground.guard }], guard := some (2, false) }) (v := ?_) rfl (by kernel_rfl) (by kernel_rfl) (by kernel_rfl) (fun _ _ _ h => h) (Or.inl ⟨by rfl, ?_⟩) (by assumption) ?_
      rotate_left
      · (intro w_ hS_; go_simp; try with_reducible rfl)
      simp only [Act.put, List.setIfInBounds_toArray, List.set_cons_zero, List.set_cons_succ]
      refine wpAnyH_take (i := 7) (oi := { dst := some 124, op := Op.convert 23 9 (Operand.tmp 123), type := 9, pos := "ref.go:92", after := #[{ on := 6, ground := Ground.data }, { on := 2, ground := Ground.guard }], guard := some (2, false) }) (v := ?_) rfl (by kernel_rfl) (by kernel_rfl) (by kernel_rfl) (fun _ _ _ h => h) (Or.inl ⟨by rfl, ?_⟩) (by assumption) ?_
      rotate_left
      · (intro w_ hS_; go_simp; try with_reducible rfl)
      simp only [Act.put, List.setIfInBounds_toArray, List.set_cons_zero, List.set_cons_succ]
      refine wpAnyH_ready (rs := [4]) (by kernel_rfl) (by simp) ?_
      refine AllReadyH.cons (o := { dst := some 121, op := Op.call { callee := Callee.value (Operand.func 16), args := #[Operand.tmp 120], argTypes := #[27] }, type := 23, pos := "ref.go:92", after := #[{ on := 3, ground := Ground.data }, { on := 2, ground := Ground.chain }, { on := 2, ground := Ground.guard }], guard := some (2, false) }) rfl (fun K hK => ?_) AllReadyH.nil
      go_simp
      refine hBy.mono ?_
      rintro en w6 ⟨A6, n6, rfl, o6, h6⟩
      have b6 : Below u5.heap.size u5 w6 := undrew h6
      have s6 := strs o6.same w6 (Below.refl _ _)
      dsimp only
      refine hK.out _ _ ?_ (fun hHeld => ?_)
      · exact b6
      clear hK K
      refine wpAnyH_ready (rs := [5]) (by kernel_rfl) (by simp) ?_
      refine AllReadyH.cons (o := { dst := some 122, op := Op.convert 23 9 (Operand.tmp 121), type := 9, pos := "ref.go:92", after := #[{ on := 4, ground := Ground.data }, { on := 2, ground := Ground.guard }], guard := some (2, false) }) rfl (fun K hK => ?_) AllReadyH.nil
      go_simp
      refine hK.out _ _ ?_ (fun hHeld => ?_)
      · exact b6
      clear hK K
      clear s6
      refine wpAnyH_take (i := 8) (oi := { dst := some 125, op := Op.binOp BinOp.neq 9 (Operand.tmp 122) (Operand.tmp 124) 9, type := 4, pos := "ref.go:92", after := #[{ on := 5, ground := Ground.data }, { on := 7, ground := Ground.data }, { on := 2, ground := Ground.guard }], guard := some (2, false) }) (v := ?_) rfl (by kernel_rfl) (by kernel_rfl) (by kernel_rfl) (fun _ _ _ h => h) (Or.inl ⟨by rfl, ?_⟩) (by assumption) ?_
      rotate_left
      · (intro w_ hS_; go_simp; try with_reducible rfl)
      simp only [Act.put, List.setIfInBounds_toArray, List.set_cons_zero, List.set_cons_succ]
      refine wpAnyH_take (i := 9) (oi := { dst := some 126, op := Op.pick (Operand.tmp 119) (Operand.const (Value.bool true)) (Operand.tmp 125), type := 4, pos := "ref.go:92", after := #[{ on := 2, ground := Ground.data }, { on := 8, ground := Ground.data }], guard := none }) (v := ?_) rfl (by kernel_rfl) (by kernel_rfl) (by kernel_rfl) (fun _ _ _ h => h) (Or.inl ⟨by rfl, ?_⟩) (by assumption) ?_
      rotate_left
      · (intro w_ hS_; go_simp; try with_reducible rfl)
      simp only [Act.put, List.setIfInBounds_toArray, List.set_cons_zero, List.set_cons_succ]
      refine wpAnyH_done (by kernel_rfl) ?_ _
      have gs6 := (b6.block _ (blk_ltP gs5)).trans gs5
      have bU6 := bthen bU5 b6
      have gi6 := GI5 w6 b6
      go_wp2_with (first
        | (refine wpList_ldP rfl (.tmp 6) rfl Gb rfl cs sz gi6 ?_)
        | (refine wpList_stI rfl 27 (.tmp 2) (.tmp 128) rfl r cs rfl rfl _ _ gs6 (by rw [sz]; exact info37) (by rw [sz]; rfl) oc ?_
           intro w9 hg9 hbut9 hbel9))
      exact bodyPost_ret (results_cellP rfl _ w9 r cs sz rfl hg9 _ rfl) rfl (by obtain ⟨z1, z2⟩ := HZ.out _ HT.out; rw [z1, z2]; exact ⟨_, rfl, IPB.out w6 w9 (bthen b5 b6) hbut9, hbel9 _ _ bU6 hr0⟩)
    · skip
      have HT : Hid (Pkt.tried q l = none) := hidT (by rw [Pkt.tried, if_neg (fun hh => hbx (HBX.out.symm.trans hh.2))])
      rw [decide_eq_false hbx] at qb
      clear hbx
      have qn : ((str BX).toList != (str l).toList) = true := by simp only [bne, qb]; rfl
      go_wp2_with fail
      refine wp_region_held_drew (S := fun w' => Below u5.heap.size u5 w') (by kernel_rfl) ?_ (fun hHeld => ?_)
      · exact (Below.refl _ _).drew
      refine wpAnyH_take (i := 0) (oi := { dst := some 117, op := Op.move (Operand.tmp 19), type := 4, pos := "ref.go:92", after := #[], guard := none }) (v := ?_) rfl (by kernel_rfl) (by kernel_rfl) (by kernel_rfl) (fun _ _ _ h => h) (Or.inl ⟨by rfl, ?_⟩) (by assumption) ?_
      rotate_left
      · (intro w_ hS_; go_simp; try with_reducible rfl)
      simp only [Act.put, List.setIfInBounds_toArray, List.set_cons_zero, List.set_cons_succ]
      refine wpAnyH_take (i := 1) (oi := { dst := some 118, op := Op.unOp UnOp.not 4 (Operand.tmp 117), type := 4, pos := "ref.go:92", after := #[{ on := 0, ground := Ground.data }], guard := none }) (v := ?_) rfl (by kernel_rfl) (by kernel_rfl) (by kernel_rfl) (fun _ _ _ h => h) (Or.inl ⟨by rfl, ?_⟩) (by assumption) ?_
      rotate_left
      · (intro w_ hS_; go_simp; try with_reducible rfl)
      simp only [Act.put, List.setIfInBounds_toArray, List.set_cons_zero, List.set_cons_succ]
      refine wpAnyH_take (i := 2) (oi := { dst := some 119, op := Op.move (Operand.tmp 118), type := 4, pos := "ref.go:92", after := #[{ on := 1, ground := Ground.data }], guard := none }) (v := ?_) rfl (by kernel_rfl) (by kernel_rfl) (by kernel_rfl) (fun _ _ _ h => h) (Or.inl ⟨by rfl, ?_⟩) (by assumption) ?_
      rotate_left
      · (intro w_ hS_; go_simp; try with_reducible rfl)
      simp only [Act.put, List.setIfInBounds_toArray, List.set_cons_zero, List.set_cons_succ]
      refine wpAnyH_take (i := 3) (oi := { dst := some 120, op := Op.load 27 (Operand.tmp 6), type := 27, pos := "ref.go:92", after := #[{ on := 2, ground := Ground.guard }], guard := some (2, false) }) (v := .agg cs) rfl (by kernel_rfl) (by kernel_rfl) (by kernel_rfl) (fun _ _ _ h => h) (Or.inl ⟨by rfl, fun w_ hS_ => run_ldP (.tmp 6) rfl Gb rfl cs sz (GI5 w_ hS_)⟩) (by assumption) ?_
      simp only [Act.put, List.setIfInBounds_toArray, List.set_cons_zero, List.set_cons_succ]
      refine wpAnyH_take (i := 6) (oi := { dst := some 123, op := Op.move (Operand.tmp 0), type := 23, pos := "ref.go:92", after := #[{ on := 2, ground := Ground.guard }], guard := some (2, false) }) (v := ?_) rfl (by kernel_rfl) (by kernel_rfl) (by kernel_rfl) (fun _ _ _ h => h) (Or.inl ⟨by rfl, ?_⟩) (by assumption) ?_
      rotate_left
      · (intro w_ hS_; go_simp; try with_reducible rfl)
      simp only [Act.put, List.setIfInBounds_toArray, List.set_cons_zero, List.set_cons_succ]
      refine wpAnyH_take (i := 7) (oi := { dst := some 124, op := Op.convert 23 9 (Operand.tmp 123), type := 9, pos := "ref.go:92", after := #[{ on := 6, ground := Ground.data }, { on := 2, ground := Ground.guard }], guard := some (2, false) }) (v := ?_) rfl (by kernel_rfl) (by kernel_rfl) (by kernel_rfl) (fun _ _ _ h => h) (Or.inl ⟨by rfl, ?_⟩) (by assumption) ?_
      rotate_left
      · (intro w_ hS_; go_simp; try with_reducible rfl)
      simp only [Act.put, List.setIfInBounds_toArray, List.set_cons_zero, List.set_cons_succ]
      refine wpAnyH_ready (rs := [4]) (by kernel_rfl) (by simp) ?_
      refine AllReadyH.cons (o := { dst := some 121, op := Op.call { callee := Callee.value (Operand.func 16), args := #[Operand.tmp 120], argTypes := #[27] }, type := 23, pos := "ref.go:92", after := #[{ on := 3, ground := Ground.data }, { on := 2, ground := Ground.chain }, { on := 2, ground := Ground.guard }], guard := some (2, false) }) rfl (fun K hK => ?_) AllReadyH.nil
      go_simp
      refine hBy.mono ?_
      rintro en w6 ⟨A6, n6, rfl, o6, h6⟩
      have b6 : Below u5.heap.size u5 w6 := undrew h6
      have s6 := strs o6.same w6 (Below.refl _ _)
      dsimp only
      refine hK.out _ _ ?_ (fun hHeld => ?_)
      · exact b6
      clear hK K
      refine wpAnyH_ready (rs := [5]) (by kernel_rfl) (by simp) ?_
      refine AllReadyH.cons (o := { dst := some 122, op := Op.convert 23 9 (Operand.tmp 121), type := 9, pos := "ref.go:92", after := #[{ on := 4, ground := Ground.data }, { on := 2, ground := Ground.guard }], guard := some (2, false) }) rfl (fun K hK => ?_) AllReadyH.nil
      go_simp
      refine hK.out _ _ ?_ (fun hHeld => ?_)
      · exact b6
      clear hK K
      clear s6
      refine wpAnyH_take (i := 8) (oi := { dst := some 125, op := Op.binOp BinOp.neq 9 (Operand.tmp 122) (Operand.tmp 124) 9, type := 4, pos := "ref.go:92", after := #[{ on := 5, ground := Ground.data }, { on := 7, ground := Ground.data }, { on := 2, ground := Ground.guard }], guard := some (2, false) }) (v := ?_) rfl (by kernel_rfl) (by kernel_rfl) (by kernel_rfl) (fun _ _ _ h => h) (Or.inl ⟨by rfl, ?_⟩) (by assumption) ?_
      rotate_left
      · (intro w_ hS_; go_simp; try with_reducible rfl)
      simp only [Act.put, List.setIfInBounds_toArray, List.set_cons_zero, List.set_cons_succ]
      refine wpAnyH_take (i := 9) (oi := { dst := some 126, op := Op.pick (Operand.tmp 119) (Operand.const (Value.bool true)) (Operand.tmp 125), type := 4, pos := "ref.go:92", after := #[{ on := 2, ground := Ground.data }, { on := 8, ground := Ground.data }], guard := none }) (v := ?_) rfl (by kernel_rfl) (by kernel_rfl) (by kernel_rfl) (fun _ _ _ h => h) (Or.inl ⟨by rfl, ?_⟩) (by assumption) ?_
      rotate_left
      · (intro w_ hS_; go_simp; try with_reducible rfl)
      simp only [Act.put, List.setIfInBounds_toArray, List.set_cons_zero, List.set_cons_succ]
      refine wpAnyH_done (by kernel_rfl) ?_ _
      have gs6 := (b6.block _ (blk_ltP gs5)).trans gs5
      have bU6 := bthen bU5 b6
      have gi6 := GI5 w6 b6
      go_wp2_with (first
        | (refine wpList_stI rfl 27 (.tmp 2) (.tmp 127) rfl r zpkt rfl rfl _ _ gs6 info37 rfl (all15 rfl rfl rfl rfl rfl rfl rfl rfl rfl rfl rfl rfl rfl rfl rfl) ?_
           intro w9 hg9 hbut9 hbel9))
      exact bodyPost_ret (results_cellP rfl _ w9 r zpkt rfl rfl hg9 _ rfl) rfl (by obtain ⟨z1, z2⟩ := HZ.out _ HT.out; rw [z1, z2]; exact ⟨_, rfl, zero_pkt _, hbel9 _ _ bU6 hr0⟩)
set_option maxRecDepth 100000 in
set_option maxHeartbeats 16000000 in
theorem rpr_4o (A : Option Addr) (n c : Nat) (l : List UInt8) (w : World) (h : Rd w A n c l) (hn : n ≤ 65536) (hc : openCode l = 0) (C : List UInt8) (hC : opened l = C) (hC3 : 3 ≤ C.length) (hC6 : C.length ≤ 65536) (k f : Int) (hk : Item.at_ C 1 = k) (hff : Item.at_ C 2 = f) (hkv : 4 = k) (h8 : C.length < 11) :
    Calls Tryd.prog 10 #[.slice A n c] w (PRead w ((Pkt.tried (Pkt.refC k f (C.drop 3)) l).getD Pkt.Pk.zero) (if (Pkt.tried (Pkt.refC k f (C.drop 3)) l).isSome = true then 0 else 2)) := by
  obtain ⟨q, hq⟩ : ∃ q, Pkt.refC k f (C.drop 3) = q := ⟨_, rfl⟩
  rw [hq]
  have HQ := hidT hq
  clear hq
  obtain ⟨z, hz⟩ : ∃ z, (Pkt.tried q l).getD Pkt.Pk.zero = z := ⟨_, rfl⟩
  obtain ⟨code, hcode⟩ : ∃ code : Int, (if (Pkt.tried q l).isSome = true then 0 else 2) = code := ⟨_, rfl⟩
  rw [hz, hcode]
  have HZ : Hid (∀ o, Pkt.tried q l = o → z = o.getD Pkt.Pk.zero ∧ code = if o.isSome = true then 0 else 2) := fun o ho => ⟨by rw [← ho, hz], by rw [← ho, hcode]⟩
  clear hz hcode
  obtain ⟨w0, hw0⟩ : ∃ w0, w.alloc (.cells #[.int .i64 0, .int .i64 0, .int .i64 0, .int .i64 0, .int .i64 0, .int .i64 0, .int .i64 0, .int .i64 0, .slice none 0 0, .slice none 0 0, .int .i64 0, .int .i64 0, .int .i64 0, .int .i64 0, .slice none 0 0] 27) = w0 := ⟨_, rfl⟩
  have b0 : Below w.heap.size w w0 := by rw [← hw0]; exact pkeep_alloc (Below.refl _ _) _
  have g0 : w0.heap[w.heap.size]? = some (.cells #[.int .i64 0, .int .i64 0, .int .i64 0, .int .i64 0, .int .i64 0, .int .i64 0, .int .i64 0, .int .i64 0, .slice none 0 0, .slice none 0 0, .int .i64 0, .int .i64 0, .int .i64 0, .int .i64 0, .slice none 0 0] 27 (0, 0)) := by rw [← hw0]; exact alloc_at _ _ _ rfl
  have HW0 := hidT hw0
  clear hw0
  have hO := ropen_any A n c l w0 (h.below b0) hn
  rw [hc, hC] at hO
  obtain ⟨N, hN⟩ : ∃ N, C.length = N := ⟨_, rfl⟩
  obtain ⟨r, hr⟩ : ∃ r, r = w.heap.size := ⟨_, rfl⟩
  rw [← hr] at g0
  have HR := hidT hr
  have hr0 : w.heap.size ≤ r := by omega
  clear hr
  go_enter Tryd.func10, Tryd.ntmps10
  go_wp2_with fail
  rw [HW0.out, ← HR.out]
  clear HW0
  with_reducible refine hO.mono ?_
  rintro en w1 ⟨A1, c1, rfl, r1, b1⟩
  clear hO
  rw [hN] at r1 hC3 hC6 ⊢
  have hcap := r1.2.1
  have hcle : c1 ≤ 9223372036854775807 := by have := r1.2.2.1; unfold maxLen at this; omega
  obtain ⟨b1_, o1, rfl, hcell⟩ := r1.at_ (by omega)
  obtain ⟨z1, hz1, e1⟩ := hcell 1 (by omega)
  obtain ⟨z2, hz2, e2⟩ := hcell 2 (by omega)
  have hzk : (z1.toNat : Int) = k := by rw [← hk, Item.at_, List.getD_eq_getElem?_getD, hz1]; rfl
  have hzf : (z2.toNat : Int) = f := by rw [← hff, Item.at_, List.getD_eq_getElem?_getD, hz2]; rfl
  have kb : 0 ≤ k ∧ k < 256 := by have := Num.byte_lt z1; omega
  have fb : 0 ≤ f ∧ f < 256 := by have := Num.byte_lt z2; omega
  obtain ⟨kb1, kb2⟩ := kb
  obtain ⟨fb1, fb2⟩ := fb
  rw [hzk] at e1
  rw [hzf] at e2
  have hbl := World.block_lt_of_cell? _ _ e1
  dsimp only at hbl
  have HN := hidT hN
  have q3 : decide ((N : Int) < 3) = false := by simp; omega
  have gs1 := (b1.block _ (blk_ltP g0)).trans g0
  have b01 := bthen b0 b1
  have hrl : r < w1.heap.size := blk_ltP gs1
  clear hcell hz1 hz2 hzk hzf hN hk hff g0 b0 b1
  subst hkv
  have i1 : (1 : Int) < (N : Int) := by omega
  have i2 : (2 : Int) < (N : Int) := by omega
  go_wp2
  go_region
  skip
  have hbU : Below w.heap.size w (w1.alloc (.cells #[.int .i64 4, .int .i64 f, .int .i64 0, .int .i64 0, .int .i64 0, .int .i64 0, .int .i64 0, .int .i64 0, .slice none 0 0, .slice none 0 0, .int .i64 0, .int .i64 0, .int .i64 0, .int .i64 0, .slice none 0 0] 27)).drew := (b01.alloc b01.size _).drew
  have gi : (w1.alloc (.cells #[.int .i64 4, .int .i64 f, .int .i64 0, .int .i64 0, .int .i64 0, .int .i64 0, .int .i64 0, .int .i64 0, .slice none 0 0, .slice none 0 0, .int .i64 0, .int .i64 0, .int .i64 0, .int .i64 0, .slice none 0 0] 27)).drew.heap[w1.heap.size]? = some (.cells #[.int .i64 4, .int .i64 f, .int .i64 0, .int .i64 0, .int .i64 0, .int .i64 0, .int .i64 0, .int .i64 0, .slice none 0 0, .slice none 0 0, .int .i64 0, .int .i64 0, .int .i64 0, .int .i64 0, .slice none 0 0] 27 (0, 0)) := alloc_at w1 _ _ rfl
  have gs : (w1.alloc (.cells #[.int .i64 4, .int .i64 f, .int .i64 0, .int .i64 0, .int .i64 0, .int .i64 0, .int .i64 0, .int .i64 0, .slice none 0 0, .slice none 0 0, .int .i64 0, .int .i64 0, .int .i64 0, .int .i64 0, .slice none 0 0] 27)).drew.heap[r]? = some (.cells #[.int .i64 0, .int .i64 0, .int .i64 0, .int .i64 0, .int .i64 0, .int .i64 0, .int .i64 0, .int .i64 0, .slice none 0 0, .slice none 0 0, .int .i64 0, .int .i64 0, .int .i64 0, .int .i64 0, .slice none 0 0] 27 (0, 0)) := (alloc_old w1 _ _ hrl).trans gs1
  have rU : Rd (w1.alloc (.cells #[.int .i64 4, .int .i64 f, .int .i64 0, .int .i64 0, .int .i64 0, .int .i64 0, .int .i64 0, .int .i64 0, .slice none 0 0, .slice none 0 0, .int .i64 0, .int .i64 0, .int .i64 0, .int .i64 0, .slice none 0 0] 27)).drew (some ⟨b1_, o1, none⟩) N c1 C := r1.below ((Below.refl w1.heap.size w1).alloc (Nat.le_refl _) _).drew
  obtain ⟨Gb, hGb⟩ : ∃ Gb, Gb = w1.heap.size := ⟨_, rfl⟩
  rw [← hGb] at gi ⊢
  have hGr : r ≠ Gb := by omega
  have hbG : ¬ b1_ = Gb := by omega
  have hbG2 : ¬ Gb = b1_ := by omega
  have hG0 : w.heap.size ≤ Gb := by have := b01.size; omega
  generalize (w1.alloc (.cells #[.int .i64 4, .int .i64 f, .int .i64 0, .int .i64 0, .int .i64 0, .int .i64 0, .int .i64 0, .int .i64 0, .slice none 0 0, .slice none 0 0, .int .i64 0, .int .i64 0, .int .i64 0, .int .i64 0, .slice none 0 0] 27)).drew = u at hbU gi gs rU ⊢
  clear gs1 b01 hrl hGb r1 e1 e2 hbl
  obtain ⟨M, hM⟩ : ∃ M, N - 3 = M := ⟨_, rfl⟩
  have s3 : (3 : Int) ≤ (N : Int) := by omega
  have hMN : N = M + 3 := by omega
  have HMN := hidT hMN
  clear hMN
  obtain ⟨X, hX⟩ : ∃ X, (if c1 = 3 then some (⟨b1_, o1, none⟩ : Addr) else some ⟨b1_, o1 + 3, none⟩) = X := ⟨_, rfl⟩
  have rd : Rd u X M (c1 - 3) (C.drop 3) := by rw [← hX, ← hM]; exact cut3 rU hC3
  have t8 : decide ((8 : Int) ≤ (M : Int)) = false := by have := HMN.out; have := HN.out; simp; omega
  obtain ⟨⟨y0, y1⟩, Y1, Y2⟩ := cells15 gi
  clear Y1 Y2 y1
  have hqv : q = ⟨4, f, Item.It.zero, 0, 0, 0, 0, []⟩ := by rw [← HQ.out]; rw [Pkt.refC, if_neg (by decide), if_neg (by decide), if_pos rfl, if_neg (by rw [List.length_drop]; have := HN.out; omega)]
  have ip : IsPkt u (.agg #[.int .i64 4, .int .i64 f, .int .i64 0, .int .i64 0, .int .i64 0, .int .i64 0, .int .i64 0, .int .i64 0, .slice none 0 0, .slice none 0 0, .int .i64 0, .int .i64 0, .int .i64 0, .int .i64 0, .slice none 0 0]) q := by rw [hqv]; exact nil_pk u 4 f 0 0 0 0
  have IPB : Hid (∀ w2 w9, Below u.heap.size u w2 → But r w2 w9 → IsPkt w9 (.agg #[.int .i64 4, .int .i64 f, .int .i64 0, .int .i64 0, .int .i64 0, .int .i64 0, .int .i64 0, .int .i64 0, .slice none 0 0, .slice none 0 0, .int .i64 0, .int .i64 0, .int .i64 0, .int .i64 0, .slice none 0 0]) q) := fun w2 w9 hb2 hbut => by rw [hqv]; exact nil_pk w9 4 f 0 0 0 0
  obtain ⟨cs, hcs⟩ : ∃ cs : Array Value, #[.int .i64 4, .int .i64 f, .int .i64 0, .int .i64 0, .int .i64 0, .int .i64 0, .int .i64 0, .int .i64 0, .slice none 0 0, .slice none 0 0, .int .i64 0, .int .i64 0, .int .i64 0, .int .i64 0, .slice none 0 0] = cs := ⟨_, rfl⟩
  have sz : cs.size = 15 := by rw [← hcs]; rfl
  have oc : cs.all (·.oneCell') = true := by rw [← hcs]; exact (all15 rfl rfl rfl rfl rfl rfl rfl rfl rfl rfl rfl rfl rfl rfl rfl)
  skip
  rw [hcs] at ip IPB
  have gi := (by rw [hcs] at gi; exact gi : u.heap[Gb]? = some (.cells cs 27 (0, 0)))
  clear hcs
  clear hqv HQ
  have hM := rpmay_any _ q u ip
  go_wp2_with (refine wpList_ldP rfl (.tmp 6) rfl Gb rfl cs sz gi ?_)
  with_reducible refine hM.mono ?_
  rintro en u5 ⟨rfl, b5⟩
  have gs5 := (b5.block _ (blk_ltP gs)).trans gs
  have gi5 := (b5.block _ (blk_ltP gi)).trans gi
  have bU5 := bthen hbU b5
  have ip5 := ip.below b5
  clear hM gs
  have GI5 := fun w' (hb : Below u5.heap.size u5 w') => (hb.block _ (blk_ltP gi5)).trans gi5
  skip
  cases hm : Pkt.may q with
  | false =>
    have HT : Hid (Pkt.tried q l = none) := hidT (by rw [Pkt.tried, if_neg (by rw [hm]; simp)])
    go_wp2_with fail
    refine wp_region_held_drew (S := fun w' => Below u5.heap.size u5 w') (by kernel_rfl) ?_ (fun hHeld => ?_)
    · exact (Below.refl _ _).drew
    refine wpAnyH_take (i := 0) (oi := { dst := some 117, op := Op.move (Operand.tmp 19), type := 4, pos := "ref.go:92", after := #[], guard := none }) (v := ?_) rfl (by kernel_rfl) (by kernel_rfl) (by kernel_rfl) (fun _ _ _ h => h) (Or.inl ⟨by rfl, ?_⟩) (by assumption) ?_
    rotate_left
    · (intro w_ hS_; go_simp; try with_reducible rfl)
    simp only [Act.put, List.setIfInBounds_toArray, List.set_cons_zero, List.set_cons_succ]
    refine wpAnyH_take (i := 1) (oi := { dst := some 118, op := Op.unOp UnOp.not 4 (Operand.tmp 117), type := 4, pos := "ref.go:92", after := #[{ on := 0, ground := Ground.data }], guard := none }) (v := ?_) rfl (by kernel_rfl) (by kernel_rfl) (by kernel_rfl) (fun _ _ _ h => h) (Or.inl ⟨by rfl, ?_⟩) (by assumption) ?_
    rotate_left
    · (intro w_ hS_; go_simp; try with_reducible rfl)
    simp only [Act.put, List.setIfInBounds_toArray, List.set_cons_zero, List.set_cons_succ]
    refine wpAnyH_take (i := 2) (oi := { dst := some 119, op := Op.move (Operand.tmp 118), type := 4, pos := "ref.go:92", after := #[{ on := 1, ground := Ground.data }], guard := none }) (v := ?_) rfl (by kernel_rfl) (by kernel_rfl) (by kernel_rfl) (fun _ _ _ h => h) (Or.inl ⟨by rfl, ?_⟩) (by assumption) ?_
    rotate_left
    · (intro w_ hS_; go_simp; try with_reducible rfl)
    simp only [Act.put, List.setIfInBounds_toArray, List.set_cons_zero, List.set_cons_succ]
    refine wpAnyH_take (i := 3) (oi := { dst := some 120, op := Op.load 27 (Operand.tmp 6), type := 27, pos := "ref.go:92", after := #[{ on := 2, ground := Ground.guard }], guard := some (2, false) }) (v := undef) rfl (by kernel_rfl) (by kernel_rfl) (by kernel_rfl) (fun _ _ _ h => h) (Or.inr ⟨by rfl, rfl⟩) (by assumption) ?_
    simp only [Act.put, List.setIfInBounds_toArray, List.set_cons_zero, List.set_cons_succ]
    refine wpAnyH_take (i := 4) (oi := { dst := some 121, op := Op.call { callee := Callee.value (Operand.func 16), args := #[Operand.tmp 120], argTypes := #[27] }, type := 23, pos := "ref.go:92", after := #[{ on := 3, ground := Ground.data }, { on := 2, ground := Ground.chain }, { on := 2, ground := Ground.guard }], guard := some (2, false) }) (v := undef) rfl (by kernel_rfl) (by kernel_rfl) (by kernel_rfl) (fun _ _ _ h => h) (Or.inr ⟨by rfl, rfl⟩) (by assumption) ?_
    simp only [Act.put, List.setIfInBounds_toArray, List.set_cons_zero, List.set_cons_succ]
    refine wpAnyH_take (i := 5) (oi := { dst := some 122, op := Op.convert 23 9 (Operand.tmp 121), type := 9, pos := "ref.go:92", after := #[{ on := 4, ground := Ground.data }, { on := 2, ground := Ground.guard }], guard := some (2, false) }) (v := undef) rfl (by kernel_rfl) (by kernel_rfl) (by kernel_rfl) (fun _ _ _ h => h) (Or.inr ⟨by rfl, rfl⟩) (by assumption) ?_
    simp only [Act.put, List.setIfInBounds_toArray, List.set_cons_zero, List.set_cons_succ]
    refine wpAnyH_take (i := 6) (oi := { dst := some 123, op := Op.move (Operand.tmp 0), type := 23, pos := "ref.go:92", after := #[{ on := 2, ground := Ground.guard }], guard := some (2, false) }) (v := undef) rfl (by kernel_rfl) (by kernel_rfl) (by kernel_rfl) (fun _ _ _ h => h) (Or.inr ⟨by rfl, rfl⟩) (by assumption) ?_
    simp only [Act.put, List.setIfInBounds_toArray, List.set_cons_zero, List.set_cons_succ]
    refine wpAnyH_take (i := 7) (oi := { dst := some 124, op := Op.convert 23 9 (Operand.tmp 123), type := 9, pos := "ref.go:92", after := #[{ on := 6, ground := Ground.data }, { on := 2, ground := Ground.guard }], guard := some (2, false) }) (v := undef) rfl (by kernel_rfl) (by kernel_rfl) (by kernel_rfl) (fun _ _ _ h => h) (Or.inr ⟨by rfl, rfl⟩) (by assumption) ?_
    simp only [Act.put, List.setIfInBounds_toArray, List.set_cons_zero, List.set_cons_succ]
    refine wpAnyH_take (i := 8) (oi := { dst := some 125, op := Op.binOp BinOp.neq 9 (Operand.tmp 122) (Operand.tmp 124) 9, type := 4, pos := "ref.go:92", after := #[{ on := 5, ground := Ground.data }, { on := 7, ground := Ground.data }, { on := 2, ground := Ground.guard }], guard := some (2, false) }) (v := undef) rfl (by kernel_rfl) (by kernel_rfl) (by kernel_rfl) (fun _ _ _ h => h) (Or.inr ⟨by rfl, rfl⟩) (by assumption) ?_
    simp only [Act.put, List.setIfInBounds_toArray, List.set_cons_zero, List.set_cons_succ]
    refine wpAnyH_take (i := 9) (oi := { dst := some 126, op := Op.pick (Operand.tmp 119) (Operand.const (Value.bool true)) (Operand.tmp 125), type := 4, pos := "ref.go:92", after := #[{ on := 2, ground := Ground.data }, { on := 8, ground := Ground.data }], guard := none }) (v := ?_) rfl (by kernel_rfl) (by kernel_rfl) (by kernel_rfl) (fun _ _ _ h => h) (Or.inl ⟨by rfl, ?_⟩) (by assumption) ?_
    rotate_left
    · (intro w_ hS_; go_simp; try with_reducible rfl)
    simp only [Act.put, List.setIfInBounds_toArray, List.set_cons_zero, List.set_cons_succ]
    refine wpAnyH_done (by kernel_rfl) ?_ _
    go_wp2_with (first
      | (refine wpList_stI rfl 27 (.tmp 2) (.tmp 127) rfl r zpkt rfl rfl _ _ gs5 info37 rfl (all15 rfl rfl rfl rfl rfl rfl rfl rfl rfl rfl rfl rfl rfl rfl rfl) ?_
         intro w9 hg9 hbut9 hbel9))
    exact bodyPost_ret (results_cellP rfl _ w9 r zpkt rfl rfl hg9 _ rfl) rfl (by obtain ⟨z1, z2⟩ := HZ.out _ HT.out; rw [z1, z2]; exact ⟨_, rfl, zero_pkt _, hbel9 _ _ (bthen bU5 (Below.refl _ _).drew) hr0⟩)
  | true =>
    obtain ⟨BX, HBX⟩ : ∃ BX, Hid (Pkt.bytes q = BX) := ⟨_, hidT rfl⟩
    have hBy := rpbytes_any (.agg cs) q u5.drew ip5
    rw [HBX.out] at hBy
    have sl := fun w' (hb : Below u5.heap.size u5 w') => strs (h.below bU5) w' hb
    have qb := str_beq BX l
    by_cases hbx : BX = l
    · skip
      have HT : Hid (Pkt.tried q l = some q) := hidT (by rw [Pkt.tried, if_pos ⟨hm, HBX.out.trans hbx⟩])
      rw [decide_eq_true hbx] at qb
      clear hbx
      have qn : ((str BX).toList != (str l).toList) = false := by simp only [bne, qb]; rfl
      go_wp2_with fail
      refine wp_region_held_drew (S := fun w' => Below u5.heap.size u5 w') (by kernel_rfl) ?_ (fun hHeld => ?_)
      · exact (Below.refl _ _).drew
      refine wpAnyH_take (i := 0) (oi := { dst := some 117, op := Op.move (Operand.tmp 19), type := 4, pos := "ref.go:92", after := #[], guard := none }) (v := ?_) rfl (by kernel_rfl) (by kernel_rfl) (by kernel_rfl) (fun _ _ _ h => h) (Or.inl ⟨by rfl, ?_⟩) (by assumption) ?_
      rotate_left
      · (intro w_ hS_; go_simp; try with_reducible rfl)
      simp only [Act.put, List.setIfInBounds_toArray, List.set_cons_zero, List.set_cons_succ]
      refine wpAnyH_take (i := 1) (oi := { dst := some 118, op := Op.unOp UnOp.not 4 (Operand.tmp 117), type := 4, pos := "ref.go:92", after := #[{ on := 0, ground := Ground.data }], guard := none }) (v := ?_) rfl (by kernel_rfl) (by kernel_rfl) (by kernel_rfl) (fun _ _ _ h => h) (Or.inl ⟨by rfl, ?_⟩) (by assumption) ?_
      rotate_left
      · (intro w_ hS_; go_simp; try with_reducible rfl)
      simp only [Act.put, List.setIfInBounds_toArray, List.set_cons_zero, List.set_cons_succ]
      refine wpAnyH_take (i := 2) (oi := { dst := some 119, op := Op.move (Operand.tmp 118), type := 4, pos := "ref.go:92", after := #[{ on := 1, ground := Ground.data }], guard := none }) (v := ?_) rfl (by kernel_rfl) (by kernel_rfl) (by kernel_rfl) (fun _ _ _ h => h) (Or.inl ⟨by rfl, ?_⟩) (by assumption) ?_
      rotate_left
      · (intro w_ hS_; go_simp; try with_reducible rfl)
      simp only [Act.put, List.setIfInBounds_toArray, List.set_cons_zero, List.set_cons_succ]
      refine wpAnyH_take (i := 3) (oi := { dst := some 120, op := Op.load 27 (Operand.tmp 6), type := 27, pos := "ref.go:92", after := #[{ on := 2, ground := Ground.guard }], guard := some (2, false) }) (v := .agg cs) rfl (by kernel_rfl) (by kernel_rfl) (by kernel_rfl) (fun _ _ _ h => h) (Or.inl ⟨by rfl, fun w_ hS_ => run_ldP (.tmp 6) rfl Gb rfl cs sz (GI5 w_ hS_)⟩) (by assumption) ?_
      simp only [Act.put, List.setIfInBounds_toArray, List.set_cons_zero, List.set_cons_succ]
      refine wpAnyH_take (i := 6) (oi := { dst := some 123, op := Op.move (Operand.tmp 0), type := 23, pos := "ref.go:92", after := #[{ on := 2, ground := Ground.guard }], guard := some (2, false) }) (v := ?_) rfl (by kernel_rfl) (by kernel_rfl) (by kernel_rfl) (fun _ _ _ h => h) (Or.inl ⟨by rfl, ?_⟩) (by assumption) ?_
      rotate_left
      · (intro w_ hS_; go_simp; try with_reducible rfl)
      simp only [Act.put, List.setIfInBounds_toArray, List.set_cons_zero, List.set_cons_succ]
      refine wpAnyH_take (i := 7) (oi := { dst := some 124, op := Op.convert 23 9 (Operand.tmp 123), type := 9, pos := "ref.go:92", after := #[{ on := 6, ground := Ground.data }, { on := 2, ground := Ground.guard }], guard := some (2, false) }) (v := ?_) rfl (by kernel_rfl) (by kernel_rfl) (by kernel_rfl) (fun _ _ _ h => h) (Or.inl ⟨by rfl, ?_⟩) (by assumption) ?_
      rotate_left
      · (intro w_ hS_; go_simp; try with_reducible rfl)
      simp only [Act.put, List.setIfInBounds_toArray, List.set_cons_zero, List.set_cons_succ]
      refine wpAnyH_ready (rs := [4]) (by kernel_rfl) (by simp) ?_
      refine AllReadyH.cons (o := { dst := some 121, op := Op.call { callee := Callee.value (Operand.func 16), args := #[Operand.tmp 120], argTypes := #[27] }, type := 23, pos := "ref.go:92", after := #[{ on := 3, ground := Ground.data }, { on := 2, ground := Ground.chain }, { on := 2, ground := Ground.guard }], guard := some (2, false) }) rfl (fun K hK => ?_) AllReadyH.nil
      go_simp
      refine hBy.mono ?_
      rintro en w6 ⟨A6, n6, rfl, o6, h6⟩
      have b6 : Below u5.heap.size u5 w6 := undrew h6
      have s6 := strs o6.same w6 (Below.refl _ _)
      dsimp only
      refine hK.out _ _ ?_ (fun hHeld => ?_)
      · exact b6
      clear hK K
      refine wpAnyH_ready (rs := [5]) (by kernel_rfl) (by simp) ?_
      refine AllReadyH.cons (o := { dst := some 122, op := Op.convert 23 9 (Operand.tmp 121), type := 9, pos := "ref.go:92", after := #[{ on := 4, ground := Ground.data }, { on := 2, ground := Ground.guard }], guard := some (2, false) }) rfl (fun K hK => ?_) AllReadyH.nil
      go_simp
      refine hK.out _ _ ?_ (fun hHeld => ?_)
      · exact b6
      clear hK K
      clear s6
      refine wpAnyH_take (i := 8) (oi := { dst := some 125, op := Op.binOp BinOp.neq 9 (Operand.tmp 122) (Operand.tmp 124) 9, type := 4, pos := "ref.go:92", after := #[{ on := 5, ground := Ground.data }, { on := 7, ground := Ground.data }, { on := 2, ground := Ground.guard }], guard := some (2, false) }) (v := ?_) rfl (by kernel_rfl) (by kernel_rfl) (by kernel_rfl) (fun _ _ _ h => h) (Or.inl ⟨by rfl, ?_⟩) (by assumption) ?_
      rotate_left
      · (intro w_ hS_; go_simp; try with_reducible rfl)
      simp only [Act.put, List.setIfInBounds_toArray, List.set_cons_zero, List.set_cons_succ]
      refine wpAnyH_take (i := 9) (oi := { dst := some 126, op := Op.pick (Operand.tmp 119) (Operand.const (Value.bool true)) (Operand.tmp 125), type := 4, pos := "ref.go:92", after := #[{ on := 2, ground := Ground.data }, { on := 8, ground := Ground.data }], guard := none }) (v := ?_) rfl (by kernel_rfl) (by kernel_rfl) (by kernel_rfl) (fun _ _ _ h => h) (Or.inl ⟨by rfl, ?_⟩) (by assumption) ?_
      rotate_left
      · (intro w_ hS_; go_simp; try with_reducible rfl)
      simp only [Act.put, List.setIfInBounds_toArray, List.set_cons_zero, List.set_cons_succ]
      refine wpAnyH_done (by kernel_rfl) ?_ _
      have gs6 := (b6.block _ (blk_ltP gs5)).trans gs5
      have bU6 := bthen bU5 b6
      have gi6 := GI5 w6 b6
      go_wp2_with (first
        | (refine wpList_ldP rfl (.tmp 6) rfl Gb rfl cs sz gi6 ?_)
        | (refine wpList_stI rfl 27 (.tmp 2) (.tmp 128) rfl r cs rfl rfl _ _ gs6 (by rw [sz]; exact info37) (by rw [sz]; rfl) oc ?_
           intro w9 hg9 hbut9 hbel9))
      exact bodyPost_ret (results_cellP rfl _ w9 r cs sz rfl hg9 _ rfl) rfl (by obtain ⟨z1, z2⟩ := HZ.out _ HT.out; rw [z1, z2]; exact ⟨_, rfl, IPB.out w6 w9 (bthen b5 b6) hbut9, hbel9 _ _ bU6 hr0⟩)
    · skip
      have HT : Hid (Pkt.tried q l = none) := hidT (by rw [Pkt.tried, if_neg (fun hh => hbx (HBX.out.symm.trans hh.2))])
      rw [decide_eq_false hbx] at qb
      clear hbx
      have qn : ((str BX).toList != (str l).toList) = true := by simp only [bne, qb]; rfl
      go_wp2_with fail
      refine wp_region_held_drew (S := fun w' => Below u5.heap.size u5 w') (by kernel_rfl) ?_ (fun hHeld => ?_)
      · exact (Below.refl _ _).drew
      refine wpAnyH_take (i := 0) (oi := { dst := some 117, op := Op.move (Operand.tmp 19), type := 4, pos := "ref.go:92", after := #[], guard := none }) (v := ?_) rfl (by kernel_rfl) (by kernel_rfl) (by kernel_rfl) (fun _ _ _ h => h) (Or.inl ⟨by rfl, ?_⟩) (by assumption) ?_
      rotate_left
      · (intro w_ hS_; go_simp; try with_reducible rfl)
      simp only [Act.put, List.setIfInBounds_toArray, List.set_cons_zero, List.set_cons_succ]
      refine wpAnyH_take (i := 1) (oi := { dst := some 118, op := Op.unOp UnOp.not 4 (Operand.tmp 117), type := 4, pos := "ref.go:92", after := #[{ on := 0, ground := Ground.data }], guard := none }) (v := ?_) rfl (by kernel_rfl) (by kernel_rfl) (by kernel_rfl) (fun _ _ _ h => h) (Or.inl ⟨by rfl, ?_⟩) (by assumption) ?_
      rotate_left
      · (intro w_ hS_; go_simp; try with_reducible rfl)
      simp only [Act.put, List.setIfInBounds_toArray, List.set_cons_zero, List.set_cons_succ]
      refine wpAnyH_take (i := 2) (oi := { dst := some 119, op := Op.move (Operand.tmp 118), type := 4, pos := "ref.go:92", after := #[{ on := 1, ground := Ground.data }], guard := none }) (v := ?_) rfl (by kernel_rfl) (by kernel_rfl) (by kernel_rfl) (fun _ _ _ h => h) (Or.inl ⟨by rfl, ?_⟩) (by assumption) ?_
      rotate_left
      · (intro w_ hS_; go_simp; try with_reducible rfl)
      simp only [Act.put, List.setIfInBounds_toArray, List.set_cons_zero, List.set_cons_succ]
      refine wpAnyH_take (i := 3) (oi := { dst := some 120, op := Op.load 27 (Operand.tmp 6), type := 27, pos := "ref.go:92", after := #[{ on := 2, ground := Ground.guard }], guard := some (2, false) }) (v := .agg cs) rfl (by kernel_rfl) (by kernel_rfl) (by kernel_rfl) (fun _ _ _ h => h) (Or.inl ⟨by rfl, fun w_ hS_ => run_ldP (.tmp 6) rfl Gb rfl cs sz (GI5 w_ hS_)⟩) (by assumption) ?_
      simp only [Act.put, List.setIfInBounds_toArray, List.set_cons_zero, List.set_cons_succ]
      refine wpAnyH_take (i := 6) (oi := { dst := some 123, op := Op.move (Operand.tmp 0), type := 23, pos := "ref.go:92", after := #[{ on := 2, ground := Ground.guard }], guard := some (2, false) }) (v := ?_) rfl (by kernel_rfl) (by kernel_rfl) (by kernel_rfl) (fun _ _ _ h => h) (Or.inl ⟨by rfl, ?_⟩) (by assumption) ?_
      rotate_left
      · (intro w_ hS_; go_simp; try with_reducible rfl)
      simp only [Act.put, List.setIfInBounds_toArray, List.set_cons_zero, List.set_cons_succ]
      refine wpAnyH_take (i := 7) (oi := { dst := some 124, op := Op.convert 23 9 (Operand.tmp 123), type := 9, pos := "ref.go:92", after := #[{ on := 6, ground := Ground.data }, { on := 2, ground := Ground.guard }], guard := some (2, false) }) (v := ?_) rfl (by kernel_rfl) (by kernel_rfl) (by kernel_rfl) (fun _ _ _ h => h) (Or.inl ⟨by rfl, ?_⟩) (by assumption) ?_
      rotate_left
      · (intro w_ hS_; go_simp; try with_reducible rfl)
      simp only [Act.put, List.setIfInBounds_toArray, List.set_cons_zero, List.set_cons_succ]
      refine wpAnyH_ready (rs := [4]) (by kernel_rfl) (by simp) ?_
      refine AllReadyH.cons (o := { dst := some 121, op := Op.call { callee := Callee.value (Operand.func 16), args := #[Operand.tmp 120], argTypes := #[27] }, type := 23, pos := "ref.go:92", after := #[{ on := 3, ground := Ground.data }, { on := 2, ground := Ground.chain }, { on := 2, ground := Ground.guard }], guard := some (2, false) }) rfl (fun K hK => ?_) AllReadyH.nil
      go_simp
      refine hBy.mono ?_
      rintro en w6 ⟨A6, n6, rfl, o6, h6⟩
      have b6 : Below u5.heap.size u5 w6 := undrew h6
      have s6 := strs o6.same w6 (Below.refl _ _)
      dsimp only
      refine hK.out _ _ ?_ (fun hHeld => ?_)
      · exact b6
      clear hK K
      refine wpAnyH_ready (rs := [5]) (by kernel_rfl) (by simp) ?_
      refine AllReadyH.cons (o := { dst := some 122, op := Op.convert 23 9 (Operand.tmp 121), type := 9, pos := "ref.go:92", after := #[{ on := 4, ground := Ground.data }, { on := 2, ground := Ground.guard }], guard := some (2, false) }) rfl (fun K hK => ?_) AllReadyH.nil
      go_simp
      refine hK.out _ _ ?_ (fun hHeld => ?_)
      · exact b6
      clear hK K
      clear s6
      refine wpAnyH_take (i := 8) (oi := { dst := some 125, op := Op.binOp BinOp.neq 9 (Operand.tmp 122) (Operand.tmp 124) 9, type := 4, pos := "ref.go:92", after := #[{ on := 5, ground := Ground.data }, { on := 7, ground := Ground.data }, { on := 2, ground := Ground.guard }], guard := some (2, false) }) (v := ?_) rfl (by kernel_rfl) (by kernel_rfl) (by kernel_rfl) (fun _ _ _ h => h) (Or.inl ⟨by rfl, ?_⟩) (by assumption) ?_
      rotate_left
      · (intro w_ hS_; go_simp; try with_reducible rfl)
      simp only [Act.put, List.setIfInBounds_toArray, List.set_cons_zero, List.set_cons_succ]
      refine wpAnyH_take (i := 9) (oi := { dst := some 126, op := Op.pick (Operand.tmp 119) (Operand.const (Value.bool true)) (Operand.tmp 125), type := 4, pos := "ref.go:92", after := #[{ on := 2, ground := Ground.data }, { on := 8, ground := Ground.data }], guard := none }) (v := ?_) rfl (by kernel_rfl) (by kernel_rfl) (by kernel_rfl) (fun _ _ _ h => h) (Or.inl ⟨by rfl, ?_⟩) (by assumption) ?_
      rotate_left
      · (intro w_ hS_; go_simp; try with_reducible rfl)
      simp only [Act.put, List.setIfInBounds_toArray, List.set_cons_zero, List.set_cons_succ]
      refine wpAnyH_done (by kernel_rfl) ?_ _
      have gs6 := (b6.block _ (blk_ltP gs5)).trans gs5
      have bU6 := bthen bU5 b6
      have gi6 := GI5 w6 b6
      go_wp2_with (first
        | (refine wpList_stI rfl 27 (.tmp 2) (.tmp 127) rfl r zpkt rfl rfl _ _ gs6 info37 rfl (all15 rfl rfl rfl rfl rfl rfl rfl rfl rfl rfl rfl rfl rfl rfl rfl) ?_
           intro w9 hg9 hbut9 hbel9))
      exact bodyPost_ret (results_cellP rfl _ w9 r zpkt rfl rfl hg9 _ rfl) rfl (by obtain ⟨z1, z2⟩ := HZ.out _ HT.out; rw [z1, z2]; exact ⟨_, rfl, zero_pkt _, hbel9 _ _ bU6 hr0⟩)
end Go.Proofs.YtahkhideepncfaaDoor
