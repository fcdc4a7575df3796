/- What keep's New, Room, behind, Get and Free come to. -/
import Derived.Test.YtgnaecifinlnmaaKeep4
set_option maxRecDepth 100000
namespace Go.Proofs.Ytgnaecifinlnmaa
open Go.RowKit
set_option linter.unusedVariables false

theorem new_any (w : World) : Calls Try.prog 16 #[] w (fun e w' => e = .returned (.agg #[.int .i64 1, .slice none 0 0]) ∧ Below w.heap.size w w') := by
  have y0 := alloc_at w (.cells #[.int .i64 1, .slice none 0 0] 24) _ rfl
  obtain ⟨e0, e1⟩ := cells2 y0
  have hb := nkeep w (.cells #[.int .i64 1, .slice none 0 0] 24)
  clear y0
  go_enter Try.func16, Try.ntmps16
  go_wp2
  exact bodyPost_ret (v := .agg #[.int .i64 1, .slice none 0 0]) (by simp [results, Try.results16, go_sem, e0, e1]) rfl ⟨rfl, hb⟩
theorem rnew_any (w : World) : Calls Try.prog 17 #[] w (fun e w' => e = .returned (.agg #[.int .i64 1, .slice none 0 0]) ∧ Below w.heap.size w w') := by
  have y0 := alloc_at w (.cells #[.int .i64 1, .slice none 0 0] 24) _ rfl
  obtain ⟨e0, e1⟩ := cells2 y0
  have hb := nkeep w (.cells #[.int .i64 1, .slice none 0 0] 24)
  clear y0
  go_enter Try.func17, Try.ntmps17
  go_wp2
  exact bodyPost_ret (v := .agg #[.int .i64 1, .slice none 0 0]) (by simp [results, Try.results17, go_sem, e0, e1]) rfl ⟨rfl, hb⟩

theorem kwithin_is (n a b : Int) (w : World) (t : Bool) (ht : (decide (a ≤ n) && decide (n ≤ b)) = t) : Calls Try.prog 28 #[.int .i64 n, .int .i64 a, .int .i64 b] w (fun e w' => e = .returned (.bool t) ∧ w' = w) := by
  rw [← ht]
  exact kwithin_any n a b w

set_option maxHeartbeats 1000000 in
theorem room_any (v : Value) (k : Keep.Kp) (buf spare : Int) (w : World) (h : IsKeep w v k) :
    Calls Try.prog 22 #[v, .int .i64 buf, .int .i64 spare] w (fun e w' => e = .returned (.int .i64 (Keep.room k buf spare)) ∧ Below w.heap.size w w') := by
  obtain ⟨A, n, c, rfl, hX⟩ := h
  have hn := hX.le
  have hlen := hX.size
  have y0 := alloc_at w (.cells #[.int .i64 k.next, .slice A n c] 24) _ rfl
  obtain ⟨e0, e1⟩ := cells2 y0
  have hb := nkeep w (.cells #[.int .i64 k.next, .slice A n c] 24)
  obtain ⟨R, HR⟩ : ∃ R : Int, Hid (Keep.room k buf spare = R) := ⟨_, rfl⟩
  rw [HR.out]
  clear y0 hX
  by_cases h1 : 4611686018427387904 < k.next
  · have q1 : decide (4611686018427387904 < k.next) = true := by simpa using h1
    have e : (0 : Int) = R := by rw [← HR.out]; unfold Keep.room; rw [if_pos (by omega)]
    clear h1 HR
    subst e
    go_enter Try.func22, Try.ntmps22
    go_wp2
    go_ret
    exact ⟨rfl, hb⟩
  · have q1 : decide (4611686018427387904 < k.next) = false := by simpa using h1
    by_cases h2 : 0 ≤ buf ∧ buf ≤ 64
    · have c2 := fun w => kwithin_is buf 0 64 w true (by simp; omega)
      by_cases h3 : 0 ≤ spare ∧ spare ≤ buf
      · have c3 := fun w => kwithin_is spare 0 buf w true (by simp; omega)
        have s1 : IntKind.i64.wrap (buf - spare) = buf - spare := IntWalk.i64_in _ (by omega)
        have s2 : IntKind.i64.wrap (buf - spare - (n : Int)) = buf - spare - (n : Int) := IntWalk.i64_in _ (by omega)
        obtain ⟨h2a, h2b⟩ := h2
        obtain ⟨h3a, h3b⟩ := h3
        by_cases h4 : 0 < buf - spare - (n : Int)
        · have e : buf - spare - (n : Int) = R := by rw [← HR.out]; unfold Keep.room; rw [if_neg (by omega), hlen]
          clear HR h1 hlen
          subst e
          go_enter Try.func22, Try.ntmps22
          go_wp2_with fail
          with_reducible refine (c2 _).mono ?_
          rintro e w5 ⟨rfl, rfl⟩
          go_wp2_with fail
          with_reducible refine (c3 _).mono ?_
          rintro e w5 ⟨rfl, rfl⟩
          go_wp2
          go_ret
          exact ⟨rfl, hb⟩
        · have e : (0 : Int) = R := by
            rw [← HR.out]
            unfold Keep.room
            rw [hlen]
            split
            · rfl
            · omega
          clear HR h1 hlen
          subst e
          go_enter Try.func22, Try.ntmps22
          go_wp2_with fail
          with_reducible refine (c2 _).mono ?_
          rintro e w5 ⟨rfl, rfl⟩
          go_wp2_with fail
          with_reducible refine (c3 _).mono ?_
          rintro e w5 ⟨rfl, rfl⟩
          go_wp2
          go_ret
          exact ⟨rfl, hb⟩
      · have c3 := fun w => kwithin_is spare 0 buf w false (by simp; omega)
        have e : (0 : Int) = R := by rw [← HR.out]; unfold Keep.room; rw [if_pos (by omega)]
        clear HR h1 h2 h3
        subst e
        go_enter Try.func22, Try.ntmps22
        go_wp2_with fail
        with_reducible refine (c2 _).mono ?_
        rintro e w5 ⟨rfl, rfl⟩
        go_wp2_with fail
        with_reducible refine (c3 _).mono ?_
        rintro e w5 ⟨rfl, rfl⟩
        go_wp2
        go_ret
        exact ⟨rfl, hb⟩
    · have c2 := fun w => kwithin_is buf 0 64 w false (by simp; omega)
      have e : (0 : Int) = R := by rw [← HR.out]; unfold Keep.room; rw [if_pos (by omega)]
      clear HR h1 h2
      subst e
      go_enter Try.func22, Try.ntmps22
      go_wp2_with fail
      with_reducible refine (c2 _).mono ?_
      rintro e w5 ⟨rfl, rfl⟩
      go_wp2
      go_ret
      exact ⟨rfl, hb⟩

def BehindIs (w0 w : World) (xs : List Item.It) (e : Ending) (w' : World) : Prop := ∃ A m, e = .returned (.slice A m m) ∧ RdX w0 A m m xs ∧ Below w.heap.size w w'
theorem RdX.empty (w : World) (A : Option Addr) : RdX w A 0 0 [] := ⟨[], RdK.empty 8 w A, AreI.nil_ w⟩
set_option maxHeartbeats 1000000 in
theorem behind_any (A : Option Addr) (n c : Nat) (xs : List Item.It) (s : Int) (w0 w : World) (h : RdX w0 A n c xs) (hw : Below w0.heap.size w0 w) :
    Calls Try.prog 38 #[.slice A n c, .int .i64 s] w (BehindIs w0 w (xs.drop (xs.findIdx (fun y : Item.It => decide (s < y.q))))) := by
  have hn := h.le
  have hlen := h.size
  have hcap := h.cap
  have hcm := h.cmax
  have y0 := alloc_at w (.cells #[.int .i64 s] 3) _ rfl
  have c0 := cell_at y0 0 (u := .int .i64 s) rfl
  have hb := nkeep w (.cells #[.int .i64 s] 3)
  have hc := behind_place A n c xs w.heap.size s _ (h.below (bthen hw hb)) c0
  have hle := idx_le xs (fun y : Item.It => decide (s < y.q))
  clear y0 c0
  generalize xs.findIdx (fun y : Item.It => decide (s < y.q)) = m at hc hle ⊢
  have HLEN := hidT hlen
  have H := hidT h
  have hmn : m ≤ n := by omega
  clear hlen h hle
  cases A with
  | none =>
    obtain ⟨rfl, rfl, rfl⟩ := H.out.nilA
    obtain rfl : m = 0 := by omega
    go_enter Try.func38, Try.ntmps38
    go_wp2_with fail
    with_reducible refine hc.mono ?_
    rintro e w5 ⟨rfl, hb5⟩
    go_wp2
    go_ret
    exact ⟨none, 0, rfl, RdX.nil_ _, bthen hb hb5⟩
  | some ad =>
    by_cases hmn' : m = n
    · subst hmn'
      have x1 : (0 : Int) ≤ (m : Int) := by omega
      have x3 : (m : Int) ≤ (c : Int) := by omega
      go_enter Try.func38, Try.ntmps38
      go_wp2_with fail
      with_reducible refine hc.mono ?_
      rintro e w5 ⟨rfl, hb5⟩
      go_wp2
      go_ret
      rw [List.drop_of_length_le (by rw [HLEN.out]; exact Nat.le_refl _)]
      exact ⟨_, 0, rfl, RdX.empty _ _, bthen hb hb5⟩
    · have x1 : (0 : Int) ≤ (m : Int) := by omega
      have x2 : (m : Int) ≤ (n : Int) := by omega
      have x3 : (n : Int) ≤ (c : Int) := by omega
      have x4 : ¬ n = m := by omega
      have x5 : ¬ m = n := by omega
      obtain ⟨b, o, e⟩ := H.out.addr (by omega)
      injection e with e
      subst e
      go_enter Try.func38, Try.ntmps38
      go_wp2_with fail
      with_reducible refine hc.mono ?_
      rintro e w5 ⟨rfl, hb5⟩
      have HB5 := hidT (bthen hb hb5)
      clear hb5 hb
      go_wp2
      go_ret
      refine ⟨_, n - m, rfl, ?_, HB5.out⟩
      have hd := H.out.drop hmn
      exact hd.recap (n - m) (Nat.le_refl _) (by omega)

theorem three_alloc (w : World) (o0 o1 o2 : Obj) : (((w.alloc o0).alloc o1).alloc o2).heap[w.heap.size]? = some o0 ∧ (((w.alloc o0).alloc o1).alloc o2).heap[w.heap.size + 1]? = some o1 ∧ (((w.alloc o0).alloc o1).alloc o2).heap[w.heap.size + 2]? = some o2 ∧ Below w.heap.size w (((w.alloc o0).alloc o1).alloc o2) := by
  obtain ⟨h0, h1, hb⟩ := two_alloc w o0 o1
  have hk := nkeep ((w.alloc o0).alloc o1) o2
  exact ⟨keepH h0 hk, keepH h1 hk, alloc_at _ _ _ (by rw [size_alloc, size_alloc]), bthen hb hk⟩
/-- An item, or none, and whether there is one. -/
def GetIs (w : World) (o : Option Item.It) (e : Ending) (w' : World) : Prop := ∃ v, e = .returned (.tuple #[v, .bool o.isSome]) ∧ IsItem w' v (o.getD Item.It.zero) ∧ Below w.heap.size w w'
theorem got_idx (l : List Item.It) (q : Int) : Keep.got l q = l[l.findIdx (fun y : Item.It => decide (y.q = q))]? := by
  unfold Keep.got
  induction l with
  | nil => rfl
  | cons y l ih =>
    by_cases h : y.q = q
    · simp [List.findIdx_cons, h]
    · simp [List.findIdx_cons, h, ih]
set_option maxHeartbeats 2000000 in
theorem get_any (v : Value) (k : Keep.Kp) (s : Int) (w : World) (h : IsKeep w v k) (hS : SmallL k.l) :
    Calls Try.prog 20 #[v, .int .i64 s] w (GetIs w (Keep.got k.l s)) := by
  obtain ⟨A, n, c, rfl, hX⟩ := h
  have hn := hX.le
  have hlen := hX.size
  obtain ⟨t0, t1, t2, hb⟩ := three_alloc w (.cells #[.int .i64 k.next, .slice A n c] 24) (.cells #[.int .i64 s] 3) (.cells zcells 28)
  have hc := get_place A n c k.l (w.heap.size + 1) s _ (hX.below hb) (cell_at t1 0 (u := .int .i64 s) rfl)
  rw [got_idx]
  have hle := idx_le k.l (fun y : Item.It => decide (y.q = s))
  generalize k.l.findIdx (fun y : Item.It => decide (y.q = s)) = m at hc hle ⊢
  rw [hlen] at hle
  obtain ⟨i0, i1⟩ := cells2 t0
  obtain ⟨W, hW⟩ : ∃ W, ((w.alloc (.cells #[.int .i64 k.next, .slice A n c] 24)).alloc (.cells #[.int .i64 s] 3)).alloc (.cells zcells 28) = W := ⟨_, rfl⟩
  rw [hW] at t0 t1 t2 hb hc i0 i1
  have HW := hidT hW
  have HC := hidT hc
  clear hW hc t1
  have T0 := hidT t0
  have T2 := hidT t2
  have HB := hidT hb
  have HX := hidT hX
  have HSM := hidT hS
  have HLEN := hidT hlen
  obtain ⟨g, hg⟩ : ∃ g, w.heap.size = g := ⟨_, rfl⟩
  have HG := hidT hg
  rw [hg] at i0 i1
  clear t0 t2 hb hX hS hlen
  by_cases hmn : m = n
  · subst hmn
    have hnone : k.l[m]? = none := List.getElem?_eq_none (by rw [HLEN.out]; exact Nat.le_refl _)
    have q1 : ((m : Int) == (m : Int)) = true := by simp
    go_enter Try.func20, Try.ntmps20
    go_wp2_with fail
    rw [HW.out]
    clear hg
    with_reducible refine (by rw [← HG.out]; exact HC.out : Calls Try.prog _ _ W _).mono ?_
    rintro e w5 ⟨rfl, hb5⟩
    have y0 := keepH T0.out hb5
    have y2 := keepH T2.out hb5
    rw [HG.out] at y0 y2
    obtain ⟨i0, i1⟩ := cells2 y0
    have HB5 := hidT (bthen HB.out hb5)
    have HN := hidT hnone
    clear hnone hb5 y0
    go_wp2_with (
      refine wpList_stI rfl 28 _ _ rfl (g + 2) zcells rfl rfl _ _ y2 size8 rfl (by kernel_rfl) ?_
      intro w7 hg7 hbut hbel)
    obtain ⟨e0, e1, e2, e3, e4, e5, e6, e7⟩ := cells8 hg7
    have hgg := HG.out
    exact bodyPost_ret (v := .tuple #[.agg zcells, .bool false]) (by simp [results, Try.results20, go_sem, e0, e1, e2, e3, e4, e5, e6, e7]) rfl
      (by rw [HN.out]; exact ⟨_, rfl, IsItem.zero _, hbel _ _ HB5.out (by omega)⟩)
  · have hmn' : m < n := by omega
    obtain ⟨b, o, x, LA, ln, lc, BA, bn, bc, rfl, hx, hi, hcs⟩ := HX.out.told hmn'
    have hsm := HSM.out.2 x (List.mem_of_getElem? hx)
    have q1 : ((m : Int) == (n : Int)) = false := by simp; omega
    have q2 : (m == n) = false := by simpa using hmn
    have x1 : (0 : Int) ≤ (m : Int) := by omega
    have x2 : (m : Int) < (n : Int) := by omega
    have HXX := hidT hx
    have HI := hidT hi
    have HCS := hidT hcs
    have HSX := hidT hsm
    clear hx hi hcs hsm hmn hmn'
    go_enter Try.func20, Try.ntmps20
    go_wp2_with fail
    rw [HW.out]
    clear hg
    with_reducible refine (by rw [← HG.out]; exact HC.out : Calls Try.prog _ _ W _).mono ?_
    rintro e w5 ⟨rfl, hb5⟩
    have y0 := keepH T0.out hb5
    have y2 := keepH T2.out hb5
    rw [HG.out] at y0 y2
    obtain ⟨i0, i1⟩ := cells2 y0
    have HB5 := hidT (bthen HB.out hb5)
    have Y2 := hidT y2
    have hbs := (bthen HB.out hb5).size
    obtain ⟨c0, c1, c2, c3, c4, c5, c6, c7⟩ := HCS.out w5 HB5.out
    have hown := own_any _ x w5 (HI.out.below HB5.out) HSX.out.1 HSX.out.2
    clear hb5 y0 y2 hbs
    go_wp2_with fail
    with_reducible refine hown.mono ?_
    rintro e w6 ⟨v6, rfl, hF6, hb6⟩
    obtain ⟨LA', ln', lc', BA', bn', bc', rfl, hl6, hbd6, hla6, hba6⟩ := id hF6
    have y6 := keepH Y2.out hb6
    have HB6 := hidT (bthen HB5.out hb6)
    have h25 := blk_lt Y2.out
    have HF6 := hidT hF6
    clear hl6 hbd6 hla6 hba6 hb6 c0 c1 c2 c3 c4 c5 c6 c7 i0 i1 hown hF6
    go_wp2_with (
      refine wpList_stI rfl 28 _ _ rfl (g + 2) #[.int .i64 x.k, .int .i64 x.q, .int .i64 x.e, .int .i64 x.i, .int .i64 x.t, .int .i64 x.c, .slice LA' ln' lc', .slice BA' bn' bc'] rfl rfl _ _ y6 size8 rfl (by simp [Value.oneCell']) ?_
      intro w7 hg7 hbut hbel)
    obtain ⟨e0, e1, e2, e3, e4, e5, e6, e7⟩ := cells8 hg7
    have hgg := HG.out
    exact bodyPost_ret (v := .tuple #[.agg #[.int .i64 x.k, .int .i64 x.q, .int .i64 x.e, .int .i64 x.i, .int .i64 x.t, .int .i64 x.c, .slice LA' ln' lc', .slice BA' bn' bc'], .bool true]) (by simp [results, Try.results20, go_sem, e0, e1, e2, e3, e4, e5, e6, e7]) rfl
      (by rw [HXX.out]; exact ⟨_, rfl, (HF6.out.but h25 hbut).is, hbel _ _ HB6.out (by omega)⟩)

set_option maxHeartbeats 2000000 in
theorem free_any (v : Value) (k : Keep.Kp) (s : Int) (w : World) (h : IsKeep w v k) (hS : SmallL k.l) :
    Calls Try.prog 25 #[v, .int .i64 s] w (FreshK w ⟨k.next, k.l.drop (k.l.findIdx (fun y : Item.It => decide (s < y.q)))⟩) := by
  obtain ⟨A, n, c, rfl, hX⟩ := h
  obtain ⟨t0, t1, hb⟩ := two_alloc w (.cells #[.int .i64 k.next, .slice A n c] 24) (.cells kz 24)
  have hc := behind_any A n c k.l s w _ hX hb
  obtain ⟨L, HL⟩ : ∃ L, Hid (k.l.drop (k.l.findIdx (fun y : Item.It => decide (s < y.q))) = L) := ⟨_, rfl⟩
  rw [HL.out] at hc ⊢
  have hSL : SmallL L := by
    rw [← HL.out]
    exact ⟨by rw [List.length_drop]; have := hS.1; omega, fun x hx => hS.2 x (List.mem_of_mem_drop hx)⟩
  obtain ⟨i0, i1⟩ := cells2 t0
  obtain ⟨W, hW⟩ : ∃ W, (w.alloc (.cells #[.int .i64 k.next, .slice A n c] 24)).alloc (.cells kz 24) = W := ⟨_, rfl⟩
  rw [hW] at t0 t1 hb hc i0 i1
  have HW := hidT hW
  have HC := hidT hc
  have T0 := hidT t0
  have T1 := hidT t1
  have HB := hidT hb
  have HS := hidT hSL
  obtain ⟨g, hg⟩ : ∃ g, w.heap.size = g := ⟨_, rfl⟩
  have HG := hidT hg
  rw [hg] at i0 i1
  clear hW hc t0 t1 hb hS hX hSL HL
  go_enter Try.func25, Try.ntmps25
  go_wp2_with fail
  rw [HW.out]
  clear hg
  with_reducible refine HC.out.mono ?_
  rintro e w5 ⟨A5, m5, rfl, hX5, hb5⟩
  have y0 := keepH T0.out hb5
  have y1 := keepH T1.out hb5
  rw [HG.out] at y0 y1
  have f1 := no_frozen y0 1
  obtain ⟨u0, u1⟩ := cells2 y0
  have z0 : (w5.setCell ⟨g, 1, none⟩ (.slice A5 m5 m5)).heap[g]? = some (.cells #[.int .i64 k.next, .slice A5 m5 m5] 24 (0, 0)) := heap_setCell_same w5 g 1 _ _ _ y0
  have zb : But g w5 (w5.setCell ⟨g, 1, none⟩ (.slice A5 m5 m5)) := But.setCell w5 g 1 _
  have z1 := (zb.2 (g + 1) (by omega)).trans y1
  have hgw : w.heap.size ≤ g := by rw [HG.out]; exact Nat.le_refl _
  have zB : Below w.heap.size w (w5.setCell ⟨g, 1, none⟩ (.slice A5 m5 m5)) := (bthen HB.out hb5).setCell (p := ⟨g, 1, none⟩) hgw _
  have hf := fresh_any (.agg #[.int .i64 k.next, .slice A5 m5 m5]) ⟨k.next, L⟩ _ ⟨A5, m5, m5, rfl, hX5.below zB⟩ HS.out
  obtain ⟨v0, v1⟩ := cells2 z0
  have Z1 := hidT z1
  have ZB := hidT zB
  clear z0 z1 zb zB y0 y1 hb5 hX5 i0 i1
  go_wp2_with fail
  with_reducible refine hf.mono ?_
  rintro e w6 ⟨A6, n6, c6, us, lo, rfl, hO6, hF6, ha6, hlo6, hbl6, hb6⟩
  have y6 := keepH Z1.out hb6
  have hsz := blk_lt Z1.out
  have hsz2 := ZB.out.size
  have HB6 := hidT (bthen ZB.out hb6)
  have HO := hidT hO6
  have HF := hidT hF6
  have HA := hidT ha6
  have HLO := hidT hlo6
  clear hO6 hF6 ha6 hlo6 hb6 hf v0 v1
  go_wp2_with (
    refine wpList_stI rfl 24 _ _ rfl (g + 1) #[.int .i64 k.next, .slice A6 n6 c6] rfl rfl _ _ y6 size2 rfl (by simp [Value.oneCell']) ?_
    intro w7 hg7 hbut hbel)
  obtain ⟨e0, e1⟩ := cells2 hg7
  exact bodyPost_ret (v := .agg #[.int .i64 k.next, .slice A6 n6 c6]) (by simp [results, Try.results25, go_sem, e0, e1]) rfl
    ⟨A6, n6, c6, us, lo, rfl, (HO.out.but hsz hbut).mono hsz2, HF.out.but (by omega) hbut, HA.out, by rw [hbut.1]; exact HLO.out, by omega, hbel _ _ HB6.out (by omega)⟩
end Go.Proofs.Ytgnaecifinlnmaa
