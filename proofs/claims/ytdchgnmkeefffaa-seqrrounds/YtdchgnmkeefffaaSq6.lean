/- What Say comes to. -/
import Derived.Test.YtdchgnmkeefffaaSq6a
import Derived.Test.YtdchgnmkeefffaaSq1
set_option maxRecDepth 100000
namespace Go.Proofs.Ytdchgnmkeefffaa
open Go.RowKit
set_option linter.unusedVariables false

theorem infoIt : (Try.prog.info? 35).map (·.size) = some 8 := by kernel_rfl
/-- An item whose numbers lie in new memory. -/
def IsItemH (lo : Nat) (w : World) (v : Value) (x : Item.It) : Prop :=
  ∃ LA ln lc BA bn bc, v = .agg #[.int .i64 x.k, .int .i64 x.q, .int .i64 x.e, .int .i64 x.i, .int .i64 x.t, .int .i64 x.c, .slice LA ln lc, .slice BA bn bc] ∧ RdI w LA ln lc x.l ∧ Rd w BA bn bc x.b ∧ Within (Hi lo) LA ln
theorem IsItemH.item {lo : Nat} {w : World} {v : Value} {x : Item.It} (h : IsItemH lo w v x) : IsItem w v x := by
  obtain ⟨LA, ln, lc, BA, bn, bc, e, h1, h2, _⟩ := h
  exact ⟨LA, ln, lc, BA, bn, bc, e, h1, h2⟩
/-- What Say tells. -/
def SayIs (w : World) (o : Option Item.It) (e : Ending) (w' : World) : Prop := ∃ v, e = .returned (.tuple #[v, .bool o.isSome]) ∧ IsItemH w.heap.size w' v (o.getD Item.It.zero) ∧ Below w.heap.size w w'
theorem IsItemH.zero' (lo : Nat) (w : World) : IsItemH lo w (.agg #[.int .i64 0, .int .i64 0, .int .i64 0, .int .i64 0, .int .i64 0, .int .i64 0, .slice none 0 0, .slice none 0 0]) Item.It.zero := ⟨none, 0, 0, none, 0, 0, rfl, RdV.nil_ w, Rd.nil_ w, Within.zero _ _⟩
theorem IsItemH.order (lo : Nat) (w : World) (B : Option Addr) (m d : Nat) (l : List Int) (i : Int) (h : RdI w B m d l) (hw : Within (Hi lo) B m) : IsItemH lo w (.agg #[.int .i64 2, .int .i64 0, .int .i64 0, .int .i64 i, .int .i64 0, .int .i64 0, .slice B m d, .slice none 0 0]) (Seqr.orderOf l i) := ⟨B, m, d, none, 0, 0, rfl, h, Rd.nil_ w, hw⟩
theorem cells8x {w : World} {g : Nat} {a0 a1 a2 a3 a4 a5 a6 a7 : Value} {t : TypeId} (h : w.heap[g]? = some (.cells #[a0, a1, a2, a3, a4, a5, a6, a7] t (0, 0))) :
    w.cell? ⟨g, 0, none⟩ = some a0 ∧ w.cell? ⟨g, 1, none⟩ = some a1 ∧ w.cell? ⟨g, 2, none⟩ = some a2 ∧ w.cell? ⟨g, 3, none⟩ = some a3 ∧ w.cell? ⟨g, 4, none⟩ = some a4 ∧ w.cell? ⟨g, 5, none⟩ = some a5 ∧ w.cell? ⟨g, 6, none⟩ = some a6 ∧ w.cell? ⟨g, 7, none⟩ = some a7 :=
  ⟨cell_at h 0 rfl, cell_at h 1 rfl, cell_at h 2 rfl, cell_at h 3 rfl, cell_at h 4 rfl, cell_at h 5 rfl, cell_at h 6 rfl, cell_at h 7 rfl⟩

set_option maxHeartbeats 8000000 in
theorem sqSay_any {S : Nat → Prop} (t : Seqr.Tn) (A : Option Addr) (n c : Nat) (ls : List Lane.Ln) (me : Nat) (quota : Int) (w : World) (h : RdL S w A n c ls) (hsm : SmallLs ls) (hn : n ≤ 64) (hme : me < n) (hq : 1 ≤ quota ∧ quota ≤ 64) (hu : 0 ≤ t.used ∧ t.used ≤ 2305843009213693952) :
    Calls Try.prog 13 #[.agg (tc t), .slice A n c, .int .i64 (me : Int), .int .i64 quota] w (SayIs w (Seqr.say t ls me quota)) := by
  have hle := h.le
  obtain ⟨t1, t2, t3⟩ := two_alloc w (.cells #[.int .i64 (t.who : Int), .int .i64 t.used] 23) (.cells #[.int .i64 0, .int .i64 0, .int .i64 0, .int .i64 0, .int .i64 0, .int .i64 0, .slice none 0 0, .slice none 0 0] 35)
  obtain ⟨W, hW⟩ : ∃ W, (w.alloc (.cells #[.int .i64 (t.who : Int), .int .i64 t.used] 23)).alloc (.cells #[.int .i64 0, .int .i64 0, .int .i64 0, .int .i64 0, .int .i64 0, .int .i64 0, .slice none 0 0, .slice none 0 0] 35) = W := ⟨_, rfl⟩
  have HSW : Hid (W.heap.size = w.heap.size + 2) := by rw [← hW, size_alloc, size_alloc]; exact hidT rfl
  rw [hW] at t1 t2 t3
  have HW := hidT hW
  obtain ⟨q, hqq⟩ : ∃ q, w.heap.size = q := ⟨_, rfl⟩
  have HQ := hidT hqq
  rw [hqq] at t1 t2
  have T1 := hidT t1
  have T2 := hidT t2
  have T3 := hidT t3
  have HR := hidT (h.below t3)
  have HSM := hidT hsm
  obtain ⟨v0, v1⟩ := cells2 t1
  rw [← HW.out] at v0 v1
  by_cases hwho : t.who = me
  · have p1 : ((t.who : Int) != (me : Int)) = false := by simp [hwho]
    have p1' : (t.who != me) = false := by simp [hwho]
    have hmem := sqMember_any (me : Int) (n : Int) W true (by simp; omega)
    rw [← HW.out] at hmem
    have HWHO := hidT hwho
    have y2 := T2.out
    rw [← HW.out] at y2
    have HCON := hidT (sqControl_any t A n c ls W HR.out hsm (by omega))
    clear t1 t2 t3 hW h hsm hwho
    go_enter Try.func13, Try.ntmps13
    go_wp2_with fail
    with_reducible refine hmem.mono ?_
    rintro e w1 ⟨rfl, rfl⟩
    go_wp2_with fail
    rw [HW.out]
    clear hqq v0 v1 hmem y2
    with_reducible refine HCON.out.mono ?_
    rintro e w2 ⟨v2, rfl, hi2, hb2⟩
    obtain ⟨BA, bn, bc, LA, ln, lc, rfl, _, _, _, _⟩ := hi2
    have HB2 := hidT (bthen T3.out hb2)
    have T12 := hidT (keepH T1.out hb2)
    have T22 := hidT (keepH T2.out hb2)
    have HR2 := hidT (HR.out.below hb2)
    have n3 := nkeep w2 (.cells #[.int .i64 ((Lane.control (Seqr.laneAt ls t.who)).getD Lane.En.zero).k, .int .i64 ((Lane.control (Seqr.laneAt ls t.who)).getD Lane.En.zero).q, .slice BA bn bc, .slice LA ln lc, .bool ((Lane.control (Seqr.laneAt ls t.who)).getD Lane.En.zero).h] 59)
    have HB3 := hidT (bthen HB2.out n3)
    have y3 := keepH T22.out n3
    have hcon : Lane.control (Seqr.laneAt ls t.who) = Lane.control (Seqr.laneAt ls me) := by rw [HWHO.out]
    clear HCON
    cases hc : (Lane.control (Seqr.laneAt ls t.who)).isSome with
    | true =>
      have hsay : Seqr.say t ls me quota = none := Seqr.say_waits (by rw [← hcon]; exact hc)
      have HSAY := hidT hsay
      clear hsay hcon hc hb2 n3
      go_wp2_with (
        refine wpList_stI rfl 35 _ _ rfl (q + 1) #[.int .i64 0, .int .i64 0, .int .i64 0, .int .i64 0, .int .i64 0, .int .i64 0, .slice none 0 0, .slice none 0 0] rfl rfl _ _ y3 infoIt rfl (by simp [Value.oneCell']) ?_
        intro w7 hg7 hbut hbel)
      obtain ⟨e0, e1, e2, e3, e4, e5, e6, e7⟩ := cells8x hg7
      have hqq := HQ.out
      exact bodyPost_ret (v := .tuple #[.agg #[.int .i64 0, .int .i64 0, .int .i64 0, .int .i64 0, .int .i64 0, .int .i64 0, .slice none 0 0, .slice none 0 0], .bool false]) (by simp [results, Try.results13, go_sem, e0, e1, e2, e3, e4, e5, e6, e7]) rfl
        (by rw [HSAY.out]; exact ⟨_, rfl, IsItemH.zero' _ _, hbel _ _ HB3.out (by omega)⟩)
    | false =>
      have HCN : Hid ((Lane.control (Seqr.laneAt ls me)).isSome = false) := hidT (by rw [← hcon]; exact hc)
      have T13 := hidT (keepH T12.out n3)
      have T23 := hidT y3
      have HR3 := hidT (HR2.out.below n3)
      have u1 := hu.1
      have u2 := hu.2
      have z1 := hq.1
      have z2 := hq.2
      obtain ⟨c0, c1⟩ := cells2 T13.out
      obtain ⟨L, hL⟩ : ∃ L, Seqr.saidL ls me (quota - t.used) = L := ⟨_, rfl⟩
      have HL := hidT hL
      have HSN := hidT (senders_any A n c ls me (quota - t.used) _ HR3.out hn hme (by omega))
      have hlen : L.length ≤ 64 := by have := Seqr.saidL_len ls me (quota - t.used); rw [hL] at this; omega
      rw [hL] at HSN
      have HWI : Hid (∀ m : Nat, m = L.length → decide (quota - t.used ≤ (m : Int)) = decide (quota ≤ t.used + (L.length : Int))) := hidT fun m hm => by rw [hm]; congr 1; rw [eq_iff_iff]; omega
      have HLEN := hidT hlen
      clear hcon hc hb2 n3 y3 hL hlen hu hq
      go_wp2_with fail
      generalize w2.alloc (.cells #[.int .i64 ((Lane.control (Seqr.laneAt ls t.who)).getD Lane.En.zero).k, .int .i64 ((Lane.control (Seqr.laneAt ls t.who)).getD Lane.En.zero).q, .slice BA bn bc, .slice LA ln lc, .bool ((Lane.control (Seqr.laneAt ls t.who)).getD Lane.En.zero).h] 59) = w3 at *
      with_reducible refine HSN.out.mono ?_
      rintro e w5 ⟨B, m, d, rfl, ho5, hb5⟩
      have hml := OwnV.size ho5
      rw [is_length] at hml
      have hwi := HWI.out m hml.symm
      have HB5 := hidT (bthen HB3.out hb5)
      have T25 := hidT (keepH T23.out hb5)
      have rd5 := OwnV.same ho5
      have n6 := nkeep w5 (.cells #[.int .i64 2, .int .i64 0, .int .i64 0, .int .i64 0, .int .i64 0, .int .i64 0, .slice B m d, .slice none 0 0] 35)
      have y6 := alloc_at w5 (.cells #[.int .i64 2, .int .i64 0, .int .i64 0, .int .i64 0, .int .i64 0, .int .i64 0, .slice B m d, .slice none 0 0] 35) _ rfl
      have HB6 := hidT (bthen HB5.out n6)
      have T26 := hidT (keepH T25.out n6)
      have RD6 := hidT (RdV.below rd5 n6)
      have HOB : Hid (∀ b o, B = some ⟨b, o, none⟩ → b < w5.heap.size) := hidT fun b o e => (World.ownsRow.lt ho5 b (by rw [e]; rfl)).2
      have HOB2 : Hid (∀ b o, B = some ⟨b, o, none⟩ → w3.heap.size ≤ b) := hidT fun b o e => addrV ho5 (Nat.le_refl _) b o e
      have HS0 : Hid (q + 1 < w3.heap.size) := hidT (blk_lt T23.out)
      have y26 := T26.out
      have HML := hidT hml
      have RD5 := hidT rd5
      have HS1 : Hid (q + 1 < w5.heap.size) := hidT (blk_lt T25.out)
      clear hb5 ho5 rd5 n6 HSN HWI
      by_cases hm0 : m = 0
      · have r1 : ((m : Int) == 0) = true := by simp [hm0]
        have r1' : (m == 0) = true := by simp [hm0]
        have HSAY : Hid (Seqr.say t ls me quota = none) := hidT (Seqr.say_none (by rw [HL.out]; exact List.eq_nil_of_length_eq_zero (by rw [HML.out]; exact hm0)))
        clear hm0 hml hwi y6
        go_wp2_with (
          refine wpList_stI rfl 35 _ _ rfl (q + 1) #[.int .i64 0, .int .i64 0, .int .i64 0, .int .i64 0, .int .i64 0, .int .i64 0, .slice none 0 0, .slice none 0 0] rfl rfl _ _ y26 infoIt rfl (by simp [Value.oneCell']) ?_
          intro w7 hg7 hbut hbel)
        obtain ⟨e0, e1, e2, e3, e4, e5, e6, e7⟩ := cells8x hg7
        have hqq := HQ.out
        exact bodyPost_ret (v := .tuple #[.agg #[.int .i64 0, .int .i64 0, .int .i64 0, .int .i64 0, .int .i64 0, .int .i64 0, .slice none 0 0, .slice none 0 0], .bool false]) (by simp [results, Try.results13, go_sem, e0, e1, e2, e3, e4, e5, e6, e7]) rfl
          (by rw [HSAY.out]; exact ⟨_, rfl, IsItemH.zero' _ _, hbel _ _ HB6.out (by omega)⟩)
      · have r1 : ((m : Int) == 0) = false := by simp; omega
        have r1' : (m == 0) = false := by simpa using hm0
        have hsay := Seqr.say_some (quota := quota) HWHO.out HCN.out (by rw [HL.out]; intro e; rw [e] at hml; simp at hml; omega)
        rw [HL.out] at hsay
        have HSAY := hidT hsay
        clear hm0 hml hsay
        by_cases hix : quota ≤ t.used + (L.length : Int)
        · rw [decide_eq_true hix] at hwi
          have HIX := hidT hix
          have n7 := nkeep w5 (.cells #[.int .i64 2, .int .i64 0, .int .i64 0, .int .i64 1, .int .i64 0, .int .i64 0, .slice B m d, .slice none 0 0] 35)
          have y7 := keepH T25.out n7
          have HRD7 := hidT (RdV.below RD5.out n7)
          have HB7 := hidT (bthen HB5.out n7)
          clear hix y6 y26 n7
          go_wp2_with (
            refine wpList_stI rfl 35 _ _ rfl (q + 1) #[.int .i64 2, .int .i64 0, .int .i64 0, .int .i64 1, .int .i64 0, .int .i64 0, .slice B m d, .slice none 0 0] rfl rfl _ _ y7 infoIt rfl (by simp [Value.oneCell']) ?_
            intro w7 hg7 hbut hbel)
          obtain ⟨e0, e1, e2, e3, e4, e5, e6, e7⟩ := cells8x hg7
          have hqq := HQ.out
          have hrd : RdI w7 B m d L := RdV.keptS HRD7.out (S := fun b => b ≠ q + 1) (fun h0 b o e => by have h1 := HOB2.out b o e; have h2 := HS0.out; omega) (KeptS.but hbut fun b h => h)
          exact bodyPost_ret (v := .tuple #[.agg #[.int .i64 2, .int .i64 0, .int .i64 0, .int .i64 1, .int .i64 0, .int .i64 0, .slice B m d, .slice none 0 0], .bool true]) (by simp [results, Try.results13, go_sem, e0, e1, e2, e3, e4, e5, e6, e7]) rfl
            (by rw [HSAY.out, if_pos HIX.out]; exact ⟨_, rfl, IsItemH.order _ _ _ _ _ _ _ hrd (Within.of fun b o e => by have h1 := HOB2.out b o e; have h2 := HB3.out.size; have h3 : w.heap.size ≤ w3.heap.size := h2; omega), hbel _ _ HB7.out (by omega)⟩)
        · rw [decide_eq_false hix] at hwi
          have HIX := hidT hix
          obtain ⟨h0, h1, h2, h3, h4, h5, h6, h7⟩ := cells8x y6
          clear hix y6
          go_wp2_with (
            refine wpList_stI rfl 35 _ _ rfl (q + 1) #[.int .i64 2, .int .i64 0, .int .i64 0, .int .i64 0, .int .i64 0, .int .i64 0, .slice B m d, .slice none 0 0] rfl rfl _ _ y26 infoIt rfl (by simp [Value.oneCell']) ?_
            intro w7 hg7 hbut hbel)
          obtain ⟨e0, e1, e2, e3, e4, e5, e6, e7⟩ := cells8x hg7
          have hqq := HQ.out
          have hrd : RdI w7 B m d L := RdV.keptS RD6.out (S := fun b => b ≠ q + 1) (fun h0 b o e => by have h1 := HOB2.out b o e; have h2 := HS0.out; omega) (KeptS.but hbut fun b h => h)
          exact bodyPost_ret (v := .tuple #[.agg #[.int .i64 2, .int .i64 0, .int .i64 0, .int .i64 0, .int .i64 0, .int .i64 0, .slice B m d, .slice none 0 0], .bool true]) (by simp [results, Try.results13, go_sem, e0, e1, e2, e3, e4, e5, e6, e7]) rfl
            (by rw [HSAY.out, if_neg (Int.not_le.2 HIX.out)]; exact ⟨_, rfl, IsItemH.order _ _ _ _ _ _ _ hrd (Within.of fun b o e => by have h1 := HOB2.out b o e; have h2 := HB3.out.size; have h3 : w.heap.size ≤ w3.heap.size := h2; omega), hbel _ _ HB6.out (by omega)⟩)
  · have p1 : ((t.who : Int) != (me : Int)) = true := by simp; omega
    have p1' : (t.who != me) = true := by simpa using hwho
    have HSAY : Hid (Seqr.say t ls me quota = none) := hidT (Seqr.say_no hwho)
    have y2 := T2.out
    rw [← HW.out] at y2
    clear t1 t2 t3 hW h hsm hwho
    go_enter Try.func13, Try.ntmps13
    go_wp2_with (
      refine wpList_stI rfl 35 _ _ rfl (q + 1) #[.int .i64 0, .int .i64 0, .int .i64 0, .int .i64 0, .int .i64 0, .int .i64 0, .slice none 0 0, .slice none 0 0] rfl rfl _ _ y2 infoIt rfl (by simp [Value.oneCell']) ?_
      intro w7 hg7 hbut hbel)
    obtain ⟨e0, e1, e2, e3, e4, e5, e6, e7⟩ := cells8x hg7
    have hqq := HQ.out
    have hb := T3.out
    rw [← HW.out] at hb
    exact bodyPost_ret (v := .tuple #[.agg #[.int .i64 0, .int .i64 0, .int .i64 0, .int .i64 0, .int .i64 0, .int .i64 0, .slice none 0 0, .slice none 0 0], .bool false]) (by simp [results, Try.results13, go_sem, e0, e1, e2, e3, e4, e5, e6, e7]) rfl
      (by rw [HSAY.out]; exact ⟨_, rfl, IsItemH.zero' _ _, hbel _ _ hb (by omega)⟩)
end Go.Proofs.Ytdchgnmkeefffaa
