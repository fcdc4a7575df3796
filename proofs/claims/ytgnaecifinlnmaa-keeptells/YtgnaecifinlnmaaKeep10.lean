/- What keep's Get comes to: what is told is new. -/
import Derived.Test.YtgnaecifinlnmaaKeep7
set_option maxRecDepth 100000
namespace Go.Proofs.Ytgnaecifinlnmaa
open Go.RowKit
set_option linter.unusedVariables false

/-- An item, or none, of the call's own, and whether there is one. -/
def GetFr (w : World) (o : Option Item.It) (e : Ending) (w' : World) : Prop := ∃ v, e = .returned (.tuple #[v, .bool o.isSome]) ∧ FrI w' w.heap.size v (o.getD Item.It.zero) ∧ Below w.heap.size w w'
set_option maxHeartbeats 2000000 in
theorem getf_any (v : Value) (k : Keep.Kp) (s : Int) (w : World) (h : IsKeep w v k) (hS : SmallL k.l) :
    Calls Try.prog 20 #[v, .int .i64 s] w (GetFr w (Keep.got k.l s)) := by
  obtain ⟨A, n, c, rfl, hX⟩ := h
  have hn := hX.le
  have hlen := hX.size
  obtain ⟨t0, t1, t2, hb⟩ := three_alloc w (.cells #[.int .i64 k.next, .slice A n c] 24) (.cells #[.int .i64 s] 3) (.cells zcells 28)
  have hc := get_place A n c k.l (w.heap.size + 1) s _ (hX.below hb) (cell_at t1 0 (u := .int .i64 s) rfl)
  rw [got_idx]
  have hle := idx_le k.l (fun y : Item.It => decide (y.q = s))
  generalize k.l.findIdx (fun y : Item.It => decide (y.q = s)) = m at hc hle ⊢
  rw [hlen] at hle
  obtain ⟨i0, i1⟩ := cells2 t0
  obtain ⟨W, hW⟩ : ∃ W, ((w.alloc (.cells #[.int .i64 k.next, .slice A n c] 24)).alloc (.cells #[.int .i64 s] 3)).alloc (.cells zcells 28) = W := ⟨_, rfl⟩
  rw [hW] at t0 t1 t2 hb hc i0 i1
  have HW := hidT hW
  have HC := hidT hc
  clear hW hc t1
  have T0 := hidT t0
  have T2 := hidT t2
  have HB := hidT hb
  have HX := hidT hX
  have HSM := hidT hS
  have HLEN := hidT hlen
  obtain ⟨g, hg⟩ : ∃ g, w.heap.size = g := ⟨_, rfl⟩
  have HG := hidT hg
  rw [hg] at i0 i1
  clear t0 t2 hb hX hS hlen
  by_cases hmn : m = n
  · subst hmn
    have hnone : k.l[m]? = none := List.getElem?_eq_none (by rw [HLEN.out]; exact Nat.le_refl _)
    have q1 : ((m : Int) == (m : Int)) = true := by simp
    go_enter Try.func20, Try.ntmps20
    go_wp2_with fail
    rw [HW.out]
    clear hg
    with_reducible refine (by rw [← HG.out]; exact HC.out : Calls Try.prog _ _ W _).mono ?_
    rintro e w5 ⟨rfl, hb5⟩
    have y0 := keepH T0.out hb5
    have y2 := keepH T2.out hb5
    rw [HG.out] at y0 y2
    obtain ⟨i0, i1⟩ := cells2 y0
    have HB5 := hidT (bthen HB.out hb5)
    have HN := hidT hnone
    clear hnone hb5 y0
    go_wp2_with (
      refine wpList_stI rfl 28 _ _ rfl (g + 2) zcells rfl rfl _ _ y2 size8 rfl (by kernel_rfl) ?_
      intro w7 hg7 hbut hbel)
    obtain ⟨e0, e1, e2, e3, e4, e5, e6, e7⟩ := cells8 hg7
    have hgg := HG.out
    exact bodyPost_ret (v := .tuple #[.agg zcells, .bool false]) (by simp [results, Try.results20, go_sem, e0, e1, e2, e3, e4, e5, e6, e7]) rfl
      (by rw [HN.out]; exact ⟨_, rfl, FrI.zero _ _, hbel _ _ HB5.out (by omega)⟩)
  · have hmn' : m < n := by omega
    obtain ⟨b, o, x, LA, ln, lc, BA, bn, bc, rfl, hx, hi, hcs⟩ := HX.out.told hmn'
    have hsm := HSM.out.2 x (List.mem_of_getElem? hx)
    have q1 : ((m : Int) == (n : Int)) = false := by simp; omega
    have q2 : (m == n) = false := by simpa using hmn
    have x1 : (0 : Int) ≤ (m : Int) := by omega
    have x2 : (m : Int) < (n : Int) := by omega
    have HXX := hidT hx
    have HI := hidT hi
    have HCS := hidT hcs
    have HSX := hidT hsm
    clear hx hi hcs hsm hmn hmn'
    go_enter Try.func20, Try.ntmps20
    go_wp2_with fail
    rw [HW.out]
    clear hg
    with_reducible refine (by rw [← HG.out]; exact HC.out : Calls Try.prog _ _ W _).mono ?_
    rintro e w5 ⟨rfl, hb5⟩
    have y0 := keepH T0.out hb5
    have y2 := keepH T2.out hb5
    rw [HG.out] at y0 y2
    obtain ⟨i0, i1⟩ := cells2 y0
    have HB5 := hidT (bthen HB.out hb5)
    have Y2 := hidT y2
    have hbs := (bthen HB.out hb5).size
    obtain ⟨c0, c1, c2, c3, c4, c5, c6, c7⟩ := HCS.out w5 HB5.out
    have hown := own_any _ x w5 (HI.out.below HB5.out) HSX.out.1 HSX.out.2
    clear hb5 y0 y2 hbs
    go_wp2_with fail
    with_reducible refine hown.mono ?_
    rintro e w6 ⟨v6, rfl, hF6, hb6⟩
    obtain ⟨LA', ln', lc', BA', bn', bc', rfl, hl6, hbd6, hla6, hba6⟩ := id hF6
    have y6 := keepH Y2.out hb6
    have HB6 := hidT (bthen HB5.out hb6)
    have h25 := blk_lt Y2.out
    have HSZ := hidT HB5.out.size
    have HF6 := hidT hF6
    clear hl6 hbd6 hla6 hba6 hb6 c0 c1 c2 c3 c4 c5 c6 c7 i0 i1 hown hF6
    go_wp2_with (
      refine wpList_stI rfl 28 _ _ rfl (g + 2) #[.int .i64 x.k, .int .i64 x.q, .int .i64 x.e, .int .i64 x.i, .int .i64 x.t, .int .i64 x.c, .slice LA' ln' lc', .slice BA' bn' bc'] rfl rfl _ _ y6 size8 rfl (by simp [Value.oneCell']) ?_
      intro w7 hg7 hbut hbel)
    obtain ⟨e0, e1, e2, e3, e4, e5, e6, e7⟩ := cells8 hg7
    have hgg := HG.out
    exact bodyPost_ret (v := .tuple #[.agg #[.int .i64 x.k, .int .i64 x.q, .int .i64 x.e, .int .i64 x.i, .int .i64 x.t, .int .i64 x.c, .slice LA' ln' lc', .slice BA' bn' bc'], .bool true]) (by simp [results, Try.results20, go_sem, e0, e1, e2, e3, e4, e5, e6, e7]) rfl
      (by rw [HXX.out]; exact ⟨_, rfl, (HF6.out.but h25 hbut).mono HSZ.out, hbel _ _ HB6.out (by omega)⟩)

end Go.Proofs.Ytgnaecifinlnmaa
