/- What win's Put comes to: taken in. -/
import Derived.Test.YtkkkfaelpmmffaaWin6
set_option maxRecDepth 100000
namespace Go.Proofs.Ytkkkfaelpmmffaa
open Go.RowKit
set_option linter.unusedVariables false

set_option maxHeartbeats 8000000 in
theorem wput_in (A : Option Addr) (n c : Nat) (k : Keep.Kp) (LA : Option Addr) (ln lc : Nat) (BA : Option Addr) (bn bc : Nat) (x : Item.It) (last : Int) (w : World) (hX : RdX w A n c k.l) (hit : IsItem w (.agg #[.int .i64 x.k, .int .i64 x.q, .int .i64 x.e, .int .i64 x.i, .int .i64 x.t, .int .i64 x.c, .slice LA ln lc, .slice BA bn bc]) x) (hr : Win.right k = true) (hS : SmallL k.l) (hw : Win.waits k.l x.q = false) (h64 : n < 64) (hin : (decide (k.next ≤ x.q) && decide (x.q ≤ last)) = true) (hm : Item.may x = true) (hxs : x.l.length ≤ 65536 ∧ x.b.length ≤ 65536) (hn0 : 0 < n):
    Calls Try.prog 17 #[.agg #[.int .i64 k.next, .slice A n c], .agg #[.int .i64 x.k, .int .i64 x.q, .int .i64 x.e, .int .i64 x.i, .int .i64 x.t, .int .i64 x.c, .slice LA ln lc, .slice BA bn bc], .int .i64 last] w (PutIs w true ⟨k.next, Win.ins k.l x⟩) := by
  have hn := hX.le
  have hlen := hX.size
  obtain ⟨t0, t1, t2, hb⟩ := three_alloc w (.cells #[.int .i64 k.next, .slice A n c] 24) (.cells #[.int .i64 x.k, .int .i64 x.q, .int .i64 x.e, .int .i64 x.i, .int .i64 x.t, .int .i64 x.c, .slice LA ln lc, .slice BA bn bc] 28) (.cells kz 24)
  obtain ⟨i0, i1⟩ := cells2 t0
  obtain ⟨j0, j1, j2, j3, j4, j5, j6, j7⟩ := cells8 t1
  obtain ⟨W, hW⟩ : ∃ W, ((w.alloc (.cells #[.int .i64 k.next, .slice A n c] 24)).alloc (.cells #[.int .i64 x.k, .int .i64 x.q, .int .i64 x.e, .int .i64 x.i, .int .i64 x.t, .int .i64 x.c, .slice LA ln lc, .slice BA bn bc] 28)).alloc (.cells kz 24) = W := ⟨_, rfl⟩
  have hws : W.heap.size = w.heap.size + 3 := by rw [← hW, size_alloc, size_alloc, size_alloc]
  rw [hW] at t0 t1 t2 hb i0 i1 j0 j1 j2 j3 j4 j5 j6 j7
  have hri := (Win.right_iff.1 hr).2.2
  have hc := place_any A n c k.l x.q W (hX.below hb)
  rw [Win.hit_waits hri] at hc
  obtain ⟨rs, hrs, hI⟩ := hX
  obtain ⟨g, hg⟩ : ∃ g, w.heap.size = g := ⟨_, rfl⟩
  rw [hg] at i0 i1 j0 j1 j2 j3 j4 j5 j6 j7 t0 t1 t2 hws
  have HW := hidT hW
  have HWS := hidT hws
  have HC := hidT hc
  have T0 := hidT t0
  have T1 := hidT t1
  have T2 := hidT t2
  have HB := hidT hb
  have HRS := hidT hrs
  have HI := hidT hI
  have HSM := hidT hS
  have HG := hidT hg
  have HIT := hidT hit
  have HLEN := hidT hlen
  have HRI := hidT hri
  clear t0 t1 t2 hb hS hW hc hri hr hrs hI hws hit hlen
  obtain ⟨m, hmm⟩ : ∃ m, Win.at_ k.l x.q = m := ⟨_, rfl⟩
  rw [hmm] at HC
  have HM := hidT hmm
  have hmn : m ≤ n := by have := Win.at_le k.l x.q; rw [hmm, HLEN.out] at this; exact this
  clear hmm
  have hcap := HRS.out.cap
  have hcm := HRS.out.cmax
  obtain ⟨b, o, rfl⟩ := HRS.out.addr hn0
  rw [hw] at HC
  clear hw
  have q1 : decide (64 ≤ n) = false := by simp; omega
  have q2 : decide ((64 : Int) ≤ (n : Int)) = false := by simp; omega
  go_enter Try.func17, Try.ntmps17
  go_wp2_with fail
  rw [HW.out]
  clear hg
  with_reducible refine HC.out.mono ?_
  rintro e w7 ⟨rfl, hb7⟩
  have HB7 := hidT hb7
  clear hb7 i0 i1 j0 j1 j2 j3 j4 j5 j6 j7
  obtain ⟨i0, i1⟩ := cells2 (keepH T0.out HB7.out)
  obtain ⟨j0, j1, j2, j3, j4, j5, j6, j7⟩ := cells8 (keepH T1.out HB7.out)
  have hwi := wwithin_is x.q k.next last w7 true hin
  go_wp2_with fail
  with_reducible refine hwi.mono ?_
  rintro e w7' ⟨rfl, rfl⟩
  clear hwi hin
  have hmay := may_any _ x w7' (HIT.out.below (bthen HB.out HB7.out))
  rw [hm] at hmay
  clear hm
  go_wp2_with fail
  with_reducible refine hmay.mono ?_
  rintro e w6 ⟨rfl, hb6⟩
  clear i0 i1 j0 j1 j2 j3 j4 j5 j6 j7 hmay
  have HB6 := hidT (bthen HB7.out hb6)
  clear hb6
  obtain ⟨i0, i1⟩ := cells2 (keepH T0.out HB6.out)
  obtain ⟨j0, j1, j2, j3, j4, j5, j6, j7⟩ := cells8 (keepH T1.out HB6.out)
  have x1 : (0 : Int) ≤ (m : Int) := by omega
  have x2 : (m : Int) ≤ (n : Int) := by omega
  have x3 : (m : Int) ≤ (c : Int) := by omega
  obtain ⟨Q, hQ⟩ : ∃ Q : Option Addr, (if c = m then some ⟨b, o, none⟩ else some ⟨b, o + m * 8, none⟩) = Q := ⟨_, rfl⟩
  have hrd : RdK 8 w Q (n - m) (c - m) (rs.drop m) := by
    rw [← hQ]
    by_cases hc1 : c = m
    · rw [if_pos hc1]
      have hn1 : n = m := by omega
      subst hc1
      subst hn1
      rw [List.drop_of_length_le (by rw [HRS.out.size]; exact Nat.le_refl _), Nat.sub_self]
      exact RdK.empty 8 w _
    · rw [if_neg hc1]
      exact HRS.out.drop hmn
  have hbA := bthen HB.out HB6.out
  have n8 : Below w6.heap.size w6 ((w6.alloc (.cells #[.int .i64 x.k, .int .i64 x.q, .int .i64 x.e, .int .i64 x.i, .int .i64 x.t, .int .i64 x.c, .slice LA ln lc, .slice BA bn bc] 28)).alloc (.cells #[.slice (some ⟨b, o, none⟩) m c, .slice (some ⟨w6.heap.size, 0, none⟩) 1 1, .slice Q (n - m) (c - m)] 22)).drew := (bthen (nkeep w6 _) (nkeep _ _)).drew
  have hbB := bthen hbA n8
  have hir : AreI w [rs.take m, [#[.int .i64 x.k, .int .i64 x.q, .int .i64 x.e, .int .i64 x.i, .int .i64 x.t, .int .i64 x.c, .slice LA ln lc, .slice BA bn bc]], rs.drop m].flatten (Win.ins k.l x) := by
    have h1 := ((HI.out.take m).app (AreI.one HIT.out)).app (HI.out.drop m)
    unfold Win.ins
    rw [HM.out]
    simpa using h1
  have hl := laid_any (some ⟨w6.heap.size + 1, 0, none⟩) 3 3 [.slice (some ⟨b, o, none⟩) m c, .slice (some ⟨w6.heap.size, 0, none⟩) 1 1, .slice Q (n - m) (c - m)] [rs.take m, [#[.int .i64 x.k, .int .i64 x.q, .int .i64 x.e, .int .i64 x.i, .int .i64 x.t, .int .i64 x.c, .slice LA ln lc, .slice BA bn bc]], rs.drop m] (Win.ins k.l x) ((w6.alloc (.cells #[.int .i64 x.k, .int .i64 x.q, .int .i64 x.e, .int .i64 x.i, .int .i64 x.t, .int .i64 x.c, .slice LA ln lc, .slice BA bn bc] 28)).alloc (.cells #[.slice (some ⟨b, o, none⟩) m c, .slice (some ⟨w6.heap.size, 0, none⟩) 1 1, .slice Q (n - m) (c - m)] 22)).drew
    (RdV.drew (RdV.lit (w6.alloc (.cells #[.int .i64 x.k, .int .i64 x.q, .int .i64 x.e, .int .i64 x.i, .int .i64 x.t, .int .i64 x.c, .slice LA ln lc, .slice BA bn bc] 28)) 22 (0, 0) #[.slice (some ⟨b, o, none⟩) m c, .slice (some ⟨w6.heap.size, 0, none⟩) 1 1, .slice Q (n - m) (c - m)] [.slice (some ⟨b, o, none⟩) m c, .slice (some ⟨w6.heap.size, 0, none⟩) 1 1, .slice Q (n - m) (c - m)] rfl 3 rfl (by decide) (w6.heap.size + 1) (size_alloc _ _)))
    (RowsX.cons (((HRS.out.take hmn).below hbB)) (RowsX.cons ((RdK.lit (k := 8) w6 28 (0, 0) #[.int .i64 x.k, .int .i64 x.q, .int .i64 x.e, .int .i64 x.i, .int .i64 x.t, .int .i64 x.c, .slice LA ln lc, .slice BA bn bc] [#[.int .i64 x.k, .int .i64 x.q, .int .i64 x.e, .int .i64 x.i, .int .i64 x.t, .int .i64 x.c, .slice LA ln lc, .slice BA bn bc]] (AllK.one rfl (by simp [Value.oneCell'])) (by simp [flat]) 1 rfl (by decide) w6.heap.size rfl).below (nkeep _ _).drew) (RowsX.one ((hrd.below hbB))))) (hir.below hbB)
    ⟨by have := HSM.out.1; rw [Win.ins_length, HLEN.out]; omega, fun y hy => by
      rcases Win.mem_ins.1 hy with rfl | hy
      · exact hxs
      · exact HSM.out.2 y hy⟩
  have HL := hidT hl
  have N8 := hidT n8
  clear hl n8 hbA hbB hir
  obtain ⟨k0, k1⟩ := cells2 (keepH T0.out (bthen HB6.out (nkeep w6 (.cells #[.int .i64 x.k, .int .i64 x.q, .int .i64 x.e, .int .i64 x.i, .int .i64 x.t, .int .i64 x.c, .slice LA ln lc, .slice BA bn bc] 28))))
  go_upto_region 5 with fail
  go_region_law
    (first
      | (go_simp; go_at_call 33; ((with_reducible refine HL.out.mono ?_); rintro e8 w8 ⟨B, p, d, us, rfl, hk8, ha8, hf8, hb8⟩; have hb78 := bthen HB6.out (bthen N8.out hb8); have y0 := keepH T0.out hb78; have f1 := no_frozen y0 1; obtain ⟨u0, u1⟩ := cells2 y0))
      | fail)
  all_goals
    have z0 : (w8.setCell ⟨g, 1, none⟩ (.slice B p d)).heap[g]? = some (.cells #[.int .i64 k.next, .slice B p d] 24 (0, 0)) := heap_setCell_same w8 g 1 _ _ _ y0
    have zb : But g w8 (w8.setCell ⟨g, 1, none⟩ (.slice B p d)) := But.setCell w8 g 1 _
    have z2 := (zb.2 (g + 2) (by omega)).trans (keepH T2.out hb78)
    have zB := (bthen HB.out hb78).setCell (p := ⟨g, 1, none⟩) (show w.heap.size ≤ g by have := HG.out; omega) (.slice B p d)
    have hws := HWS.out
    have hs7 := HB6.out.size
    have hs8 := N8.out.size
    have zk : FrK (w8.setCell ⟨g, 1, none⟩ (.slice B p d)) (g + 3) (.agg #[.int .i64 k.next, .slice B p d]) ⟨k.next, Win.ins k.l x⟩ := by
      have hfk : FrK w8 (((w6.alloc (.cells #[.int .i64 x.k, .int .i64 x.q, .int .i64 x.e, .int .i64 x.i, .int .i64 x.t, .int .i64 x.c, .slice LA ln lc, .slice BA bn bc] 28)).alloc (.cells #[.slice (some ⟨b, o, none⟩) m c, .slice (some ⟨w6.heap.size, 0, none⟩) 1 1, .slice Q (n - m) (c - m)] 22)).drew).heap.size (.agg #[.int .i64 k.next, .slice B p d]) ⟨k.next, Win.ins k.l x⟩ := ⟨B, p, d, us, rfl, hk8, ha8, hf8⟩
      exact (hfk.mono (show g + 3 ≤ _ by omega)).but (by omega) zb
    have Z0 := hidT z0
    have Z2 := hidT z2
    have ZB := hidT zB
    have ZK := hidT zk
    clear z0 z2 zB zk zb y0 hb78 hk8 ha8 hf8 hb8 hws hs7 hs8
    go_upto_region 6 with fail
    clear u0 u1 f1
    generalize w8.setCell ⟨g, 1, none⟩ (.slice B p d) = X at *
    obtain ⟨u0, u1⟩ := cells2 Z0.out
    go_wp2_with (
      refine wpList_stI rfl 24 _ _ rfl (g + 2) #[.int .i64 k.next, .slice B p d] rfl rfl _ _ Z2.out wsize2 rfl (by simp [Value.oneCell']) ?_
      intro w9 hg9 hbut hbel)
    obtain ⟨e0, e1⟩ := cells2 hg9
    have hgg := HG.out
    exact bodyPost_ret (v := .tuple #[.agg #[.int .i64 k.next, .slice B p d], .bool true]) (by simp [results, Try.results17, go_sem, e0, e1]) rfl
      ⟨_, rfl, (ZK.out.but (by omega) hbut).mono (by omega), hbel _ _ ZB.out (by omega)⟩
end Go.Proofs.Ytkkkfaelpmmffaa
