/- What fresh comes to. -/
import Derived.Test.YtmlmkkfieeaejaaLn1
set_option maxRecDepth 100000
namespace Go.Proofs.Ytmlmkkfieeaejaa
open Go.RowKit
set_option linter.unusedVariables false

/-- So many entries are copied, the others as they were. -/
def HalfE (w : World) (lo j : Nat) (us rs : List (Array Value)) (xs : List Lane.En) : Prop := (∀ i, j ≤ i → us[i]? = rs[i]?) ∧ us.length = xs.length ∧ ∀ (i : Nat) (r : Array Value) (x : Lane.En), i < j → us[i]? = some r → xs[i]? = some x → IsEn (Hi lo) w (.agg r) x
theorem HalfE.all {w : World} {lo n : Nat} {us rs : List (Array Value)} {xs : List Lane.En} (h : HalfE w lo n us rs xs) (hn : us.length = n) : AreE (Hi lo) w us xs := ⟨h.2.1, fun i r x h1 h2 => h.2.2 i r x (by
  rcases Nat.lt_or_ge i us.length with h | h
  · omega
  · rw [List.getElem?_eq_none h] at h1; cases h1) h1 h2⟩
theorem HalfE.next {w w' : World} {lo j : Nat} {us rs : List (Array Value)} {xs : List Lane.En} {r : Array Value} {x : Lane.En} (h : HalfE w lo j us rs xs) (hk : ∀ v y, IsEn (Hi lo) w v y → IsEn (Hi lo) w' v y) (hx : xs[j]? = some x) (hr : IsEn (Hi lo) w' (.agg r) x) : HalfE w' lo (j + 1) (us.set j r) rs xs := by
  obtain ⟨h1, h2, h3⟩ := h
  refine ⟨fun i hi => ?_, by rw [List.length_set]; exact h2, fun i q y hi hq hy => ?_⟩
  · rw [List.getElem?_set_ne (by omega)]
    exact h1 i (by omega)
  · by_cases hij : j = i
    · subst hij
      have hlt : j < us.length := by
        rcases Nat.lt_or_ge j us.length with h | h
        · exact h
        · rw [List.getElem?_eq_none (by rw [List.length_set]; exact h)] at hq; cases hq
      rw [List.getElem?_set_self hlt] at hq
      injection hq with hq
      subst hq
      rw [hx] at hy
      injection hy with hy
      subst hy
      exact hr
    · rw [List.getElem?_set_ne hij] at hq
      exact hk _ _ (h3 i q y (by omega) hq hy)
/-- A lane that is the call's own. -/
def FreshL (w : World) (l : Lane.Ln) (e : Ending) (w' : World) : Prop :=
  ∃ A n c us B m d lo, e = .returned (.agg #[.slice A n c, .int .i64 l.p.seq, .int .i64 l.p.total, .int .i64 l.p.got, .slice B m d]) ∧ OwnK 5 w' w.heap.size 33 (.slice A n c) n us ∧ AreE (Hi lo) w' us l.es ∧ (∀ b o, A = some ⟨b, o, none⟩ → b < lo) ∧ Rd w' B m d l.p.b ∧ (∀ b o, B = some ⟨b, o, none⟩ → lo ≤ b) ∧ lo ≤ w'.heap.size ∧ w.heap.size ≤ lo ∧ Below w.heap.size w w'

set_option maxHeartbeats 4000000 in
theorem fresh_any {S : Nat → Prop} (v : Value) (l : Lane.Ln) (w : World) (h : IsLane S w v l) (hS : SmallL l) : Calls Try.prog 48 #[v] w (FreshL w l) := by
  obtain ⟨A, n, c, B, m, d, rfl, hE, hB, _⟩ := h
  have hn : n ≤ 65536 := by rw [← hE.size]; exact hS.1
  have hlen := hE.size
  obtain ⟨rs, hK, hI, _⟩ := hE
  have hmm : m ≤ 65536 := by have := hB.1; have := hS.2.2; omega
  obtain ⟨t1, t2, t3⟩ := two_alloc w (.cells #[.slice A n c, .int .i64 l.p.seq, .int .i64 l.p.total, .int .i64 l.p.got, .slice B m d] 27) (.cells lz 27)
  obtain ⟨W, hW⟩ : ∃ W, (w.alloc (.cells #[.slice A n c, .int .i64 l.p.seq, .int .i64 l.p.total, .int .i64 l.p.got, .slice B m d] 27)).alloc (.cells lz 27) = W := ⟨_, rfl⟩
  have HS : Hid (W.heap.size = w.heap.size + 2) := by rw [← hW, size_alloc, size_alloc]; exact hidT rfl
  rw [hW] at t1 t2 t3
  have HW := hidT hW
  have HC := hidT (cloneE_any A n c rs W (hK.below t3) hn)
  obtain ⟨g, hg⟩ : ∃ g, w.heap.size = g := ⟨_, rfl⟩
  rw [hg] at t1 t2
  have HG := hidT hg
  obtain ⟨i0, i1, i2, i3, i4⟩ := cells5 t1
  rw [← HW.out] at i0 i1 i2 i3 i4
  have T1 := hidT t1
  have T2 := hidT t2
  have T3 := hidT t3
  have HK := hidT hK
  have HI := hidT hI
  have HSM := hidT hS
  have HBB := hidT hB
  have HMM := hidT hmm
  clear t1 t2 t3 hW hK hI hS hB hmm
  go_enter Try.func48, Try.ntmps48
  go_wp2_with fail
  rw [HW.out]
  clear hg i0 i1 i2 i3 i4
  with_reducible refine HC.out.mono ?_
  rintro e w1 ⟨G, h, rfl, ho1, hb1⟩
  have y1 := keepH T1.out hb1
  have y2 := keepH T2.out hb1
  have f1 := no_frozen y1 0
  obtain ⟨q0, q1, q2, q3, q4⟩ := cells5 y1
  have z1 : (w1.setCell ⟨g, 0, none⟩ (.slice G n h)).heap[g]? = some (.cells #[.slice G n h, .int .i64 l.p.seq, .int .i64 l.p.total, .int .i64 l.p.got, .slice B m d] 27 (0, 0)) := heap_setCell_same w1 g 0 _ _ _ y1
  have zb : But g w1 (w1.setCell ⟨g, 0, none⟩ (.slice G n h)) := But.setCell w1 g 0 _
  have hgw : w.heap.size ≤ g := by rw [HG.out]; exact Nat.le_refl _
  have hgW : g + 2 = W.heap.size := by rw [HS.out, HG.out]
  have zo := ho1.but (by omega) zb
  have zB : Below w.heap.size w (w1.setCell ⟨g, 0, none⟩ (.slice G n h)) := (bthen T3.out hb1).setCell (p := ⟨g, 0, none⟩) hgw _
  have z2 := (zb.2 (g + 1) (by omega)).trans y2
  have hsz := zb.1
  have hBl : ∀ b o, G = some ⟨b, o, none⟩ → b < w1.heap.size := fun b o hA => (ho1.addr b o hA).2
  have Z1 := hidT z1
  have Z2 := hidT z2
  have ZO := hidT zo
  have HBL := hidT hBl
  have HGW := hidT hgW
  have HGw := hidT hgw
  have HSZ := hidT hsz
  have HWS := hidT hb1.size
  have ZBB := hidT zB
  obtain ⟨i0, i1, i2, i3, i4⟩ := cells5 z1
  clear z1 z2 zo zb hBl hgW hgw hsz y1 y2 ho1 hb1 HC zB
  go_wp2_with fail
  clear i0 i1 i2 i3 i4 f1 q0 q1 q2 q3 q4
  go_loopw [12] (fun i wr => ∃ (j : Nat) (us : List (Array Value)), j ≤ n ∧ i = .int .i64 j ∧ Hid (wr.heap[g]? = some (.cells #[.slice G n h, .int .i64 l.p.seq, .int .i64 l.p.total, .int .i64 l.p.got, .slice B m d] 27 (0, 0))) ∧ Hid (wr.heap[g + 1]? = some (.cells lz 27 (0, 0))) ∧ Hid (OwnK 5 wr W.heap.size 33 (.slice G n h) n us) ∧ Hid (HalfE wr w1.heap.size j us rs l.es) ∧ Hid (w1.heap.size ≤ wr.heap.size) ∧ Hid (Below w.heap.size w wr)) (fun i _ => n - (intOf i).toNat)
  case atStart => exact ⟨0, rs, Nat.zero_le _, rfl, Z1, Z2, ZO, hidT ⟨fun _ _ => rfl, HI.out.1, fun i r x hi => absurd hi (by omega)⟩, hidT (by rw [HSZ.out]; exact Nat.le_refl _), ZBB⟩
  case round =>
    obtain ⟨j, us, hj, rfl, X1, X2, HO, HH, HL, HB⟩ := hrel
    by_cases hjn : j < n
    · obtain ⟨gB, rfl, hgB, hgBl⟩ := HO.out.form (by omega)
      have hgB1 := HBL.out gB 0 rfl
      have hjl : j < l.es.length := by omega
      obtain ⟨x, hx⟩ : ∃ x, l.es[j]? = some x := ⟨_, List.getElem?_eq_getElem hjl⟩
      have hjr : j < rs.length := by rw [HI.out.1]; exact hjl
      obtain ⟨r, hr⟩ : ∃ r, rs[j]? = some r := ⟨_, List.getElem?_eq_getElem hjr⟩
      have hu : us[j]? = some r := (HH.out.1 j (Nat.le_refl _)).trans hr
      have hi := HI.out.2 j r x hr hx
      have hsm := HSM.out.2.1 x (List.mem_of_getElem? hx)
      obtain ⟨BA, bn, bc, LA, ln, lc, e, hb, hl, _, _⟩ := id hi
      injection e with e
      subst e
      have HOWN : Hid (∀ w', Below w.heap.size w w' → Calls Try.prog 58 #[.agg #[.int .i64 x.k, .int .i64 x.q, .slice BA bn bc, .slice LA ln lc, .bool x.h]] w' (OwnIs w' x)) :=
        hidT fun w' hb' => own_any _ x w' (hi.below hb') hsm
      have hc : ∀ (i : Nat) (u : Value), (#[.int .i64 x.k, .int .i64 x.q, .slice BA bn bc, .slice LA ln lc, .bool x.h] : Array Value)[i]? = some u → wr.cell? ⟨gB, 0 + j * 5 + i, none⟩ = some u := fun i u hh => HO.out.same.cell hu hh
      have c0 := hc 0 _ rfl
      have c1 := hc 1 _ rfl
      have c2 := hc 2 _ rfl
      have c3 := hc 3 _ rfl
      have c4 := hc 4 _ rfl
      simp only [Nat.zero_add, Nat.add_zero] at c0 c1 c2 c3 c4
      have x1 : (0 : Int) ≤ (j : Int) := by omega
      have x2 : (j : Int) < (n : Int) := by omega
      have HX := hidT hx
      have HU := hidT hu
      clear hc hx hu hr hi hsm hl hb hjl hjr
      go_wp2_with fail
      have n4 := nkeep wr (.cells #[.int .i64 x.k, .int .i64 x.q, .slice BA bn bc, .slice LA ln lc, .bool x.h] 33)
      have y4 := alloc_at wr (.cells #[.int .i64 x.k, .int .i64 x.q, .slice BA bn bc, .slice LA ln lc, .bool x.h] 33) _ rfl
      clear c0 c1 c2 c3 c4
      obtain ⟨e0, e1, e2, e3, e4⟩ := cells5 y4
      obtain ⟨i0, i1, i2, i3, i4⟩ := cells5 (keepH X1.out n4)
      have N4 := hidT n4
      clear y4 n4
      generalize wr.alloc (.cells #[.int .i64 x.k, .int .i64 x.q, .slice BA bn bc, .slice LA ln lc, .bool x.h] 33) = w4 at *
      go_region_law
        (first
          | (go_simp; go_at_call 58; ((with_reducible refine (HOWN.out _ (bthen HB.out N4.out).drew).mono ?_); rintro e5 w5 ⟨v5, rfl, hF5, hb5'⟩; have hb5 : Below w4.heap.size w4 w5 := undrew hb5'; obtain ⟨r5, rfl, hs5, ha5⟩ := hF5.cells; obtain ⟨w6, hrun6, ho6, hbut6, hbel6⟩ := OwnK.setAt (P := Try.prog) (HO.out.later (bthen N4.out hb5)) hjn r5 hs5 ha5; obtain ⟨i0', i1', i2', i3', i4'⟩ := cells5 (keepH X1.out (bthen N4.out hb5))))
          | fail)
      all_goals
        have hgW := HGW.out
        have hgw := HGw.out
        have hlo := HL.out
        have hb45 := bthen N4.out hb5
        have Y1 := hidT ((hbut6.2 g (by omega)).trans (keepH X1.out hb45))
        have Y2 := hidT ((hbut6.2 (g + 1) (by omega)).trans (keepH X2.out hb45))
        have YO := hidT ho6
        have hsz4 := N4.out.size
        have hsz5 : w4.heap.size ≤ w5.heap.size := hb5.size
        have hF6 : IsEn (Hi w1.heap.size) w6 (.agg r5) x := (hF5.hi (show w1.heap.size ≤ w4.heap.size by omega)).keptS (KeptS.hi hbut6 hgB1)
        have YH := hidT (HH.out.next (fun v y hv => (hv.below hb45).keptS (KeptS.hi hbut6 hgB1)) HX.out hF6)
        have YL := hidT (show w1.heap.size ≤ w6.heap.size by rw [hbut6.1]; omega)
        have YB := hidT (hbel6 _ _ (bthen HB.out hb45) (by omega))
        clear hF6 hsz4 hsz5 hb45 hgW hgw hlo hbut6 hbel6 hF5 hb5 hb5' ho6 hs5 ha5 hrun6 i0 i1 i2 i3 i4 i0' i1' i2' i3' i4' e0 e1 e2 e3 e4
        go_wp2
        exact ⟨⟨j + 1, us.set j r5, by omega, by go_num, Y1, Y2, YO, YH, YL, YB⟩, by simp [intOf]; omega⟩
    · obtain rfl : n = j := by omega
      obtain ⟨i0, i1, i2, i3, i4⟩ := cells5 X1.out
      have hcl := clone_any B m d l.p.b wr (HBB.out.below HB.out) HMM.out
      go_wp2_with fail
      with_reducible refine hcl.mono ?_
      rintro e w5 ⟨B5, d5, rfl, ho5, hb5⟩
      have y5 := keepH X1.out hb5
      have f5 := no_frozen y5 4
      obtain ⟨i0', i1', i2', i3', i4'⟩ := cells5 y5
      obtain ⟨M, hM⟩ : ∃ M, l.p.b.length = M := ⟨_, rfl⟩
      rw [hM] at ho5 ⊢
      have z6 : (w5.setCell ⟨g, 4, none⟩ (.slice B5 M d5)).heap[g]? = some (.cells #[.slice G n h, .int .i64 l.p.seq, .int .i64 l.p.total, .int .i64 l.p.got, .slice B5 M d5] 27 (0, 0)) := heap_setCell_same w5 g 4 _ _ _ y5
      have zb := But.setCell w5 g 4 (.slice B5 M d5)
      have hgW := HGW.out
      have hgw := HGw.out
      have hlo : w1.heap.size ≤ wr.heap.size := HL.out
      have z7 := (zb.2 (g + 1) (by omega)).trans (keepH X2.out hb5)
      obtain ⟨j0, j1, j2, j3, j4⟩ := cells5 z6
      have HO6 := hidT ((HO.out.later hb5).but (by omega) zb)
      have hgl : g < w1.heap.size := by have := HWS.out; omega
      have HA6 := hidT (((HH.out.all HO.out.2.1).below hb5).keptS (KeptS.hi zb hgl))
      have hB5 : ∀ b o, B5 = some ⟨b, o, none⟩ → w1.heap.size ≤ b := addrB ho5 hlo
      have HR6 := hidT (ho5.same.but (fun b o e => by have := hB5 b o e; omega) zb)
      have HB6 := hidT ((bthen HB.out hb5).setCell (p := ⟨g, 4, none⟩) (by show w.heap.size ≤ g; omega) (.slice B5 M d5))
      have HA5 := hidT hB5
      have hs5 := hb5.size
      have hs6 := zb.1
      have HSZ6 := hidT (show w1.heap.size ≤ (w5.setCell ⟨g, 4, none⟩ (.slice B5 M d5)).heap.size by omega)
      clear hM y5 hcl hb5 ho5 hB5 hs5 hs6 zb hgW hgw hlo hgl z6 i0 i1 i2 i3 i4
      go_wp2_with (
        refine wpList_stI rfl 27 _ _ rfl (g + 1) #[.slice G n h, .int .i64 l.p.seq, .int .i64 l.p.total, .int .i64 l.p.got, .slice B5 M d5] rfl rfl _ _ z7 sizeL rfl (by simp [Value.oneCell']) ?_
        intro w7 hg7 hbut hbel)
      obtain ⟨e0, e1, e2, e3, e4⟩ := cells5 hg7
      have hgW := HGW.out
      have hgw := HGw.out
      have hW1 := HWS.out
      have hs7 : w1.heap.size ≤ w7.heap.size := by rw [hbut.1]; exact HSZ6.out
      have hR7 := HR6.out.but (fun b o e => by have := HA5.out b o e; omega) hbut
      exact bodyPost_ret (v := .agg #[.slice G n h, .int .i64 l.p.seq, .int .i64 l.p.total, .int .i64 l.p.got, .slice B5 M d5]) (by simp [results, Try.results48, go_sem, e0, e1, e2, e3, e4]) rfl
        ⟨G, n, h, us, B5, M, d5, w1.heap.size, rfl, (HO6.out.but (by omega) hbut).mono (by omega), HA6.out.keptS (KeptS.hi hbut (by omega)), HBL.out, hR7, HA5.out, hs7, by omega, hbel _ _ HB6.out (by omega)⟩
end Go.Proofs.Ytmlmkkfieeaejaa
