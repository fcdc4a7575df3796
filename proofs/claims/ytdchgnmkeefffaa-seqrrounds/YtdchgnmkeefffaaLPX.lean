import Derived.Test.YtdchgnmkeefffaaLCX
import Derived.Test.YtdchgnmkeefffaaLDX
import Derived.Lib.SliceRun
import Derived.Lib.SlicesDelete
set_option maxRecDepth 100000
/- What fresh comes to. -/
namespace Go.Proofs.Ytdchgnmkeefffaa
open Go.RowKit
set_option linter.unusedVariables false

/-- So many entries are copied, the others as they were. -/
def HalfE (w : World) (lo j : Nat) (us rs : List (Array Value)) (xs : List Lane.En) : Prop := (∀ i, j ≤ i → us[i]? = rs[i]?) ∧ us.length = xs.length ∧ ∀ (i : Nat) (r : Array Value) (x : Lane.En), i < j → us[i]? = some r → xs[i]? = some x → IsEn (Hi lo) w (.agg r) x
theorem HalfE.all {w : World} {lo n : Nat} {us rs : List (Array Value)} {xs : List Lane.En} (h : HalfE w lo n us rs xs) (hn : us.length = n) : AreE (Hi lo) w us xs := ⟨h.2.1, fun i r x h1 h2 => h.2.2 i r x (by
  rcases Nat.lt_or_ge i us.length with h | h
  · omega
  · rw [List.getElem?_eq_none h] at h1; cases h1) h1 h2⟩
theorem HalfE.next {w w' : World} {lo j : Nat} {us rs : List (Array Value)} {xs : List Lane.En} {r : Array Value} {x : Lane.En} (h : HalfE w lo j us rs xs) (hk : ∀ v y, IsEn (Hi lo) w v y → IsEn (Hi lo) w' v y) (hx : xs[j]? = some x) (hr : IsEn (Hi lo) w' (.agg r) x) : HalfE w' lo (j + 1) (us.set j r) rs xs := by
  obtain ⟨h1, h2, h3⟩ := h
  refine ⟨fun i hi => ?_, by rw [List.length_set]; exact h2, fun i q y hi hq hy => ?_⟩
  · rw [List.getElem?_set_ne (by omega)]
    exact h1 i (by omega)
  · by_cases hij : j = i
    · subst hij
      have hlt : j < us.length := by
        rcases Nat.lt_or_ge j us.length with h | h
        · exact h
        · rw [List.getElem?_eq_none (by rw [List.length_set]; exact h)] at hq; cases hq
      rw [List.getElem?_set_self hlt] at hq
      injection hq with hq
      subst hq
      rw [hx] at hy
      injection hy with hy
      subst hy
      exact hr
    · rw [List.getElem?_set_ne hij] at hq
      exact hk _ _ (h3 i q y (by omega) hq hy)
/-- A lane that is the call's own. -/
def FreshL (w : World) (l : Lane.Ln) (e : Ending) (w' : World) : Prop :=
  ∃ A n c us B m d lo, e = .returned (.agg #[.slice A n c, .int .i64 l.p.seq, .int .i64 l.p.total, .int .i64 l.p.got, .slice B m d]) ∧ OwnK 5 w' w.heap.size 59 (.slice A n c) n us ∧ AreE (Hi lo) w' us l.es ∧ (∀ b o, A = some ⟨b, o, none⟩ → b < lo) ∧ Rd w' B m d l.p.b ∧ (∀ b o, B = some ⟨b, o, none⟩ → lo ≤ b) ∧ lo ≤ w'.heap.size ∧ w.heap.size ≤ lo ∧ Below w.heap.size w w'

set_option maxHeartbeats 4000000 in
theorem fresh_any {S : Nat → Prop} (v : Value) (l : Lane.Ln) (w : World) (h : IsLane S w v l) (hS : SmallL l) : Calls Try.prog 67 #[v] w (FreshL w l) := by
  obtain ⟨A, n, c, B, m, d, rfl, hE, hB, _⟩ := h
  have hn : n ≤ 65536 := by rw [← hE.size]; exact hS.1
  have hlen := hE.size
  obtain ⟨rs, hK, hI, _⟩ := hE
  have hmm : m ≤ 65536 := by have := hB.1; have := hS.2.2; omega
  obtain ⟨t1, t2, t3⟩ := two_alloc w (.cells #[.slice A n c, .int .i64 l.p.seq, .int .i64 l.p.total, .int .i64 l.p.got, .slice B m d] 51) (.cells lz 51)
  obtain ⟨W, hW⟩ : ∃ W, (w.alloc (.cells #[.slice A n c, .int .i64 l.p.seq, .int .i64 l.p.total, .int .i64 l.p.got, .slice B m d] 51)).alloc (.cells lz 51) = W := ⟨_, rfl⟩
  have HS : Hid (W.heap.size = w.heap.size + 2) := by rw [← hW, size_alloc, size_alloc]; exact hidT rfl
  rw [hW] at t1 t2 t3
  have HW := hidT hW
  have HC := hidT (cloneE_any A n c rs W (hK.below t3) hn)
  obtain ⟨g, hg⟩ : ∃ g, w.heap.size = g := ⟨_, rfl⟩
  rw [hg] at t1 t2
  have HG := hidT hg
  obtain ⟨i0, i1, i2, i3, i4⟩ := cells5 t1
  rw [← HW.out] at i0 i1 i2 i3 i4
  have T1 := hidT t1
  have T2 := hidT t2
  have T3 := hidT t3
  have HK := hidT hK
  have HI := hidT hI
  have HSM := hidT hS
  have HBB := hidT hB
  have HMM := hidT hmm
  clear t1 t2 t3 hW hK hI hS hB hmm
  go_enter Try.func67, Try.ntmps67
  go_wp2_with fail
  rw [HW.out]
  clear hg i0 i1 i2 i3 i4
  with_reducible refine HC.out.mono ?_
  rintro e w1 ⟨G, h, rfl, ho1, hb1⟩
  have y1 := keepH T1.out hb1
  have y2 := keepH T2.out hb1
  have f1 := no_frozen y1 0
  obtain ⟨q0, q1, q2, q3, q4⟩ := cells5 y1
  have z1 : (w1.setCell ⟨g, 0, none⟩ (.slice G n h)).heap[g]? = some (.cells #[.slice G n h, .int .i64 l.p.seq, .int .i64 l.p.total, .int .i64 l.p.got, .slice B m d] 51 (0, 0)) := heap_setCell_same w1 g 0 _ _ _ y1
  have zb : But g w1 (w1.setCell ⟨g, 0, none⟩ (.slice G n h)) := But.setCell w1 g 0 _
  have hgw : w.heap.size ≤ g := by rw [HG.out]; exact Nat.le_refl _
  have hgW : g + 2 = W.heap.size := by rw [HS.out, HG.out]
  have zo := ho1.but (by omega) zb
  have zB : Below w.heap.size w (w1.setCell ⟨g, 0, none⟩ (.slice G n h)) := (bthen T3.out hb1).setCell (p := ⟨g, 0, none⟩) hgw _
  have z2 := (zb.2 (g + 1) (by omega)).trans y2
  have hsz := zb.1
  have hBl : ∀ b o, G = some ⟨b, o, none⟩ → b < w1.heap.size := fun b o hA => (ho1.addr b o hA).2
  have Z1 := hidT z1
  have Z2 := hidT z2
  have ZO := hidT zo
  have HBL := hidT hBl
  have HGW := hidT hgW
  have HGw := hidT hgw
  have HSZ := hidT hsz
  have HWS := hidT hb1.size
  have ZBB := hidT zB
  obtain ⟨i0, i1, i2, i3, i4⟩ := cells5 z1
  clear z1 z2 zo zb hBl hgW hgw hsz y1 y2 ho1 hb1 HC zB
  go_wp2_with fail
  clear i0 i1 i2 i3 i4 f1 q0 q1 q2 q3 q4
  go_loopw [12] (fun i wr => ∃ (j : Nat) (us : List (Array Value)), j ≤ n ∧ i = .int .i64 j ∧ Hid (wr.heap[g]? = some (.cells #[.slice G n h, .int .i64 l.p.seq, .int .i64 l.p.total, .int .i64 l.p.got, .slice B m d] 51 (0, 0))) ∧ Hid (wr.heap[g + 1]? = some (.cells lz 51 (0, 0))) ∧ Hid (OwnK 5 wr W.heap.size 59 (.slice G n h) n us) ∧ Hid (HalfE wr w1.heap.size j us rs l.es) ∧ Hid (w1.heap.size ≤ wr.heap.size) ∧ Hid (Below w.heap.size w wr)) (fun i _ => n - (intOf i).toNat)
  case atStart => exact ⟨0, rs, Nat.zero_le _, rfl, Z1, Z2, ZO, hidT ⟨fun _ _ => rfl, HI.out.1, fun i r x hi => absurd hi (by omega)⟩, hidT (by rw [HSZ.out]; exact Nat.le_refl _), ZBB⟩
  case round =>
    obtain ⟨j, us, hj, rfl, X1, X2, HO, HH, HL, HB⟩ := hrel
    by_cases hjn : j < n
    · obtain ⟨gB, rfl, hgB, hgBl⟩ := HO.out.form (by omega)
      have hgB1 := HBL.out gB 0 rfl
      have hjl : j < l.es.length := by omega
      obtain ⟨x, hx⟩ : ∃ x, l.es[j]? = some x := ⟨_, List.getElem?_eq_getElem hjl⟩
      have hjr : j < rs.length := by rw [HI.out.1]; exact hjl
      obtain ⟨r, hr⟩ : ∃ r, rs[j]? = some r := ⟨_, List.getElem?_eq_getElem hjr⟩
      have hu : us[j]? = some r := (HH.out.1 j (Nat.le_refl _)).trans hr
      have hi := HI.out.2 j r x hr hx
      have hsm := HSM.out.2.1 x (List.mem_of_getElem? hx)
      obtain ⟨BA, bn, bc, LA, ln, lc, e, hb, hl, _, _⟩ := id hi
      injection e with e
      subst e
      have HOWN : Hid (∀ w', Below w.heap.size w w' → Calls Try.prog 70 #[.agg #[.int .i64 x.k, .int .i64 x.q, .slice BA bn bc, .slice LA ln lc, .bool x.h]] w' (OwnIs w' x)) :=
        hidT fun w' hb' => own_any _ x w' (hi.below hb') hsm
      have hc : ∀ (i : Nat) (u : Value), (#[.int .i64 x.k, .int .i64 x.q, .slice BA bn bc, .slice LA ln lc, .bool x.h] : Array Value)[i]? = some u → wr.cell? ⟨gB, 0 + j * 5 + i, none⟩ = some u := fun i u hh => HO.out.same.cell hu hh
      have c0 := hc 0 _ rfl
      have c1 := hc 1 _ rfl
      have c2 := hc 2 _ rfl
      have c3 := hc 3 _ rfl
      have c4 := hc 4 _ rfl
      simp only [Nat.zero_add, Nat.add_zero] at c0 c1 c2 c3 c4
      have x1 : (0 : Int) ≤ (j : Int) := by omega
      have x2 : (j : Int) < (n : Int) := by omega
      have HX := hidT hx
      have HU := hidT hu
      clear hc hx hu hr hi hsm hl hb hjl hjr
      go_wp2_with fail
      have n4 := nkeep wr (.cells #[.int .i64 x.k, .int .i64 x.q, .slice BA bn bc, .slice LA ln lc, .bool x.h] 59)
      have y4 := alloc_at wr (.cells #[.int .i64 x.k, .int .i64 x.q, .slice BA bn bc, .slice LA ln lc, .bool x.h] 59) _ rfl
      clear c0 c1 c2 c3 c4
      obtain ⟨e0, e1, e2, e3, e4⟩ := cells5 y4
      obtain ⟨i0, i1, i2, i3, i4⟩ := cells5 (keepH X1.out n4)
      have N4 := hidT n4
      clear y4 n4
      generalize wr.alloc (.cells #[.int .i64 x.k, .int .i64 x.q, .slice BA bn bc, .slice LA ln lc, .bool x.h] 59) = w4 at *
      go_region_law
        (first
          | (go_simp; go_at_call 70; ((with_reducible refine (HOWN.out _ (bthen HB.out N4.out).drew).mono ?_); rintro e5 w5 ⟨v5, rfl, hF5, hb5'⟩; have hb5 : Below w4.heap.size w4 w5 := undrew hb5'; obtain ⟨r5, rfl, hs5, ha5⟩ := hF5.cells; obtain ⟨w6, hrun6, ho6, hbut6, hbel6⟩ := OwnK.setAt (P := Try.prog) (HO.out.later (bthen N4.out hb5)) hjn r5 hs5 ha5; obtain ⟨i0', i1', i2', i3', i4'⟩ := cells5 (keepH X1.out (bthen N4.out hb5))))
          | fail)
      all_goals
        have hgW := HGW.out
        have hgw := HGw.out
        have hlo := HL.out
        have hb45 := bthen N4.out hb5
        have Y1 := hidT ((hbut6.2 g (by omega)).trans (keepH X1.out hb45))
        have Y2 := hidT ((hbut6.2 (g + 1) (by omega)).trans (keepH X2.out hb45))
        have YO := hidT ho6
        have hsz4 := N4.out.size
        have hsz5 : w4.heap.size ≤ w5.heap.size := hb5.size
        have hF6 : IsEn (Hi w1.heap.size) w6 (.agg r5) x := (hF5.hi (show w1.heap.size ≤ w4.heap.size by omega)).keptS (KeptS.hi hbut6 hgB1)
        have YH := hidT (HH.out.next (fun v y hv => (hv.below hb45).keptS (KeptS.hi hbut6 hgB1)) HX.out hF6)
        have YL := hidT (show w1.heap.size ≤ w6.heap.size by rw [hbut6.1]; omega)
        have YB := hidT (hbel6 _ _ (bthen HB.out hb45) (by omega))
        clear hF6 hsz4 hsz5 hb45 hgW hgw hlo hbut6 hbel6 hF5 hb5 hb5' ho6 hs5 ha5 hrun6 i0 i1 i2 i3 i4 i0' i1' i2' i3' i4' e0 e1 e2 e3 e4
        go_wp2
        exact ⟨⟨j + 1, us.set j r5, by omega, by go_num, Y1, Y2, YO, YH, YL, YB⟩, by simp [intOf]; omega⟩
    · obtain rfl : n = j := by omega
      obtain ⟨i0, i1, i2, i3, i4⟩ := cells5 X1.out
      have hcl := clone_any B m d l.p.b wr (HBB.out.below HB.out) HMM.out
      go_wp2_with fail
      with_reducible refine hcl.mono ?_
      rintro e w5 ⟨B5, d5, rfl, ho5, hb5⟩
      have y5 := keepH X1.out hb5
      have f5 := no_frozen y5 4
      obtain ⟨i0', i1', i2', i3', i4'⟩ := cells5 y5
      obtain ⟨M, hM⟩ : ∃ M, l.p.b.length = M := ⟨_, rfl⟩
      rw [hM] at ho5 ⊢
      have z6 : (w5.setCell ⟨g, 4, none⟩ (.slice B5 M d5)).heap[g]? = some (.cells #[.slice G n h, .int .i64 l.p.seq, .int .i64 l.p.total, .int .i64 l.p.got, .slice B5 M d5] 51 (0, 0)) := heap_setCell_same w5 g 4 _ _ _ y5
      have zb := But.setCell w5 g 4 (.slice B5 M d5)
      have hgW := HGW.out
      have hgw := HGw.out
      have hlo : w1.heap.size ≤ wr.heap.size := HL.out
      have z7 := (zb.2 (g + 1) (by omega)).trans (keepH X2.out hb5)
      obtain ⟨j0, j1, j2, j3, j4⟩ := cells5 z6
      have HO6 := hidT ((HO.out.later hb5).but (by omega) zb)
      have hgl : g < w1.heap.size := by have := HWS.out; omega
      have HA6 := hidT (((HH.out.all HO.out.2.1).below hb5).keptS (KeptS.hi zb hgl))
      have hB5 : ∀ b o, B5 = some ⟨b, o, none⟩ → w1.heap.size ≤ b := addrB ho5 hlo
      have HR6 := hidT (ho5.same.but (fun b o e => by have := hB5 b o e; omega) zb)
      have HB6 := hidT ((bthen HB.out hb5).setCell (p := ⟨g, 4, none⟩) (by show w.heap.size ≤ g; omega) (.slice B5 M d5))
      have HA5 := hidT hB5
      have hs5 := hb5.size
      have hs6 := zb.1
      have HSZ6 := hidT (show w1.heap.size ≤ (w5.setCell ⟨g, 4, none⟩ (.slice B5 M d5)).heap.size by omega)
      clear hM y5 hcl hb5 ho5 hB5 hs5 hs6 zb hgW hgw hlo hgl z6 i0 i1 i2 i3 i4
      go_wp2_with (
        refine wpList_stI rfl 51 _ _ rfl (g + 1) #[.slice G n h, .int .i64 l.p.seq, .int .i64 l.p.total, .int .i64 l.p.got, .slice B5 M d5] rfl rfl _ _ z7 sizeL rfl (by simp [Value.oneCell']) ?_
        intro w7 hg7 hbut hbel)
      obtain ⟨e0, e1, e2, e3, e4⟩ := cells5 hg7
      have hgW := HGW.out
      have hgw := HGw.out
      have hW1 := HWS.out
      have hs7 : w1.heap.size ≤ w7.heap.size := by rw [hbut.1]; exact HSZ6.out
      have hR7 := HR6.out.but (fun b o e => by have := HA5.out b o e; omega) hbut
      exact bodyPost_ret (v := .agg #[.slice G n h, .int .i64 l.p.seq, .int .i64 l.p.total, .int .i64 l.p.got, .slice B5 M d5]) (by simp [results, Try.results67, go_sem, e0, e1, e2, e3, e4]) rfl
        ⟨G, n, h, us, B5, M, d5, w1.heap.size, rfl, (HO6.out.but (by omega) hbut).mono (by omega), HA6.out.keptS (KeptS.hi hbut (by omega)), HBL.out, hR7, HA5.out, hs7, by omega, hbel _ _ HB6.out (by omega)⟩
end Go.Proofs.Ytdchgnmkeefffaa
/- What slices.Delete of one entry of a row comes to. -/
namespace Go.Proofs.Ytdchgnmkeefffaa
open Go.RowKit
set_option linter.unusedVariables false

theorem setCells_row (g off : Nat) (t : TypeId) (vs : List Value) (cur : Array Value) (w : World) (hg : w.heap[g]? = some (.cells cur t (0, 0))) (hl : off + vs.length ≤ cur.size) (h1 : ∀ v ∈ vs, v.oneCell' = true) :
    w.setCells g off vs = w.setRow g (cur.toList.take off ++ vs ++ cur.toList.drop (off + vs.length)).toArray := by
  have hc : ∀ j, j < vs.length → w.cell? ⟨g, off + j, none⟩ = some (cur[off + j]!) := fun j hj => by
    rw [cell_of_row _ g _ _ t (0, 0) hg, getElem!_pos cur (off + j) (by omega), Array.getElem?_eq_getElem (by omega)]
  have a := run_storeCells_cells (P := Try.prog) g off vs 0 w (by simpa using fun j hj => by rw [hc j hj]; rfl) (by simpa using fun j hj => no_frozen hg (off + j)) h1
  have b := run_storeCells_off (P := Try.prog) g off t vs 0 cur w hg (by omega) h1
  rw [a] at b
  simp only [Nat.add_zero] at b
  injection b
theorem OwnK.there {k : Nat} {w : World} {base g n cap : Nat} {e : TypeId} {us : List (Array Value)} (h : OwnK k w base e (.slice (some ⟨g, 0, none⟩) n cap) n us) : ∃ cur : Array Value, base ≤ g ∧ w.heap[g]? = some (.cells cur e (0, 0)) ∧ n ≤ cap ∧ cap ≤ maxLen ∧ cur.size = cap * k ∧ cur.toList.take (n * k) = flat us := by
  rcases h.2.2.2 with ⟨h0, _⟩ | ⟨g', cap', cur, hv, hb, hh, hn, hm, hs, ht⟩
  · cases h0
  · injection hv with hv1 hv2 hv3
    injection hv1 with hv1
    injection hv1 with hv1
    subst hv1
    subst hv3
    exact ⟨cur, hb, hh, hn, hm, hs, ht⟩
theorem flat_erase {k : Nat} {us : List (Array Value)} (i : Nat) : flat (us.eraseIdx i) = flat (us.take i) ++ flat (us.drop (i + 1)) := by
  rw [List.eraseIdx_eq_take_drop_succ, flat_append]

theorem take_app {α : Type} (a b c : List α) (m k : Nat) (ha : a.length = m) (hb : b.length = k) : (a ++ b ++ c).take (m + k) = a ++ b := by
  rw [List.take_left' (by simp [ha, hb])]
set_option maxHeartbeats 4000000 in
theorem delete_any (g n cap : Nat) (us : List (Array Value)) (w : World) (base : Nat) (h : OwnK 5 w base 59 (.slice (some ⟨g, 0, none⟩) n cap) n us) (i : Nat) (hi : i < n) (z : Int) (hz : z = ((i + 1 : Nat) : Int)) :
    Calls Try.prog 69 #[.slice (some ⟨g, 0, none⟩) n cap, .int .i64 (i : Int), .int .i64 z] w (fun e w' => e = .returned (.slice (some ⟨g, 0, none⟩) (n - 1) cap) ∧ OwnK 5 w' base 59 (.slice (some ⟨g, 0, none⟩) (n - 1) cap) (n - 1) (us.eraseIdx i) ∧ But g w w' ∧ (∀ base' w0, Below base' w0 w → base' ≤ g → Below base' w0 w')) := by
  obtain ⟨cur, hb, hh, hcap, hmax, hs, ht⟩ := h.there
  have hall := h.1
  have hlen := h.2.1
  obtain ⟨i0, hi0, hz5⟩ : ∃ i0, Try.prog.info? 59 = some i0 ∧ i0.size = 5 := by
    have := sizeE
    cases hq : Try.prog.info? 59 with
    | none => simp [hq] at this
    | some i => exact ⟨i, rfl, by simpa [hq] using this⟩
  have hnews : (flat (us.drop (i + 1))).length = (n - (i + 1)) * 5 := by rw [flat_length (hall.drop _), List.length_drop, hlen]
  have hcl : cur.toList.length = cap * 5 := by rw [Array.length_toList]; exact hs
  have hfi : cur.toList.take (i * 5) = flat (us.take i) := by
    rw [flat_take hall, ← ht, List.take_take, Nat.min_eq_left (by omega)]
  have hfd : flat (us.drop (i + 1)) = (flat us).drop ((i + 1) * 5) := flat_drop hall _
  -- the world behind the append
  have hone : ∀ u ∈ flat (us.drop (i + 1)), u.oneCell' = true := flat_cells (hall.drop _)
  have hmul : i * 5 + (n - (i + 1)) * 5 = (n - 1) * 5 := by omega
  have hrow1 := setCells_row g (i * 5) 59 (flat (us.drop (i + 1))) cur w.drew hh (by rw [hnews, hs]; omega) hone
  obtain ⟨W1, hW1⟩ : ∃ W1, W1 = w.drew.setCells g (0 + i * 5) (flat (us.drop (i + 1))) := ⟨_, rfl⟩
  rw [Nat.zero_add, hrow1] at hW1
  obtain ⟨cur1, hc1⟩ : ∃ cur1, (cur.toList.take (i * 5) ++ flat (us.drop (i + 1)) ++ cur.toList.drop (i * 5 + (flat (us.drop (i + 1))).length)).toArray = cur1 := ⟨_, rfl⟩
  rw [hc1] at hW1 hrow1
  have hh1 : W1.heap[g]? = some (.cells cur1 59 (0, 0)) := by rw [hW1]; exact row_setRow w.drew g cur1 cur _ _ hh
  have hs1 : cur1.size = cap * 5 := by
    rw [← hc1, List.size_toArray, List.length_append, List.length_append, List.length_take, List.length_drop, hnews, hcl]
    omega
  have ht1 : cur1.toList.take ((n - 1) * 5) = flat (us.eraseIdx i) := by
    rw [← hc1, flat_erase (k := 5), ← hfi]
    rw [show (n - 1) * 5 = i * 5 + (n - (i + 1)) * 5 by omega]
    exact take_app _ _ _ _ _ (by rw [List.length_take, hcl]; omega) hnews
  have hb1 : But g w W1 := by rw [hW1]; exact But.setRow w.drew g cur1
  have hB1 : ∀ base' w0, Below base' w0 w → base' ≤ g → Below base' w0 W1 := fun b w0 h1 h2 => by rw [hW1]; exact below_setRow h1.drew h2 cur1
  -- the world behind the clear
  have hrun2 := run_storeCells_off (P := Try.prog) g ((n - 1) * 5) 59 ez.toList 0 cur1 W1 hh1 (by rw [hs1]; show (n - 1) * 5 + 0 + 5 ≤ cap * 5; omega) (by decide)
  obtain ⟨cur2, hc2⟩ : ∃ cur2, (cur1.toList.take ((n - 1) * 5 + 0) ++ ez.toList ++ cur1.toList.drop ((n - 1) * 5 + 0 + ez.toList.length)).toArray = cur2 := ⟨_, rfl⟩
  rw [hc2] at hrun2
  obtain ⟨W2, hW2⟩ : ∃ W2, W2 = W1.setRow g cur2 := ⟨_, rfl⟩
  rw [← hW2] at hrun2
  have hcl1 : cur1.toList.length = cap * 5 := by rw [Array.length_toList]; exact hs1
  have hs2 : cur2.size = cap * 5 := by
    rw [← hc2, List.size_toArray, List.length_append, List.length_append, List.length_take, List.length_drop, hcl1]
    show min ((n - 1) * 5 + 0) (cap * 5) + 5 + (cap * 5 - ((n - 1) * 5 + 0 + 5)) = cap * 5
    omega
  have ht2 : cur2.toList.take ((n - 1) * 5) = flat (us.eraseIdx i) := by
    rw [← ht1, ← hc2]
    show List.take ((n - 1) * 5) (List.take ((n - 1) * 5 + 0) cur1.toList ++ ez.toList ++ _) = _
    rw [List.append_assoc, List.take_left' (by rw [List.length_take, hcl1]; omega)]
    rfl
  have hh2 : W2.heap[g]? = some (.cells cur2 59 (0, 0)) := by rw [hW2]; exact row_setRow W1 g cur2 cur1 _ _ hh1
  have hER : AllK 5 (us.eraseIdx i) := fun q hq => hall q (List.mem_of_mem_eraseIdx hq)
  have hEL : (us.eraseIdx i).length = n - 1 := by rw [List.length_eraseIdx_of_lt (by omega), hlen]
  have hO2 : OwnK 5 W2 base 59 (.slice (some ⟨g, 0, none⟩) (n - 1) cap) (n - 1) (us.eraseIdx i) :=
    ⟨hER, hEL, by rw [flat_length hER, hEL], .inr ⟨g, cap, cur2, rfl, hb, hh2, by omega, hmax, hs2, ht2⟩⟩
  have hb2 : But g w W2 := hb1.trans (by rw [hW2]; exact But.setRow W1 g cur2)
  have hB2 : ∀ base' w0, Below base' w0 w → base' ≤ g → Below base' w0 W2 := fun b w0 h1 h2 => by rw [hW2]; exact below_setRow (hB1 b w0 h1 h2) h2 cur2
  have hclear : ∀ ty, (Builtin.clear_ #[47] ty #[.slice (some ⟨g, (n - 1) * 5, none⟩) 1 (cap - (n - 1))]).run Try.prog W1 = .ok (.tuple #[]) W2 := fun ty => by
    have hzc : (Builtin.zeroCells (Value.agg ez).cells 1).toList = ez.toList := by kernel_rfl
    simp [Builtin.clear_, run_underlying Try.underlying47, hzc, hrun2]
  obtain ⟨A, hA, hsrc⟩ : ∃ A : Addr, (if cap = i + 1 then (some ⟨g, 0, none⟩ : Option Addr) else some ⟨g, (i + 1) * 5, none⟩) = some A ∧ Hid (∀ t u, (flat (us.drop (i + 1)))[t]? = some u → w.drew.cell? (A.add t) = some u) := by
    by_cases hc : cap = i + 1
    · refine ⟨⟨g, 0, none⟩, by simp [hc], hidT fun t u hu => ?_⟩
      have : (flat (us.drop (i + 1))).length = 0 := by rw [hnews]; omega
      rw [List.length_eq_zero_iff.1 this] at hu
      simp at hu
    · refine ⟨⟨g, (i + 1) * 5, none⟩, by simp [hc], hidT fun t u hu => ?_⟩
      rw [hfd, List.getElem?_drop, ← ht, List.getElem?_take] at hu
      split at hu
      · rw [add_eq, cell_of_row _ g _ _ 59 (0, 0) (show w.drew.heap[g]? = _ from hh)]
        simpa using hu
      · cases hu
  have HS3 : Hid (∀ t, t < (flat (us.drop (i + 1))).length → (w.drew.cell? ⟨g, 0 + i * 5 + t, none⟩).isSome = true ∧ w.drew.frozen? ⟨g, 0 + i * 5 + t, none⟩ = false) := hidT fun t ht' => by
    rw [hnews] at ht'
    refine ⟨?_, no_frozen (show w.drew.heap[g]? = _ from hh) _⟩
    rw [cell_of_row _ g _ _ 59 (0, 0) (show w.drew.heap[g]? = _ from hh), Array.getElem?_eq_getElem (by omega)]
    rfl
  have hlo : (if cap = n - 1 then (some ⟨g, 0, none⟩ : Option Addr) else some ⟨g, (n - 1) * 5, none⟩) = some ⟨g, (n - 1) * 5, none⟩ := by rw [if_neg (by omega)]
  have HW1 : Hid (W1 = w.drew.setCells g (0 + i * 5) (flat (us.drop (i + 1)))) := hidT (by rw [Nat.zero_add, hrow1]; exact hW1)
  have HNL := hidT hnews
  have HONE := hidT hone
  have HO2 := hidT hO2
  have HB2 := hidT hb2
  have HBB := hidT hB2
  have hcmax : cap ≤ 9223372036854775807 := by unfold maxLen at hmax; exact hmax
  obtain ⟨J, hJ⟩ : ∃ J, i + 1 = J := ⟨_, rfl⟩
  rw [hJ] at hz hA
  have hsum : i + (n - J) = n - 1 := by omega
  obtain ⟨N, hN⟩ : ∃ N, n - 1 = N := ⟨_, rfl⟩
  have HJ := hidT hJ
  have hJn : J ≤ n := by omega
  have hic : i ≤ cap := by omega
  have hJc : J ≤ cap := by omega
  have hiJ : i ≤ J := by omega
  have hne : ¬ i = J := by omega
  have hne2 : (i == J) = false := by simpa using hne
  have hne3 : ((i : Int) == (J : Int)) = false := by simp; omega
  rw [hN] at hsum hlo hclear
  have hNn : N ≤ n := by omega
  have hNc : N ≤ cap := by omega
  have hone1 : n - N = 1 := by omega
  have HFN : Hid (n - 1 = N) := hidT hN
  rw [hN] at HO2
  obtain ⟨news, hnw⟩ : ∃ news, flat (us.drop (i + 1)) = news := ⟨_, rfl⟩
  rw [hnw] at hsrc HS3 HW1 HNL HONE
  rw [hJ] at HNL
  subst hz
  clear hall hlen hnews hcl hfi hfd hone hmul hrow1 hW1 hc1 hh1 hs1 ht1 hb1 hB1 hc2 hrun2 hcl1 hs2 ht2 hh2 hER hEL hO2 hb2 hB2 hmax hs ht hJ hN hh h hb hW2 hnw
  rw [HFN.out]
  go_enter Try.func69, Try.ntmps69
  go_wp2_with fail
  go_region_law (refine step_append_room rfl (.tmp 22) (.tmp 25) 47 rfl 59 i0 5 Try.underlying47 hi0 hz5 g 0 i cap (by simp [Act.eval, Act.put]) A (n - J) (cap - J) news (by simp [Act.eval, Act.put]) HNL.out hsrc.out HONE.out (by omega) HS3.out ?_; rw [← HW1.out])
  all_goals
    go_wp2
    go_ret
    exact ⟨rfl, HO2.out, HB2.out, HBB.out⟩
end Go.Proofs.Ytdchgnmkeefffaa
/- Lanes that are the call's own. -/
namespace Go.Proofs.Ytdchgnmkeefffaa
open Go.RowKit
set_option linter.unusedVariables false

/-- A lane whose row and lists are the call's own. -/
def OwnL (w : World) (base lo : Nat) (A : Option Addr) (n c : Nat) (us : List (Array Value)) (B : Option Addr) (m d : Nat) (l : Lane.Ln) : Prop :=
  OwnK 5 w base 59 (.slice A n c) n us ∧ AreE (Hi lo) w us l.es ∧ (∀ b o, A = some ⟨b, o, none⟩ → b < lo) ∧ Rd w B m d l.p.b ∧ (∀ b o, B = some ⟨b, o, none⟩ → lo ≤ b) ∧ base ≤ lo ∧ lo ≤ w.heap.size
section
variable {w w' : World} {base lo g : Nat} {A : Option Addr} {n c : Nat} {us : List (Array Value)} {B : Option Addr} {m d : Nat} {l : Lane.Ln}
theorem OwnL.later (h : OwnL w base lo A n c us B m d l) (hb : Below w.heap.size w w') : OwnL w' base lo A n c us B m d l := by
  obtain ⟨h1, h2, h3, h4, h5, h6, h7⟩ := h
  exact ⟨h1.later hb, h2.below hb, h3, h4.below hb, h5, h6, Nat.le_trans h7 hb.size⟩
theorem OwnL.but (h : OwnL w base lo A n c us B m d l) (hg : g < base) (hb : But g w w') : OwnL w' base lo A n c us B m d l := by
  obtain ⟨h1, h2, h3, h4, h5, h6, h7⟩ := h
  exact ⟨h1.but hg hb, h2.keptS (KeptS.hi hb (by omega)), h3, h4.but (fun b o e => by have := h5 b o e; omega) hb, h5, h6, by rw [hb.1]; exact h7⟩
theorem OwnL.rde (h : OwnL w base lo A n c us B m d l) : RdE (Hi base) w A n c l.es := by
  obtain ⟨h1, h2, h3, h4, h5, h6, h7⟩ := h
  exact ⟨us, h1.same, h2.hi h6, Within.of fun b o e => (h1.addr b o e).1⟩
theorem OwnL.lane (h : OwnL w base lo A n c us B m d l) : IsLane (Hi base) w (.agg #[.slice A n c, .int .i64 l.p.seq, .int .i64 l.p.total, .int .i64 l.p.got, .slice B m d]) l := by
  obtain ⟨h1, h2, h3, h4, h5, h6, h7⟩ := h
  exact ⟨A, n, c, B, m, d, rfl, ⟨us, h1.same, h2.hi h6, Within.of fun b o e => (h1.addr b o e).1⟩, h4, Within.of fun b o e => Nat.le_trans h6 (h5 b o e)⟩
end
theorem FreshL.own {w : World} {l : Lane.Ln} {e : Ending} {w' : World} (h : FreshL w l e w') : ∃ A n c us B m d lo, e = .returned (.agg #[.slice A n c, .int .i64 l.p.seq, .int .i64 l.p.total, .int .i64 l.p.got, .slice B m d]) ∧ OwnL w' w.heap.size lo A n c us B m d l ∧ Below w.heap.size w w' := by
  obtain ⟨A, n, c, us, B, m, d, lo, h1, h2, h3, h4, h5, h6, h7, h8, h9⟩ := h
  exact ⟨A, n, c, us, B, m, d, lo, h1, ⟨h2, h3, h4, h5, h6, h8, h7⟩, h9⟩
/-- A lane in new memory. -/
def LaneOwn (w : World) (l : Lane.Ln) (e : Ending) (w' : World) : Prop := ∃ v, e = .returned v ∧ IsLane (Hi w.heap.size) w' v l ∧ Below w.heap.size w w'
theorem rises_erase {low : Int} {xs : List Lane.En} (h : Lane.rises low xs = true) (s : Int) : xs.eraseIdx (xs.findIdx fun y : Lane.En => decide (y.q = s)) = xs.filter fun y => decide (y.q ≠ s) := by
  induction xs generalizing low with
  | nil => rfl
  | cons x xs ih =>
    obtain ⟨_, _, h3⟩ := Lane.rises_cons.1 h
    rw [List.findIdx_cons, List.filter_cons]
    by_cases hq : x.q = s
    · rw [show decide (x.q = s) = true by simpa using hq, if_neg (by simpa using hq)]
      show xs = _
      rw [List.filter_eq_self.2]
      intro y hy
      have := (Lane.rises_mem h3 hy).2.1
      simp only [decide_eq_true_eq]
      omega
    · rw [show decide (x.q = s) = false by simpa using hq, if_pos (by simpa using hq)]
      show x :: xs.eraseIdx _ = _
      rw [ih h3]
theorem rises_none {low : Int} {xs : List Lane.En} (s : Int) (h : xs.findIdx (fun y : Lane.En => decide (y.q = s)) = xs.length) : xs = xs.filter fun y => decide (y.q ≠ s) := by
  rw [List.findIdx_eq_length] at h
  rw [List.filter_eq_self.2]
  intro y hy
  have := h y hy
  simpa using this
theorem AreE.erase {S : Nat → Prop} {w : World} {rs : List (Array Value)} {xs : List Lane.En} (h : AreE S w rs xs) (i : Nat) : AreE S w (rs.eraseIdx i) (xs.eraseIdx i) := by
  rw [List.eraseIdx_eq_take_drop_succ, List.eraseIdx_eq_take_drop_succ]
  exact (h.take i).app (h.drop (i + 1))
end Go.Proofs.Ytdchgnmkeefffaa
/- What lane.Pop comes to. -/
namespace Go.Proofs.Ytdchgnmkeefffaa
open Go.RowKit
set_option linter.unusedVariables false

set_option maxHeartbeats 4000000 in
theorem pop_any {S : Nat → Prop} (v : Value) (l : Lane.Ln) (s : Int) (w : World) (h : IsLane S w v l) (hS : SmallL l) (hr : Lane.rises 0 l.es = true) :
    Calls Try.prog 52 #[v, .int .i64 s] w (LaneOwn w (Lane.pop l s)) := by
  obtain ⟨A, n, c, B, m, d, ev, hE, hB, hW⟩ := id h
  subst ev
  obtain ⟨t0, t1, t4⟩ := two_alloc w (.cells #[.slice A n c, .int .i64 l.p.seq, .int .i64 l.p.total, .int .i64 l.p.got, .slice B m d] 51) (.cells lz 51)
  obtain ⟨W, hWW⟩ : ∃ W, (w.alloc (.cells #[.slice A n c, .int .i64 l.p.seq, .int .i64 l.p.total, .int .i64 l.p.got, .slice B m d] 51)).alloc (.cells lz 51) = W := ⟨_, rfl⟩
  have HSZ : Hid (W.heap.size = w.heap.size + 2) := by rw [← hWW, size_alloc, size_alloc]; exact hidT rfl
  rw [hWW] at t0 t1 t4
  have HF := hidT (fresh_any _ l W (h.below t4) hS)
  obtain ⟨g, hg⟩ : ∃ g, w.heap.size = g := ⟨_, rfl⟩
  have HG := hidT hg
  rw [hg] at t0 t1
  have HW := hidT hWW
  have T0 := hidT t0
  have T1 := hidT t1
  have T4 := hidT t4
  have HRI := hidT hr
  obtain ⟨e0, e1, e2, e3, e4⟩ := cells5 t0
  rw [← HW.out] at e0 e1 e2 e3 e4
  clear t0 t1 t4 hE hB hW hWW hS hr h
  go_enter Try.func52, Try.ntmps52
  go_wp2_with fail
  rw [HW.out]
  clear hg e0 e1 e2 e3 e4
  with_reducible refine HF.out.mono ?_
  intro e w5 hfr
  obtain ⟨A5, n5, c5, us, B5, m5, d5, lo, rfl, ho5, hb5⟩ := hfr.own
  have y0 := keepH T0.out hb5
  have y1 := keepH T1.out hb5
  have HO5 := hidT ho5
  have HB5 := hidT (bthen T4.out hb5)
  clear hfr hb5 ho5 HF
  go_wp2_with (
    refine wpList_stI rfl 51 _ _ rfl g #[.slice A5 n5 c5, .int .i64 l.p.seq, .int .i64 l.p.total, .int .i64 l.p.got, .slice B5 m5 d5] rfl rfl _ _ y0 sizeL rfl (by simp [Value.oneCell']) ?_
    intro w6 hg6 hbut6 hbel6
    obtain ⟨i0, i1, i2, i3, i4⟩ := cells5 hg6)
  have hgg := HG.out
  have hsz := HSZ.out
  have HO6 := hidT (HO5.out.but (by omega) hbut6)
  have Y1 := hidT ((hbut6.2 (g + 1) (by omega)).trans y1)
  have HB6 := hidT (hbel6 _ _ HB5.out (by omega))
  have G6 := hidT hg6
  have hpl := placeI_any A5 n5 c5 l.es s w6 HO6.out.rde
  have hle := idx_le l.es (fun y : Lane.En => decide (y.q = s))
  have hlen := HO6.out.rde.size
  have hcm := HO6.out.rde.cmax
  have hcp := HO6.out.rde.cap
  have her := rises_erase HRI.out s
  have hno := rises_none (low := 0) (xs := l.es) s
  obtain ⟨k, hk⟩ : ∃ k, l.es.findIdx (fun y : Lane.En => decide (y.q = s)) = k := ⟨_, rfl⟩
  rw [hk] at hpl hle her hno
  rw [hlen] at hle hno
  have HER := hidT her
  have HNO := hidT hno
  clear hg6 hbut6 hbel6 y0 y1 hk her hno hlen hgg hsz
  with_reducible refine hpl.mono ?_
  rintro e w7 ⟨rfl, hb7⟩
  obtain ⟨j0, j1, j2, j3, j4⟩ := cells5 (keepH G6.out hb7)
  have Y7 := hidT (keepH Y1.out hb7)
  have G7 := hidT (keepH G6.out hb7)
  have HO7 := hidT (HO6.out.later hb7)
  have HB7 := hidT (bthen HB6.out hb7)
  clear hpl hb7 i0 i1 i2 i3 i4
  by_cases hkn : k < n5
  · have q1 : decide ((k : Int) < (n5 : Int)) = true := by simp; omega
    have q1' : decide (k < n5) = true := by simpa using hkn
    obtain ⟨gB, rfl, hgB, hgBl⟩ := HO7.out.1.form (by omega)
    have s1 : IntKind.i64.wrap ((k : Int) + 1) = (k : Int) + 1 := IntWalk.i64_in _ (by omega)
    have hdel := fun z hz => delete_any gB n5 c5 us w7 W.heap.size HO7.out.1 k hkn z hz
    have HKN := hidT hkn
    clear hkn hle
    go_wp2_with fail
    with_reducible refine (hdel _ (by simp)).mono ?_
    rintro e w8 ⟨rfl, ho8, hbut8, hbel8⟩
    have hgg := HG.out
    have hsz := HSZ.out
    have y8 := (hbut8.2 g (by omega)).trans G7.out
    have f8 := no_frozen y8 0
    obtain ⟨k0, k1, k2, k3, k4⟩ := cells5 y8
    have z9 : (w8.setCell ⟨g, 0, none⟩ (.slice (some ⟨gB, 0, none⟩) (n5 - 1) c5)).heap[g]? = some (.cells #[.slice (some ⟨gB, 0, none⟩) (n5 - 1) c5, .int .i64 l.p.seq, .int .i64 l.p.total, .int .i64 l.p.got, .slice B5 m5 d5] 51 (0, 0)) := heap_setCell_same w8 g 0 _ _ _ y8
    have zb := But.setCell w8 g 0 (.slice (some ⟨gB, 0, none⟩) (n5 - 1) c5)
    have hlo := HO7.out.2.2.1 gB 0 rfl
    have hbs := HO7.out.2.2.2.2.2.1
    have z10 := (zb.2 (g + 1) (by omega)).trans ((hbut8.2 (g + 1) (by omega)).trans Y7.out)
    have HO9 := hidT (ho8.but (by omega) zb)
    have HA9 := hidT (((HO7.out.2.1.keptS (KeptS.hi hbut8 hlo)).keptS (KeptS.hi zb (by omega))).erase k)
    have hB5 := HO7.out.2.2.2.2.1
    have HR9 := hidT ((HO7.out.2.2.2.1.but (fun b o e => by have := hB5 b o e; omega) hbut8).but (fun b o e => by have := hB5 b o e; omega) zb)
    have HBB9 := hidT ((hbel8 _ _ HB7.out (by omega)).setCell (p := ⟨g, 0, none⟩) (by show w.heap.size ≤ g; omega) (.slice (some ⟨gB, 0, none⟩) (n5 - 1) c5))
    have HA5 := hidT hB5
    have HLO := hidT hbs
    obtain ⟨p0, p1, p2, p3, p4⟩ := cells5 z9
    clear hdel ho8 hbut8 hbel8 y8 zb hlo hbs hB5 hgg hsz
    go_wp2_with (
      refine wpList_stI rfl 51 _ _ rfl (g + 1) #[.slice (some ⟨gB, 0, none⟩) (n5 - 1) c5, .int .i64 l.p.seq, .int .i64 l.p.total, .int .i64 l.p.got, .slice B5 m5 d5] rfl rfl _ _ z10 sizeL rfl (by simp [Value.oneCell']) ?_
      intro w9 hg9 hbut9 hbel9)
    obtain ⟨r0, r1, r2, r3, r4⟩ := cells5 hg9
    have hgg := HG.out
    have hsz := HSZ.out
    have hlo := HLO.out
    have hfin : IsLane (Hi w.heap.size) w9 (.agg #[.slice (some ⟨gB, 0, none⟩) (n5 - 1) c5, .int .i64 l.p.seq, .int .i64 l.p.total, .int .i64 l.p.got, .slice B5 m5 d5]) (Lane.pop l s) := by
      refine ⟨_, _, _, _, _, _, rfl, ⟨us.eraseIdx k, (HO9.out.but (by omega) hbut9).same, ?_, Within.of fun b o e => ?_⟩, HR9.out.but (fun b o e => by have := HA5.out b o e; omega) hbut9, Within.of fun b o e => by have := HA5.out b o e; omega⟩
      · have := (HA9.out.keptS (KeptS.hi hbut9 (by omega))).hi (lo' := w.heap.size) (by omega)
        rw [HER.out] at this
        exact this
      · have := (HO9.out.addr b o e).1; omega
    exact bodyPost_ret (v := .agg #[.slice (some ⟨gB, 0, none⟩) (n5 - 1) c5, .int .i64 l.p.seq, .int .i64 l.p.total, .int .i64 l.p.got, .slice B5 m5 d5]) (by simp [results, Try.results52, go_sem, r0, r1, r2, r3, r4]) rfl
      ⟨_, rfl, hfin, hbel9 _ _ HBB9.out (by omega)⟩
  · have q1 : decide ((k : Int) < (n5 : Int)) = false := by simp; omega
    have q1' : decide (k < n5) = false := by simpa using hkn
    have hpe : Lane.pop l s = l := by
      unfold Lane.pop
      rw [← HNO.out (by omega)]
    have HPE := hidT hpe
    have y7 := Y7.out
    clear hpe hkn hle
    go_wp2_with (
      refine wpList_stI rfl 51 _ _ rfl (g + 1) #[.slice A5 n5 c5, .int .i64 l.p.seq, .int .i64 l.p.total, .int .i64 l.p.got, .slice B5 m5 d5] rfl rfl _ _ y7 sizeL rfl (by simp [Value.oneCell']) ?_
      intro w9 hg9 hbut9 hbel9)
    obtain ⟨r0, r1, r2, r3, r4⟩ := cells5 hg9
    have hgg := HG.out
    have hsz := HSZ.out
    exact bodyPost_ret (v := .agg #[.slice A5 n5 c5, .int .i64 l.p.seq, .int .i64 l.p.total, .int .i64 l.p.got, .slice B5 m5 d5]) (by simp [results, Try.results52, go_sem, r0, r1, r2, r3, r4]) rfl
      ⟨_, rfl, by rw [HPE.out]; exact (HO7.out.but (by omega) hbut9).lane.hi (lo' := w.heap.size) (by omega), hbel9 _ _ HB7.out (by omega)⟩
end Go.Proofs.Ytdchgnmkeefffaa
