import Derived.Test.YtdchgnmkeefffaaLPX
import Derived.Test.YtdchgnmkeefffaaLCX
import Derived.Test.YtdchgnmkeefffaaLRX
import Derived.Test.YtdchgnmkeefffaaLFX
import Derived.Deep.Cut
set_option maxRecDepth 100000
/- What lane.Set comes to. -/
namespace Go.Proofs.Ytdchgnmkeefffaa
open Go.RowKit
set_option linter.unusedVariables false

theorem rises_put_at {low : Int} {xs : List Lane.En} (h : Lane.rises low xs = true) (e : Lane.En) (hk : xs.findIdx (fun y : Lane.En => decide (y.q = e.q)) < xs.length) : xs.set (xs.findIdx fun y : Lane.En => decide (y.q = e.q)) e = xs.map (Lane.put e) := by
  induction xs generalizing low with
  | nil => rfl
  | cons x xs ih =>
    obtain ⟨_, _, h3⟩ := Lane.rises_cons.1 h
    rw [List.findIdx_cons] at hk ⊢
    by_cases hq : x.q = e.q
    · rw [show decide (x.q = e.q) = true by simpa using hq]
      show e :: xs = _
      rw [List.map_cons]
      have e1 : Lane.put e x = e := by unfold Lane.put; rw [if_pos hq]
      rw [e1]
      congr 1
      conv => lhs; rw [← List.map_id xs]
      refine List.map_congr_left fun y hy => ?_
      have := (Lane.rises_mem h3 hy).2.1
      show y = Lane.put e y
      unfold Lane.put
      rw [if_neg (by omega)]
    · rw [show decide (x.q = e.q) = false by simpa using hq] at hk ⊢
      show x :: xs.set _ e = _
      rw [ih h3 (by simpa using hk), List.map_cons]
      have e1 : Lane.put e x = x := by unfold Lane.put; rw [if_neg hq]
      rw [e1]
theorem put_none {xs : List Lane.En} (e : Lane.En) (h : xs.findIdx (fun y : Lane.En => decide (y.q = e.q)) = xs.length) : xs.map (Lane.put e) = xs := by
  rw [List.findIdx_eq_length] at h
  conv => rhs; rw [← List.map_id xs]
  refine List.map_congr_left fun y hy => ?_
  have := h y hy
  show Lane.put e y = y
  unfold Lane.put
  rw [if_neg (by simpa using this)]
theorem AreE.set {S : Nat → Prop} {w : World} {rs : List (Array Value)} {xs : List Lane.En} (h : AreE S w rs xs) (k : Nat) {r : Array Value} {x : Lane.En} (hr : IsEn S w (.agg r) x) : AreE S w (rs.set k r) (xs.set k x) := by
  refine ⟨by simp [h.1], fun i q y h1 h2 => ?_⟩
  by_cases hik : k = i
  · subst hik
    rw [List.getElem?_set] at h1 h2
    simp only [if_true] at h1 h2
    split at h1
    · split at h2
      · injection h1 with h1; injection h2 with h2; subst h1; subst h2; exact hr
      · cases h2
    · cases h1
  · rw [List.getElem?_set_ne hik] at h1 h2
    exact h.2 i q y h1 h2
set_option maxHeartbeats 4000000 in
theorem set_any {S S' : Nat → Prop} (v u : Value) (l : Lane.Ln) (e : Lane.En) (w : World) (h : IsLane S w v l) (he : IsEn S' w u e) (hS : SmallL l) (hse : SmallE e) (hr : Lane.rises 0 l.es = true) :
    Calls Try.prog 54 #[v, u] w (LaneOwn w (Lane.set l e)) := by
  obtain ⟨A, n, c, B, m, d, ev, hE, hB, hW⟩ := id h
  subst ev
  obtain ⟨BE, be, ce, LE, le, ke, eu, hbe, hle', hwb, hwl⟩ := id he
  subst eu
  obtain ⟨t0, t1, t2, t4⟩ := three_alloc w (.cells #[.slice A n c, .int .i64 l.p.seq, .int .i64 l.p.total, .int .i64 l.p.got, .slice B m d] 51) (.cells #[.int .i64 e.k, .int .i64 e.q, .slice BE be ce, .slice LE le ke, .bool e.h] 59) (.cells lz 51)
  obtain ⟨W, hWW⟩ : ∃ W, ((w.alloc (.cells #[.slice A n c, .int .i64 l.p.seq, .int .i64 l.p.total, .int .i64 l.p.got, .slice B m d] 51)).alloc (.cells #[.int .i64 e.k, .int .i64 e.q, .slice BE be ce, .slice LE le ke, .bool e.h] 59)).alloc (.cells lz 51) = W := ⟨_, rfl⟩
  have HSZ : Hid (W.heap.size = w.heap.size + 3) := by rw [← hWW, size_alloc, size_alloc, size_alloc]; exact hidT rfl
  rw [hWW] at t0 t1 t2 t4
  have HF := hidT (fresh_any _ l W (h.below t4) hS)
  obtain ⟨g, hg⟩ : ∃ g, w.heap.size = g := ⟨_, rfl⟩
  have HG := hidT hg
  rw [hg] at t0 t1 t2
  have HW := hidT hWW
  have T0 := hidT t0
  have T1 := hidT t1
  have T2 := hidT t2
  have T4 := hidT t4
  have HRI := hidT hr
  have HEN := hidT he
  have HSE := hidT hse
  obtain ⟨e0, e1, e2, e3, e4⟩ := cells5 t0
  rw [← HW.out] at e0 e1 e2 e3 e4
  clear t0 t1 t2 t4 hE hB hW hWW hS hr h he hse hbe hle' hwb hwl
  go_enter Try.func54, Try.ntmps54
  go_wp2_with fail
  rw [HW.out]
  clear hg e0 e1 e2 e3 e4
  with_reducible refine HF.out.mono ?_
  intro e' w5 hfr
  obtain ⟨A5, n5, c5, us, B5, m5, d5, lo, rfl, ho5, hb5⟩ := hfr.own
  have y0 := keepH T0.out hb5
  have y1 := keepH T1.out hb5
  have y2 := keepH T2.out hb5
  have HO5 := hidT ho5
  have HB5 := hidT (bthen T4.out hb5)
  clear hfr hb5 ho5 HF
  have hgg := HG.out
  have hsz := HSZ.out
  go_wp2_with (
    refine wpList_stI rfl 51 _ _ rfl g #[.slice A5 n5 c5, .int .i64 l.p.seq, .int .i64 l.p.total, .int .i64 l.p.got, .slice B5 m5 d5] rfl rfl _ _ y0 sizeL rfl (by simp [Value.oneCell']) ?_
    intro w6 hg6 hbut6 hbel6
    obtain ⟨i0, i1, i2, i3, i4⟩ := cells5 hg6
    have x1 := (hbut6.2 (g + 1) (by omega)).trans y1
    obtain ⟨f0, f1, f2, f3, f4⟩ := cells5 x1)
  have HO6 := hidT (HO5.out.but (by omega) hbut6)
  have Y1 := hidT x1
  have Y2 := hidT ((hbut6.2 (g + 1 + 1) (by omega)).trans y2)
  have HB6 := hidT (hbel6 _ _ HB5.out (by omega))
  have G6 := hidT hg6
  have hpl := placeI_any A5 n5 c5 l.es e.q w6 HO6.out.rde
  have hle := idx_le l.es (fun y : Lane.En => decide (y.q = e.q))
  have hlen := HO6.out.rde.size
  have hcm := HO6.out.rde.cmax
  have hcp := HO6.out.rde.cap
  have her := rises_put_at HRI.out e
  have hno := put_none (xs := l.es) e
  obtain ⟨k, hk⟩ : ∃ k, l.es.findIdx (fun y : Lane.En => decide (y.q = e.q)) = k := ⟨_, rfl⟩
  rw [hk] at hpl hle her hno
  rw [hlen] at hle her hno
  have HER := hidT her
  have HNO := hidT hno
  have HLEN := hidT hlen
  clear hg6 hbut6 hbel6 y0 y1 y2 hk her hno hlen hgg hsz x1
  with_reducible refine hpl.mono ?_
  rintro e' w7 ⟨rfl, hb7⟩
  obtain ⟨j0, j1, j2, j3, j4⟩ := cells5 (keepH G6.out hb7)
  obtain ⟨p0, p1, p2, p3, p4⟩ := cells5 (keepH Y1.out hb7)
  have Y7 := hidT (keepH Y1.out hb7)
  have Z7 := hidT (keepH Y2.out hb7)
  have G7 := hidT (keepH G6.out hb7)
  have HO7 := hidT (HO6.out.later hb7)
  have HB7 := hidT (bthen HB6.out hb7)
  clear hpl hb7 i0 i1 i2 i3 i4 f0 f1 f2 f3 f4
  by_cases hkn : k < n5
  · have q1 : decide ((k : Int) < (n5 : Int)) = true := by simp; omega
    have q1' : decide (k < n5) = true := by simpa using hkn
    have HKN := hidT hkn
    cases hm : Lane.may e with
    | true =>
      have hmay := lmay_any _ e w7 (HEN.out.below HB7.out) true hm
      have HM := hidT hm
      clear hm hkn hle
      go_wp2_with fail
      with_reducible refine hmay.mono ?_
      rintro e' w8 ⟨rfl, hb8⟩
      have Z8 := hidT (keepH Z7.out hb8)
      have G8 := hidT (keepH G7.out hb8)
      have Y8 := hidT (keepH Y7.out hb8)
      have HO8 := hidT (HO7.out.later hb8)
      have HB8 := hidT (bthen HB7.out hb8)
      clear hb8 hmay j0 j1 j2 j3 j4 p0 p1 p2 p3 p4
      obtain ⟨gB, rfl, hgB, hgBl⟩ := HO8.out.1.form (by have := HKN.out; omega)
      have hlo := HO8.out.2.2.1 gB 0 rfl
      have hbs := HO8.out.2.2.2.2.2.1
      obtain ⟨j0, j1, j2, j3, j4⟩ := cells5 G8.out
      obtain ⟨p0, p1, p2, p3, p4⟩ := cells5 Y8.out
      have hgg := HG.out
      have hsz := HSZ.out
      have HOWN : Hid (∀ w', Below w.heap.size w w' → Calls Try.prog 70 #[.agg #[.int .i64 e.k, .int .i64 e.q, .slice BE be ce, .slice LE le ke, .bool e.h]] w' (OwnIs w' e)) := hidT fun w' hb' => own_any _ e w' (HEN.out.below hb') HSE.out
      have x1 : (0 : Int) ≤ (k : Int) := by omega
      have x2 : (k : Int) < (n5 : Int) := by have := HKN.out; omega
      have HLO := hidT hlo
      have HBS := hidT hbs
      have HGB := hidT hgB
      have hgsz := blk_lt Z8.out
      go_wp2_with fail
      clear hgB hgBl hlo hbs hgg hsz hgsz
      go_region_law
        (first
          | (go_simp; go_at_call 70; ((with_reducible refine (HOWN.out _ HB8.out.drew).mono ?_); rintro e5 w9 ⟨v9, rfl, hF9, hb9'⟩; have hb9 : Below w8.heap.size w8 w9 := undrew hb9'; obtain ⟨r9, rfl, hs9, ha9⟩ := hF9.cells; obtain ⟨wx, hrunx, hox, hbutx, hbelx⟩ := OwnK.setAt (P := Try.prog) (HO8.out.1.later hb9) HKN.out r9 hs9 ha9; obtain ⟨j0', j1', j2', j3', j4'⟩ := cells5 (keepH G8.out hb9)))
          | fail)
      all_goals
        have hgg := HG.out
        have hsz := HSZ.out
        have hlo := HLO.out
        have hbs := HBS.out
        have hgB := HGB.out
        have hs8 := (blk_lt Z8.out)
        have y8 := (hbutx.2 g (by omega)).trans (keepH G8.out hb9)
        have z8 := (hbutx.2 (g + 1 + 1) (by omega)).trans (keepH Z8.out hb9)
        obtain ⟨k0, k1, k2, k3, k4⟩ := cells5 y8
        have HOX := hidT hox
        have hlow8 : lo ≤ w8.heap.size := HO8.out.2.2.2.2.2.2
        have HAX := hidT ((((HO8.out.2.1.below hb9).keptS (KeptS.hi hbutx hlo))).set k ((hF9.hi hlow8).keptS (KeptS.hi hbutx hlo)))
        have hB5 := HO8.out.2.2.2.2.1
        have HRX := hidT ((HO8.out.2.2.2.1.below hb9).but (fun b o e => by have := hB5 b o e; omega) hbutx)
        have HBX := hidT (hbelx _ _ (bthen HB8.out hb9) (by omega))
        have HA5 := hidT hB5
        have HEX := hidT (HER.out HKN.out)
        clear hF9 hb9 hb9' hox hbutx hbelx hrunx hs9 ha9 j0 j1 j2 j3 j4 j0' j1' j2' j3' j4' p0 p1 p2 p3 p4 y8 hlo hbs hgB hgg hsz hs8 hlow8 hB5
        go_wp2_with (
          refine wpList_stI rfl 51 _ _ rfl (g + 1 + 1) #[.slice (some ⟨gB, 0, none⟩) n5 c5, .int .i64 l.p.seq, .int .i64 l.p.total, .int .i64 l.p.got, .slice B5 m5 d5] rfl rfl _ _ z8 sizeL rfl (by simp [Value.oneCell']) ?_
          intro wy hgy hbuty hbely)
        obtain ⟨r0, r1, r2, r3, r4⟩ := cells5 hgy
        have hgg := HG.out
        have hsz := HSZ.out
        have hlo := HLO.out
        have hbs := HBS.out
        have hset : Lane.set l e = ⟨l.es.map (Lane.put e), l.p⟩ := by unfold Lane.set; rw [if_pos HM.out]
        have hfin : IsLane (Hi w.heap.size) wy (.agg #[.slice (some ⟨gB, 0, none⟩) n5 c5, .int .i64 l.p.seq, .int .i64 l.p.total, .int .i64 l.p.got, .slice B5 m5 d5]) (Lane.set l e) := by
          rw [hset, ← HEX.out]
          refine ⟨_, _, _, _, _, _, rfl, ⟨us.set k r9, (HOX.out.but (by omega) hbuty).same, ?_, Within.of fun b o e => ?_⟩, HRX.out.but (fun b o e => by have := HA5.out b o e; omega) hbuty, Within.of fun b o e => by have := HA5.out b o e; omega⟩
          · exact (HAX.out.keptS (KeptS.hi hbuty (by omega))).hi (lo' := w.heap.size) (by omega)
          · have := (HOX.out.addr b o e).1; omega
        exact bodyPost_ret (v := .agg #[.slice (some ⟨gB, 0, none⟩) n5 c5, .int .i64 l.p.seq, .int .i64 l.p.total, .int .i64 l.p.got, .slice B5 m5 d5]) (by simp [results, Try.results54, go_sem, r0, r1, r2, r3, r4]) rfl
          ⟨_, rfl, hfin, hbely _ _ HBX.out (by omega)⟩
    | false =>
      have hmay := lmay_any _ e w7 (HEN.out.below HB7.out) false hm
      have HPE := hidT (show Lane.set l e = l by unfold Lane.set; rw [if_neg (by simp [hm])])
      clear hm hkn hle
      go_wp2_with fail
      with_reducible refine hmay.mono ?_
      rintro e' w8 ⟨rfl, hb8⟩
      have y7 := keepH Z7.out hb8
      obtain ⟨k0, k1, k2, k3, k4⟩ := cells5 (keepH G7.out hb8)
      have HO8 := hidT (HO7.out.later hb8)
      have HB8 := hidT (bthen HB7.out hb8)
      clear hb8 hmay
      go_wp2_with (
        refine wpList_stI rfl 51 _ _ rfl (g + 1 + 1) #[.slice A5 n5 c5, .int .i64 l.p.seq, .int .i64 l.p.total, .int .i64 l.p.got, .slice B5 m5 d5] rfl rfl _ _ y7 sizeL rfl (by simp [Value.oneCell']) ?_
        intro w9 hg9 hbut9 hbel9)
      obtain ⟨r0, r1, r2, r3, r4⟩ := cells5 hg9
      have hgg := HG.out
      have hsz := HSZ.out
      exact bodyPost_ret (v := .agg #[.slice A5 n5 c5, .int .i64 l.p.seq, .int .i64 l.p.total, .int .i64 l.p.got, .slice B5 m5 d5]) (by simp [results, Try.results54, go_sem, r0, r1, r2, r3, r4]) rfl
        ⟨_, rfl, by rw [HPE.out]; exact (HO8.out.but (by omega) hbut9).lane.hi (lo' := w.heap.size) (by omega), hbel9 _ _ HB8.out (by omega)⟩
  · have q1 : decide ((k : Int) < (n5 : Int)) = false := by simp; omega
    have q1' : decide (k < n5) = false := by simpa using hkn
    have HPE : Hid (Lane.set l e = l) := hidT (by
      unfold Lane.set
      split
      · rw [HNO.out (by omega)]
      · rfl)
    have y7 := Z7.out
    clear hkn hle
    go_wp2_with (
      refine wpList_stI rfl 51 _ _ rfl (g + 1 + 1) #[.slice A5 n5 c5, .int .i64 l.p.seq, .int .i64 l.p.total, .int .i64 l.p.got, .slice B5 m5 d5] rfl rfl _ _ y7 sizeL rfl (by simp [Value.oneCell']) ?_
      intro w9 hg9 hbut9 hbel9)
    obtain ⟨r0, r1, r2, r3, r4⟩ := cells5 hg9
    have hgg := HG.out
    have hsz := HSZ.out
    exact bodyPost_ret (v := .agg #[.slice A5 n5 c5, .int .i64 l.p.seq, .int .i64 l.p.total, .int .i64 l.p.got, .slice B5 m5 d5]) (by simp [results, Try.results54, go_sem, r0, r1, r2, r3, r4]) rfl
      ⟨_, rfl, by rw [HPE.out]; exact (HO7.out.but (by omega) hbut9).lane.hi (lo' := w.heap.size) (by omega), hbel9 _ _ HB7.out (by omega)⟩
end Go.Proofs.Ytdchgnmkeefffaa
/- What readPiece comes to. -/
namespace Go.Proofs.Ytdchgnmkeefffaa
open Go.RowKit
set_option linter.unusedVariables false

theorem set4p {w : World} {g : Nat} {a0 b1 b2 b3 b4 : Value} {t : TypeId} (h : w.heap[g]? = some (.cells #[a0, b1, b2, b3, b4] t (0, 0))) (a1 a2 a3 a4 : Value) :
    ((((w.setCell ⟨g, 1, none⟩ a1).setCell ⟨g, 2, none⟩ a2).setCell ⟨g, 3, none⟩ a3).setCell ⟨g, 4, none⟩ a4).heap[g]? = some (.cells #[a0, a1, a2, a3, a4] t (0, 0)) ∧ But g w ((((w.setCell ⟨g, 1, none⟩ a1).setCell ⟨g, 2, none⟩ a2).setCell ⟨g, 3, none⟩ a3).setCell ⟨g, 4, none⟩ a4) ∧
    (∀ base w0, Below base w0 w → base ≤ g → Below base w0 ((((w.setCell ⟨g, 1, none⟩ a1).setCell ⟨g, 2, none⟩ a2).setCell ⟨g, 3, none⟩ a3).setCell ⟨g, 4, none⟩ a4)) := by
  have s1 : (w.setCell ⟨g, 1, none⟩ a1).heap[g]? = some (.cells #[a0, a1, b2, b3, b4] t (0, 0)) := heap_setCell_same w g 1 _ t a1 h
  have s2 : ((w.setCell ⟨g, 1, none⟩ a1).setCell ⟨g, 2, none⟩ a2).heap[g]? = some (.cells #[a0, a1, a2, b3, b4] t (0, 0)) := heap_setCell_same _ g 2 _ t a2 s1
  have s3 : (((w.setCell ⟨g, 1, none⟩ a1).setCell ⟨g, 2, none⟩ a2).setCell ⟨g, 3, none⟩ a3).heap[g]? = some (.cells #[a0, a1, a2, a3, b4] t (0, 0)) := heap_setCell_same _ g 3 _ t a3 s2
  exact ⟨heap_setCell_same _ g 4 _ t a4 s3, (((But.setCell w g 1 a1).trans (But.setCell _ g 2 a2)).trans (But.setCell _ g 3 a3)).trans (But.setCell _ g 4 a4),
    fun base w0 hb hg => (((hb.setCell (p := ⟨g, 1, none⟩) hg a1).setCell (p := ⟨g, 2, none⟩) hg a2).setCell (p := ⟨g, 3, none⟩) hg a3).setCell (p := ⟨g, 4, none⟩) hg a4⟩
/-- Where a lane's lists lie while its call's own three boxes are written. -/
def Spot (lo g : Nat) : Nat → Prop := fun b => (lo ≤ b ∧ b < g) ∨ g + 3 ≤ b
theorem Rd.lt {w : World} {A : Option Addr} {n c : Nat} {l : List UInt8} (h : Rd w A n c l) : Within (fun b => b < w.heap.size) A n := fun h0 b o e => by
  obtain ⟨b', o', hA, hc⟩ := h.2.2.2.2 h0
  rw [e] at hA
  injection hA with hA
  injection hA with h1 h2
  subst h1
  subst h2
  have hlt : 0 < l.length := by rw [h.1]; exact h0
  exact World.block_lt_of_cell? w _ (hc 0 l[0] (List.getElem?_eq_getElem hlt))
theorem RdI.lt {w : World} {A : Option Addr} {n c : Nat} {l : List Int} (h : RdI w A n c l) : Within (fun b => b < w.heap.size) A n := fun h0 b o e => by
  obtain ⟨b', o', x, hA, _, hc⟩ := RdI.at_ h h0
  rw [e] at hA
  injection hA with hA
  injection hA with h1 h2
  subst h1
  exact World.block_lt_of_cell? w _ hc
theorem Within.and {S T : Nat → Prop} {A : Option Addr} {n : Nat} (h : Within S A n) (h2 : Within T A n) : Within (fun b => S b ∧ T b) A n := fun h0 b o e => ⟨h h0 b o e, h2 h0 b o e⟩
theorem AreE.lt {S : Nat → Prop} {w : World} {rs : List (Array Value)} {xs : List Lane.En} (h : AreE S w rs xs) : AreE (fun b => S b ∧ b < w.heap.size) w rs xs := ⟨h.1, fun i r x h1 h2 => by
  obtain ⟨BA, bn, bc, LA, ln, lc, e, a, b, c, d⟩ := h.2 i r x h1 h2
  exact ⟨BA, bn, bc, LA, ln, lc, e, a, b, c.and a.lt, d.and (RdI.lt b)⟩⟩
theorem OwnK.apart {k : Nat} {w : World} {base n c g : Nat} {e t : TypeId} {A : Option Addr} {us : List (Array Value)} {cs : Array Value} {fr : Nat × Nat} (h : OwnK k w base e (.slice A n c) n us) (hg : w.heap[g]? = some (.cells cs t fr)) (hne : e ≠ t) : ∀ b o, A = some ⟨b, o, none⟩ → b ≠ g := by
  intro b o hA hbg
  subst hbg
  rcases h.2.2.2 with ⟨h2, _⟩ | ⟨g', cap, cur, hv, _, hh, _⟩
  · injection h2 with h2
    rw [hA] at h2; cases h2
  · injection hv with hv
    rw [hA] at hv
    injection hv with hv
    injection hv with hv
    subst hv
    rw [hh] at hg
    injection hg with hg
    injection hg with _ ht
    exact hne ht
theorem OwnK.butA {k : Nat} {w w' : World} {base n c g : Nat} {e : TypeId} {A : Option Addr} {us : List (Array Value)} (h : OwnK k w base e (.slice A n c) n us) (hA : ∀ b o, A = some ⟨b, o, none⟩ → b ≠ g) (hb : But g w w') : OwnK k w' base e (.slice A n c) n us := by
  obtain ⟨h0, hl, h⟩ := h
  refine ⟨h0, hl, h.1, ?_⟩
  rcases h.2 with h2 | ⟨q, cap, cur, hv, hq, hh, r⟩
  · exact .inl h2
  · refine .inr ⟨q, cap, cur, hv, hq, (hb.2 q ?_).trans hh, r⟩
    injection hv with hv
    exact hA q 0 hv
/-- A lane of the call's own, its lists in such spots. -/
def OwnM (w : World) (base lo g : Nat) (A : Option Addr) (n c : Nat) (us : List (Array Value)) (B : Option Addr) (m d : Nat) (l : Lane.Ln) : Prop :=
  OwnK 5 w base 59 (.slice A n c) n us ∧ AreE (Spot lo g) w us l.es ∧ (∀ b o, A = some ⟨b, o, none⟩ → b < lo) ∧ Rd w B m d l.p.b ∧ Within (Spot lo g) B m ∧ base ≤ lo ∧ lo ≤ g
section
variable {w w' : World} {base lo g q : Nat} {A : Option Addr} {n c : Nat} {us : List (Array Value)} {B : Option Addr} {m d : Nat} {l : Lane.Ln}
theorem OwnL.mid (h : OwnL w base lo A n c us B m d l) : OwnM w base lo w.heap.size A n c us B m d l := by
  obtain ⟨h1, h2, h3, h4, h5, h6, h7⟩ := h
  exact ⟨h1, h2.lt.mono fun b hb => .inl hb, h3, h4, (Within.of h5).and h4.lt |>.mono fun b hb => .inl hb, h6, h7⟩
theorem OwnM.later (h : OwnM w base lo g A n c us B m d l) (hb : Below w.heap.size w w') : OwnM w' base lo g A n c us B m d l := by
  obtain ⟨h1, h2, h3, h4, h5, h6, h7⟩ := h
  exact ⟨h1.later hb, h2.below hb, h3, h4.below hb, h5, h6, h7⟩
theorem KeptS.spot (hb : But q w w') (h1 : g ≤ q) (h2 : q < g + 3) : KeptS (Spot lo g) w w' := KeptS.but hb fun b hS e => by
  subst e
  rcases hS with ⟨_, h⟩ | h <;> omega
theorem OwnM.far (h : OwnM w base lo g A n c us B m d l) (h8 : g ≤ q) (h9 : q < g + 3) (hb : But q w w') : OwnM w' base lo g A n c us B m d l := by
  obtain ⟨h1, h2, h3, h4, h5, h6, h7⟩ := h
  exact ⟨h1.butA (fun b o e => by have := h3 b o e; omega) hb, h2.keptS (KeptS.spot hb h8 h9), h3, h4.keptS h5 (KeptS.spot hb h8 h9), h5, h6, h7⟩
theorem Spot.hi {b : Nat} (h : Spot lo g b) (h6 : base ≤ lo) (h7 : lo ≤ g) : base ≤ b := by rcases h with ⟨h, _⟩ | h <;> omega
theorem OwnM.rde (h : OwnM w base lo g A n c us B m d l) : RdE (Hi base) w A n c l.es := by
  obtain ⟨h1, h2, h3, h4, h5, h6, h7⟩ := h
  exact ⟨us, h1.same, h2.mono fun b hb => hb.hi h6 h7, Within.of fun b o e => (h1.addr b o e).1⟩
theorem OwnM.lane (h : OwnM w base lo g A n c us B m d l) : IsLane (Hi base) w (.agg #[.slice A n c, .int .i64 l.p.seq, .int .i64 l.p.total, .int .i64 l.p.got, .slice B m d]) l :=
  ⟨A, n, c, B, m, d, rfl, h.rde, h.2.2.2.1, h.2.2.2.2.1.mono fun b hb => hb.hi h.2.2.2.2.2.1 h.2.2.2.2.2.2⟩
end
/-- A lane in memory from a place on, and a code. -/
def PieceIs (w : World) (base : Nat) (l : Lane.Ln) (k : Int) (e : Ending) (w' : World) : Prop := ∃ v, e = .returned (.tuple #[v, .int .i64 k]) ∧ IsLane (Hi base) w' v l ∧ Below base w w'

end Go.Proofs.Ytdchgnmkeefffaa
