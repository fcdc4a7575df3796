/- What lane.Set comes to. -/
import Derived.Test.YtmlmkkfieeaejaaLn8a
import Derived.Test.YtmlmkkfieeaejaaLn4
set_option maxRecDepth 100000
namespace Go.Proofs.Ytmlmkkfieeaejaa
open Go.RowKit
set_option linter.unusedVariables false

theorem rises_put_at {low : Int} {xs : List Lane.En} (h : Lane.rises low xs = true) (e : Lane.En) (hk : xs.findIdx (fun y : Lane.En => decide (y.q = e.q)) < xs.length) : xs.set (xs.findIdx fun y : Lane.En => decide (y.q = e.q)) e = xs.map (Lane.put e) := by
  induction xs generalizing low with
  | nil => rfl
  | cons x xs ih =>
    obtain ⟨_, _, h3⟩ := Lane.rises_cons.1 h
    rw [List.findIdx_cons] at hk ⊢
    by_cases hq : x.q = e.q
    · rw [show decide (x.q = e.q) = true by simpa using hq]
      show e :: xs = _
      rw [List.map_cons]
      have e1 : Lane.put e x = e := by unfold Lane.put; rw [if_pos hq]
      rw [e1]
      congr 1
      conv => lhs; rw [← List.map_id xs]
      refine List.map_congr_left fun y hy => ?_
      have := (Lane.rises_mem h3 hy).2.1
      show y = Lane.put e y
      unfold Lane.put
      rw [if_neg (by omega)]
    · rw [show decide (x.q = e.q) = false by simpa using hq] at hk ⊢
      show x :: xs.set _ e = _
      rw [ih h3 (by simpa using hk), List.map_cons]
      have e1 : Lane.put e x = x := by unfold Lane.put; rw [if_neg hq]
      rw [e1]
theorem put_none {xs : List Lane.En} (e : Lane.En) (h : xs.findIdx (fun y : Lane.En => decide (y.q = e.q)) = xs.length) : xs.map (Lane.put e) = xs := by
  rw [List.findIdx_eq_length] at h
  conv => rhs; rw [← List.map_id xs]
  refine List.map_congr_left fun y hy => ?_
  have := h y hy
  show Lane.put e y = y
  unfold Lane.put
  rw [if_neg (by simpa using this)]
theorem AreE.set {S : Nat → Prop} {w : World} {rs : List (Array Value)} {xs : List Lane.En} (h : AreE S w rs xs) (k : Nat) {r : Array Value} {x : Lane.En} (hr : IsEn S w (.agg r) x) : AreE S w (rs.set k r) (xs.set k x) := by
  refine ⟨by simp [h.1], fun i q y h1 h2 => ?_⟩
  by_cases hik : k = i
  · subst hik
    rw [List.getElem?_set] at h1 h2
    simp only [if_true] at h1 h2
    split at h1
    · split at h2
      · injection h1 with h1; injection h2 with h2; subst h1; subst h2; exact hr
      · cases h2
    · cases h1
  · rw [List.getElem?_set_ne hik] at h1 h2
    exact h.2 i q y h1 h2
set_option maxHeartbeats 4000000 in
theorem set_any {S S' : Nat → Prop} (v u : Value) (l : Lane.Ln) (e : Lane.En) (w : World) (h : IsLane S w v l) (he : IsEn S' w u e) (hS : SmallL l) (hse : SmallE e) (hr : Lane.rises 0 l.es = true) :
    Calls Try.prog 31 #[v, u] w (LaneOwn w (Lane.set l e)) := by
  obtain ⟨A, n, c, B, m, d, ev, hE, hB, hW⟩ := id h
  subst ev
  obtain ⟨BE, be, ce, LE, le, ke, eu, hbe, hle', hwb, hwl⟩ := id he
  subst eu
  obtain ⟨t0, t1, t2, t4⟩ := three_alloc w (.cells #[.slice A n c, .int .i64 l.p.seq, .int .i64 l.p.total, .int .i64 l.p.got, .slice B m d] 27) (.cells #[.int .i64 e.k, .int .i64 e.q, .slice BE be ce, .slice LE le ke, .bool e.h] 33) (.cells lz 27)
  obtain ⟨W, hWW⟩ : ∃ W, ((w.alloc (.cells #[.slice A n c, .int .i64 l.p.seq, .int .i64 l.p.total, .int .i64 l.p.got, .slice B m d] 27)).alloc (.cells #[.int .i64 e.k, .int .i64 e.q, .slice BE be ce, .slice LE le ke, .bool e.h] 33)).alloc (.cells lz 27) = W := ⟨_, rfl⟩
  have HSZ : Hid (W.heap.size = w.heap.size + 3) := by rw [← hWW, size_alloc, size_alloc, size_alloc]; exact hidT rfl
  rw [hWW] at t0 t1 t2 t4
  have HF := hidT (fresh_any _ l W (h.below t4) hS)
  obtain ⟨g, hg⟩ : ∃ g, w.heap.size = g := ⟨_, rfl⟩
  have HG := hidT hg
  rw [hg] at t0 t1 t2
  have HW := hidT hWW
  have T0 := hidT t0
  have T1 := hidT t1
  have T2 := hidT t2
  have T4 := hidT t4
  have HRI := hidT hr
  have HEN := hidT he
  have HSE := hidT hse
  obtain ⟨e0, e1, e2, e3, e4⟩ := cells5 t0
  rw [← HW.out] at e0 e1 e2 e3 e4
  clear t0 t1 t2 t4 hE hB hW hWW hS hr h he hse hbe hle' hwb hwl
  go_enter Try.func31, Try.ntmps31
  go_wp2_with fail
  rw [HW.out]
  clear hg e0 e1 e2 e3 e4
  with_reducible refine HF.out.mono ?_
  intro e' w5 hfr
  obtain ⟨A5, n5, c5, us, B5, m5, d5, lo, rfl, ho5, hb5⟩ := hfr.own
  have y0 := keepH T0.out hb5
  have y1 := keepH T1.out hb5
  have y2 := keepH T2.out hb5
  have HO5 := hidT ho5
  have HB5 := hidT (bthen T4.out hb5)
  clear hfr hb5 ho5 HF
  have hgg := HG.out
  have hsz := HSZ.out
  go_wp2_with (
    refine wpList_stI rfl 27 _ _ rfl g #[.slice A5 n5 c5, .int .i64 l.p.seq, .int .i64 l.p.total, .int .i64 l.p.got, .slice B5 m5 d5] rfl rfl _ _ y0 sizeL rfl (by simp [Value.oneCell']) ?_
    intro w6 hg6 hbut6 hbel6
    obtain ⟨i0, i1, i2, i3, i4⟩ := cells5 hg6
    have x1 := (hbut6.2 (g + 1) (by omega)).trans y1
    obtain ⟨f0, f1, f2, f3, f4⟩ := cells5 x1)
  have HO6 := hidT (HO5.out.but (by omega) hbut6)
  have Y1 := hidT x1
  have Y2 := hidT ((hbut6.2 (g + 1 + 1) (by omega)).trans y2)
  have HB6 := hidT (hbel6 _ _ HB5.out (by omega))
  have G6 := hidT hg6
  have hpl := placeI_any A5 n5 c5 l.es e.q w6 HO6.out.rde
  have hle := idx_le l.es (fun y : Lane.En => decide (y.q = e.q))
  have hlen := HO6.out.rde.size
  have hcm := HO6.out.rde.cmax
  have hcp := HO6.out.rde.cap
  have her := rises_put_at HRI.out e
  have hno := put_none (xs := l.es) e
  obtain ⟨k, hk⟩ : ∃ k, l.es.findIdx (fun y : Lane.En => decide (y.q = e.q)) = k := ⟨_, rfl⟩
  rw [hk] at hpl hle her hno
  rw [hlen] at hle her hno
  have HER := hidT her
  have HNO := hidT hno
  have HLEN := hidT hlen
  clear hg6 hbut6 hbel6 y0 y1 y2 hk her hno hlen hgg hsz x1
  with_reducible refine hpl.mono ?_
  rintro e' w7 ⟨rfl, hb7⟩
  obtain ⟨j0, j1, j2, j3, j4⟩ := cells5 (keepH G6.out hb7)
  obtain ⟨p0, p1, p2, p3, p4⟩ := cells5 (keepH Y1.out hb7)
  have Y7 := hidT (keepH Y1.out hb7)
  have Z7 := hidT (keepH Y2.out hb7)
  have G7 := hidT (keepH G6.out hb7)
  have HO7 := hidT (HO6.out.later hb7)
  have HB7 := hidT (bthen HB6.out hb7)
  clear hpl hb7 i0 i1 i2 i3 i4 f0 f1 f2 f3 f4
  by_cases hkn : k < n5
  · have q1 : decide ((k : Int) < (n5 : Int)) = true := by simp; omega
    have q1' : decide (k < n5) = true := by simpa using hkn
    have HKN := hidT hkn
    cases hm : Lane.may e with
    | true =>
      have hmay := lmay_any _ e w7 (HEN.out.below HB7.out) true hm
      have HM := hidT hm
      clear hm hkn hle
      go_wp2_with fail
      with_reducible refine hmay.mono ?_
      rintro e' w8 ⟨rfl, hb8⟩
      have Z8 := hidT (keepH Z7.out hb8)
      have G8 := hidT (keepH G7.out hb8)
      have Y8 := hidT (keepH Y7.out hb8)
      have HO8 := hidT (HO7.out.later hb8)
      have HB8 := hidT (bthen HB7.out hb8)
      clear hb8 hmay j0 j1 j2 j3 j4 p0 p1 p2 p3 p4
      obtain ⟨gB, rfl, hgB, hgBl⟩ := HO8.out.1.form (by have := HKN.out; omega)
      have hlo := HO8.out.2.2.1 gB 0 rfl
      have hbs := HO8.out.2.2.2.2.2.1
      obtain ⟨j0, j1, j2, j3, j4⟩ := cells5 G8.out
      obtain ⟨p0, p1, p2, p3, p4⟩ := cells5 Y8.out
      have hgg := HG.out
      have hsz := HSZ.out
      have HOWN : Hid (∀ w', Below w.heap.size w w' → Calls Try.prog 58 #[.agg #[.int .i64 e.k, .int .i64 e.q, .slice BE be ce, .slice LE le ke, .bool e.h]] w' (OwnIs w' e)) := hidT fun w' hb' => own_any _ e w' (HEN.out.below hb') HSE.out
      have x1 : (0 : Int) ≤ (k : Int) := by omega
      have x2 : (k : Int) < (n5 : Int) := by have := HKN.out; omega
      have HLO := hidT hlo
      have HBS := hidT hbs
      have HGB := hidT hgB
      have hgsz := blk_lt Z8.out
      go_wp2_with fail
      clear hgB hgBl hlo hbs hgg hsz hgsz
      go_region_law
        (first
          | (go_simp; go_at_call 58; ((with_reducible refine (HOWN.out _ HB8.out.drew).mono ?_); rintro e5 w9 ⟨v9, rfl, hF9, hb9'⟩; have hb9 : Below w8.heap.size w8 w9 := undrew hb9'; obtain ⟨r9, rfl, hs9, ha9⟩ := hF9.cells; obtain ⟨wx, hrunx, hox, hbutx, hbelx⟩ := OwnK.setAt (P := Try.prog) (HO8.out.1.later hb9) HKN.out r9 hs9 ha9; obtain ⟨j0', j1', j2', j3', j4'⟩ := cells5 (keepH G8.out hb9)))
          | fail)
      all_goals
        have hgg := HG.out
        have hsz := HSZ.out
        have hlo := HLO.out
        have hbs := HBS.out
        have hgB := HGB.out
        have hs8 := (blk_lt Z8.out)
        have y8 := (hbutx.2 g (by omega)).trans (keepH G8.out hb9)
        have z8 := (hbutx.2 (g + 1 + 1) (by omega)).trans (keepH Z8.out hb9)
        obtain ⟨k0, k1, k2, k3, k4⟩ := cells5 y8
        have HOX := hidT hox
        have hlow8 : lo ≤ w8.heap.size := HO8.out.2.2.2.2.2.2
        have HAX := hidT ((((HO8.out.2.1.below hb9).keptS (KeptS.hi hbutx hlo))).set k ((hF9.hi hlow8).keptS (KeptS.hi hbutx hlo)))
        have hB5 := HO8.out.2.2.2.2.1
        have HRX := hidT ((HO8.out.2.2.2.1.below hb9).but (fun b o e => by have := hB5 b o e; omega) hbutx)
        have HBX := hidT (hbelx _ _ (bthen HB8.out hb9) (by omega))
        have HA5 := hidT hB5
        have HEX := hidT (HER.out HKN.out)
        clear hF9 hb9 hb9' hox hbutx hbelx hrunx hs9 ha9 j0 j1 j2 j3 j4 j0' j1' j2' j3' j4' p0 p1 p2 p3 p4 y8 hlo hbs hgB hgg hsz hs8 hlow8 hB5
        go_wp2_with (
          refine wpList_stI rfl 27 _ _ rfl (g + 1 + 1) #[.slice (some ⟨gB, 0, none⟩) n5 c5, .int .i64 l.p.seq, .int .i64 l.p.total, .int .i64 l.p.got, .slice B5 m5 d5] rfl rfl _ _ z8 sizeL rfl (by simp [Value.oneCell']) ?_
          intro wy hgy hbuty hbely)
        obtain ⟨r0, r1, r2, r3, r4⟩ := cells5 hgy
        have hgg := HG.out
        have hsz := HSZ.out
        have hlo := HLO.out
        have hbs := HBS.out
        have hset : Lane.set l e = ⟨l.es.map (Lane.put e), l.p⟩ := by unfold Lane.set; rw [if_pos HM.out]
        have hfin : IsLane (Hi w.heap.size) wy (.agg #[.slice (some ⟨gB, 0, none⟩) n5 c5, .int .i64 l.p.seq, .int .i64 l.p.total, .int .i64 l.p.got, .slice B5 m5 d5]) (Lane.set l e) := by
          rw [hset, ← HEX.out]
          refine ⟨_, _, _, _, _, _, rfl, ⟨us.set k r9, (HOX.out.but (by omega) hbuty).same, ?_, Within.of fun b o e => ?_⟩, HRX.out.but (fun b o e => by have := HA5.out b o e; omega) hbuty, Within.of fun b o e => by have := HA5.out b o e; omega⟩
          · exact (HAX.out.keptS (KeptS.hi hbuty (by omega))).hi (lo' := w.heap.size) (by omega)
          · have := (HOX.out.addr b o e).1; omega
        exact bodyPost_ret (v := .agg #[.slice (some ⟨gB, 0, none⟩) n5 c5, .int .i64 l.p.seq, .int .i64 l.p.total, .int .i64 l.p.got, .slice B5 m5 d5]) (by simp [results, Try.results31, go_sem, r0, r1, r2, r3, r4]) rfl
          ⟨_, rfl, hfin, hbely _ _ HBX.out (by omega)⟩
    | false =>
      have hmay := lmay_any _ e w7 (HEN.out.below HB7.out) false hm
      have HPE := hidT (show Lane.set l e = l by unfold Lane.set; rw [if_neg (by simp [hm])])
      clear hm hkn hle
      go_wp2_with fail
      with_reducible refine hmay.mono ?_
      rintro e' w8 ⟨rfl, hb8⟩
      have y7 := keepH Z7.out hb8
      obtain ⟨k0, k1, k2, k3, k4⟩ := cells5 (keepH G7.out hb8)
      have HO8 := hidT (HO7.out.later hb8)
      have HB8 := hidT (bthen HB7.out hb8)
      clear hb8 hmay
      go_wp2_with (
        refine wpList_stI rfl 27 _ _ rfl (g + 1 + 1) #[.slice A5 n5 c5, .int .i64 l.p.seq, .int .i64 l.p.total, .int .i64 l.p.got, .slice B5 m5 d5] rfl rfl _ _ y7 sizeL rfl (by simp [Value.oneCell']) ?_
        intro w9 hg9 hbut9 hbel9)
      obtain ⟨r0, r1, r2, r3, r4⟩ := cells5 hg9
      have hgg := HG.out
      have hsz := HSZ.out
      exact bodyPost_ret (v := .agg #[.slice A5 n5 c5, .int .i64 l.p.seq, .int .i64 l.p.total, .int .i64 l.p.got, .slice B5 m5 d5]) (by simp [results, Try.results31, go_sem, r0, r1, r2, r3, r4]) rfl
        ⟨_, rfl, by rw [HPE.out]; exact (HO8.out.but (by omega) hbut9).lane.hi (lo' := w.heap.size) (by omega), hbel9 _ _ HB8.out (by omega)⟩
  · have q1 : decide ((k : Int) < (n5 : Int)) = false := by simp; omega
    have q1' : decide (k < n5) = false := by simpa using hkn
    have HPE : Hid (Lane.set l e = l) := hidT (by
      unfold Lane.set
      split
      · rw [HNO.out (by omega)]
      · rfl)
    have y7 := Z7.out
    clear hkn hle
    go_wp2_with (
      refine wpList_stI rfl 27 _ _ rfl (g + 1 + 1) #[.slice A5 n5 c5, .int .i64 l.p.seq, .int .i64 l.p.total, .int .i64 l.p.got, .slice B5 m5 d5] rfl rfl _ _ y7 sizeL rfl (by simp [Value.oneCell']) ?_
      intro w9 hg9 hbut9 hbel9)
    obtain ⟨r0, r1, r2, r3, r4⟩ := cells5 hg9
    have hgg := HG.out
    have hsz := HSZ.out
    exact bodyPost_ret (v := .agg #[.slice A5 n5 c5, .int .i64 l.p.seq, .int .i64 l.p.total, .int .i64 l.p.got, .slice B5 m5 d5]) (by simp [results, Try.results31, go_sem, r0, r1, r2, r3, r4]) rfl
      ⟨_, rfl, by rw [HPE.out]; exact (HO7.out.but (by omega) hbut9).lane.hi (lo' := w.heap.size) (by omega), hbel9 _ _ HB7.out (by omega)⟩
end Go.Proofs.Ytmlmkkfieeaejaa
