/- What lane.Pop comes to. -/
import Derived.Test.YtmlmkkfieeaejaaLn8a
import Derived.Test.YtmlmkkfieeaejaaLn8
set_option maxRecDepth 100000
namespace Go.Proofs.Ytmlmkkfieeaejaa
open Go.RowKit
set_option linter.unusedVariables false

set_option maxHeartbeats 4000000 in
theorem pop_any {S : Nat → Prop} (v : Value) (l : Lane.Ln) (s : Int) (w : World) (h : IsLane S w v l) (hS : SmallL l) (hr : Lane.rises 0 l.es = true) :
    Calls Try.prog 29 #[v, .int .i64 s] w (LaneOwn w (Lane.pop l s)) := by
  obtain ⟨A, n, c, B, m, d, ev, hE, hB, hW⟩ := id h
  subst ev
  obtain ⟨t0, t1, t4⟩ := two_alloc w (.cells #[.slice A n c, .int .i64 l.p.seq, .int .i64 l.p.total, .int .i64 l.p.got, .slice B m d] 27) (.cells lz 27)
  obtain ⟨W, hWW⟩ : ∃ W, (w.alloc (.cells #[.slice A n c, .int .i64 l.p.seq, .int .i64 l.p.total, .int .i64 l.p.got, .slice B m d] 27)).alloc (.cells lz 27) = W := ⟨_, rfl⟩
  have HSZ : Hid (W.heap.size = w.heap.size + 2) := by rw [← hWW, size_alloc, size_alloc]; exact hidT rfl
  rw [hWW] at t0 t1 t4
  have HF := hidT (fresh_any _ l W (h.below t4) hS)
  obtain ⟨g, hg⟩ : ∃ g, w.heap.size = g := ⟨_, rfl⟩
  have HG := hidT hg
  rw [hg] at t0 t1
  have HW := hidT hWW
  have T0 := hidT t0
  have T1 := hidT t1
  have T4 := hidT t4
  have HRI := hidT hr
  obtain ⟨e0, e1, e2, e3, e4⟩ := cells5 t0
  rw [← HW.out] at e0 e1 e2 e3 e4
  clear t0 t1 t4 hE hB hW hWW hS hr h
  go_enter Try.func29, Try.ntmps29
  go_wp2_with fail
  rw [HW.out]
  clear hg e0 e1 e2 e3 e4
  with_reducible refine HF.out.mono ?_
  intro e w5 hfr
  obtain ⟨A5, n5, c5, us, B5, m5, d5, lo, rfl, ho5, hb5⟩ := hfr.own
  have y0 := keepH T0.out hb5
  have y1 := keepH T1.out hb5
  have HO5 := hidT ho5
  have HB5 := hidT (bthen T4.out hb5)
  clear hfr hb5 ho5 HF
  go_wp2_with (
    refine wpList_stI rfl 27 _ _ rfl g #[.slice A5 n5 c5, .int .i64 l.p.seq, .int .i64 l.p.total, .int .i64 l.p.got, .slice B5 m5 d5] rfl rfl _ _ y0 sizeL rfl (by simp [Value.oneCell']) ?_
    intro w6 hg6 hbut6 hbel6
    obtain ⟨i0, i1, i2, i3, i4⟩ := cells5 hg6)
  have hgg := HG.out
  have hsz := HSZ.out
  have HO6 := hidT (HO5.out.but (by omega) hbut6)
  have Y1 := hidT ((hbut6.2 (g + 1) (by omega)).trans y1)
  have HB6 := hidT (hbel6 _ _ HB5.out (by omega))
  have G6 := hidT hg6
  have hpl := placeI_any A5 n5 c5 l.es s w6 HO6.out.rde
  have hle := idx_le l.es (fun y : Lane.En => decide (y.q = s))
  have hlen := HO6.out.rde.size
  have hcm := HO6.out.rde.cmax
  have hcp := HO6.out.rde.cap
  have her := rises_erase HRI.out s
  have hno := rises_none (low := 0) (xs := l.es) s
  obtain ⟨k, hk⟩ : ∃ k, l.es.findIdx (fun y : Lane.En => decide (y.q = s)) = k := ⟨_, rfl⟩
  rw [hk] at hpl hle her hno
  rw [hlen] at hle hno
  have HER := hidT her
  have HNO := hidT hno
  clear hg6 hbut6 hbel6 y0 y1 hk her hno hlen hgg hsz
  with_reducible refine hpl.mono ?_
  rintro e w7 ⟨rfl, hb7⟩
  obtain ⟨j0, j1, j2, j3, j4⟩ := cells5 (keepH G6.out hb7)
  have Y7 := hidT (keepH Y1.out hb7)
  have G7 := hidT (keepH G6.out hb7)
  have HO7 := hidT (HO6.out.later hb7)
  have HB7 := hidT (bthen HB6.out hb7)
  clear hpl hb7 i0 i1 i2 i3 i4
  by_cases hkn : k < n5
  · have q1 : decide ((k : Int) < (n5 : Int)) = true := by simp; omega
    have q1' : decide (k < n5) = true := by simpa using hkn
    obtain ⟨gB, rfl, hgB, hgBl⟩ := HO7.out.1.form (by omega)
    have s1 : IntKind.i64.wrap ((k : Int) + 1) = (k : Int) + 1 := IntWalk.i64_in _ (by omega)
    have hdel := fun z hz => delete_any gB n5 c5 us w7 W.heap.size HO7.out.1 k hkn z hz
    have HKN := hidT hkn
    clear hkn hle
    go_wp2_with fail
    with_reducible refine (hdel _ (by simp)).mono ?_
    rintro e w8 ⟨rfl, ho8, hbut8, hbel8⟩
    have hgg := HG.out
    have hsz := HSZ.out
    have y8 := (hbut8.2 g (by omega)).trans G7.out
    have f8 := no_frozen y8 0
    obtain ⟨k0, k1, k2, k3, k4⟩ := cells5 y8
    have z9 : (w8.setCell ⟨g, 0, none⟩ (.slice (some ⟨gB, 0, none⟩) (n5 - 1) c5)).heap[g]? = some (.cells #[.slice (some ⟨gB, 0, none⟩) (n5 - 1) c5, .int .i64 l.p.seq, .int .i64 l.p.total, .int .i64 l.p.got, .slice B5 m5 d5] 27 (0, 0)) := heap_setCell_same w8 g 0 _ _ _ y8
    have zb := But.setCell w8 g 0 (.slice (some ⟨gB, 0, none⟩) (n5 - 1) c5)
    have hlo := HO7.out.2.2.1 gB 0 rfl
    have hbs := HO7.out.2.2.2.2.2.1
    have z10 := (zb.2 (g + 1) (by omega)).trans ((hbut8.2 (g + 1) (by omega)).trans Y7.out)
    have HO9 := hidT (ho8.but (by omega) zb)
    have HA9 := hidT (((HO7.out.2.1.keptS (KeptS.hi hbut8 hlo)).keptS (KeptS.hi zb (by omega))).erase k)
    have hB5 := HO7.out.2.2.2.2.1
    have HR9 := hidT ((HO7.out.2.2.2.1.but (fun b o e => by have := hB5 b o e; omega) hbut8).but (fun b o e => by have := hB5 b o e; omega) zb)
    have HBB9 := hidT ((hbel8 _ _ HB7.out (by omega)).setCell (p := ⟨g, 0, none⟩) (by show w.heap.size ≤ g; omega) (.slice (some ⟨gB, 0, none⟩) (n5 - 1) c5))
    have HA5 := hidT hB5
    have HLO := hidT hbs
    obtain ⟨p0, p1, p2, p3, p4⟩ := cells5 z9
    clear hdel ho8 hbut8 hbel8 y8 zb hlo hbs hB5 hgg hsz
    go_wp2_with (
      refine wpList_stI rfl 27 _ _ rfl (g + 1) #[.slice (some ⟨gB, 0, none⟩) (n5 - 1) c5, .int .i64 l.p.seq, .int .i64 l.p.total, .int .i64 l.p.got, .slice B5 m5 d5] rfl rfl _ _ z10 sizeL rfl (by simp [Value.oneCell']) ?_
      intro w9 hg9 hbut9 hbel9)
    obtain ⟨r0, r1, r2, r3, r4⟩ := cells5 hg9
    have hgg := HG.out
    have hsz := HSZ.out
    have hlo := HLO.out
    have hfin : IsLane (Hi w.heap.size) w9 (.agg #[.slice (some ⟨gB, 0, none⟩) (n5 - 1) c5, .int .i64 l.p.seq, .int .i64 l.p.total, .int .i64 l.p.got, .slice B5 m5 d5]) (Lane.pop l s) := by
      refine ⟨_, _, _, _, _, _, rfl, ⟨us.eraseIdx k, (HO9.out.but (by omega) hbut9).same, ?_, Within.of fun b o e => ?_⟩, HR9.out.but (fun b o e => by have := HA5.out b o e; omega) hbut9, Within.of fun b o e => by have := HA5.out b o e; omega⟩
      · have := (HA9.out.keptS (KeptS.hi hbut9 (by omega))).hi (lo' := w.heap.size) (by omega)
        rw [HER.out] at this
        exact this
      · have := (HO9.out.addr b o e).1; omega
    exact bodyPost_ret (v := .agg #[.slice (some ⟨gB, 0, none⟩) (n5 - 1) c5, .int .i64 l.p.seq, .int .i64 l.p.total, .int .i64 l.p.got, .slice B5 m5 d5]) (by simp [results, Try.results29, go_sem, r0, r1, r2, r3, r4]) rfl
      ⟨_, rfl, hfin, hbel9 _ _ HBB9.out (by omega)⟩
  · have q1 : decide ((k : Int) < (n5 : Int)) = false := by simp; omega
    have q1' : decide (k < n5) = false := by simpa using hkn
    have hpe : Lane.pop l s = l := by
      unfold Lane.pop
      rw [← HNO.out (by omega)]
    have HPE := hidT hpe
    have y7 := Y7.out
    clear hpe hkn hle
    go_wp2_with (
      refine wpList_stI rfl 27 _ _ rfl (g + 1) #[.slice A5 n5 c5, .int .i64 l.p.seq, .int .i64 l.p.total, .int .i64 l.p.got, .slice B5 m5 d5] rfl rfl _ _ y7 sizeL rfl (by simp [Value.oneCell']) ?_
      intro w9 hg9 hbut9 hbel9)
    obtain ⟨r0, r1, r2, r3, r4⟩ := cells5 hg9
    have hgg := HG.out
    have hsz := HSZ.out
    exact bodyPost_ret (v := .agg #[.slice A5 n5 c5, .int .i64 l.p.seq, .int .i64 l.p.total, .int .i64 l.p.got, .slice B5 m5 d5]) (by simp [results, Try.results29, go_sem, r0, r1, r2, r3, r4]) rfl
      ⟨_, rfl, by rw [HPE.out]; exact (HO7.out.but (by omega) hbut9).lane.hi (lo' := w.heap.size) (by omega), hbel9 _ _ HB7.out (by omega)⟩
end Go.Proofs.Ytmlmkkfieeaejaa
