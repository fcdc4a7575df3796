/- What Read comes to: of another kind; of a piece. -/
import Derived.Test.YtmlmkkfieeaejaaLn11a
import Derived.Test.YtmlmkkfieeaejaaLnQ
import Derived.Deep.RegionLaw
set_option maxRecDepth 100000
namespace Go.Proofs.Ytmlmkkfieeaejaa
open Go.RowKit
set_option linter.unusedVariables false

set_option maxHeartbeats 4000000 in
theorem read_k0 {S : Nat → Prop} (v u : Value) (l : Lane.Ln) (it : Item.It) (w : World) (h : IsLane S w v l) (hi : IsItem w u it) (hS : SmallL l) (hg0 : 0 ≤ l.p.got) (hl65 : it.l.length ≤ 65536) (hb65 : it.b.length ≤ 65536) (hk : it.k < 1 ∨ 3 < it.k) :
    Calls Try.prog 27 #[v, u] w (ReadIs w (l, 1)) := by
  obtain ⟨A, n, c, B, m, d, ev, hE, hB, hW⟩ := id h
  subst ev
  obtain ⟨LAi, lni, lci, BAi, bni, bci, eu, hli, hbi⟩ := id hi
  subst eu
  obtain ⟨t0, t1, t2, t4⟩ := three_alloc w (.cells #[.slice A n c, .int .i64 l.p.seq, .int .i64 l.p.total, .int .i64 l.p.got, .slice B m d] 27) (.cells #[.int .i64 it.k, .int .i64 it.q, .int .i64 it.e, .int .i64 it.i, .int .i64 it.t, .int .i64 it.c, .slice LAi lni lci, .slice BAi bni bci] 41) (.cells lz 27)
  obtain ⟨W, hWW⟩ : ∃ W, ((w.alloc (.cells #[.slice A n c, .int .i64 l.p.seq, .int .i64 l.p.total, .int .i64 l.p.got, .slice B m d] 27)).alloc (.cells #[.int .i64 it.k, .int .i64 it.q, .int .i64 it.e, .int .i64 it.i, .int .i64 it.t, .int .i64 it.c, .slice LAi lni lci, .slice BAi bni bci] 41)).alloc (.cells lz 27) = W := ⟨_, rfl⟩
  have HSZ : Hid (W.heap.size = w.heap.size + 3) := by rw [← hWW, size_alloc, size_alloc, size_alloc]; exact hidT rfl
  rw [hWW] at t0 t1 t2 t4
  have HF := hidT (fresh_any _ l W (h.below t4) hS)
  obtain ⟨g, hg⟩ : ∃ g, w.heap.size = g := ⟨_, rfl⟩
  have HG := hidT hg
  rw [hg] at t0 t1 t2
  have HW := hidT hWW
  have T0 := hidT t0
  have T1 := hidT t1
  have T2 := hidT t2
  have T4 := hidT t4
  have HI := hidT hi
  have HS := hidT hS
  have HG0 := hidT hg0
  have HL65 := hidT hl65
  have HB65 := hidT hb65
  have HLI := hidT hli
  have HES := hidT hE.size
  have c1 : (it.k == 1) = false := by simp; omega
  have c2 : (it.k == 2) = false := by simp; omega
  have c3 : (it.k == 3) = false := by simp; omega
  clear hk
  obtain ⟨e0, e1, e2, e3, e4⟩ := cells5 t0
  rw [← HW.out] at e0 e1 e2 e3 e4
  clear t0 t1 t2 t4 hE hB hW hWW hS h hi hg0 hl65 hb65 hli hbi
  go_enter Try.func27, Try.ntmps27
  go_wp2_with fail
  rw [HW.out]
  clear hg e0 e1 e2 e3 e4
  with_reducible refine HF.out.mono ?_
  intro e' w5 hfr
  obtain ⟨A5, n5, c5, us, B5, m5, d5, lo, rfl, ho5, hb5⟩ := hfr.own
  have y0 := keepH T0.out hb5
  have y1 := keepH T1.out hb5
  have y2 := keepH T2.out hb5
  have HO5 := hidT ho5
  have HB5 := hidT (bthen T4.out hb5)
  clear hfr hb5 ho5 HF
  have hgg := HG.out
  have hsz := HSZ.out
  go_wp2_with (
    refine wpList_stI rfl 27 _ _ rfl g #[.slice A5 n5 c5, .int .i64 l.p.seq, .int .i64 l.p.total, .int .i64 l.p.got, .slice B5 m5 d5] rfl rfl _ _ y0 sizeL rfl (by simp [Value.oneCell']) ?_
    intro w6 hg6 hbut6 hbel6)
  simp only [Act.put]
  have HO6 := hidT (HO5.out.but (by omega) hbut6)
  have Y1 := hidT ((hbut6.2 (g + 1) (by omega)).trans y1)
  have Y2 := hidT ((hbut6.2 (g + 1 + 1) (by omega)).trans y2)
  have HB6 := hidT (hbel6 _ _ HB5.out (by omega))
  have G6 := hidT hg6
  have hlen := HO6.out.rde.size
  obtain ⟨K, hK⟩ : ∃ K, Lane.last l = K := ⟨_, rfl⟩
  have HLAST : Hid (∀ m' : Later w6, Calls Try.prog 49 #[.agg #[.slice A5 n5 c5, .int .i64 l.p.seq, .int .i64 l.p.total, .int .i64 l.p.got, .slice B5 m5 d5]] m'.w (IntIs m'.w K)) := hidT fun m' => last_any l A5 n5 c5 B5 m5 d5 m'.w (HO6.out.rde.below m'.h) HG0.out K hK
  have HKK := hidT hK
  have HN5 : Hid (n5 ≤ 65536) := hidT (by have := HS.out.1; omega)
  obtain ⟨i0, i1, i2, i3, i4⟩ := cells5 hg6
  obtain ⟨j0, j1, j2, j3, j4, j5, j6, j7⟩ := cells8 Y1.out
  have NE := Later.ne w6
  have a0 := Later.cell i0
  have a1 := Later.cell i1
  have a2 := Later.cell i2
  have a3 := Later.cell i3
  have a4 := Later.cell i4
  have b1 := Later.cell j1
  clear hg6 hbut6 hbel6 y0 y1 y2 hgg hsz hlen hK i0 i1 i2 i3 i4 j0 j1 j2 j3 j4 j5 j6 j7
  obtain ⟨lt, hlt⟩ : ∃ lt, decide (it.q ≤ K) = lt := ⟨_, rfl⟩
  refine wp_later (by kernel_rfl) (by kernel_rfl) ?_
  repeat (go_big_quiet_step ((go_at_call 49; exact Later.int (HLAST.out _))))
  refine wpQuiet_nil ?_
  intro w9 hw9
  obtain ⟨⟨_, hb9⟩, rfl⟩ := hw9
  have Y0 := hidT (keepH G6.out hb9)
  have Y1 := hidT (keepH Y1.out hb9)
  have Y2 := hidT (keepH Y2.out hb9)
  have HO9 := hidT (HO6.out.later hb9)
  have HB9 := hidT (bthen HB6.out hb9)
  clear hb9 HO6 HB6 G6 a0 a1 a2 a3 a4 b1 NE HLAST HO5 HB5 T0 T1 T2
  obtain ⟨W9, hW9⟩ : ∃ W9, w9.alloc (.cells #[.int .i64 it.k, .int .i64 it.q, .slice none 0 0, .slice none 0 0, .bool false] 33) = W9 := ⟨_, rfl⟩
  obtain ⟨r, hr⟩ : ∃ r, w9.heap.size = r := ⟨_, rfl⟩
  have p9 := alloc_at w9 (.cells #[.int .i64 it.k, .int .i64 it.q, .slice none 0 0, .slice none 0 0, .bool false] 33) _ rfl
  have n9 := nkeep w9 (.cells #[.int .i64 it.k, .int .i64 it.q, .slice none 0 0, .slice none 0 0, .bool false] 33)
  rw [hW9, hr] at p9
  rw [hW9] at n9
  have HW9 := hidT hW9
  have P9 := hidT p9
  have X0 := hidT (keepH Y0.out n9)
  have X1 := hidT (keepH Y1.out n9)
  have X2 := hidT (keepH Y2.out n9)
  have hmid := HO9.out.mid
  rw [hr] at hmid
  have HM9 := hidT (hmid.later n9)
  have HO9 := hidT (HO9.out.later n9)
  have HBX := hidT (bthen HB9.out n9)
  have m0 := (cells8 Y1.out).1
  have m1 := (cells8 Y1.out).2.1
  have HRR : Hid (w.heap.size + 3 ≤ r) := hidT (by have := HSZ.out; have := HO9.out.2.2.2.2.2.1; have := hmid.2.2.2.2.2.2; omega)
  clear p9 n9 hW9 hmid Y0 Y1 Y2 HB9
  obtain ⟨i0, i1, i2, i3, i4⟩ := cells5 X0.out
  obtain ⟨j0, j1, j2, j3, j4, j5, j6, j7⟩ := cells8 X1.out
  rw [← HW9.out] at i0 i1 i2 i3 i4 j0 j1 j2 j3 j4 j5 j6 j7
  have x2 := X2.out
  have hbx := HBX.out
  have hox := HO9.out
  rw [← HW9.out] at x2 hbx hox
  have HBX := hidT hbx
  have HOX := hidT hox.own
  clear hbx hox
  go_wp2_with (
    refine wpList_stI rfl 27 _ _ rfl (g + 1 + 1) #[.slice A5 n5 c5, .int .i64 l.p.seq, .int .i64 l.p.total, .int .i64 l.p.got, .slice B5 m5 d5] rfl rfl _ _ x2 sizeL rfl (by simp [Value.oneCell']) ?_
    intro wy hgy hbuty hbely)
  obtain ⟨r0, r1, r2, r3, r4⟩ := cells5 hgy
  have hgg := HG.out
  have hsz := HSZ.out
  exact bodyPost_ret (v := .tuple #[.agg #[.slice A5 n5 c5, .int .i64 l.p.seq, .int .i64 l.p.total, .int .i64 l.p.got, .slice B5 m5 d5], .int .i64 1]) (by simp [results, Try.results27, go_sem, r0, r1, r2, r3, r4]) rfl
    ⟨_, rfl, ((HOX.out.but (by omega) hbuty).lane.hi (lo' := w.heap.size) (by omega)), hbely _ _ HBX.out (by omega)⟩

set_option maxHeartbeats 4000000 in
theorem read_late1 {S : Nat → Prop} (v u : Value) (l : Lane.Ln) (it : Item.It) (w : World) (h : IsLane S w v l) (hi : IsItem w u it) (hS : SmallL l) (hg0 : 0 ≤ l.p.got) (hl65 : it.l.length ≤ 65536) (hb65 : it.b.length ≤ 65536) (hk : it.k = 1) (hlt : it.q ≤ Lane.last l) :
    Calls Try.prog 27 #[v, u] w (ReadIs w (l, 2)) := by
  obtain ⟨A, n, c, B, m, d, ev, hE, hB, hW⟩ := id h
  subst ev
  obtain ⟨LAi, lni, lci, BAi, bni, bci, eu, hli, hbi⟩ := id hi
  subst eu
  obtain ⟨t0, t1, t2, t4⟩ := three_alloc w (.cells #[.slice A n c, .int .i64 l.p.seq, .int .i64 l.p.total, .int .i64 l.p.got, .slice B m d] 27) (.cells #[.int .i64 it.k, .int .i64 it.q, .int .i64 it.e, .int .i64 it.i, .int .i64 it.t, .int .i64 it.c, .slice LAi lni lci, .slice BAi bni bci] 41) (.cells lz 27)
  obtain ⟨W, hWW⟩ : ∃ W, ((w.alloc (.cells #[.slice A n c, .int .i64 l.p.seq, .int .i64 l.p.total, .int .i64 l.p.got, .slice B m d] 27)).alloc (.cells #[.int .i64 it.k, .int .i64 it.q, .int .i64 it.e, .int .i64 it.i, .int .i64 it.t, .int .i64 it.c, .slice LAi lni lci, .slice BAi bni bci] 41)).alloc (.cells lz 27) = W := ⟨_, rfl⟩
  have HSZ : Hid (W.heap.size = w.heap.size + 3) := by rw [← hWW, size_alloc, size_alloc, size_alloc]; exact hidT rfl
  rw [hWW] at t0 t1 t2 t4
  have HF := hidT (fresh_any _ l W (h.below t4) hS)
  obtain ⟨g, hg⟩ : ∃ g, w.heap.size = g := ⟨_, rfl⟩
  have HG := hidT hg
  rw [hg] at t0 t1 t2
  have HW := hidT hWW
  have T0 := hidT t0
  have T1 := hidT t1
  have T2 := hidT t2
  have T4 := hidT t4
  have HI := hidT hi
  have HS := hidT hS
  have HG0 := hidT hg0
  have HL65 := hidT hl65
  have HB65 := hidT hb65
  have HLI := hidT hli
  have HES := hidT hE.size
  have HLT := hidT hlt
  clear hlt
  have HKI := hidT hk
  have c1 : (it.k == 1) = true := by simp; omega
  clear hk
  obtain ⟨e0, e1, e2, e3, e4⟩ := cells5 t0
  rw [← HW.out] at e0 e1 e2 e3 e4
  clear t0 t1 t2 t4 hE hB hW hWW hS h hi hg0 hl65 hb65 hli hbi
  go_enter Try.func27, Try.ntmps27
  go_wp2_with fail
  rw [HW.out]
  clear hg e0 e1 e2 e3 e4
  with_reducible refine HF.out.mono ?_
  intro e' w5 hfr
  obtain ⟨A5, n5, c5, us, B5, m5, d5, lo, rfl, ho5, hb5⟩ := hfr.own
  have y0 := keepH T0.out hb5
  have y1 := keepH T1.out hb5
  have y2 := keepH T2.out hb5
  have HO5 := hidT ho5
  have HB5 := hidT (bthen T4.out hb5)
  clear hfr hb5 ho5 HF
  have hgg := HG.out
  have hsz := HSZ.out
  go_wp2_with (
    refine wpList_stI rfl 27 _ _ rfl g #[.slice A5 n5 c5, .int .i64 l.p.seq, .int .i64 l.p.total, .int .i64 l.p.got, .slice B5 m5 d5] rfl rfl _ _ y0 sizeL rfl (by simp [Value.oneCell']) ?_
    intro w6 hg6 hbut6 hbel6)
  simp only [Act.put]
  have HO6 := hidT (HO5.out.but (by omega) hbut6)
  have Y1 := hidT ((hbut6.2 (g + 1) (by omega)).trans y1)
  have Y2 := hidT ((hbut6.2 (g + 1 + 1) (by omega)).trans y2)
  have HB6 := hidT (hbel6 _ _ HB5.out (by omega))
  have G6 := hidT hg6
  have hlen := HO6.out.rde.size
  obtain ⟨K, hK⟩ : ∃ K, Lane.last l = K := ⟨_, rfl⟩
  have HLAST : Hid (∀ m' : Later w6, Calls Try.prog 49 #[.agg #[.slice A5 n5 c5, .int .i64 l.p.seq, .int .i64 l.p.total, .int .i64 l.p.got, .slice B5 m5 d5]] m'.w (IntIs m'.w K)) := hidT fun m' => last_any l A5 n5 c5 B5 m5 d5 m'.w (HO6.out.rde.below m'.h) HG0.out K hK
  have HKK := hidT hK
  have HN5 : Hid (n5 ≤ 65536) := hidT (by have := HS.out.1; omega)
  obtain ⟨i0, i1, i2, i3, i4⟩ := cells5 hg6
  obtain ⟨j0, j1, j2, j3, j4, j5, j6, j7⟩ := cells8 Y1.out
  have NE := Later.ne w6
  have a0 := Later.cell i0
  have a1 := Later.cell i1
  have a2 := Later.cell i2
  have a3 := Later.cell i3
  have a4 := Later.cell i4
  have b1 := Later.cell j1
  clear hg6 hbut6 hbel6 y0 y1 y2 hgg hsz hlen hK i0 i1 i2 i3 i4 j0 j1 j2 j3 j4 j5 j6 j7
  have hlt : decide (it.q ≤ K) = true := by have := HLT.out; rw [HKK.out] at this; simp; omega
  refine wp_later (by kernel_rfl) (by kernel_rfl) ?_
  repeat (go_big_quiet_step ((go_at_call 49; exact Later.int (HLAST.out _))))
  refine wpQuiet_nil ?_
  intro w9 hw9
  obtain ⟨⟨_, hb9⟩, rfl⟩ := hw9
  have Y0 := hidT (keepH G6.out hb9)
  have Y1 := hidT (keepH Y1.out hb9)
  have Y2 := hidT (keepH Y2.out hb9)
  have HO9 := hidT (HO6.out.later hb9)
  have HB9 := hidT (bthen HB6.out hb9)
  clear hb9 HO6 HB6 G6 a0 a1 a2 a3 a4 b1 NE HLAST HO5 HB5 T0 T1 T2
  obtain ⟨W9, hW9⟩ : ∃ W9, w9.alloc (.cells #[.int .i64 it.k, .int .i64 it.q, .slice none 0 0, .slice none 0 0, .bool false] 33) = W9 := ⟨_, rfl⟩
  obtain ⟨r, hr⟩ : ∃ r, w9.heap.size = r := ⟨_, rfl⟩
  have p9 := alloc_at w9 (.cells #[.int .i64 it.k, .int .i64 it.q, .slice none 0 0, .slice none 0 0, .bool false] 33) _ rfl
  have n9 := nkeep w9 (.cells #[.int .i64 it.k, .int .i64 it.q, .slice none 0 0, .slice none 0 0, .bool false] 33)
  rw [hW9, hr] at p9
  rw [hW9] at n9
  have HW9 := hidT hW9
  have P9 := hidT p9
  have X0 := hidT (keepH Y0.out n9)
  have X1 := hidT (keepH Y1.out n9)
  have X2 := hidT (keepH Y2.out n9)
  have hmid := HO9.out.mid
  rw [hr] at hmid
  have HM9 := hidT (hmid.later n9)
  have HO9 := hidT (HO9.out.later n9)
  have HBX := hidT (bthen HB9.out n9)
  have m0 := (cells8 Y1.out).1
  have m1 := (cells8 Y1.out).2.1
  have HRR : Hid (w.heap.size + 3 ≤ r) := hidT (by have := HSZ.out; have := HO9.out.2.2.2.2.2.1; have := hmid.2.2.2.2.2.2; omega)
  clear p9 n9 hW9 hmid Y0 Y1 Y2 HB9
  obtain ⟨i0, i1, i2, i3, i4⟩ := cells5 X0.out
  obtain ⟨j0, j1, j2, j3, j4, j5, j6, j7⟩ := cells8 X1.out
  rw [← HW9.out] at i0 i1 i2 i3 i4 j0 j1 j2 j3 j4 j5 j6 j7
  have x2 := X2.out
  have hbx := HBX.out
  have hox := HO9.out
  rw [← HW9.out] at x2 hbx hox
  have HBX := hidT hbx
  have HOX := hidT hox.own
  clear hbx hox
  go_wp2_with (
    refine wpList_stI rfl 27 _ _ rfl (g + 1 + 1) #[.slice A5 n5 c5, .int .i64 l.p.seq, .int .i64 l.p.total, .int .i64 l.p.got, .slice B5 m5 d5] rfl rfl _ _ x2 sizeL rfl (by simp [Value.oneCell']) ?_
    intro wy hgy hbuty hbely)
  obtain ⟨r0, r1, r2, r3, r4⟩ := cells5 hgy
  have hgg := HG.out
  have hsz := HSZ.out
  exact bodyPost_ret (v := .tuple #[.agg #[.slice A5 n5 c5, .int .i64 l.p.seq, .int .i64 l.p.total, .int .i64 l.p.got, .slice B5 m5 d5], .int .i64 2]) (by simp [results, Try.results27, go_sem, r0, r1, r2, r3, r4]) rfl
    ⟨_, rfl, ((HOX.out.but (by omega) hbuty).lane.hi (lo' := w.heap.size) (by omega)), hbely _ _ HBX.out (by omega)⟩

set_option maxHeartbeats 4000000 in
theorem read_piece {S : Nat → Prop} (v u : Value) (l : Lane.Ln) (it : Item.It) (w : World) (h : IsLane S w v l) (hi : IsItem w u it) (hS : SmallL l) (hg0 : 0 ≤ l.p.got) (hl65 : it.l.length ≤ 65536) (hb65 : it.b.length ≤ 65536) (hk : it.k = 1) (hlt : ¬ it.q ≤ Lane.last l) :
    Calls Try.prog 27 #[v, u] w (ReadIs w (Lane.read l it)) := by
  obtain ⟨A, n, c, B, m, d, ev, hE, hB, hW⟩ := id h
  subst ev
  obtain ⟨LAi, lni, lci, BAi, bni, bci, eu, hli, hbi⟩ := id hi
  subst eu
  obtain ⟨t0, t1, t2, t4⟩ := three_alloc w (.cells #[.slice A n c, .int .i64 l.p.seq, .int .i64 l.p.total, .int .i64 l.p.got, .slice B m d] 27) (.cells #[.int .i64 it.k, .int .i64 it.q, .int .i64 it.e, .int .i64 it.i, .int .i64 it.t, .int .i64 it.c, .slice LAi lni lci, .slice BAi bni bci] 41) (.cells lz 27)
  obtain ⟨W, hWW⟩ : ∃ W, ((w.alloc (.cells #[.slice A n c, .int .i64 l.p.seq, .int .i64 l.p.total, .int .i64 l.p.got, .slice B m d] 27)).alloc (.cells #[.int .i64 it.k, .int .i64 it.q, .int .i64 it.e, .int .i64 it.i, .int .i64 it.t, .int .i64 it.c, .slice LAi lni lci, .slice BAi bni bci] 41)).alloc (.cells lz 27) = W := ⟨_, rfl⟩
  have HSZ : Hid (W.heap.size = w.heap.size + 3) := by rw [← hWW, size_alloc, size_alloc, size_alloc]; exact hidT rfl
  rw [hWW] at t0 t1 t2 t4
  have HF := hidT (fresh_any _ l W (h.below t4) hS)
  obtain ⟨g, hg⟩ : ∃ g, w.heap.size = g := ⟨_, rfl⟩
  have HG := hidT hg
  rw [hg] at t0 t1 t2
  have HW := hidT hWW
  have T0 := hidT t0
  have T1 := hidT t1
  have T2 := hidT t2
  have T4 := hidT t4
  have HI := hidT hi
  have HS := hidT hS
  have HG0 := hidT hg0
  have HL65 := hidT hl65
  have HB65 := hidT hb65
  have HLI := hidT hli
  have HES := hidT hE.size
  have HLT := hidT hlt
  clear hlt
  have HKI := hidT hk
  have c1 : (it.k == 1) = true := by simp; omega
  clear hk
  obtain ⟨e0, e1, e2, e3, e4⟩ := cells5 t0
  rw [← HW.out] at e0 e1 e2 e3 e4
  clear t0 t1 t2 t4 hE hB hW hWW hS h hi hg0 hl65 hb65 hli hbi
  go_enter Try.func27, Try.ntmps27
  go_wp2_with fail
  rw [HW.out]
  clear hg e0 e1 e2 e3 e4
  with_reducible refine HF.out.mono ?_
  intro e' w5 hfr
  obtain ⟨A5, n5, c5, us, B5, m5, d5, lo, rfl, ho5, hb5⟩ := hfr.own
  have y0 := keepH T0.out hb5
  have y1 := keepH T1.out hb5
  have y2 := keepH T2.out hb5
  have HO5 := hidT ho5
  have HB5 := hidT (bthen T4.out hb5)
  clear hfr hb5 ho5 HF
  have hgg := HG.out
  have hsz := HSZ.out
  go_wp2_with (
    refine wpList_stI rfl 27 _ _ rfl g #[.slice A5 n5 c5, .int .i64 l.p.seq, .int .i64 l.p.total, .int .i64 l.p.got, .slice B5 m5 d5] rfl rfl _ _ y0 sizeL rfl (by simp [Value.oneCell']) ?_
    intro w6 hg6 hbut6 hbel6)
  simp only [Act.put]
  have HO6 := hidT (HO5.out.but (by omega) hbut6)
  have Y1 := hidT ((hbut6.2 (g + 1) (by omega)).trans y1)
  have Y2 := hidT ((hbut6.2 (g + 1 + 1) (by omega)).trans y2)
  have HB6 := hidT (hbel6 _ _ HB5.out (by omega))
  have G6 := hidT hg6
  have hlen := HO6.out.rde.size
  obtain ⟨K, hK⟩ : ∃ K, Lane.last l = K := ⟨_, rfl⟩
  have HLAST : Hid (∀ m' : Later w6, Calls Try.prog 49 #[.agg #[.slice A5 n5 c5, .int .i64 l.p.seq, .int .i64 l.p.total, .int .i64 l.p.got, .slice B5 m5 d5]] m'.w (IntIs m'.w K)) := hidT fun m' => last_any l A5 n5 c5 B5 m5 d5 m'.w (HO6.out.rde.below m'.h) HG0.out K hK
  have HKK := hidT hK
  have HN5 : Hid (n5 ≤ 65536) := hidT (by have := HS.out.1; omega)
  obtain ⟨i0, i1, i2, i3, i4⟩ := cells5 hg6
  obtain ⟨j0, j1, j2, j3, j4, j5, j6, j7⟩ := cells8 Y1.out
  have NE := Later.ne w6
  have a0 := Later.cell i0
  have a1 := Later.cell i1
  have a2 := Later.cell i2
  have a3 := Later.cell i3
  have a4 := Later.cell i4
  have b1 := Later.cell j1
  clear hg6 hbut6 hbel6 y0 y1 y2 hgg hsz hlen hK i0 i1 i2 i3 i4 j0 j1 j2 j3 j4 j5 j6 j7
  have hlt : decide (it.q ≤ K) = false := by have := HLT.out; rw [HKK.out] at this; simp; omega
  refine wp_later (by kernel_rfl) (by kernel_rfl) ?_
  repeat (go_big_quiet_step ((go_at_call 49; exact Later.int (HLAST.out _))))
  refine wpQuiet_nil ?_
  intro w9 hw9
  obtain ⟨⟨_, hb9⟩, rfl⟩ := hw9
  have Y0 := hidT (keepH G6.out hb9)
  have Y1 := hidT (keepH Y1.out hb9)
  have Y2 := hidT (keepH Y2.out hb9)
  have HO9 := hidT (HO6.out.later hb9)
  have HB9 := hidT (bthen HB6.out hb9)
  clear hb9 HO6 HB6 G6 a0 a1 a2 a3 a4 b1 NE HLAST HO5 HB5 T0 T1 T2
  obtain ⟨W9, hW9⟩ : ∃ W9, w9.alloc (.cells #[.int .i64 it.k, .int .i64 it.q, .slice none 0 0, .slice none 0 0, .bool false] 33) = W9 := ⟨_, rfl⟩
  obtain ⟨r, hr⟩ : ∃ r, w9.heap.size = r := ⟨_, rfl⟩
  have p9 := alloc_at w9 (.cells #[.int .i64 it.k, .int .i64 it.q, .slice none 0 0, .slice none 0 0, .bool false] 33) _ rfl
  have n9 := nkeep w9 (.cells #[.int .i64 it.k, .int .i64 it.q, .slice none 0 0, .slice none 0 0, .bool false] 33)
  rw [hW9, hr] at p9
  rw [hW9] at n9
  have HW9 := hidT hW9
  have P9 := hidT p9
  have X0 := hidT (keepH Y0.out n9)
  have X1 := hidT (keepH Y1.out n9)
  have X2 := hidT (keepH Y2.out n9)
  have hmid := HO9.out.mid
  rw [hr] at hmid
  have HM9 := hidT (hmid.later n9)
  have HO9 := hidT (HO9.out.later n9)
  have HBX := hidT (bthen HB9.out n9)
  have m0 := (cells8 Y1.out).1
  have m1 := (cells8 Y1.out).2.1
  have HRR : Hid (w.heap.size + 3 ≤ r) := hidT (by have := HSZ.out; have := HO9.out.2.2.2.2.2.1; have := hmid.2.2.2.2.2.2; omega)
  clear p9 n9 hW9 hmid Y0 Y1 Y2 HB9
  obtain ⟨i0, i1, i2, i3, i4⟩ := cells5 X0.out
  obtain ⟨j0, j1, j2, j3, j4, j5, j6, j7⟩ := cells8 X1.out
  rw [← HW9.out] at i0 i1 i2 i3 i4 j0 j1 j2 j3 j4 j5 j6 j7
  have hpc := piece_any l A5 n5 c5 us B5 m5 d5 W.heap.size lo _ it W9 HO9.out (HI.out.below HBX.out) HS.out.2.2 HB65.out HKI.out (by have := HLT.out; omega) HG0.out (by have := HN5.out; omega)
  have HPC := hidT hpc
  clear hpc
  go_wp2_with fail
  rw [HW9.out]
  clear hr i0 i1 i2 i3 i4 j0 j1 j2 j3 j4 j5 j6 j7
  with_reducible refine HPC.out.mono ?_
  rintro e w10 ⟨v10, rfl, hl10, hb10⟩
  obtain ⟨q10, rfl, hs10, ha10⟩ := hl10.cells
  have hgg := HG.out
  have hsz := HSZ.out
  have x2 := (hb10.block (g + 1 + 1) (by omega)).trans X2.out
  have HL10 := hidT hl10
  have HB10 := hidT (HBX.out.trans (hb10.mono (show w.heap.size ≤ W.heap.size by omega)))
  clear hl10 hb10 hgg hsz
  go_wp2_with (
    refine wpList_stI rfl 27 _ _ rfl (g + 1 + 1) q10 rfl rfl _ _ x2 (by rw [hs10]; exact sizeL) (by rw [hs10]; rfl) ha10 ?_
    intro wy hgy hbuty hbely)
  have hgg := HG.out
  have hsz := HSZ.out
  obtain ⟨An, nn, cn, Bn, mn, dn, ev, _, _, _⟩ := id HL10.out
  injection ev with ev
  subst ev
  obtain ⟨r0, r1, r2, r3, r4⟩ := cells5 hgy
  generalize Lane.read l it = RR at HL10 r0 r1 r2 r3 r4 ⊢
  exact bodyPost_ret (v := .tuple #[.agg #[.slice An nn cn, .int .i64 RR.1.p.seq, .int .i64 RR.1.p.total, .int .i64 RR.1.p.got, .slice Bn mn dn], .int .i64 RR.2]) (by simp [results, Try.results27, go_sem, r0, r1, r2, r3, r4]) rfl
    ⟨_, rfl, (HL10.out.keptS (KeptS.hi hbuty (by omega))).hi (lo' := w.heap.size) (by omega), hbely _ _ HB10.out (by omega)⟩
end Go.Proofs.Ytmlmkkfieeaejaa
