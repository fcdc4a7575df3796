import Derived.Test.YtmlmkkfieeaejaaRLn5
import Derived.Test.YtmlmkkfieeaejaaRLn4b
import Derived.Test.YtmlmkkfieeaejaaLF7
import Derived.Test.YtmlmkkfieeaejaaLnQ
import Derived.Test.YtmlmkkfieeaejaaLn10
set_option maxRecDepth 100000
/- What the document's Read comes to: refused, or a piece. -/
namespace Go.Proofs.Ytmlmkkfieeaejaa
open Go.RowKit
set_option linter.unusedVariables false

theorem Rd.ne {w : World} {A : Option Addr} {n c g : Nat} {l : List UInt8} (h : Rd w A n c l) (hg : w.heap[g]? = some (.cells lz 27 (0, 0))) : Within (fun b => b ≠ g) A n := fun h0 b o e hbg => by
  obtain ⟨b', o', hA, hc⟩ := h.2.2.2.2 h0
  rw [e] at hA
  injection hA with hA
  injection hA with h1 h2
  subst h1
  subst h2
  subst hbg
  have hlt : 0 < l.length := by rw [h.1]; exact h0
  have := hc 0 l[0] (List.getElem?_eq_getElem hlt)
  rw [Nat.add_zero, cell_of_row _ b _ _ 27 (0, 0) hg] at this
  rcases (show o = 0 ∨ o = 1 ∨ o = 2 ∨ o = 3 ∨ o = 4 ∨ 5 ≤ o by omega) with rfl | rfl | rfl | rfl | rfl | h5
  · simp at this
  · simp at this
  · simp at this
  · simp at this
  · simp at this
  · rw [Array.getElem?_eq_none (by show 5 ≤ o; exact h5)] at this; cases this
theorem IsLane.lt {S : Nat → Prop} {w : World} {v : Value} {l : Lane.Ln} (h : IsLane S w v l) : IsLane (fun b => b < w.heap.size) w v l := by
  obtain ⟨A, n, c, B, m, d, rfl, ⟨rs, hK, hA, hW⟩, hB, hWB⟩ := h
  refine ⟨A, n, c, B, m, d, rfl, ⟨rs, hK, hA.lt.mono fun b hb => hb.2, fun h0 b o e => ?_⟩, hB, hB.lt⟩
  obtain ⟨b', o', r, hA', hr, hsz, hc⟩ := hK.at_ h0
  rw [e] at hA'
  injection hA' with hA'
  injection hA' with h1 h2
  subst h1
  have := hc 0 r[0] (Array.getElem?_eq_getElem (by omega))
  exact World.block_lt_of_cell? w _ this
/-- A lane, and a code. -/
def RReadIs (w : World) (r : Lane.Ln × Int) (e : Ending) (w' : World) : Prop := ∃ v, e = .returned (.tuple #[v, .int .i64 r.2]) ∧ IsLane Any w' v r.1 ∧ Below w.heap.size w w'

set_option maxHeartbeats 4000000 in
theorem rread_k0 {S : Nat → Prop} (v u : Value) (l : Lane.Ln) (it : Item.It) (w : World) (h : IsLane S w v l) (hi : IsItem w u it) (hS : SmallL l) (hb65 : it.b.length ≤ 65536) (hl65 : it.l.length ≤ 65536) (hk : it.k < 1 ∨ 3 < it.k) :
    Calls Try.prog 28 #[v, u] w (RReadIs w (l, 1)) := by
  obtain ⟨A, n, c, B, m, d, ev, hE, hB, hW⟩ := id h
  subst ev
  obtain ⟨LAi, lni, lci, BAi, bni, bci, eu, hli, hbi⟩ := id hi
  subst eu
  obtain ⟨t0, t1, t2, t4⟩ := three_alloc w (.cells #[.slice A n c, .int .i64 l.p.seq, .int .i64 l.p.total, .int .i64 l.p.got, .slice B m d] 27) (.cells #[.int .i64 it.k, .int .i64 it.q, .int .i64 it.e, .int .i64 it.i, .int .i64 it.t, .int .i64 it.c, .slice LAi lni lci, .slice BAi bni bci] 41) (.cells lz 27)
  obtain ⟨W, hWW⟩ : ∃ W, ((w.alloc (.cells #[.slice A n c, .int .i64 l.p.seq, .int .i64 l.p.total, .int .i64 l.p.got, .slice B m d] 27)).alloc (.cells #[.int .i64 it.k, .int .i64 it.q, .int .i64 it.e, .int .i64 it.i, .int .i64 it.t, .int .i64 it.c, .slice LAi lni lci, .slice BAi bni bci] 41)).alloc (.cells lz 27) = W := ⟨_, rfl⟩
  have HSZ : Hid (W.heap.size = w.heap.size + 3) := by rw [← hWW, size_alloc, size_alloc, size_alloc]; exact hidT rfl
  rw [hWW] at t0 t1 t2 t4
  obtain ⟨g, hg⟩ : ∃ g, w.heap.size = g := ⟨_, rfl⟩
  have HG := hidT hg
  rw [hg] at t0 t1 t2
  have HW := hidT hWW
  have T0 := hidT t0
  have T1 := hidT t1
  have T2 := hidT t2
  have T4 := hidT t4
  have HI := hidT hi
  have HS := hidT hS
  have HL := hidT (h.mono (T := Any) fun _ _ => trivial)
  have HLT0 := hidT h.lt
  have HE := hidT hE
  have HBB := hidT hB
  have HLI := hidT hli
  have HBI := hidT hbi
  have HB65 := hidT hb65
  have HL65 := hidT hl65
  obtain ⟨i0, i1, i2, i3, i4⟩ := cells5 t0
  obtain ⟨j0, j1, j2, j3, j4, j5, j6, j7⟩ := cells8 t1
  rw [← HW.out] at i0 i1 i2 i3 i4 j0 j1 j2 j3 j4 j5 j6 j7
  clear t0 t1 t2 t4 hE hB hWW hS h hi hb65 hl65 hli hbi
  go_enter Try.func28, Try.ntmps28
  have x2 := T2.out
  have hbx := T4.out
  rw [← HW.out] at x2 hbx
  have HBX := hidT hbx
  clear hbx
  rcases Int.lt_or_le it.k 1 with q0 | q0
  · have d1 : decide (it.k < 1) = true := by simpa using q0
    clear hk q0
    go_wp2_with (
      refine wpList_stI rfl 27 _ _ rfl (g + 1 + 1) #[.slice A n c, .int .i64 l.p.seq, .int .i64 l.p.total, .int .i64 l.p.got, .slice B m d] rfl rfl _ _ x2 sizeL rfl (by simp [Value.oneCell']) ?_
      intro wy hgy hbuty hbely)
    obtain ⟨r0, r1, r2, r3, r4⟩ := cells5 hgy
    have hgg := HG.out
    have hsz := HSZ.out
    have bW : Below w.heap.size w wy := hbely _ _ HBX.out (by omega)
    exact bodyPost_ret (v := .tuple #[.agg #[.slice A n c, .int .i64 l.p.seq, .int .i64 l.p.total, .int .i64 l.p.got, .slice B m d], .int .i64 1]) (by simp [results, Try.results28, go_sem, r0, r1, r2, r3, r4]) rfl
      ⟨_, rfl, HL.out.below bW, bW⟩
  · have d1 : decide (it.k < 1) = false := by simp; omega
    have d2 : decide (3 < it.k) = true := by simp; omega
    clear hk q0
    go_wp2_with (
      refine wpList_stI rfl 27 _ _ rfl (g + 1 + 1) #[.slice A n c, .int .i64 l.p.seq, .int .i64 l.p.total, .int .i64 l.p.got, .slice B m d] rfl rfl _ _ x2 sizeL rfl (by simp [Value.oneCell']) ?_
      intro wy hgy hbuty hbely)
    obtain ⟨r0, r1, r2, r3, r4⟩ := cells5 hgy
    have hgg := HG.out
    have hsz := HSZ.out
    have bW : Below w.heap.size w wy := hbely _ _ HBX.out (by omega)
    exact bodyPost_ret (v := .tuple #[.agg #[.slice A n c, .int .i64 l.p.seq, .int .i64 l.p.total, .int .i64 l.p.got, .slice B m d], .int .i64 1]) (by simp [results, Try.results28, go_sem, r0, r1, r2, r3, r4]) rfl
      ⟨_, rfl, HL.out.below bW, bW⟩

set_option maxHeartbeats 4000000 in
theorem rread_late {S : Nat → Prop} (v u : Value) (l : Lane.Ln) (it : Item.It) (w : World) (h : IsLane S w v l) (hi : IsItem w u it) (hS : SmallL l) (hb65 : it.b.length ≤ 65536) (hl65 : it.l.length ≤ 65536) (hk : it.k = 1 ∨ it.k = 2 ∨ it.k = 3) (hlt : it.q ≤ Lane.last l) :
    Calls Try.prog 28 #[v, u] w (RReadIs w (l, 2)) := by
  obtain ⟨A, n, c, B, m, d, ev, hE, hB, hW⟩ := id h
  subst ev
  obtain ⟨LAi, lni, lci, BAi, bni, bci, eu, hli, hbi⟩ := id hi
  subst eu
  obtain ⟨t0, t1, t2, t4⟩ := three_alloc w (.cells #[.slice A n c, .int .i64 l.p.seq, .int .i64 l.p.total, .int .i64 l.p.got, .slice B m d] 27) (.cells #[.int .i64 it.k, .int .i64 it.q, .int .i64 it.e, .int .i64 it.i, .int .i64 it.t, .int .i64 it.c, .slice LAi lni lci, .slice BAi bni bci] 41) (.cells lz 27)
  obtain ⟨W, hWW⟩ : ∃ W, ((w.alloc (.cells #[.slice A n c, .int .i64 l.p.seq, .int .i64 l.p.total, .int .i64 l.p.got, .slice B m d] 27)).alloc (.cells #[.int .i64 it.k, .int .i64 it.q, .int .i64 it.e, .int .i64 it.i, .int .i64 it.t, .int .i64 it.c, .slice LAi lni lci, .slice BAi bni bci] 41)).alloc (.cells lz 27) = W := ⟨_, rfl⟩
  have HSZ : Hid (W.heap.size = w.heap.size + 3) := by rw [← hWW, size_alloc, size_alloc, size_alloc]; exact hidT rfl
  rw [hWW] at t0 t1 t2 t4
  obtain ⟨g, hg⟩ : ∃ g, w.heap.size = g := ⟨_, rfl⟩
  have HG := hidT hg
  rw [hg] at t0 t1 t2
  have HW := hidT hWW
  have T0 := hidT t0
  have T1 := hidT t1
  have T2 := hidT t2
  have T4 := hidT t4
  have HI := hidT hi
  have HS := hidT hS
  have HL := hidT (h.mono (T := Any) fun _ _ => trivial)
  have HLT0 := hidT h.lt
  have HE := hidT hE
  have HBB := hidT hB
  have HLI := hidT hli
  have HBI := hidT hbi
  have HB65 := hidT hb65
  have HL65 := hidT hl65
  have HLT := hidT hlt
  clear hlt
  have HKI := hidT hk
  have d1 : decide (it.k < 1) = false := by simp; omega
  have d2 : decide (3 < it.k) = false := by simp; omega
  clear hk
  obtain ⟨i0, i1, i2, i3, i4⟩ := cells5 t0
  obtain ⟨j0, j1, j2, j3, j4, j5, j6, j7⟩ := cells8 t1
  rw [← HW.out] at i0 i1 i2 i3 i4 j0 j1 j2 j3 j4 j5 j6 j7
  clear t0 t1 t2 t4 hE hB hWW hS h hi hb65 hl65 hli hbi
  go_enter Try.func28, Try.ntmps28
  obtain ⟨K, hK⟩ : ∃ K, Lane.last l = K := ⟨_, rfl⟩
  have HKK := hidT hK
  have HLAST : Hid (∀ m' : Later W, Calls Try.prog 52 #[.agg #[.slice A n c, .int .i64 l.p.seq, .int .i64 l.p.total, .int .i64 l.p.got, .slice B m d]] m'.w (IntIs m'.w K)) := hidT fun m' => rlast_any l A n c B m d m'.w (HE.out.below (bthen T4.out m'.h)) K hK
  have hlt : decide (it.q ≤ K) = true := by have := HLT.out; rw [HKK.out] at this; simp; omega
  clear hK
  go_wp2_with fail
  rw [HW.out]
  rw [HW.out] at i0 i1 i2 i3 i4 j1
  have NE := Later.ne W
  have a0 := Later.cell i0
  have a1 := Later.cell i1
  have a2 := Later.cell i2
  have a3 := Later.cell i3
  have a4 := Later.cell i4
  have b1 := Later.cell j1
  clear hg i0 i1 i2 i3 i4 j0 j1 j2 j3 j4 j5 j6 j7
  refine wp_later (by kernel_rfl) (by kernel_rfl) ?_
  repeat (go_big_quiet_step ((go_at_call 52; exact Later.int (HLAST.out _))))
  refine wpQuiet_nil ?_
  intro w9 hw9
  obtain ⟨⟨_, hb9⟩, rfl⟩ := hw9
  have X0 := hidT (keepH T0.out hb9)
  have X1 := hidT (keepH T1.out hb9)
  have X2 := hidT (keepH T2.out hb9)
  have HBX := hidT (bthen T4.out hb9)
  clear hb9 a0 a1 a2 a3 a4 b1 NE HLAST
  obtain ⟨i0, i1, i2, i3, i4⟩ := cells5 X0.out
  obtain ⟨j0, j1, j2, j3, j4, j5, j6, j7⟩ := cells8 X1.out
  have x2 := X2.out
  go_wp2_with (
    refine wpList_stI rfl 27 _ _ rfl (g + 1 + 1) #[.slice A n c, .int .i64 l.p.seq, .int .i64 l.p.total, .int .i64 l.p.got, .slice B m d] rfl rfl _ _ x2 sizeL rfl (by simp [Value.oneCell']) ?_
    intro wy hgy hbuty hbely)
  obtain ⟨r0, r1, r2, r3, r4⟩ := cells5 hgy
  have hgg := HG.out
  have hsz := HSZ.out
  have bW : Below w.heap.size w wy := hbely _ _ HBX.out (by omega)
  exact bodyPost_ret (v := .tuple #[.agg #[.slice A n c, .int .i64 l.p.seq, .int .i64 l.p.total, .int .i64 l.p.got, .slice B m d], .int .i64 2]) (by simp [results, Try.results28, go_sem, r0, r1, r2, r3, r4]) rfl
    ⟨_, rfl, HL.out.below bW, bW⟩
set_option maxHeartbeats 4000000 in
theorem rread_bad {S : Nat → Prop} (v u : Value) (l : Lane.Ln) (it : Item.It) (w : World) (h : IsLane S w v l) (hi : IsItem w u it) (hS : SmallL l) (hb65 : it.b.length ≤ 65536) (hl65 : it.l.length ≤ 65536) (hk : it.k = 1) (hlt : ¬ it.q ≤ Lane.last l) (ha : addOf l.p it.q it.i it.t it.b = ⟨l.p, [], false, 2⟩) :
    Calls Try.prog 28 #[v, u] w (RReadIs w (l, 2)) := by
  obtain ⟨A, n, c, B, m, d, ev, hE, hB, hW⟩ := id h
  subst ev
  obtain ⟨LAi, lni, lci, BAi, bni, bci, eu, hli, hbi⟩ := id hi
  subst eu
  obtain ⟨t0, t1, t2, t4⟩ := three_alloc w (.cells #[.slice A n c, .int .i64 l.p.seq, .int .i64 l.p.total, .int .i64 l.p.got, .slice B m d] 27) (.cells #[.int .i64 it.k, .int .i64 it.q, .int .i64 it.e, .int .i64 it.i, .int .i64 it.t, .int .i64 it.c, .slice LAi lni lci, .slice BAi bni bci] 41) (.cells lz 27)
  obtain ⟨W, hWW⟩ : ∃ W, ((w.alloc (.cells #[.slice A n c, .int .i64 l.p.seq, .int .i64 l.p.total, .int .i64 l.p.got, .slice B m d] 27)).alloc (.cells #[.int .i64 it.k, .int .i64 it.q, .int .i64 it.e, .int .i64 it.i, .int .i64 it.t, .int .i64 it.c, .slice LAi lni lci, .slice BAi bni bci] 41)).alloc (.cells lz 27) = W := ⟨_, rfl⟩
  have HSZ : Hid (W.heap.size = w.heap.size + 3) := by rw [← hWW, size_alloc, size_alloc, size_alloc]; exact hidT rfl
  rw [hWW] at t0 t1 t2 t4
  obtain ⟨g, hg⟩ : ∃ g, w.heap.size = g := ⟨_, rfl⟩
  have HG := hidT hg
  rw [hg] at t0 t1 t2
  have HW := hidT hWW
  have T0 := hidT t0
  have T1 := hidT t1
  have T2 := hidT t2
  have T4 := hidT t4
  have HI := hidT hi
  have HS := hidT hS
  have HL := hidT (h.mono (T := Any) fun _ _ => trivial)
  have HLT0 := hidT h.lt
  have HE := hidT hE
  have HBB := hidT hB
  have HLI := hidT hli
  have HBI := hidT hbi
  have HB65 := hidT hb65
  have HL65 := hidT hl65
  have HLT := hidT hlt
  clear hlt
  have HKI := hidT hk
  have d1 : decide (it.k < 1) = false := by simp; omega
  have d2 : decide (3 < it.k) = false := by simp; omega
  have c1 : (it.k == 1) = true := by simp; omega
  clear hk
  obtain ⟨i0, i1, i2, i3, i4⟩ := cells5 t0
  obtain ⟨j0, j1, j2, j3, j4, j5, j6, j7⟩ := cells8 t1
  rw [← HW.out] at i0 i1 i2 i3 i4 j0 j1 j2 j3 j4 j5 j6 j7
  clear t0 t1 t2 t4 hE hB hWW hS h hi hb65 hl65 hli hbi
  go_enter Try.func28, Try.ntmps28
  obtain ⟨K, hK⟩ : ∃ K, Lane.last l = K := ⟨_, rfl⟩
  have HKK := hidT hK
  have HLAST : Hid (∀ m' : Later W, Calls Try.prog 52 #[.agg #[.slice A n c, .int .i64 l.p.seq, .int .i64 l.p.total, .int .i64 l.p.got, .slice B m d]] m'.w (IntIs m'.w K)) := hidT fun m' => rlast_any l A n c B m d m'.w (HE.out.below (bthen T4.out m'.h)) K hK
  have hlt : decide (it.q ≤ K) = false := by have := HLT.out; rw [HKK.out] at this; simp; omega
  clear hK
  go_wp2_with fail
  rw [HW.out]
  rw [HW.out] at i0 i1 i2 i3 i4 j1
  have NE := Later.ne W
  have a0 := Later.cell i0
  have a1 := Later.cell i1
  have a2 := Later.cell i2
  have a3 := Later.cell i3
  have a4 := Later.cell i4
  have b1 := Later.cell j1
  clear hg i0 i1 i2 i3 i4 j0 j1 j2 j3 j4 j5 j6 j7
  refine wp_later (by kernel_rfl) (by kernel_rfl) ?_
  repeat (go_big_quiet_step ((go_at_call 52; exact Later.int (HLAST.out _))))
  refine wpQuiet_nil ?_
  intro w9 hw9
  obtain ⟨⟨_, hb9⟩, rfl⟩ := hw9
  have X0 := hidT (keepH T0.out hb9)
  have X1 := hidT (keepH T1.out hb9)
  have X2 := hidT (keepH T2.out hb9)
  have HBX := hidT (bthen T4.out hb9)
  clear hb9 a0 a1 a2 a3 a4 b1 NE HLAST
  obtain ⟨i0, i1, i2, i3, i4⟩ := cells5 X0.out
  obtain ⟨j0, j1, j2, j3, j4, j5, j6, j7⟩ := cells8 X1.out
  have x2 := X2.out
  have hadd := radd_any l.p B m d it.q it.i it.t BAi bni bci it.b w9 (HBB.out.below HBX.out) (HBI.out.below HBX.out) (by have := HBB.out.1; have := HS.out.2.2; omega) (by have := HBI.out.1; have := HB65.out; omega)
  rw [ha] at hadd
  have HADD := hidT hadd
  clear hadd ha
  go_wp2_with fail
  with_reducible refine HADD.out.mono ?_
  rintro e w5 ⟨PA, pn, pc, SB, sn, sc, rfl, hrp, hrs, hb5⟩
  dsimp only at hrp hrs ⊢
  clear i0 i1 i2 i3 i4 j0 j1 j2 j3 j4 j5 j6 j7 x2 HADD
  have p5 := alloc_at w5 (.cells #[.int .i64 l.p.seq, .int .i64 l.p.total, .int .i64 l.p.got, .slice PA pn pc] 25) _ rfl
  have n5 := nkeep w5 (.cells #[.int .i64 l.p.seq, .int .i64 l.p.total, .int .i64 l.p.got, .slice PA pn pc] 25)
  obtain ⟨W6, hW6⟩ : ∃ W6, w5.alloc (.cells #[.int .i64 l.p.seq, .int .i64 l.p.total, .int .i64 l.p.got, .slice PA pn pc] 25) = W6 := ⟨_, rfl⟩
  obtain ⟨r, hr⟩ : ∃ r, w5.heap.size = r := ⟨_, rfl⟩
  rw [hW6, hr] at p5
  rw [hW6] at n5
  have HW6 := hidT hW6
  have P6 := hidT p5
  have X0 := hidT (keepH (keepH X0.out hb5) n5)
  have X1 := hidT (keepH (keepH X1.out hb5) n5)
  have X2 := hidT (keepH (keepH X2.out hb5) n5)
  have HBX := hidT (bthen HBX.out (bthen hb5 n5))
  have HRP := hidT (hrp.below n5)
  have HRS := hidT (hrs.below n5)
  clear p5 n5 hW6 hrp hrs hb5
  obtain ⟨i0, i1, i2, i3, i4⟩ := cells5 X0.out
  obtain ⟨j0, j1, j2, j3, j4, j5, j6, j7⟩ := cells8 X1.out
  obtain ⟨k0, k1, k2, k3⟩ := cells4 P6.out
  have x2 := X2.out
  rw [← HW6.out] at i0 i1 i2 i3 i4 j0 j1 j2 j3 j4 j5 j6 j7 k0 k1 k2 k3 x2
  have hbx := HBX.out
  rw [← HW6.out] at hbx
  have HBX := hidT hbx
  clear hbx
  go_wp2_with (
    refine wpList_stI rfl 27 _ _ rfl (g + 1 + 1) #[.slice A n c, .int .i64 l.p.seq, .int .i64 l.p.total, .int .i64 l.p.got, .slice B m d] rfl rfl _ _ x2 sizeL rfl (by simp [Value.oneCell']) ?_
    intro wy hgy hbuty hbely)
  obtain ⟨r0, r1, r2, r3, r4⟩ := cells5 hgy
  have hgg := HG.out
  have hsz := HSZ.out
  have bW : Below w.heap.size w wy := hbely _ _ HBX.out (by omega)
  exact bodyPost_ret (v := .tuple #[.agg #[.slice A n c, .int .i64 l.p.seq, .int .i64 l.p.total, .int .i64 l.p.got, .slice B m d], .int .i64 2]) (by simp [results, Try.results28, go_sem, r0, r1, r2, r3, r4]) rfl
    ⟨_, rfl, HL.out.below bW, bW⟩
set_option maxHeartbeats 4000000 in
theorem rread_on {S : Nat → Prop} (v u : Value) (l : Lane.Ln) (it : Item.It) (w : World) (h : IsLane S w v l) (hi : IsItem w u it) (hS : SmallL l) (hb65 : it.b.length ≤ 65536) (hl65 : it.l.length ≤ 65536) (hk : it.k = 1) (hlt : ¬ it.q ≤ Lane.last l) (p' : Pt) (ha : addOf l.p it.q it.i it.t it.b = ⟨p', [], false, 0⟩) :
    Calls Try.prog 28 #[v, u] w (RReadIs w (⟨l.es, p'⟩, 0)) := by
  obtain ⟨A, n, c, B, m, d, ev, hE, hB, hW⟩ := id h
  subst ev
  obtain ⟨LAi, lni, lci, BAi, bni, bci, eu, hli, hbi⟩ := id hi
  subst eu
  obtain ⟨t0, t1, t2, t4⟩ := three_alloc w (.cells #[.slice A n c, .int .i64 l.p.seq, .int .i64 l.p.total, .int .i64 l.p.got, .slice B m d] 27) (.cells #[.int .i64 it.k, .int .i64 it.q, .int .i64 it.e, .int .i64 it.i, .int .i64 it.t, .int .i64 it.c, .slice LAi lni lci, .slice BAi bni bci] 41) (.cells lz 27)
  obtain ⟨W, hWW⟩ : ∃ W, ((w.alloc (.cells #[.slice A n c, .int .i64 l.p.seq, .int .i64 l.p.total, .int .i64 l.p.got, .slice B m d] 27)).alloc (.cells #[.int .i64 it.k, .int .i64 it.q, .int .i64 it.e, .int .i64 it.i, .int .i64 it.t, .int .i64 it.c, .slice LAi lni lci, .slice BAi bni bci] 41)).alloc (.cells lz 27) = W := ⟨_, rfl⟩
  have HSZ : Hid (W.heap.size = w.heap.size + 3) := by rw [← hWW, size_alloc, size_alloc, size_alloc]; exact hidT rfl
  rw [hWW] at t0 t1 t2 t4
  obtain ⟨g, hg⟩ : ∃ g, w.heap.size = g := ⟨_, rfl⟩
  have HG := hidT hg
  rw [hg] at t0 t1 t2
  have HW := hidT hWW
  have T0 := hidT t0
  have T1 := hidT t1
  have T2 := hidT t2
  have T4 := hidT t4
  have HI := hidT hi
  have HS := hidT hS
  have HL := hidT (h.mono (T := Any) fun _ _ => trivial)
  have HLT0 := hidT h.lt
  have HE := hidT hE
  have HBB := hidT hB
  have HLI := hidT hli
  have HBI := hidT hbi
  have HB65 := hidT hb65
  have HL65 := hidT hl65
  have HLT := hidT hlt
  clear hlt
  have HKI := hidT hk
  have d1 : decide (it.k < 1) = false := by simp; omega
  have d2 : decide (3 < it.k) = false := by simp; omega
  have c1 : (it.k == 1) = true := by simp; omega
  clear hk
  obtain ⟨i0, i1, i2, i3, i4⟩ := cells5 t0
  obtain ⟨j0, j1, j2, j3, j4, j5, j6, j7⟩ := cells8 t1
  rw [← HW.out] at i0 i1 i2 i3 i4 j0 j1 j2 j3 j4 j5 j6 j7
  clear t0 t1 t2 t4 hE hB hWW hS h hi hb65 hl65 hli hbi
  go_enter Try.func28, Try.ntmps28
  obtain ⟨K, hK⟩ : ∃ K, Lane.last l = K := ⟨_, rfl⟩
  have HKK := hidT hK
  have HLAST : Hid (∀ m' : Later W, Calls Try.prog 52 #[.agg #[.slice A n c, .int .i64 l.p.seq, .int .i64 l.p.total, .int .i64 l.p.got, .slice B m d]] m'.w (IntIs m'.w K)) := hidT fun m' => rlast_any l A n c B m d m'.w (HE.out.below (bthen T4.out m'.h)) K hK
  have hlt : decide (it.q ≤ K) = false := by have := HLT.out; rw [HKK.out] at this; simp; omega
  clear hK
  go_wp2_with fail
  rw [HW.out]
  rw [HW.out] at i0 i1 i2 i3 i4 j1
  have NE := Later.ne W
  have a0 := Later.cell i0
  have a1 := Later.cell i1
  have a2 := Later.cell i2
  have a3 := Later.cell i3
  have a4 := Later.cell i4
  have b1 := Later.cell j1
  clear hg i0 i1 i2 i3 i4 j0 j1 j2 j3 j4 j5 j6 j7
  refine wp_later (by kernel_rfl) (by kernel_rfl) ?_
  repeat (go_big_quiet_step ((go_at_call 52; exact Later.int (HLAST.out _))))
  refine wpQuiet_nil ?_
  intro w9 hw9
  obtain ⟨⟨_, hb9⟩, rfl⟩ := hw9
  have X0 := hidT (keepH T0.out hb9)
  have X1 := hidT (keepH T1.out hb9)
  have X2 := hidT (keepH T2.out hb9)
  have HBX := hidT (bthen T4.out hb9)
  clear hb9 a0 a1 a2 a3 a4 b1 NE HLAST
  obtain ⟨i0, i1, i2, i3, i4⟩ := cells5 X0.out
  obtain ⟨j0, j1, j2, j3, j4, j5, j6, j7⟩ := cells8 X1.out
  have x2 := X2.out
  have hadd := radd_any l.p B m d it.q it.i it.t BAi bni bci it.b w9 (HBB.out.below HBX.out) (HBI.out.below HBX.out) (by have := HBB.out.1; have := HS.out.2.2; omega) (by have := HBI.out.1; have := HB65.out; omega)
  rw [ha] at hadd
  have HADD := hidT hadd
  clear hadd ha
  go_wp2_with fail
  with_reducible refine HADD.out.mono ?_
  rintro e w5 ⟨PA, pn, pc, SB, sn, sc, rfl, hrp, hrs, hb5⟩
  dsimp only at hrp hrs ⊢
  clear i0 i1 i2 i3 i4 j0 j1 j2 j3 j4 j5 j6 j7 x2 HADD
  have p5 := alloc_at w5 (.cells #[.int .i64 p'.seq, .int .i64 p'.total, .int .i64 p'.got, .slice PA pn pc] 25) _ rfl
  have n5 := nkeep w5 (.cells #[.int .i64 p'.seq, .int .i64 p'.total, .int .i64 p'.got, .slice PA pn pc] 25)
  obtain ⟨W6, hW6⟩ : ∃ W6, w5.alloc (.cells #[.int .i64 p'.seq, .int .i64 p'.total, .int .i64 p'.got, .slice PA pn pc] 25) = W6 := ⟨_, rfl⟩
  obtain ⟨r, hr⟩ : ∃ r, w5.heap.size = r := ⟨_, rfl⟩
  rw [hW6, hr] at p5
  rw [hW6] at n5
  have HW6 := hidT hW6
  have P6 := hidT p5
  have X0 := hidT (keepH (keepH X0.out hb5) n5)
  have X1 := hidT (keepH (keepH X1.out hb5) n5)
  have X2 := hidT (keepH (keepH X2.out hb5) n5)
  have HBX := hidT (bthen HBX.out (bthen hb5 n5))
  have HRP := hidT (hrp.below n5)
  have HRS := hidT (hrs.below n5)
  clear p5 n5 hW6 hrp hrs hb5
  obtain ⟨i0, i1, i2, i3, i4⟩ := cells5 X0.out
  obtain ⟨j0, j1, j2, j3, j4, j5, j6, j7⟩ := cells8 X1.out
  obtain ⟨k0, k1, k2, k3⟩ := cells4 P6.out
  have x2 := X2.out
  rw [← HW6.out] at i0 i1 i2 i3 i4 j0 j1 j2 j3 j4 j5 j6 j7 k0 k1 k2 k3 x2
  have n7 := nkeep W6 (.cells #[.slice A n c, .int .i64 p'.seq, .int .i64 p'.total, .int .i64 p'.got, .slice PA pn pc] 27)
  have p7 := alloc_at W6 (.cells #[.slice A n c, .int .i64 p'.seq, .int .i64 p'.total, .int .i64 p'.got, .slice PA pn pc] 27) _ rfl
  obtain ⟨W7, hW7⟩ : ∃ W7, W6.alloc (.cells #[.slice A n c, .int .i64 p'.seq, .int .i64 p'.total, .int .i64 p'.got, .slice PA pn pc] 27) = W7 := ⟨_, rfl⟩
  have hs6 : W6.heap.size = r + 1 := by rw [← HW6.out, size_alloc, hr]
  rw [hW7, hs6] at p7
  rw [hW7] at n7
  have HW7 : Hid ((w5.alloc (.cells #[.int .i64 p'.seq, .int .i64 p'.total, .int .i64 p'.got, .slice PA pn pc] 25)).alloc (.cells #[.slice A n c, .int .i64 p'.seq, .int .i64 p'.total, .int .i64 p'.got, .slice PA pn pc] 27) = W7) := hidT (by rw [HW6.out]; exact hW7)
  have P7 := hidT p7
  have X2' := hidT (keepH X2.out n7)
  have HBX := hidT (bthen HBX.out n7)
  have HNP := hidT (HRP.out.ne X2.out)
  have HNS := hidT (HRS.out.ne X2.out)
  have HRS := hidT (HRS.out.below n7)
  have HRP := hidT (HRP.out.below n7)
  have HNL : Hid (IsLane (fun b => b ≠ g + 1 + 1) W7 (.agg #[.slice A n c, .int .i64 p'.seq, .int .i64 p'.total, .int .i64 p'.got, .slice PA pn pc]) ⟨l.es, p'⟩) := hidT (by
    obtain ⟨A', n', c', B', m', d', ev, he, _, _⟩ := HLT0.out
    injection ev with ev
    simp only [Array.mk.injEq, List.cons.injEq, Value.slice.injEq, and_true, true_and] at ev
    obtain ⟨⟨rfl, rfl, rfl⟩, _⟩ := ev
    exact ⟨_, _, _, _, _, _, rfl, (he.mono (fun b hb => by have := HG.out; omega)).below HBX.out, HRP.out, HNP.out⟩)
  clear hs6 p7 n7 hW7
  obtain ⟨z0', z1', z2', z3', z4'⟩ := cells5 P7.out
  have x3 := X2'.out
  rw [← HW7.out] at z0' z1' z2' z3' z4' x3
  have hbx := HBX.out
  have hrp := HRP.out
  rw [← HW7.out] at hbx hrp
  have HBX := hidT hbx
  have HRP := hidT hrp
  clear hbx hrp
  cases huu : decide (0 < l.p.got)
  all_goals
    go_wp2_with (
      refine wpList_stI rfl 27 _ _ rfl (g + 1 + 1) #[.slice A n c, .int .i64 p'.seq, .int .i64 p'.total, .int .i64 p'.got, .slice PA pn pc] rfl rfl _ _ x3 sizeL rfl (by simp [Value.oneCell']) ?_
      intro wy hgy hbuty hbely)
    obtain ⟨r0, r1, r2, r3, r4⟩ := cells5 hgy
    have hgg := HG.out
    have hsz := HSZ.out
    have bW : Below w.heap.size w wy := hbely _ _ HBX.out (by omega)
    have hpx := HRP.out.keptS HNP.out (KeptS.but hbuty fun b h => h)
    have hfin : IsLane Any wy (.agg #[.slice A n c, .int .i64 p'.seq, .int .i64 p'.total, .int .i64 p'.got, .slice PA pn pc]) ⟨l.es, p'⟩ := ⟨_, _, _, _, _, _, rfl, (HE.out.mono (T := Any) (fun _ _ => trivial)).below bW, hpx, Within.any _ _⟩
    exact bodyPost_ret (v := .tuple #[.agg #[.slice A n c, .int .i64 p'.seq, .int .i64 p'.total, .int .i64 p'.got, .slice PA pn pc], .int .i64 0]) (by simp [results, Try.results28, go_sem, r0, r1, r2, r3, r4]) rfl
      ⟨_, rfl, hfin, bW⟩
end Go.Proofs.Ytmlmkkfieeaejaa
/- What the document's Read of a message's last piece comes to. -/
namespace Go.Proofs.Ytmlmkkfieeaejaa
open Go.RowKit
set_option linter.unusedVariables false

set_option maxHeartbeats 4000000 in
theorem rread_whole_n {S : Nat → Prop} (v u : Value) (l : Lane.Ln) (it : Item.It) (w : World) (h : IsLane S w v l) (hi : IsItem w u it) (hS : SmallL l) (hb65 : it.b.length ≤ 65536) (hl65 : it.l.length ≤ 65536) (hk : it.k = 1) (hu : ¬ 0 < l.p.got) (hlt : ¬ it.q ≤ Lane.last l) (p' : Pt) (s : List UInt8) (ha : addOf l.p it.q it.i it.t it.b = ⟨p', s, true, 0⟩) :
    Calls Try.prog 28 #[v, u] w (RReadIs w (⟨l.es ++ [⟨1, it.q, s, [], false⟩], p'⟩, 0)) := by
  obtain ⟨A, n, c, B, m, d, ev, hE, hB, hW⟩ := id h
  subst ev
  obtain ⟨LAi, lni, lci, BAi, bni, bci, eu, hli, hbi⟩ := id hi
  subst eu
  obtain ⟨t0, t1, t2, t4⟩ := three_alloc w (.cells #[.slice A n c, .int .i64 l.p.seq, .int .i64 l.p.total, .int .i64 l.p.got, .slice B m d] 27) (.cells #[.int .i64 it.k, .int .i64 it.q, .int .i64 it.e, .int .i64 it.i, .int .i64 it.t, .int .i64 it.c, .slice LAi lni lci, .slice BAi bni bci] 41) (.cells lz 27)
  obtain ⟨W, hWW⟩ : ∃ W, ((w.alloc (.cells #[.slice A n c, .int .i64 l.p.seq, .int .i64 l.p.total, .int .i64 l.p.got, .slice B m d] 27)).alloc (.cells #[.int .i64 it.k, .int .i64 it.q, .int .i64 it.e, .int .i64 it.i, .int .i64 it.t, .int .i64 it.c, .slice LAi lni lci, .slice BAi bni bci] 41)).alloc (.cells lz 27) = W := ⟨_, rfl⟩
  have HSZ : Hid (W.heap.size = w.heap.size + 3) := by rw [← hWW, size_alloc, size_alloc, size_alloc]; exact hidT rfl
  rw [hWW] at t0 t1 t2 t4
  obtain ⟨g, hg⟩ : ∃ g, w.heap.size = g := ⟨_, rfl⟩
  have HG := hidT hg
  rw [hg] at t0 t1 t2
  have HW := hidT hWW
  have T0 := hidT t0
  have T1 := hidT t1
  have T2 := hidT t2
  have T4 := hidT t4
  have HI := hidT hi
  have HS := hidT hS
  have HL := hidT (h.mono (T := Any) fun _ _ => trivial)
  have HLT0 := hidT h.lt
  have HE := hidT hE
  have HBB := hidT hB
  have HLI := hidT hli
  have HBI := hidT hbi
  have HB65 := hidT hb65
  have HL65 := hidT hl65
  have HLT := hidT hlt
  clear hlt
  have HUU := hidT hu
  clear hu
  have HKI := hidT hk
  have d1 : decide (it.k < 1) = false := by simp; omega
  have d2 : decide (3 < it.k) = false := by simp; omega
  have c1 : (it.k == 1) = true := by simp; omega
  clear hk
  obtain ⟨i0, i1, i2, i3, i4⟩ := cells5 t0
  obtain ⟨j0, j1, j2, j3, j4, j5, j6, j7⟩ := cells8 t1
  rw [← HW.out] at i0 i1 i2 i3 i4 j0 j1 j2 j3 j4 j5 j6 j7
  clear t0 t1 t2 t4 hE hB hWW hS h hi hb65 hl65 hli hbi
  go_enter Try.func28, Try.ntmps28
  obtain ⟨K, hK⟩ : ∃ K, Lane.last l = K := ⟨_, rfl⟩
  have HKK := hidT hK
  have HLAST : Hid (∀ m' : Later W, Calls Try.prog 52 #[.agg #[.slice A n c, .int .i64 l.p.seq, .int .i64 l.p.total, .int .i64 l.p.got, .slice B m d]] m'.w (IntIs m'.w K)) := hidT fun m' => rlast_any l A n c B m d m'.w (HE.out.below (bthen T4.out m'.h)) K hK
  have hlt : decide (it.q ≤ K) = false := by have := HLT.out; rw [HKK.out] at this; simp; omega
  clear hK
  go_wp2_with fail
  rw [HW.out]
  rw [HW.out] at i0 i1 i2 i3 i4 j1
  have NE := Later.ne W
  have a0 := Later.cell i0
  have a1 := Later.cell i1
  have a2 := Later.cell i2
  have a3 := Later.cell i3
  have a4 := Later.cell i4
  have b1 := Later.cell j1
  clear hg i0 i1 i2 i3 i4 j0 j1 j2 j3 j4 j5 j6 j7
  refine wp_later (by kernel_rfl) (by kernel_rfl) ?_
  repeat (go_big_quiet_step ((go_at_call 52; exact Later.int (HLAST.out _))))
  refine wpQuiet_nil ?_
  intro w9 hw9
  obtain ⟨⟨_, hb9⟩, rfl⟩ := hw9
  have X0 := hidT (keepH T0.out hb9)
  have X1 := hidT (keepH T1.out hb9)
  have X2 := hidT (keepH T2.out hb9)
  have HBX := hidT (bthen T4.out hb9)
  clear hb9 a0 a1 a2 a3 a4 b1 NE HLAST
  obtain ⟨i0, i1, i2, i3, i4⟩ := cells5 X0.out
  obtain ⟨j0, j1, j2, j3, j4, j5, j6, j7⟩ := cells8 X1.out
  have x2 := X2.out
  have hadd := radd_any l.p B m d it.q it.i it.t BAi bni bci it.b w9 (HBB.out.below HBX.out) (HBI.out.below HBX.out) (by have := HBB.out.1; have := HS.out.2.2; omega) (by have := HBI.out.1; have := HB65.out; omega)
  rw [ha] at hadd
  have HADD := hidT hadd
  clear hadd ha
  go_wp2_with fail
  with_reducible refine HADD.out.mono ?_
  rintro e w5 ⟨PA, pn, pc, SB, sn, sc, rfl, hrp, hrs, hb5⟩
  dsimp only at hrp hrs ⊢
  clear i0 i1 i2 i3 i4 j0 j1 j2 j3 j4 j5 j6 j7 x2 HADD
  have p5 := alloc_at w5 (.cells #[.int .i64 p'.seq, .int .i64 p'.total, .int .i64 p'.got, .slice PA pn pc] 25) _ rfl
  have n5 := nkeep w5 (.cells #[.int .i64 p'.seq, .int .i64 p'.total, .int .i64 p'.got, .slice PA pn pc] 25)
  obtain ⟨W6, hW6⟩ : ∃ W6, w5.alloc (.cells #[.int .i64 p'.seq, .int .i64 p'.total, .int .i64 p'.got, .slice PA pn pc] 25) = W6 := ⟨_, rfl⟩
  obtain ⟨r, hr⟩ : ∃ r, w5.heap.size = r := ⟨_, rfl⟩
  rw [hW6, hr] at p5
  rw [hW6] at n5
  have HW6 := hidT hW6
  have P6 := hidT p5
  have X0 := hidT (keepH (keepH X0.out hb5) n5)
  have X1 := hidT (keepH (keepH X1.out hb5) n5)
  have X2 := hidT (keepH (keepH X2.out hb5) n5)
  have HBX := hidT (bthen HBX.out (bthen hb5 n5))
  have HRP := hidT (hrp.below n5)
  have HRS := hidT (hrs.below n5)
  clear p5 n5 hW6 hrp hrs hb5
  obtain ⟨i0, i1, i2, i3, i4⟩ := cells5 X0.out
  obtain ⟨j0, j1, j2, j3, j4, j5, j6, j7⟩ := cells8 X1.out
  obtain ⟨k0, k1, k2, k3⟩ := cells4 P6.out
  have x2 := X2.out
  rw [← HW6.out] at i0 i1 i2 i3 i4 j0 j1 j2 j3 j4 j5 j6 j7 k0 k1 k2 k3 x2
  have n7 := nkeep W6 (.cells #[.slice A n c, .int .i64 p'.seq, .int .i64 p'.total, .int .i64 p'.got, .slice PA pn pc] 27)
  have p7 := alloc_at W6 (.cells #[.slice A n c, .int .i64 p'.seq, .int .i64 p'.total, .int .i64 p'.got, .slice PA pn pc] 27) _ rfl
  obtain ⟨W7, hW7⟩ : ∃ W7, W6.alloc (.cells #[.slice A n c, .int .i64 p'.seq, .int .i64 p'.total, .int .i64 p'.got, .slice PA pn pc] 27) = W7 := ⟨_, rfl⟩
  have hs6 : W6.heap.size = r + 1 := by rw [← HW6.out, size_alloc, hr]
  rw [hW7, hs6] at p7
  rw [hW7] at n7
  have HW7 : Hid ((w5.alloc (.cells #[.int .i64 p'.seq, .int .i64 p'.total, .int .i64 p'.got, .slice PA pn pc] 25)).alloc (.cells #[.slice A n c, .int .i64 p'.seq, .int .i64 p'.total, .int .i64 p'.got, .slice PA pn pc] 27) = W7) := hidT (by rw [HW6.out]; exact hW7)
  have P7 := hidT p7
  have X2' := hidT (keepH X2.out n7)
  have HBX := hidT (bthen HBX.out n7)
  have HNP := hidT (HRP.out.ne X2.out)
  have HNS := hidT (HRS.out.ne X2.out)
  have HRS := hidT (HRS.out.below n7)
  have HRP := hidT (HRP.out.below n7)
  have HNL : Hid (IsLane (fun b => b ≠ g + 1 + 1) W7 (.agg #[.slice A n c, .int .i64 p'.seq, .int .i64 p'.total, .int .i64 p'.got, .slice PA pn pc]) ⟨l.es, p'⟩) := hidT (by
    obtain ⟨A', n', c', B', m', d', ev, he, _, _⟩ := HLT0.out
    injection ev with ev
    simp only [Array.mk.injEq, List.cons.injEq, Value.slice.injEq, and_true, true_and] at ev
    obtain ⟨⟨rfl, rfl, rfl⟩, _⟩ := ev
    exact ⟨_, _, _, _, _, _, rfl, (he.mono (fun b hb => by have := HG.out; omega)).below HBX.out, HRP.out, HNP.out⟩)
  clear hs6 p7 n7 hW7
  obtain ⟨z0', z1', z2', z3', z4'⟩ := cells5 P7.out
  have x3 := X2'.out
  rw [← HW7.out] at z0' z1' z2' z3' z4' x3
  have hen : IsEn (fun b => b ≠ g + 1 + 1) W7 (.agg #[.int .i64 1, .int .i64 it.q, .slice SB sn sc, .slice none 0 0, .bool false]) ⟨1, it.q, s, [], false⟩ := ⟨SB, sn, sc, none, 0, 0, rfl, HRS.out, RdV.nil_ _, HNS.out, Within.zero _ _⟩
  have HCALW := hidT (with_any (T := fun b => b ≠ g + 1 + 1) _ _ ⟨l.es, p'⟩ ⟨1, it.q, s, [], false⟩ W7 HNL.out hen HS.out.1 (fun b h => h) (fun b h => h) (fun b h => by have := blk_lt X2'.out; omega))
  have huu : decide (0 < l.p.got) = false := by have := HUU.out; simp; omega
  clear hen
  go_wp2_with fail
  rw [HW7.out]
  clear hr i0 i1 i2 i3 i4 j0 j1 j2 j3 j4 j5 j6 j7 k0 k1 k2 k3 x2 z0' z1' z2' z3' z4' x3
  with_reducible refine HCALW.out.mono ?_
  rintro e w10 ⟨v10, rfl, hl10, hb10⟩
  obtain ⟨q10, rfl, hs10, ha10⟩ := hl10.cells
  have x4 := keepH X2'.out hb10
  have HL10 := hidT hl10
  have HB10 := hidT (bthen HBX.out hb10)
  clear hl10 hb10
  go_wp2_with (
    refine wpList_stI rfl 27 _ _ rfl (g + 1 + 1) q10 rfl rfl _ _ x4 (by rw [hs10]; exact sizeL) (by rw [hs10]; rfl) ha10 ?_
    intro wy hgy hbuty hbely)
  have hgg := HG.out
  have hsz := HSZ.out
  obtain ⟨An, nn, cn, Bn, mn, dn, ev, _, _, _⟩ := id HL10.out
  injection ev with ev
  subst ev
  obtain ⟨r0, r1, r2, r3, r4⟩ := cells5 hgy
  have hfin := (HL10.out.keptS (KeptS.but hbuty fun b h => h)).mono (T := Any) fun _ _ => trivial
  exact bodyPost_ret (v := .tuple #[.agg #[.slice An nn cn, .int .i64 p'.seq, .int .i64 p'.total, .int .i64 p'.got, .slice Bn mn dn], .int .i64 0]) (by simp [results, Try.results28, go_sem, r0, r1, r2, r3, r4]) rfl
    ⟨_, rfl, hfin, hbely _ _ HB10.out (by omega)⟩

set_option maxHeartbeats 4000000 in
theorem rread_whole_u {S : Nat → Prop} (v u : Value) (l : Lane.Ln) (it : Item.It) (w : World) (h : IsLane S w v l) (hi : IsItem w u it) (hS : SmallL l) (hb65 : it.b.length ≤ 65536) (hl65 : it.l.length ≤ 65536) (hk : it.k = 1) (hu : 0 < l.p.got) (hlt : ¬ it.q ≤ Lane.last l) (p' : Pt) (s : List UInt8) (ha : addOf l.p it.q it.i it.t it.b = ⟨p', s, true, 0⟩) :
    Calls Try.prog 28 #[v, u] w (RReadIs w (⟨l.es ++ [⟨1, l.p.seq, s, [], false⟩], p'⟩, 0)) := by
  obtain ⟨A, n, c, B, m, d, ev, hE, hB, hW⟩ := id h
  subst ev
  obtain ⟨LAi, lni, lci, BAi, bni, bci, eu, hli, hbi⟩ := id hi
  subst eu
  obtain ⟨t0, t1, t2, t4⟩ := three_alloc w (.cells #[.slice A n c, .int .i64 l.p.seq, .int .i64 l.p.total, .int .i64 l.p.got, .slice B m d] 27) (.cells #[.int .i64 it.k, .int .i64 it.q, .int .i64 it.e, .int .i64 it.i, .int .i64 it.t, .int .i64 it.c, .slice LAi lni lci, .slice BAi bni bci] 41) (.cells lz 27)
  obtain ⟨W, hWW⟩ : ∃ W, ((w.alloc (.cells #[.slice A n c, .int .i64 l.p.seq, .int .i64 l.p.total, .int .i64 l.p.got, .slice B m d] 27)).alloc (.cells #[.int .i64 it.k, .int .i64 it.q, .int .i64 it.e, .int .i64 it.i, .int .i64 it.t, .int .i64 it.c, .slice LAi lni lci, .slice BAi bni bci] 41)).alloc (.cells lz 27) = W := ⟨_, rfl⟩
  have HSZ : Hid (W.heap.size = w.heap.size + 3) := by rw [← hWW, size_alloc, size_alloc, size_alloc]; exact hidT rfl
  rw [hWW] at t0 t1 t2 t4
  obtain ⟨g, hg⟩ : ∃ g, w.heap.size = g := ⟨_, rfl⟩
  have HG := hidT hg
  rw [hg] at t0 t1 t2
  have HW := hidT hWW
  have T0 := hidT t0
  have T1 := hidT t1
  have T2 := hidT t2
  have T4 := hidT t4
  have HI := hidT hi
  have HS := hidT hS
  have HL := hidT (h.mono (T := Any) fun _ _ => trivial)
  have HLT0 := hidT h.lt
  have HE := hidT hE
  have HBB := hidT hB
  have HLI := hidT hli
  have HBI := hidT hbi
  have HB65 := hidT hb65
  have HL65 := hidT hl65
  have HLT := hidT hlt
  clear hlt
  have HUU := hidT hu
  clear hu
  have HKI := hidT hk
  have d1 : decide (it.k < 1) = false := by simp; omega
  have d2 : decide (3 < it.k) = false := by simp; omega
  have c1 : (it.k == 1) = true := by simp; omega
  clear hk
  obtain ⟨i0, i1, i2, i3, i4⟩ := cells5 t0
  obtain ⟨j0, j1, j2, j3, j4, j5, j6, j7⟩ := cells8 t1
  rw [← HW.out] at i0 i1 i2 i3 i4 j0 j1 j2 j3 j4 j5 j6 j7
  clear t0 t1 t2 t4 hE hB hWW hS h hi hb65 hl65 hli hbi
  go_enter Try.func28, Try.ntmps28
  obtain ⟨K, hK⟩ : ∃ K, Lane.last l = K := ⟨_, rfl⟩
  have HKK := hidT hK
  have HLAST : Hid (∀ m' : Later W, Calls Try.prog 52 #[.agg #[.slice A n c, .int .i64 l.p.seq, .int .i64 l.p.total, .int .i64 l.p.got, .slice B m d]] m'.w (IntIs m'.w K)) := hidT fun m' => rlast_any l A n c B m d m'.w (HE.out.below (bthen T4.out m'.h)) K hK
  have hlt : decide (it.q ≤ K) = false := by have := HLT.out; rw [HKK.out] at this; simp; omega
  clear hK
  go_wp2_with fail
  rw [HW.out]
  rw [HW.out] at i0 i1 i2 i3 i4 j1
  have NE := Later.ne W
  have a0 := Later.cell i0
  have a1 := Later.cell i1
  have a2 := Later.cell i2
  have a3 := Later.cell i3
  have a4 := Later.cell i4
  have b1 := Later.cell j1
  clear hg i0 i1 i2 i3 i4 j0 j1 j2 j3 j4 j5 j6 j7
  refine wp_later (by kernel_rfl) (by kernel_rfl) ?_
  repeat (go_big_quiet_step ((go_at_call 52; exact Later.int (HLAST.out _))))
  refine wpQuiet_nil ?_
  intro w9 hw9
  obtain ⟨⟨_, hb9⟩, rfl⟩ := hw9
  have X0 := hidT (keepH T0.out hb9)
  have X1 := hidT (keepH T1.out hb9)
  have X2 := hidT (keepH T2.out hb9)
  have HBX := hidT (bthen T4.out hb9)
  clear hb9 a0 a1 a2 a3 a4 b1 NE HLAST
  obtain ⟨i0, i1, i2, i3, i4⟩ := cells5 X0.out
  obtain ⟨j0, j1, j2, j3, j4, j5, j6, j7⟩ := cells8 X1.out
  have x2 := X2.out
  have hadd := radd_any l.p B m d it.q it.i it.t BAi bni bci it.b w9 (HBB.out.below HBX.out) (HBI.out.below HBX.out) (by have := HBB.out.1; have := HS.out.2.2; omega) (by have := HBI.out.1; have := HB65.out; omega)
  rw [ha] at hadd
  have HADD := hidT hadd
  clear hadd ha
  go_wp2_with fail
  with_reducible refine HADD.out.mono ?_
  rintro e w5 ⟨PA, pn, pc, SB, sn, sc, rfl, hrp, hrs, hb5⟩
  dsimp only at hrp hrs ⊢
  clear i0 i1 i2 i3 i4 j0 j1 j2 j3 j4 j5 j6 j7 x2 HADD
  have p5 := alloc_at w5 (.cells #[.int .i64 p'.seq, .int .i64 p'.total, .int .i64 p'.got, .slice PA pn pc] 25) _ rfl
  have n5 := nkeep w5 (.cells #[.int .i64 p'.seq, .int .i64 p'.total, .int .i64 p'.got, .slice PA pn pc] 25)
  obtain ⟨W6, hW6⟩ : ∃ W6, w5.alloc (.cells #[.int .i64 p'.seq, .int .i64 p'.total, .int .i64 p'.got, .slice PA pn pc] 25) = W6 := ⟨_, rfl⟩
  obtain ⟨r, hr⟩ : ∃ r, w5.heap.size = r := ⟨_, rfl⟩
  rw [hW6, hr] at p5
  rw [hW6] at n5
  have HW6 := hidT hW6
  have P6 := hidT p5
  have X0 := hidT (keepH (keepH X0.out hb5) n5)
  have X1 := hidT (keepH (keepH X1.out hb5) n5)
  have X2 := hidT (keepH (keepH X2.out hb5) n5)
  have HBX := hidT (bthen HBX.out (bthen hb5 n5))
  have HRP := hidT (hrp.below n5)
  have HRS := hidT (hrs.below n5)
  clear p5 n5 hW6 hrp hrs hb5
  obtain ⟨i0, i1, i2, i3, i4⟩ := cells5 X0.out
  obtain ⟨j0, j1, j2, j3, j4, j5, j6, j7⟩ := cells8 X1.out
  obtain ⟨k0, k1, k2, k3⟩ := cells4 P6.out
  have x2 := X2.out
  rw [← HW6.out] at i0 i1 i2 i3 i4 j0 j1 j2 j3 j4 j5 j6 j7 k0 k1 k2 k3 x2
  have n7 := nkeep W6 (.cells #[.slice A n c, .int .i64 p'.seq, .int .i64 p'.total, .int .i64 p'.got, .slice PA pn pc] 27)
  have p7 := alloc_at W6 (.cells #[.slice A n c, .int .i64 p'.seq, .int .i64 p'.total, .int .i64 p'.got, .slice PA pn pc] 27) _ rfl
  obtain ⟨W7, hW7⟩ : ∃ W7, W6.alloc (.cells #[.slice A n c, .int .i64 p'.seq, .int .i64 p'.total, .int .i64 p'.got, .slice PA pn pc] 27) = W7 := ⟨_, rfl⟩
  have hs6 : W6.heap.size = r + 1 := by rw [← HW6.out, size_alloc, hr]
  rw [hW7, hs6] at p7
  rw [hW7] at n7
  have HW7 : Hid ((w5.alloc (.cells #[.int .i64 p'.seq, .int .i64 p'.total, .int .i64 p'.got, .slice PA pn pc] 25)).alloc (.cells #[.slice A n c, .int .i64 p'.seq, .int .i64 p'.total, .int .i64 p'.got, .slice PA pn pc] 27) = W7) := hidT (by rw [HW6.out]; exact hW7)
  have P7 := hidT p7
  have X2' := hidT (keepH X2.out n7)
  have HBX := hidT (bthen HBX.out n7)
  have HNP := hidT (HRP.out.ne X2.out)
  have HNS := hidT (HRS.out.ne X2.out)
  have HRS := hidT (HRS.out.below n7)
  have HRP := hidT (HRP.out.below n7)
  have HNL : Hid (IsLane (fun b => b ≠ g + 1 + 1) W7 (.agg #[.slice A n c, .int .i64 p'.seq, .int .i64 p'.total, .int .i64 p'.got, .slice PA pn pc]) ⟨l.es, p'⟩) := hidT (by
    obtain ⟨A', n', c', B', m', d', ev, he, _, _⟩ := HLT0.out
    injection ev with ev
    simp only [Array.mk.injEq, List.cons.injEq, Value.slice.injEq, and_true, true_and] at ev
    obtain ⟨⟨rfl, rfl, rfl⟩, _⟩ := ev
    exact ⟨_, _, _, _, _, _, rfl, (he.mono (fun b hb => by have := HG.out; omega)).below HBX.out, HRP.out, HNP.out⟩)
  clear hs6 p7 n7 hW7
  obtain ⟨z0', z1', z2', z3', z4'⟩ := cells5 P7.out
  have x3 := X2'.out
  rw [← HW7.out] at z0' z1' z2' z3' z4' x3
  have hen : IsEn (fun b => b ≠ g + 1 + 1) W7 (.agg #[.int .i64 1, .int .i64 l.p.seq, .slice SB sn sc, .slice none 0 0, .bool false]) ⟨1, l.p.seq, s, [], false⟩ := ⟨SB, sn, sc, none, 0, 0, rfl, HRS.out, RdV.nil_ _, HNS.out, Within.zero _ _⟩
  have HCALW := hidT (with_any (T := fun b => b ≠ g + 1 + 1) _ _ ⟨l.es, p'⟩ ⟨1, l.p.seq, s, [], false⟩ W7 HNL.out hen HS.out.1 (fun b h => h) (fun b h => h) (fun b h => by have := blk_lt X2'.out; omega))
  have huu : decide (0 < l.p.got) = true := by have := HUU.out; simp; omega
  clear hen
  go_wp2_with fail
  rw [HW7.out]
  clear hr i0 i1 i2 i3 i4 j0 j1 j2 j3 j4 j5 j6 j7 k0 k1 k2 k3 x2 z0' z1' z2' z3' z4' x3
  with_reducible refine HCALW.out.mono ?_
  rintro e w10 ⟨v10, rfl, hl10, hb10⟩
  obtain ⟨q10, rfl, hs10, ha10⟩ := hl10.cells
  have x4 := keepH X2'.out hb10
  have HL10 := hidT hl10
  have HB10 := hidT (bthen HBX.out hb10)
  clear hl10 hb10
  go_wp2_with (
    refine wpList_stI rfl 27 _ _ rfl (g + 1 + 1) q10 rfl rfl _ _ x4 (by rw [hs10]; exact sizeL) (by rw [hs10]; rfl) ha10 ?_
    intro wy hgy hbuty hbely)
  have hgg := HG.out
  have hsz := HSZ.out
  obtain ⟨An, nn, cn, Bn, mn, dn, ev, _, _, _⟩ := id HL10.out
  injection ev with ev
  subst ev
  obtain ⟨r0, r1, r2, r3, r4⟩ := cells5 hgy
  have hfin := (HL10.out.keptS (KeptS.but hbuty fun b h => h)).mono (T := Any) fun _ _ => trivial
  exact bodyPost_ret (v := .tuple #[.agg #[.slice An nn cn, .int .i64 p'.seq, .int .i64 p'.total, .int .i64 p'.got, .slice Bn mn dn], .int .i64 0]) (by simp [results, Try.results28, go_sem, r0, r1, r2, r3, r4]) rfl
    ⟨_, rfl, hfin, hbely _ _ HB10.out (by omega)⟩
end Go.Proofs.Ytmlmkkfieeaejaa
/- What the document's Read of a token comes to. -/
namespace Go.Proofs.Ytmlmkkfieeaejaa
open Go.RowKit
set_option linter.unusedVariables false

set_option maxHeartbeats 4000000 in
theorem rread_under2 {S : Nat → Prop} (v u : Value) (l : Lane.Ln) (it : Item.It) (w : World) (h : IsLane S w v l) (hi : IsItem w u it) (hS : SmallL l) (hb65 : it.b.length ≤ 65536) (hl65 : it.l.length ≤ 65536) (hk : it.k = 2) (hu : 0 < l.p.got) (hlt : ¬ it.q ≤ Lane.last l) :
    Calls Try.prog 28 #[v, u] w (RReadIs w (l, 2)) := by
  obtain ⟨A, n, c, B, m, d, ev, hE, hB, hW⟩ := id h
  subst ev
  obtain ⟨LAi, lni, lci, BAi, bni, bci, eu, hli, hbi⟩ := id hi
  subst eu
  obtain ⟨t0, t1, t2, t4⟩ := three_alloc w (.cells #[.slice A n c, .int .i64 l.p.seq, .int .i64 l.p.total, .int .i64 l.p.got, .slice B m d] 27) (.cells #[.int .i64 it.k, .int .i64 it.q, .int .i64 it.e, .int .i64 it.i, .int .i64 it.t, .int .i64 it.c, .slice LAi lni lci, .slice BAi bni bci] 41) (.cells lz 27)
  obtain ⟨W, hWW⟩ : ∃ W, ((w.alloc (.cells #[.slice A n c, .int .i64 l.p.seq, .int .i64 l.p.total, .int .i64 l.p.got, .slice B m d] 27)).alloc (.cells #[.int .i64 it.k, .int .i64 it.q, .int .i64 it.e, .int .i64 it.i, .int .i64 it.t, .int .i64 it.c, .slice LAi lni lci, .slice BAi bni bci] 41)).alloc (.cells lz 27) = W := ⟨_, rfl⟩
  have HSZ : Hid (W.heap.size = w.heap.size + 3) := by rw [← hWW, size_alloc, size_alloc, size_alloc]; exact hidT rfl
  rw [hWW] at t0 t1 t2 t4
  obtain ⟨g, hg⟩ : ∃ g, w.heap.size = g := ⟨_, rfl⟩
  have HG := hidT hg
  rw [hg] at t0 t1 t2
  have HW := hidT hWW
  have T0 := hidT t0
  have T1 := hidT t1
  have T2 := hidT t2
  have T4 := hidT t4
  have HI := hidT hi
  have HS := hidT hS
  have HL := hidT (h.mono (T := Any) fun _ _ => trivial)
  have HLT0 := hidT h.lt
  have HE := hidT hE
  have HBB := hidT hB
  have HLI := hidT hli
  have HBI := hidT hbi
  have HB65 := hidT hb65
  have HL65 := hidT hl65
  have HLT := hidT hlt
  clear hlt
  have HUU := hidT hu
  clear hu
  have HKI := hidT hk
  have d1 : decide (it.k < 1) = false := by simp; omega
  have d2 : decide (3 < it.k) = false := by simp; omega
  have c1 : (it.k == 1) = false := by simp; omega
  have c2 : (it.k == 2) = true := by simp; omega
  clear hk
  obtain ⟨i0, i1, i2, i3, i4⟩ := cells5 t0
  obtain ⟨j0, j1, j2, j3, j4, j5, j6, j7⟩ := cells8 t1
  rw [← HW.out] at i0 i1 i2 i3 i4 j0 j1 j2 j3 j4 j5 j6 j7
  clear t0 t1 t2 t4 hE hB hWW hS h hi hb65 hl65 hli hbi
  go_enter Try.func28, Try.ntmps28
  obtain ⟨K, hK⟩ : ∃ K, Lane.last l = K := ⟨_, rfl⟩
  have HKK := hidT hK
  have HLAST : Hid (∀ m' : Later W, Calls Try.prog 52 #[.agg #[.slice A n c, .int .i64 l.p.seq, .int .i64 l.p.total, .int .i64 l.p.got, .slice B m d]] m'.w (IntIs m'.w K)) := hidT fun m' => rlast_any l A n c B m d m'.w (HE.out.below (bthen T4.out m'.h)) K hK
  have hlt : decide (it.q ≤ K) = false := by have := HLT.out; rw [HKK.out] at this; simp; omega
  clear hK
  go_wp2_with fail
  rw [HW.out]
  rw [HW.out] at i0 i1 i2 i3 i4 j1
  have NE := Later.ne W
  have a0 := Later.cell i0
  have a1 := Later.cell i1
  have a2 := Later.cell i2
  have a3 := Later.cell i3
  have a4 := Later.cell i4
  have b1 := Later.cell j1
  clear hg i0 i1 i2 i3 i4 j0 j1 j2 j3 j4 j5 j6 j7
  refine wp_later (by kernel_rfl) (by kernel_rfl) ?_
  repeat (go_big_quiet_step ((go_at_call 52; exact Later.int (HLAST.out _))))
  refine wpQuiet_nil ?_
  intro w9 hw9
  obtain ⟨⟨_, hb9⟩, rfl⟩ := hw9
  have X0 := hidT (keepH T0.out hb9)
  have X1 := hidT (keepH T1.out hb9)
  have X2 := hidT (keepH T2.out hb9)
  have HBX := hidT (bthen T4.out hb9)
  clear hb9 a0 a1 a2 a3 a4 b1 NE HLAST
  obtain ⟨i0, i1, i2, i3, i4⟩ := cells5 X0.out
  obtain ⟨j0, j1, j2, j3, j4, j5, j6, j7⟩ := cells8 X1.out
  have x2 := X2.out
  have huu : decide (0 < l.p.got) = true := by have := HUU.out; simp; omega
  go_wp2_with (
    refine wpList_stI rfl 27 _ _ rfl (g + 1 + 1) #[.slice A n c, .int .i64 l.p.seq, .int .i64 l.p.total, .int .i64 l.p.got, .slice B m d] rfl rfl _ _ x2 sizeL rfl (by simp [Value.oneCell']) ?_
    intro wy hgy hbuty hbely)
  obtain ⟨r0, r1, r2, r3, r4⟩ := cells5 hgy
  have hgg := HG.out
  have hsz := HSZ.out
  have bW : Below w.heap.size w wy := hbely _ _ HBX.out (by omega)
  exact bodyPost_ret (v := .tuple #[.agg #[.slice A n c, .int .i64 l.p.seq, .int .i64 l.p.total, .int .i64 l.p.got, .slice B m d], .int .i64 2]) (by simp [results, Try.results28, go_sem, r0, r1, r2, r3, r4]) rfl
    ⟨_, rfl, HL.out.below bW, bW⟩
set_option maxHeartbeats 4000000 in
theorem rread_under3 {S : Nat → Prop} (v u : Value) (l : Lane.Ln) (it : Item.It) (w : World) (h : IsLane S w v l) (hi : IsItem w u it) (hS : SmallL l) (hb65 : it.b.length ≤ 65536) (hl65 : it.l.length ≤ 65536) (hk : it.k = 3) (hu : 0 < l.p.got) (hlt : ¬ it.q ≤ Lane.last l) :
    Calls Try.prog 28 #[v, u] w (RReadIs w (l, 2)) := by
  obtain ⟨A, n, c, B, m, d, ev, hE, hB, hW⟩ := id h
  subst ev
  obtain ⟨LAi, lni, lci, BAi, bni, bci, eu, hli, hbi⟩ := id hi
  subst eu
  obtain ⟨t0, t1, t2, t4⟩ := three_alloc w (.cells #[.slice A n c, .int .i64 l.p.seq, .int .i64 l.p.total, .int .i64 l.p.got, .slice B m d] 27) (.cells #[.int .i64 it.k, .int .i64 it.q, .int .i64 it.e, .int .i64 it.i, .int .i64 it.t, .int .i64 it.c, .slice LAi lni lci, .slice BAi bni bci] 41) (.cells lz 27)
  obtain ⟨W, hWW⟩ : ∃ W, ((w.alloc (.cells #[.slice A n c, .int .i64 l.p.seq, .int .i64 l.p.total, .int .i64 l.p.got, .slice B m d] 27)).alloc (.cells #[.int .i64 it.k, .int .i64 it.q, .int .i64 it.e, .int .i64 it.i, .int .i64 it.t, .int .i64 it.c, .slice LAi lni lci, .slice BAi bni bci] 41)).alloc (.cells lz 27) = W := ⟨_, rfl⟩
  have HSZ : Hid (W.heap.size = w.heap.size + 3) := by rw [← hWW, size_alloc, size_alloc, size_alloc]; exact hidT rfl
  rw [hWW] at t0 t1 t2 t4
  obtain ⟨g, hg⟩ : ∃ g, w.heap.size = g := ⟨_, rfl⟩
  have HG := hidT hg
  rw [hg] at t0 t1 t2
  have HW := hidT hWW
  have T0 := hidT t0
  have T1 := hidT t1
  have T2 := hidT t2
  have T4 := hidT t4
  have HI := hidT hi
  have HS := hidT hS
  have HL := hidT (h.mono (T := Any) fun _ _ => trivial)
  have HLT0 := hidT h.lt
  have HE := hidT hE
  have HBB := hidT hB
  have HLI := hidT hli
  have HBI := hidT hbi
  have HB65 := hidT hb65
  have HL65 := hidT hl65
  have HLT := hidT hlt
  clear hlt
  have HUU := hidT hu
  clear hu
  have HKI := hidT hk
  have d1 : decide (it.k < 1) = false := by simp; omega
  have d2 : decide (3 < it.k) = false := by simp; omega
  have c1 : (it.k == 1) = false := by simp; omega
  have c2 : (it.k == 2) = false := by simp; omega
  clear hk
  obtain ⟨i0, i1, i2, i3, i4⟩ := cells5 t0
  obtain ⟨j0, j1, j2, j3, j4, j5, j6, j7⟩ := cells8 t1
  rw [← HW.out] at i0 i1 i2 i3 i4 j0 j1 j2 j3 j4 j5 j6 j7
  clear t0 t1 t2 t4 hE hB hWW hS h hi hb65 hl65 hli hbi
  go_enter Try.func28, Try.ntmps28
  obtain ⟨K, hK⟩ : ∃ K, Lane.last l = K := ⟨_, rfl⟩
  have HKK := hidT hK
  have HLAST : Hid (∀ m' : Later W, Calls Try.prog 52 #[.agg #[.slice A n c, .int .i64 l.p.seq, .int .i64 l.p.total, .int .i64 l.p.got, .slice B m d]] m'.w (IntIs m'.w K)) := hidT fun m' => rlast_any l A n c B m d m'.w (HE.out.below (bthen T4.out m'.h)) K hK
  have hlt : decide (it.q ≤ K) = false := by have := HLT.out; rw [HKK.out] at this; simp; omega
  clear hK
  go_wp2_with fail
  rw [HW.out]
  rw [HW.out] at i0 i1 i2 i3 i4 j1
  have NE := Later.ne W
  have a0 := Later.cell i0
  have a1 := Later.cell i1
  have a2 := Later.cell i2
  have a3 := Later.cell i3
  have a4 := Later.cell i4
  have b1 := Later.cell j1
  clear hg i0 i1 i2 i3 i4 j0 j1 j2 j3 j4 j5 j6 j7
  refine wp_later (by kernel_rfl) (by kernel_rfl) ?_
  repeat (go_big_quiet_step ((go_at_call 52; exact Later.int (HLAST.out _))))
  refine wpQuiet_nil ?_
  intro w9 hw9
  obtain ⟨⟨_, hb9⟩, rfl⟩ := hw9
  have X0 := hidT (keepH T0.out hb9)
  have X1 := hidT (keepH T1.out hb9)
  have X2 := hidT (keepH T2.out hb9)
  have HBX := hidT (bthen T4.out hb9)
  clear hb9 a0 a1 a2 a3 a4 b1 NE HLAST
  obtain ⟨i0, i1, i2, i3, i4⟩ := cells5 X0.out
  obtain ⟨j0, j1, j2, j3, j4, j5, j6, j7⟩ := cells8 X1.out
  have x2 := X2.out
  have huu : decide (0 < l.p.got) = true := by have := HUU.out; simp; omega
  go_wp2_with (
    refine wpList_stI rfl 27 _ _ rfl (g + 1 + 1) #[.slice A n c, .int .i64 l.p.seq, .int .i64 l.p.total, .int .i64 l.p.got, .slice B m d] rfl rfl _ _ x2 sizeL rfl (by simp [Value.oneCell']) ?_
    intro wy hgy hbuty hbely)
  obtain ⟨r0, r1, r2, r3, r4⟩ := cells5 hgy
  have hgg := HG.out
  have hsz := HSZ.out
  have bW : Below w.heap.size w wy := hbely _ _ HBX.out (by omega)
  exact bodyPost_ret (v := .tuple #[.agg #[.slice A n c, .int .i64 l.p.seq, .int .i64 l.p.total, .int .i64 l.p.got, .slice B m d], .int .i64 2]) (by simp [results, Try.results28, go_sem, r0, r1, r2, r3, r4]) rfl
    ⟨_, rfl, HL.out.below bW, bW⟩
set_option maxHeartbeats 4000000 in
theorem rread_token {S : Nat → Prop} (v u : Value) (l : Lane.Ln) (it : Item.It) (w : World) (h : IsLane S w v l) (hi : IsItem w u it) (hS : SmallL l) (hb65 : it.b.length ≤ 65536) (hl65 : it.l.length ≤ 65536) (hk : it.k = 3) (hu : ¬ 0 < l.p.got) (hlt : ¬ it.q ≤ Lane.last l) :
    Calls Try.prog 28 #[v, u] w (RReadIs w (⟨l.es ++ [⟨it.k, it.q, [], [], false⟩], l.p⟩, 0)) := by
  obtain ⟨A, n, c, B, m, d, ev, hE, hB, hW⟩ := id h
  subst ev
  obtain ⟨LAi, lni, lci, BAi, bni, bci, eu, hli, hbi⟩ := id hi
  subst eu
  obtain ⟨t0, t1, t2, t4⟩ := three_alloc w (.cells #[.slice A n c, .int .i64 l.p.seq, .int .i64 l.p.total, .int .i64 l.p.got, .slice B m d] 27) (.cells #[.int .i64 it.k, .int .i64 it.q, .int .i64 it.e, .int .i64 it.i, .int .i64 it.t, .int .i64 it.c, .slice LAi lni lci, .slice BAi bni bci] 41) (.cells lz 27)
  obtain ⟨W, hWW⟩ : ∃ W, ((w.alloc (.cells #[.slice A n c, .int .i64 l.p.seq, .int .i64 l.p.total, .int .i64 l.p.got, .slice B m d] 27)).alloc (.cells #[.int .i64 it.k, .int .i64 it.q, .int .i64 it.e, .int .i64 it.i, .int .i64 it.t, .int .i64 it.c, .slice LAi lni lci, .slice BAi bni bci] 41)).alloc (.cells lz 27) = W := ⟨_, rfl⟩
  have HSZ : Hid (W.heap.size = w.heap.size + 3) := by rw [← hWW, size_alloc, size_alloc, size_alloc]; exact hidT rfl
  rw [hWW] at t0 t1 t2 t4
  obtain ⟨g, hg⟩ : ∃ g, w.heap.size = g := ⟨_, rfl⟩
  have HG := hidT hg
  rw [hg] at t0 t1 t2
  have HW := hidT hWW
  have T0 := hidT t0
  have T1 := hidT t1
  have T2 := hidT t2
  have T4 := hidT t4
  have HI := hidT hi
  have HS := hidT hS
  have HL := hidT (h.mono (T := Any) fun _ _ => trivial)
  have HLT0 := hidT h.lt
  have HE := hidT hE
  have HBB := hidT hB
  have HLI := hidT hli
  have HBI := hidT hbi
  have HB65 := hidT hb65
  have HL65 := hidT hl65
  have HLT := hidT hlt
  clear hlt
  have HUU := hidT hu
  clear hu
  have HKI := hidT hk
  have d1 : decide (it.k < 1) = false := by simp; omega
  have d2 : decide (3 < it.k) = false := by simp; omega
  have c1 : (it.k == 1) = false := by simp; omega
  have c2 : (it.k == 2) = false := by simp; omega
  clear hk
  obtain ⟨i0, i1, i2, i3, i4⟩ := cells5 t0
  obtain ⟨j0, j1, j2, j3, j4, j5, j6, j7⟩ := cells8 t1
  rw [← HW.out] at i0 i1 i2 i3 i4 j0 j1 j2 j3 j4 j5 j6 j7
  clear t0 t1 t2 t4 hE hB hWW hS h hi hb65 hl65 hli hbi
  go_enter Try.func28, Try.ntmps28
  obtain ⟨K, hK⟩ : ∃ K, Lane.last l = K := ⟨_, rfl⟩
  have HKK := hidT hK
  have HLAST : Hid (∀ m' : Later W, Calls Try.prog 52 #[.agg #[.slice A n c, .int .i64 l.p.seq, .int .i64 l.p.total, .int .i64 l.p.got, .slice B m d]] m'.w (IntIs m'.w K)) := hidT fun m' => rlast_any l A n c B m d m'.w (HE.out.below (bthen T4.out m'.h)) K hK
  have hlt : decide (it.q ≤ K) = false := by have := HLT.out; rw [HKK.out] at this; simp; omega
  clear hK
  go_wp2_with fail
  rw [HW.out]
  rw [HW.out] at i0 i1 i2 i3 i4 j1
  have NE := Later.ne W
  have a0 := Later.cell i0
  have a1 := Later.cell i1
  have a2 := Later.cell i2
  have a3 := Later.cell i3
  have a4 := Later.cell i4
  have b1 := Later.cell j1
  clear hg i0 i1 i2 i3 i4 j0 j1 j2 j3 j4 j5 j6 j7
  refine wp_later (by kernel_rfl) (by kernel_rfl) ?_
  repeat (go_big_quiet_step ((go_at_call 52; exact Later.int (HLAST.out _))))
  refine wpQuiet_nil ?_
  intro w9 hw9
  obtain ⟨⟨_, hb9⟩, rfl⟩ := hw9
  have X0 := hidT (keepH T0.out hb9)
  have X1 := hidT (keepH T1.out hb9)
  have X2 := hidT (keepH T2.out hb9)
  have HBX := hidT (bthen T4.out hb9)
  clear hb9 a0 a1 a2 a3 a4 b1 NE HLAST
  obtain ⟨i0, i1, i2, i3, i4⟩ := cells5 X0.out
  obtain ⟨j0, j1, j2, j3, j4, j5, j6, j7⟩ := cells8 X1.out
  have x2 := X2.out
  have huu : decide (0 < l.p.got) = false := by have := HUU.out; simp; omega
  have n7 := nkeep w9 (.cells #[.int .i64 it.k, .int .i64 it.q, .slice none 0 0, .slice none 0 0, .bool false] 33)
  have p7 := alloc_at w9 (.cells #[.int .i64 it.k, .int .i64 it.q, .slice none 0 0, .slice none 0 0, .bool false] 33) _ rfl
  obtain ⟨W7, hW7⟩ : ∃ W7, w9.alloc (.cells #[.int .i64 it.k, .int .i64 it.q, .slice none 0 0, .slice none 0 0, .bool false] 33) = W7 := ⟨_, rfl⟩
  obtain ⟨r, hr⟩ : ∃ r, w9.heap.size = r := ⟨_, rfl⟩
  rw [hW7, hr] at p7
  rw [hW7] at n7
  have HW7 := hidT hW7
  have P7 := hidT p7
  have X0' := hidT (keepH X0.out n7)
  have X1' := hidT (keepH X1.out n7)
  have X2' := hidT (keepH X2.out n7)
  have HRR : Hid (g + 3 ≤ r) := hidT (by have := blk_lt X2.out; omega)
  have HBX := hidT (bthen HBX.out n7)
  clear p7 n7 hW7
  obtain ⟨i0', i1', i2', i3', i4'⟩ := cells5 X0'.out
  obtain ⟨j0', j1', j2', j3', j4', j5', j6', j7'⟩ := cells8 X1'.out
  obtain ⟨z0', z1', z2', z3', z4'⟩ := cells5 P7.out
  rw [← HW7.out] at i0' i1' i2' i3' i4' j0' j1' j2' j3' j4' j5' j6' j7' z0' z1' z2' z3' z4'
  have hen : IsEn (fun b => b ≠ g + 1 + 1) W7 (.agg #[.int .i64 it.k, .int .i64 it.q, .slice none 0 0, .slice none 0 0, .bool false]) ⟨it.k, it.q, [], [], false⟩ := ⟨none, 0, 0, none, 0, 0, rfl, Rd.nil_ _, RdV.nil_ _, Within.zero _ _, Within.zero _ _⟩
  have HCALW := hidT (with_any (T := fun b => b ≠ g + 1 + 1) _ _ l ⟨it.k, it.q, [], [], false⟩ W7 (HLT0.out.below HBX.out) hen HS.out.1 (fun b h => by have := HG.out; omega) (fun b h => h) (fun b h => by have := blk_lt X2'.out; omega))
  clear hen
  go_wp2_with fail
  rw [HW7.out]
  clear hr i0 i1 i2 i3 i4 j0 j1 j2 j3 j4 j5 j6 j7 x2 i0' i1' i2' i3' i4' j0' j1' j2' j3' j4' j5' j6' j7' z0' z1' z2' z3' z4'
  with_reducible refine HCALW.out.mono ?_
  rintro e w10 ⟨v10, rfl, hl10, hb10⟩
  obtain ⟨q10, rfl, hs10, ha10⟩ := hl10.cells
  have x4 := keepH X2'.out hb10
  have HL10 := hidT hl10
  have HB10 := hidT (bthen HBX.out hb10)
  clear hl10 hb10
  go_wp2_with (
    refine wpList_stI rfl 27 _ _ rfl (g + 1 + 1) q10 rfl rfl _ _ x4 (by rw [hs10]; exact sizeL) (by rw [hs10]; rfl) ha10 ?_
    intro wy hgy hbuty hbely)
  have hgg := HG.out
  have hsz := HSZ.out
  obtain ⟨An, nn, cn, Bn, mn, dn, ev, _, _, _⟩ := id HL10.out
  injection ev with ev
  subst ev
  obtain ⟨r0, r1, r2, r3, r4⟩ := cells5 hgy
  have hfin := (HL10.out.keptS (KeptS.but hbuty fun b h => h)).mono (T := Any) fun _ _ => trivial
  exact bodyPost_ret (v := .tuple #[.agg #[.slice An nn cn, .int .i64 l.p.seq, .int .i64 l.p.total, .int .i64 l.p.got, .slice Bn mn dn], .int .i64 0]) (by simp [results, Try.results28, go_sem, r0, r1, r2, r3, r4]) rfl
    ⟨_, rfl, hfin, hbely _ _ HB10.out (by omega)⟩
end Go.Proofs.Ytmlmkkfieeaejaa
/- What the document's Read of an order comes to. -/
namespace Go.Proofs.Ytmlmkkfieeaejaa
open Go.RowKit
set_option linter.unusedVariables false

set_option maxHeartbeats 4000000 in
theorem rread_order {S : Nat → Prop} (v u : Value) (l : Lane.Ln) (it : Item.It) (w : World) (h : IsLane S w v l) (hi : IsItem w u it) (hS : SmallL l) (hb65 : it.b.length ≤ 65536) (hl65 : it.l.length ≤ 65536) (hk : it.k = 2) (hu : ¬ 0 < l.p.got) (hlt : ¬ it.q ≤ Lane.last l) :
    Calls Try.prog 28 #[v, u] w (RReadIs w (⟨l.es ++ [⟨it.k, it.q, [], it.l, it.i == 1⟩], l.p⟩, 0)) := by
  obtain ⟨A, n, c, B, m, d, ev, hE, hB, hW⟩ := id h
  subst ev
  obtain ⟨LAi, lni, lci, BAi, bni, bci, eu, hli, hbi⟩ := id hi
  subst eu
  obtain ⟨t0, t1, t2, t4⟩ := three_alloc w (.cells #[.slice A n c, .int .i64 l.p.seq, .int .i64 l.p.total, .int .i64 l.p.got, .slice B m d] 27) (.cells #[.int .i64 it.k, .int .i64 it.q, .int .i64 it.e, .int .i64 it.i, .int .i64 it.t, .int .i64 it.c, .slice LAi lni lci, .slice BAi bni bci] 41) (.cells lz 27)
  obtain ⟨W, hWW⟩ : ∃ W, ((w.alloc (.cells #[.slice A n c, .int .i64 l.p.seq, .int .i64 l.p.total, .int .i64 l.p.got, .slice B m d] 27)).alloc (.cells #[.int .i64 it.k, .int .i64 it.q, .int .i64 it.e, .int .i64 it.i, .int .i64 it.t, .int .i64 it.c, .slice LAi lni lci, .slice BAi bni bci] 41)).alloc (.cells lz 27) = W := ⟨_, rfl⟩
  have HSZ : Hid (W.heap.size = w.heap.size + 3) := by rw [← hWW, size_alloc, size_alloc, size_alloc]; exact hidT rfl
  rw [hWW] at t0 t1 t2 t4
  obtain ⟨g, hg⟩ : ∃ g, w.heap.size = g := ⟨_, rfl⟩
  have HG := hidT hg
  rw [hg] at t0 t1 t2
  have HW := hidT hWW
  have T0 := hidT t0
  have T1 := hidT t1
  have T2 := hidT t2
  have T4 := hidT t4
  have HI := hidT hi
  have HS := hidT hS
  have HL := hidT (h.mono (T := Any) fun _ _ => trivial)
  have HLT0 := hidT h.lt
  have HE := hidT hE
  have HBB := hidT hB
  have HLI := hidT hli
  have HBI := hidT hbi
  have HB65 := hidT hb65
  have HL65 := hidT hl65
  have HLT := hidT hlt
  clear hlt
  have HUU := hidT hu
  clear hu
  have HKI := hidT hk
  have d1 : decide (it.k < 1) = false := by simp; omega
  have d2 : decide (3 < it.k) = false := by simp; omega
  have c1 : (it.k == 1) = false := by simp; omega
  have c2 : (it.k == 2) = true := by simp; omega
  clear hk
  obtain ⟨i0, i1, i2, i3, i4⟩ := cells5 t0
  obtain ⟨j0, j1, j2, j3, j4, j5, j6, j7⟩ := cells8 t1
  rw [← HW.out] at i0 i1 i2 i3 i4 j0 j1 j2 j3 j4 j5 j6 j7
  clear t0 t1 t2 t4 hE hB hWW hS h hi hb65 hl65 hli hbi
  go_enter Try.func28, Try.ntmps28
  obtain ⟨K, hK⟩ : ∃ K, Lane.last l = K := ⟨_, rfl⟩
  have HKK := hidT hK
  have HLAST : Hid (∀ m' : Later W, Calls Try.prog 52 #[.agg #[.slice A n c, .int .i64 l.p.seq, .int .i64 l.p.total, .int .i64 l.p.got, .slice B m d]] m'.w (IntIs m'.w K)) := hidT fun m' => rlast_any l A n c B m d m'.w (HE.out.below (bthen T4.out m'.h)) K hK
  have hlt : decide (it.q ≤ K) = false := by have := HLT.out; rw [HKK.out] at this; simp; omega
  clear hK
  go_wp2_with fail
  rw [HW.out]
  rw [HW.out] at i0 i1 i2 i3 i4 j1
  have NE := Later.ne W
  have a0 := Later.cell i0
  have a1 := Later.cell i1
  have a2 := Later.cell i2
  have a3 := Later.cell i3
  have a4 := Later.cell i4
  have b1 := Later.cell j1
  clear hg i0 i1 i2 i3 i4 j0 j1 j2 j3 j4 j5 j6 j7
  refine wp_later (by kernel_rfl) (by kernel_rfl) ?_
  repeat (go_big_quiet_step ((go_at_call 52; exact Later.int (HLAST.out _))))
  refine wpQuiet_nil ?_
  intro w9 hw9
  obtain ⟨⟨_, hb9⟩, rfl⟩ := hw9
  have X0 := hidT (keepH T0.out hb9)
  have X1 := hidT (keepH T1.out hb9)
  have X2 := hidT (keepH T2.out hb9)
  have HBX := hidT (bthen T4.out hb9)
  clear hb9 a0 a1 a2 a3 a4 b1 NE HLAST
  obtain ⟨i0, i1, i2, i3, i4⟩ := cells5 X0.out
  obtain ⟨j0, j1, j2, j3, j4, j5, j6, j7⟩ := cells8 X1.out
  have x2 := X2.out
  have huu : decide (0 < l.p.got) = false := by have := HUU.out; simp; omega
  have n7 := nkeep w9 (.cells #[.int .i64 it.k, .int .i64 it.q, .slice none 0 0, .slice none 0 0, .bool false] 33)
  have p7 := alloc_at w9 (.cells #[.int .i64 it.k, .int .i64 it.q, .slice none 0 0, .slice none 0 0, .bool false] 33) _ rfl
  obtain ⟨W7, hW7⟩ : ∃ W7, w9.alloc (.cells #[.int .i64 it.k, .int .i64 it.q, .slice none 0 0, .slice none 0 0, .bool false] 33) = W7 := ⟨_, rfl⟩
  obtain ⟨r, hr⟩ : ∃ r, w9.heap.size = r := ⟨_, rfl⟩
  rw [hW7, hr] at p7
  rw [hW7] at n7
  have HW7 := hidT hW7
  have P7 := hidT p7
  have X0' := hidT (keepH X0.out n7)
  have X1' := hidT (keepH X1.out n7)
  have X2' := hidT (keepH X2.out n7)
  have HRR : Hid (g + 3 ≤ r) := hidT (by have := blk_lt X2.out; omega)
  have HBX := hidT (bthen HBX.out n7)
  clear p7 n7 hW7
  obtain ⟨i0', i1', i2', i3', i4'⟩ := cells5 X0'.out
  obtain ⟨j0', j1', j2', j3', j4', j5', j6', j7'⟩ := cells8 X1'.out
  obtain ⟨z0', z1', z2', z3', z4'⟩ := cells5 P7.out
  rw [← HW7.out] at i0' i1' i2' i3' i4' j0' j1' j2' j3' j4' j5' j6' j7' z0' z1' z2' z3' z4'
  obtain ⟨hd, hhd⟩ : ∃ hd, (it.i == 1) = hd := ⟨_, rfl⟩
  have HHD := hidT hhd
  have N8 := hidT (nkeep W7 (.cells #[] 3))
  have hs7 : W7.heap.size = r + 1 := by rw [← HW7.out, size_alloc, hr]
  have how := World.ownsRow_made (base := W7.heap.size) (e := 3) (size := 1) W7 #[] 0 (Nat.le_refl _) (Nat.zero_le _) rfl
  rw [show (⟨W7.heap.size, 0, none⟩ : Addr) = ⟨r + 1, 0, none⟩ by rw [hs7]] at how
  have HOW := hidT how
  clear how hs7
  have HRD := hidT ((RdV.below HLI.out HBX.out).alloc (.cells #[] 3))
  have jx6 := (cells8 (keepH X1'.out N8.out)).2.2.2.2.2.2.1
  rw [← HW7.out] at jx6
  have hlni : lni ≤ 65536 := by have := HL65.out; have := RdI.size HLI.out; omega
  go_wp2_with (
    at_builtin
    rw [HW7.out]
    refine wpList_appV rfl (.tmp 84) (.tmp 86) 31 rfl W7.heap.size 3 (.int .i64 0) 8 info3 rfl (by omega) Try.underlying31 (.slice (some ⟨r + 1, 0, none⟩) 0 0) 0 [] rfl HOW.out LAi lni lci (is it.l) rfl HRD.out (is_one _) (by omega) N8.out.size ?_
    intro v8 w8 hown hb8 hg8
    rw [Nat.zero_add, List.nil_append] at hown
    obtain ⟨A8, c8, rfl, hrd8⟩ := OwnV.rd hown
    have hb8' := N8.out.trans hb8
    have y8 := keepH P7.out hb8'
    have f3 := no_frozen y8 3
    obtain ⟨q0, q1', q2', q3', q4'⟩ := cells5 y8
    have z8 : (w8.setCell ⟨r, 3, none⟩ (.slice A8 lni c8)).heap[r]? = some (.cells #[.int .i64 it.k, .int .i64 it.q, .slice none 0 0, .slice A8 lni c8, .bool false] 33 (0, 0)) := heap_setCell_same w8 r 3 _ _ _ y8
    have zb := But.setCell w8 r 3 (.slice A8 lni c8)
    have f4 := no_frozen z8 4
    obtain ⟨p0, p1, p2, p3, p4⟩ := cells5 z8
    have hgr : g + 1 ≠ r := by have := HRR.out; omega
    have hg0r : g ≠ r := by have := HRR.out; omega
    obtain ⟨m0, m1, m2, m3, m4, m5, m6, m7⟩ := cells8 ((zb.2 (g + 1) hgr).trans (keepH X1'.out hb8'))
    have z9 : ((w8.setCell ⟨r, 3, none⟩ (.slice A8 lni c8)).setCell ⟨r, 4, none⟩ (.bool hd)).heap[r]? = some (.cells #[.int .i64 it.k, .int .i64 it.q, .slice none 0 0, .slice A8 lni c8, .bool hd] 33 (0, 0)) := heap_setCell_same _ r 4 _ _ _ z8
    have zb2 := zb.trans (But.setCell (w8.setCell ⟨r, 3, none⟩ (.slice A8 lni c8)) r 4 (.bool hd))
    obtain ⟨s0, s1, s2, s3, s4⟩ := cells5 z9
    obtain ⟨t0, t1, t2, t3, t4⟩ := cells5 ((zb2.2 g hg0r).trans (keepH X0'.out hb8'))
    have X2' := hidT ((zb2.2 (g + 1 + 1) (by have := HRR.out; omega)).trans (keepH X2'.out hb8'))
    have hr7 := blk_lt P7.out
    have hadr : ∀ b o, A8 = some ⟨b, o, none⟩ → W7.heap.size ≤ b := addrV hown (Nat.le_refl _)
    have HLS := hidT (RdV.but (OwnV.same hown) (fun b o e => by have := hadr b o e; omega) zb2)
    have HAD := hidT hadr
    have HBX := hidT (((bthen HBX.out hb8').setCell (p := ⟨r, 3, none⟩) (by have := HRR.out; have := HG.out; show w.heap.size ≤ r; omega) (.slice A8 lni c8)).setCell (p := ⟨r, 4, none⟩) (by have := HRR.out; have := HG.out; show w.heap.size ≤ r; omega) (.bool hd))
    clear hown hb8 hg8 hrd8 hb8' y8 zb zb2 hgr hg0r hadr hr7 z8 z9)
  generalize ((w8.setCell ⟨r, 3, none⟩ (.slice A8 lni c8)).setCell ⟨r, 4, none⟩ (.bool hd)) = wX at HLS HBX X2' ⊢
  have hen : IsEn (fun b => b ≠ g + 1 + 1) wX (.agg #[.int .i64 it.k, .int .i64 it.q, .slice none 0 0, .slice A8 lni c8, .bool hd]) ⟨it.k, it.q, [], it.l, hd⟩ := ⟨none, 0, 0, A8, lni, c8, rfl, Rd.nil_ _, HLS.out, Within.zero _ _, fun _ b o e => by have := HAD.out b o e; have := blk_lt P7.out; have := HRR.out; omega⟩
  have HCALW := hidT (with_any (T := fun b => b ≠ g + 1 + 1) _ _ l ⟨it.k, it.q, [], it.l, hd⟩ wX (HLT0.out.below HBX.out) hen HS.out.1 (fun b h => by have := HG.out; omega) (fun b h => h) (fun b h => by have := blk_lt X2'.out; omega))
  clear hen hr i0 i1 i2 i3 i4 j0 j1 j2 j3 j4 j5 j6 j7 x2 i0' i1' i2' i3' i4' j0' j1' j2' j3' j4' j5' j6' j7' z0' z1' z2' z3' z4'
  with_reducible refine HCALW.out.mono ?_
  rintro e w10 ⟨v10, rfl, hl10, hb10⟩
  obtain ⟨q10, rfl, hs10, ha10⟩ := hl10.cells
  have x4 := keepH X2'.out hb10
  have HL10 := hidT hl10
  have HB10 := hidT (bthen HBX.out hb10)
  clear hl10 hb10
  go_wp2_with (
    refine wpList_stI rfl 27 _ _ rfl (g + 1 + 1) q10 rfl rfl _ _ x4 (by rw [hs10]; exact sizeL) (by rw [hs10]; rfl) ha10 ?_
    intro wy hgy hbuty hbely)
  have hgg := HG.out
  have hsz := HSZ.out
  obtain ⟨An, nn, cn, Bn, mn, dn, ev, _, _, _⟩ := id HL10.out
  injection ev with ev
  subst ev
  obtain ⟨r0, r1, r2, r3, r4⟩ := cells5 hgy
  have hfin := (HL10.out.keptS (KeptS.but hbuty fun b h => h)).mono (T := Any) fun _ _ => trivial
  exact bodyPost_ret (v := .tuple #[.agg #[.slice An nn cn, .int .i64 l.p.seq, .int .i64 l.p.total, .int .i64 l.p.got, .slice Bn mn dn], .int .i64 0]) (by simp [results, Try.results28, go_sem, r0, r1, r2, r3, r4]) rfl
    ⟨_, rfl, by rw [HHD.out]; exact hfin, hbely _ _ HB10.out (by omega)⟩
end Go.Proofs.Ytmlmkkfieeaejaa
/- What the document's Read comes to. -/
namespace Go.Proofs.Ytmlmkkfieeaejaa
open Go.RowKit
set_option linter.unusedVariables false

theorem rread_any {S : Nat → Prop} (v u : Value) (l : Lane.Ln) (it : Item.It) (w : World) (h : IsLane S w v l) (hi : IsItem w u it) (hS : SmallL l) (hb65 : it.b.length ≤ 65536) (hl65 : it.l.length ≤ 65536) :
    Calls Try.prog 28 #[v, u] w (RReadIs w (Lane.read l it)) := by
  by_cases hk0 : it.k < 1 ∨ 3 < it.k
  · rw [Lane.read_kind hk0]; exact rread_k0 v u l it w h hi hS hb65 hl65 hk0
  by_cases hlt : it.q ≤ Lane.last l
  · rw [Lane.read_low hk0 hlt]; exact rread_late v u l it w h hi hS hb65 hl65 (by omega) hlt
  by_cases h1 : it.k = 1
  · rcases Lane.add_cases l.p it.q it.i it.t it.b with ⟨_, ha⟩ | ⟨_, _, ha⟩ | ⟨_, _, ha⟩
    · rw [Lane.read_bad h1 hlt (by rw [ha]; exact (by decide : (2 : Int) ≠ 0))]
      exact rread_bad v u l it w h hi hS hb65 hl65 h1 hlt ha
    · rw [Lane.read_whole h1 hlt ha]
      by_cases hu : 0 < l.p.got
      · rw [if_pos hu]; exact rread_whole_u v u l it w h hi hS hb65 hl65 h1 hu hlt _ _ ha
      · rw [if_neg hu]; exact rread_whole_n v u l it w h hi hS hb65 hl65 h1 hu hlt _ _ ha
    · rw [Lane.read_part h1 hlt ha]
      exact rread_on v u l it w h hi hS hb65 hl65 h1 hlt _ ha
  by_cases h2 : it.k = 2
  · by_cases hu : 0 < l.p.got
    · rw [Lane.read_under (.inl h2) hlt hu]; exact rread_under2 v u l it w h hi hS hb65 hl65 h2 hu hlt
    · rw [Lane.read_order (.inl h2) hlt hu]
      have e : (⟨it.k, it.q, [], if it.k = 2 then it.l else [], decide (it.k = 2) && decide (it.i = 1)⟩ : Lane.En) = ⟨it.k, it.q, [], it.l, it.i == 1⟩ := by
        rw [if_pos h2, show decide (it.k = 2) = true by simpa using h2, Bool.true_and]
        rfl
      rw [e]
      exact rread_order v u l it w h hi hS hb65 hl65 h2 hu hlt
  have h3 : it.k = 3 := by omega
  by_cases hu : 0 < l.p.got
  · rw [Lane.read_under (.inr h3) hlt hu]; exact rread_under3 v u l it w h hi hS hb65 hl65 h3 hu hlt
  · rw [Lane.read_order (.inr h3) hlt hu]
    have e : (⟨it.k, it.q, [], if it.k = 2 then it.l else [], decide (it.k = 2) && decide (it.i = 1)⟩ : Lane.En) = ⟨it.k, it.q, [], [], false⟩ := by
      rw [if_neg h2, show decide (it.k = 2) = false by simpa using h2, Bool.false_and]
    rw [e]
    exact rread_token v u l it w h hi hS hb65 hl65 h3 hu hlt
end Go.Proofs.Ytmlmkkfieeaejaa
