/- What the document's Read comes to: refused, or a piece. -/
import Derived.Test.YtdchgnmkeefffaaRBX
import Derived.Test.YtdchgnmkeefffaaQF
import Derived.Test.YtdchgnmkeefffaaLCX
import Derived.Test.YtdchgnmkeefffaaLSX
set_option maxRecDepth 100000
namespace Go.Proofs.Ytdchgnmkeefffaa
open Go.RowKit
set_option linter.unusedVariables false

theorem Rd.neB {w : World} {A : Option Addr} {n c g : Nat} {l : List UInt8} (h : Rd w A n c l) (hg : w.heap[g]? = some (.cells lz 51 (0, 0))) : Within (fun b => b ≠ g) A n := fun h0 b o e hbg => by
  obtain ⟨b', o', hA, hc⟩ := h.2.2.2.2 h0
  rw [e] at hA
  injection hA with hA
  injection hA with h1 h2
  subst h1
  subst h2
  subst hbg
  have hlt : 0 < l.length := by rw [h.1]; exact h0
  have := hc 0 l[0] (List.getElem?_eq_getElem hlt)
  rw [Nat.add_zero, cell_of_row _ b _ _ 51 (0, 0) hg] at this
  rcases (show o = 0 ∨ o = 1 ∨ o = 2 ∨ o = 3 ∨ o = 4 ∨ 5 ≤ o by omega) with rfl | rfl | rfl | rfl | rfl | h5
  · simp at this
  · simp at this
  · simp at this
  · simp at this
  · simp at this
  · rw [Array.getElem?_eq_none (by show 5 ≤ o; exact h5)] at this; cases this
theorem RdE.ltB {S : Nat → Prop} {w : World} {A : Option Addr} {n c : Nat} {xs : List Lane.En} (h : RdE S w A n c xs) : RdE (fun b => S b ∧ b < w.heap.size) w A n c xs := by
  obtain ⟨rs, h1, h2, h3⟩ := h
  refine ⟨rs, h1, h2.lt, fun h0 b o e => ⟨h3 h0 b o e, ?_⟩⟩
  obtain ⟨b', o', r, hA, _, hsz, hc⟩ := h1.at_ h0
  rw [e] at hA
  injection hA with hA
  injection hA with e1 e2
  subst e1
  exact World.block_lt_of_cell? w _ (hc 0 _ (Array.getElem?_eq_getElem (show 0 < r.size by omega)))
theorem IsLane.ltB {S : Nat → Prop} {w : World} {v : Value} {l : Lane.Ln} (h : IsLane S w v l) : IsLane (fun b => S b ∧ b < w.heap.size) w v l := by
  obtain ⟨A, n, c, B, m, d, rfl, h1, h2, h3⟩ := h
  exact ⟨A, n, c, B, m, d, rfl, h1.ltB, h2, h3.and h2.lt⟩
/-- A lane, and a code. -/
def QReadIs (S : Nat → Prop) (w : World) (r : Lane.Ln × Int) (e : Ending) (w' : World) : Prop := ∃ v, e = .returned (.tuple #[v, .int .i64 r.2]) ∧ IsLane (fun b => S b ∨ w.heap.size ≤ b) w' v r.1 ∧ Below w.heap.size w w'

set_option maxHeartbeats 4000000 in
theorem qread_k0 {S : Nat → Prop} (v u : Value) (l : Lane.Ln) (it : Item.It) (w : World) (h : IsLane S w v l) (hi : IsItem w u it) (hS : SmallL l) (hb65 : it.b.length ≤ 65536) (hl65 : it.l.length ≤ 65536) (hk : it.k < 1 ∨ 3 < it.k) :
    Calls Try.prog 39 #[v, u] w (QReadIs S w (l, 1)) := by
  obtain ⟨A, n, c, B, m, d, ev, hE, hB, hW⟩ := id h
  subst ev
  obtain ⟨LAi, lni, lci, BAi, bni, bci, eu, hli, hbi⟩ := id hi
  subst eu
  obtain ⟨t0, t1, t2, t4⟩ := three_alloc w (.cells #[.slice A n c, .int .i64 l.p.seq, .int .i64 l.p.total, .int .i64 l.p.got, .slice B m d] 51) (.cells #[.int .i64 it.k, .int .i64 it.q, .int .i64 it.e, .int .i64 it.i, .int .i64 it.t, .int .i64 it.c, .slice LAi lni lci, .slice BAi bni bci] 35) (.cells lz 51)
  obtain ⟨W, hWW⟩ : ∃ W, ((w.alloc (.cells #[.slice A n c, .int .i64 l.p.seq, .int .i64 l.p.total, .int .i64 l.p.got, .slice B m d] 51)).alloc (.cells #[.int .i64 it.k, .int .i64 it.q, .int .i64 it.e, .int .i64 it.i, .int .i64 it.t, .int .i64 it.c, .slice LAi lni lci, .slice BAi bni bci] 35)).alloc (.cells lz 51) = W := ⟨_, rfl⟩
  have HSZ : Hid (W.heap.size = w.heap.size + 3) := by rw [← hWW, size_alloc, size_alloc, size_alloc]; exact hidT rfl
  rw [hWW] at t0 t1 t2 t4
  obtain ⟨g, hg⟩ : ∃ g, w.heap.size = g := ⟨_, rfl⟩
  have HG := hidT hg
  rw [hg] at t0 t1 t2
  have HW := hidT hWW
  have T0 := hidT t0
  have T1 := hidT t1
  have T2 := hidT t2
  have T4 := hidT t4
  have HI := hidT hi
  have HS := hidT hS
  have HL := hidT (h.mono (T := fun b => S b ∨ w.heap.size ≤ b) fun _ h => .inl h)
  have HLT0 := hidT h.ltB
  have HE := hidT hE
  have HBB := hidT hB
  have HLI := hidT hli
  have HBI := hidT hbi
  have HB65 := hidT hb65
  have HL65 := hidT hl65
  obtain ⟨i0, i1, i2, i3, i4⟩ := cells5 t0
  obtain ⟨j0, j1, j2, j3, j4, j5, j6, j7⟩ := cells8 t1
  rw [← HW.out] at i0 i1 i2 i3 i4 j0 j1 j2 j3 j4 j5 j6 j7
  clear t0 t1 t2 t4 hE hB hWW hS h hi hb65 hl65 hli hbi
  go_enter Try.func39, Try.ntmps39
  have x2 := T2.out
  have hbx := T4.out
  rw [← HW.out] at x2 hbx
  have HBX := hidT hbx
  clear hbx
  rcases Int.lt_or_le it.k 1 with q0 | q0
  · have d1 : decide (it.k < 1) = true := by simpa using q0
    clear hk q0
    go_wp2_with (
      refine wpList_stI rfl 51 _ _ rfl (g + 1 + 1) #[.slice A n c, .int .i64 l.p.seq, .int .i64 l.p.total, .int .i64 l.p.got, .slice B m d] rfl rfl _ _ x2 sizeL rfl (by simp [Value.oneCell']) ?_
      intro wy hgy hbuty hbely)
    obtain ⟨r0, r1, r2, r3, r4⟩ := cells5 hgy
    have hgg := HG.out
    have hsz := HSZ.out
    have bW : Below w.heap.size w wy := hbely _ _ HBX.out (by omega)
    exact bodyPost_ret (v := .tuple #[.agg #[.slice A n c, .int .i64 l.p.seq, .int .i64 l.p.total, .int .i64 l.p.got, .slice B m d], .int .i64 1]) (by simp [results, Try.results39, go_sem, r0, r1, r2, r3, r4]) rfl
      ⟨_, rfl, HL.out.below bW, bW⟩
  · have d1 : decide (it.k < 1) = false := by simp; omega
    have d2 : decide (3 < it.k) = true := by simp; omega
    clear hk q0
    go_wp2_with (
      refine wpList_stI rfl 51 _ _ rfl (g + 1 + 1) #[.slice A n c, .int .i64 l.p.seq, .int .i64 l.p.total, .int .i64 l.p.got, .slice B m d] rfl rfl _ _ x2 sizeL rfl (by simp [Value.oneCell']) ?_
      intro wy hgy hbuty hbely)
    obtain ⟨r0, r1, r2, r3, r4⟩ := cells5 hgy
    have hgg := HG.out
    have hsz := HSZ.out
    have bW : Below w.heap.size w wy := hbely _ _ HBX.out (by omega)
    exact bodyPost_ret (v := .tuple #[.agg #[.slice A n c, .int .i64 l.p.seq, .int .i64 l.p.total, .int .i64 l.p.got, .slice B m d], .int .i64 1]) (by simp [results, Try.results39, go_sem, r0, r1, r2, r3, r4]) rfl
      ⟨_, rfl, HL.out.below bW, bW⟩

set_option maxHeartbeats 4000000 in
theorem qread_late {S : Nat → Prop} (v u : Value) (l : Lane.Ln) (it : Item.It) (w : World) (h : IsLane S w v l) (hi : IsItem w u it) (hS : SmallL l) (hb65 : it.b.length ≤ 65536) (hl65 : it.l.length ≤ 65536) (hk : it.k = 1 ∨ it.k = 2 ∨ it.k = 3) (hlt : it.q ≤ Lane.last l) :
    Calls Try.prog 39 #[v, u] w (QReadIs S w (l, 2)) := by
  obtain ⟨A, n, c, B, m, d, ev, hE, hB, hW⟩ := id h
  subst ev
  obtain ⟨LAi, lni, lci, BAi, bni, bci, eu, hli, hbi⟩ := id hi
  subst eu
  obtain ⟨t0, t1, t2, t4⟩ := three_alloc w (.cells #[.slice A n c, .int .i64 l.p.seq, .int .i64 l.p.total, .int .i64 l.p.got, .slice B m d] 51) (.cells #[.int .i64 it.k, .int .i64 it.q, .int .i64 it.e, .int .i64 it.i, .int .i64 it.t, .int .i64 it.c, .slice LAi lni lci, .slice BAi bni bci] 35) (.cells lz 51)
  obtain ⟨W, hWW⟩ : ∃ W, ((w.alloc (.cells #[.slice A n c, .int .i64 l.p.seq, .int .i64 l.p.total, .int .i64 l.p.got, .slice B m d] 51)).alloc (.cells #[.int .i64 it.k, .int .i64 it.q, .int .i64 it.e, .int .i64 it.i, .int .i64 it.t, .int .i64 it.c, .slice LAi lni lci, .slice BAi bni bci] 35)).alloc (.cells lz 51) = W := ⟨_, rfl⟩
  have HSZ : Hid (W.heap.size = w.heap.size + 3) := by rw [← hWW, size_alloc, size_alloc, size_alloc]; exact hidT rfl
  rw [hWW] at t0 t1 t2 t4
  obtain ⟨g, hg⟩ : ∃ g, w.heap.size = g := ⟨_, rfl⟩
  have HG := hidT hg
  rw [hg] at t0 t1 t2
  have HW := hidT hWW
  have T0 := hidT t0
  have T1 := hidT t1
  have T2 := hidT t2
  have T4 := hidT t4
  have HI := hidT hi
  have HS := hidT hS
  have HL := hidT (h.mono (T := fun b => S b ∨ w.heap.size ≤ b) fun _ h => .inl h)
  have HLT0 := hidT h.ltB
  have HE := hidT hE
  have HBB := hidT hB
  have HLI := hidT hli
  have HBI := hidT hbi
  have HB65 := hidT hb65
  have HL65 := hidT hl65
  have HLT := hidT hlt
  clear hlt
  have HKI := hidT hk
  have d1 : decide (it.k < 1) = false := by simp; omega
  have d2 : decide (3 < it.k) = false := by simp; omega
  clear hk
  obtain ⟨i0, i1, i2, i3, i4⟩ := cells5 t0
  obtain ⟨j0, j1, j2, j3, j4, j5, j6, j7⟩ := cells8 t1
  rw [← HW.out] at i0 i1 i2 i3 i4 j0 j1 j2 j3 j4 j5 j6 j7
  clear t0 t1 t2 t4 hE hB hWW hS h hi hb65 hl65 hli hbi
  go_enter Try.func39, Try.ntmps39
  obtain ⟨K, hK⟩ : ∃ K, Lane.last l = K := ⟨_, rfl⟩
  have HKK := hidT hK
  have HLAST : Hid (∀ m' : Later W, Calls Try.prog 61 #[.agg #[.slice A n c, .int .i64 l.p.seq, .int .i64 l.p.total, .int .i64 l.p.got, .slice B m d]] m'.w (IntIs m'.w K)) := hidT fun m' => rlast_any l A n c B m d m'.w (HE.out.below (bthen T4.out m'.h)) K hK
  have hlt : decide (it.q ≤ K) = true := by have := HLT.out; rw [HKK.out] at this; simp; omega
  clear hK
  go_wp2_with fail
  rw [HW.out]
  rw [HW.out] at i0 i1 i2 i3 i4 j1
  have NE := Later.ne W
  have a0 := Later.cell i0
  have a1 := Later.cell i1
  have a2 := Later.cell i2
  have a3 := Later.cell i3
  have a4 := Later.cell i4
  have b1 := Later.cell j1
  clear hg i0 i1 i2 i3 i4 j0 j1 j2 j3 j4 j5 j6 j7
  refine wp_later (by kernel_rfl) (by kernel_rfl) ?_
  repeat (go_big_quiet_step ((go_at_call 61; exact Later.int (HLAST.out _))))
  refine wpQuiet_nil ?_
  intro w9 hw9
  obtain ⟨⟨_, hb9⟩, rfl⟩ := hw9
  have X0 := hidT (keepH T0.out hb9)
  have X1 := hidT (keepH T1.out hb9)
  have X2 := hidT (keepH T2.out hb9)
  have HBX := hidT (bthen T4.out hb9)
  clear hb9 a0 a1 a2 a3 a4 b1 NE HLAST
  obtain ⟨i0, i1, i2, i3, i4⟩ := cells5 X0.out
  obtain ⟨j0, j1, j2, j3, j4, j5, j6, j7⟩ := cells8 X1.out
  have x2 := X2.out
  go_wp2_with (
    refine wpList_stI rfl 51 _ _ rfl (g + 1 + 1) #[.slice A n c, .int .i64 l.p.seq, .int .i64 l.p.total, .int .i64 l.p.got, .slice B m d] rfl rfl _ _ x2 sizeL rfl (by simp [Value.oneCell']) ?_
    intro wy hgy hbuty hbely)
  obtain ⟨r0, r1, r2, r3, r4⟩ := cells5 hgy
  have hgg := HG.out
  have hsz := HSZ.out
  have bW : Below w.heap.size w wy := hbely _ _ HBX.out (by omega)
  exact bodyPost_ret (v := .tuple #[.agg #[.slice A n c, .int .i64 l.p.seq, .int .i64 l.p.total, .int .i64 l.p.got, .slice B m d], .int .i64 2]) (by simp [results, Try.results39, go_sem, r0, r1, r2, r3, r4]) rfl
    ⟨_, rfl, HL.out.below bW, bW⟩
set_option maxHeartbeats 4000000 in
theorem qread_bad {S : Nat → Prop} (v u : Value) (l : Lane.Ln) (it : Item.It) (w : World) (h : IsLane S w v l) (hi : IsItem w u it) (hS : SmallL l) (hb65 : it.b.length ≤ 65536) (hl65 : it.l.length ≤ 65536) (hk : it.k = 1) (hlt : ¬ it.q ≤ Lane.last l) (ha : addOf l.p it.q it.i it.t it.b = ⟨l.p, [], false, 2⟩) :
    Calls Try.prog 39 #[v, u] w (QReadIs S w (l, 2)) := by
  obtain ⟨A, n, c, B, m, d, ev, hE, hB, hW⟩ := id h
  subst ev
  obtain ⟨LAi, lni, lci, BAi, bni, bci, eu, hli, hbi⟩ := id hi
  subst eu
  obtain ⟨t0, t1, t2, t4⟩ := three_alloc w (.cells #[.slice A n c, .int .i64 l.p.seq, .int .i64 l.p.total, .int .i64 l.p.got, .slice B m d] 51) (.cells #[.int .i64 it.k, .int .i64 it.q, .int .i64 it.e, .int .i64 it.i, .int .i64 it.t, .int .i64 it.c, .slice LAi lni lci, .slice BAi bni bci] 35) (.cells lz 51)
  obtain ⟨W, hWW⟩ : ∃ W, ((w.alloc (.cells #[.slice A n c, .int .i64 l.p.seq, .int .i64 l.p.total, .int .i64 l.p.got, .slice B m d] 51)).alloc (.cells #[.int .i64 it.k, .int .i64 it.q, .int .i64 it.e, .int .i64 it.i, .int .i64 it.t, .int .i64 it.c, .slice LAi lni lci, .slice BAi bni bci] 35)).alloc (.cells lz 51) = W := ⟨_, rfl⟩
  have HSZ : Hid (W.heap.size = w.heap.size + 3) := by rw [← hWW, size_alloc, size_alloc, size_alloc]; exact hidT rfl
  rw [hWW] at t0 t1 t2 t4
  obtain ⟨g, hg⟩ : ∃ g, w.heap.size = g := ⟨_, rfl⟩
  have HG := hidT hg
  rw [hg] at t0 t1 t2
  have HW := hidT hWW
  have T0 := hidT t0
  have T1 := hidT t1
  have T2 := hidT t2
  have T4 := hidT t4
  have HI := hidT hi
  have HS := hidT hS
  have HL := hidT (h.mono (T := fun b => S b ∨ w.heap.size ≤ b) fun _ h => .inl h)
  have HLT0 := hidT h.ltB
  have HE := hidT hE
  have HBB := hidT hB
  have HLI := hidT hli
  have HBI := hidT hbi
  have HB65 := hidT hb65
  have HL65 := hidT hl65
  have HLT := hidT hlt
  clear hlt
  have HKI := hidT hk
  have d1 : decide (it.k < 1) = false := by simp; omega
  have d2 : decide (3 < it.k) = false := by simp; omega
  have c1 : (it.k == 1) = true := by simp; omega
  clear hk
  obtain ⟨i0, i1, i2, i3, i4⟩ := cells5 t0
  obtain ⟨j0, j1, j2, j3, j4, j5, j6, j7⟩ := cells8 t1
  rw [← HW.out] at i0 i1 i2 i3 i4 j0 j1 j2 j3 j4 j5 j6 j7
  clear t0 t1 t2 t4 hE hB hWW hS h hi hb65 hl65 hli hbi
  go_enter Try.func39, Try.ntmps39
  obtain ⟨K, hK⟩ : ∃ K, Lane.last l = K := ⟨_, rfl⟩
  have HKK := hidT hK
  have HLAST : Hid (∀ m' : Later W, Calls Try.prog 61 #[.agg #[.slice A n c, .int .i64 l.p.seq, .int .i64 l.p.total, .int .i64 l.p.got, .slice B m d]] m'.w (IntIs m'.w K)) := hidT fun m' => rlast_any l A n c B m d m'.w (HE.out.below (bthen T4.out m'.h)) K hK
  have hlt : decide (it.q ≤ K) = false := by have := HLT.out; rw [HKK.out] at this; simp; omega
  clear hK
  go_wp2_with fail
  rw [HW.out]
  rw [HW.out] at i0 i1 i2 i3 i4 j1
  have NE := Later.ne W
  have a0 := Later.cell i0
  have a1 := Later.cell i1
  have a2 := Later.cell i2
  have a3 := Later.cell i3
  have a4 := Later.cell i4
  have b1 := Later.cell j1
  clear hg i0 i1 i2 i3 i4 j0 j1 j2 j3 j4 j5 j6 j7
  refine wp_later (by kernel_rfl) (by kernel_rfl) ?_
  repeat (go_big_quiet_step ((go_at_call 61; exact Later.int (HLAST.out _))))
  refine wpQuiet_nil ?_
  intro w9 hw9
  obtain ⟨⟨_, hb9⟩, rfl⟩ := hw9
  have X0 := hidT (keepH T0.out hb9)
  have X1 := hidT (keepH T1.out hb9)
  have X2 := hidT (keepH T2.out hb9)
  have HBX := hidT (bthen T4.out hb9)
  clear hb9 a0 a1 a2 a3 a4 b1 NE HLAST
  obtain ⟨i0, i1, i2, i3, i4⟩ := cells5 X0.out
  obtain ⟨j0, j1, j2, j3, j4, j5, j6, j7⟩ := cells8 X1.out
  have x2 := X2.out
  have hadd := radd_any l.p B m d it.q it.i it.t BAi bni bci it.b w9 (HBB.out.below HBX.out) (HBI.out.below HBX.out) (by have := HBB.out.1; have := HS.out.2.2; omega) (by have := HBI.out.1; have := HB65.out; omega)
  rw [ha] at hadd
  have HADD := hidT hadd
  clear hadd ha
  go_wp2_with fail
  with_reducible refine HADD.out.mono ?_
  rintro e w5 ⟨PA, pn, pc, SB, sn, sc, rfl, hrp, hrs, hb5⟩
  dsimp only at hrp hrs ⊢
  clear i0 i1 i2 i3 i4 j0 j1 j2 j3 j4 j5 j6 j7 x2 HADD
  have p5 := alloc_at w5 (.cells #[.int .i64 l.p.seq, .int .i64 l.p.total, .int .i64 l.p.got, .slice PA pn pc] 49) _ rfl
  have n5 := nkeep w5 (.cells #[.int .i64 l.p.seq, .int .i64 l.p.total, .int .i64 l.p.got, .slice PA pn pc] 49)
  obtain ⟨W6, hW6⟩ : ∃ W6, w5.alloc (.cells #[.int .i64 l.p.seq, .int .i64 l.p.total, .int .i64 l.p.got, .slice PA pn pc] 49) = W6 := ⟨_, rfl⟩
  obtain ⟨r, hr⟩ : ∃ r, w5.heap.size = r := ⟨_, rfl⟩
  rw [hW6, hr] at p5
  rw [hW6] at n5
  have HW6 := hidT hW6
  have P6 := hidT p5
  have X0 := hidT (keepH (keepH X0.out hb5) n5)
  have X1 := hidT (keepH (keepH X1.out hb5) n5)
  have X2 := hidT (keepH (keepH X2.out hb5) n5)
  have HBX := hidT (bthen HBX.out (bthen hb5 n5))
  have HRP := hidT (hrp.below n5)
  have HRS := hidT (hrs.below n5)
  clear p5 n5 hW6 hrp hrs hb5
  obtain ⟨i0, i1, i2, i3, i4⟩ := cells5 X0.out
  obtain ⟨j0, j1, j2, j3, j4, j5, j6, j7⟩ := cells8 X1.out
  obtain ⟨k0, k1, k2, k3⟩ := cells4 P6.out
  have x2 := X2.out
  rw [← HW6.out] at i0 i1 i2 i3 i4 j0 j1 j2 j3 j4 j5 j6 j7 k0 k1 k2 k3 x2
  have hbx := HBX.out
  rw [← HW6.out] at hbx
  have HBX := hidT hbx
  clear hbx
  go_wp2_with (
    refine wpList_stI rfl 51 _ _ rfl (g + 1 + 1) #[.slice A n c, .int .i64 l.p.seq, .int .i64 l.p.total, .int .i64 l.p.got, .slice B m d] rfl rfl _ _ x2 sizeL rfl (by simp [Value.oneCell']) ?_
    intro wy hgy hbuty hbely)
  obtain ⟨r0, r1, r2, r3, r4⟩ := cells5 hgy
  have hgg := HG.out
  have hsz := HSZ.out
  have bW : Below w.heap.size w wy := hbely _ _ HBX.out (by omega)
  exact bodyPost_ret (v := .tuple #[.agg #[.slice A n c, .int .i64 l.p.seq, .int .i64 l.p.total, .int .i64 l.p.got, .slice B m d], .int .i64 2]) (by simp [results, Try.results39, go_sem, r0, r1, r2, r3, r4]) rfl
    ⟨_, rfl, HL.out.below bW, bW⟩
set_option maxHeartbeats 4000000 in
theorem qread_on {S : Nat → Prop} (v u : Value) (l : Lane.Ln) (it : Item.It) (w : World) (h : IsLane S w v l) (hi : IsItem w u it) (hS : SmallL l) (hb65 : it.b.length ≤ 65536) (hl65 : it.l.length ≤ 65536) (hk : it.k = 1) (hlt : ¬ it.q ≤ Lane.last l) (p' : Pt) (ha : addOf l.p it.q it.i it.t it.b = ⟨p', [], false, 0⟩) :
    Calls Try.prog 39 #[v, u] w (QReadIs S w (⟨l.es, p'⟩, 0)) := by
  obtain ⟨A, n, c, B, m, d, ev, hE, hB, hW⟩ := id h
  subst ev
  obtain ⟨LAi, lni, lci, BAi, bni, bci, eu, hli, hbi⟩ := id hi
  subst eu
  obtain ⟨t0, t1, t2, t4⟩ := three_alloc w (.cells #[.slice A n c, .int .i64 l.p.seq, .int .i64 l.p.total, .int .i64 l.p.got, .slice B m d] 51) (.cells #[.int .i64 it.k, .int .i64 it.q, .int .i64 it.e, .int .i64 it.i, .int .i64 it.t, .int .i64 it.c, .slice LAi lni lci, .slice BAi bni bci] 35) (.cells lz 51)
  obtain ⟨W, hWW⟩ : ∃ W, ((w.alloc (.cells #[.slice A n c, .int .i64 l.p.seq, .int .i64 l.p.total, .int .i64 l.p.got, .slice B m d] 51)).alloc (.cells #[.int .i64 it.k, .int .i64 it.q, .int .i64 it.e, .int .i64 it.i, .int .i64 it.t, .int .i64 it.c, .slice LAi lni lci, .slice BAi bni bci] 35)).alloc (.cells lz 51) = W := ⟨_, rfl⟩
  have HSZ : Hid (W.heap.size = w.heap.size + 3) := by rw [← hWW, size_alloc, size_alloc, size_alloc]; exact hidT rfl
  rw [hWW] at t0 t1 t2 t4
  obtain ⟨g, hg⟩ : ∃ g, w.heap.size = g := ⟨_, rfl⟩
  have HG := hidT hg
  rw [hg] at t0 t1 t2
  have HW := hidT hWW
  have T0 := hidT t0
  have T1 := hidT t1
  have T2 := hidT t2
  have T4 := hidT t4
  have HI := hidT hi
  have HS := hidT hS
  have HL := hidT (h.mono (T := fun b => S b ∨ w.heap.size ≤ b) fun _ h => .inl h)
  have HLT0 := hidT h.ltB
  have HE := hidT hE
  have HBB := hidT hB
  have HLI := hidT hli
  have HBI := hidT hbi
  have HB65 := hidT hb65
  have HL65 := hidT hl65
  have HLT := hidT hlt
  clear hlt
  have HKI := hidT hk
  have d1 : decide (it.k < 1) = false := by simp; omega
  have d2 : decide (3 < it.k) = false := by simp; omega
  have c1 : (it.k == 1) = true := by simp; omega
  clear hk
  obtain ⟨i0, i1, i2, i3, i4⟩ := cells5 t0
  obtain ⟨j0, j1, j2, j3, j4, j5, j6, j7⟩ := cells8 t1
  rw [← HW.out] at i0 i1 i2 i3 i4 j0 j1 j2 j3 j4 j5 j6 j7
  clear t0 t1 t2 t4 hE hB hWW hS h hi hb65 hl65 hli hbi
  go_enter Try.func39, Try.ntmps39
  obtain ⟨K, hK⟩ : ∃ K, Lane.last l = K := ⟨_, rfl⟩
  have HKK := hidT hK
  have HLAST : Hid (∀ m' : Later W, Calls Try.prog 61 #[.agg #[.slice A n c, .int .i64 l.p.seq, .int .i64 l.p.total, .int .i64 l.p.got, .slice B m d]] m'.w (IntIs m'.w K)) := hidT fun m' => rlast_any l A n c B m d m'.w (HE.out.below (bthen T4.out m'.h)) K hK
  have hlt : decide (it.q ≤ K) = false := by have := HLT.out; rw [HKK.out] at this; simp; omega
  clear hK
  go_wp2_with fail
  rw [HW.out]
  rw [HW.out] at i0 i1 i2 i3 i4 j1
  have NE := Later.ne W
  have a0 := Later.cell i0
  have a1 := Later.cell i1
  have a2 := Later.cell i2
  have a3 := Later.cell i3
  have a4 := Later.cell i4
  have b1 := Later.cell j1
  clear hg i0 i1 i2 i3 i4 j0 j1 j2 j3 j4 j5 j6 j7
  refine wp_later (by kernel_rfl) (by kernel_rfl) ?_
  repeat (go_big_quiet_step ((go_at_call 61; exact Later.int (HLAST.out _))))
  refine wpQuiet_nil ?_
  intro w9 hw9
  obtain ⟨⟨_, hb9⟩, rfl⟩ := hw9
  have X0 := hidT (keepH T0.out hb9)
  have X1 := hidT (keepH T1.out hb9)
  have X2 := hidT (keepH T2.out hb9)
  have HBX := hidT (bthen T4.out hb9)
  clear hb9 a0 a1 a2 a3 a4 b1 NE HLAST
  obtain ⟨i0, i1, i2, i3, i4⟩ := cells5 X0.out
  obtain ⟨j0, j1, j2, j3, j4, j5, j6, j7⟩ := cells8 X1.out
  have x2 := X2.out
  have hadd := raddF_any l.p B m d it.q it.i it.t BAi bni bci it.b w9 (HBB.out.below HBX.out) (HBI.out.below HBX.out) (by have := HBB.out.1; have := HS.out.2.2; omega) (by have := HBI.out.1; have := HB65.out; omega) (fits_of (by rw [ha]))
  rw [ha] at hadd
  have HADD := hidT hadd
  clear hadd ha
  go_wp2_with fail
  with_reducible refine HADD.out.mono ?_
  rintro e w5 ⟨PA, pn, pc, SB, sn, sc, rfl, hrp, hrs, hb5, hap, has⟩
  dsimp only at hrp hrs ⊢
  have HAP := hidT fun b o e => Nat.le_trans HBX.out.size (hap b o e)
  have HAS := hidT fun b o e => Nat.le_trans HBX.out.size (has b o e)
  clear hap has
  clear i0 i1 i2 i3 i4 j0 j1 j2 j3 j4 j5 j6 j7 x2 HADD
  have p5 := alloc_at w5 (.cells #[.int .i64 p'.seq, .int .i64 p'.total, .int .i64 p'.got, .slice PA pn pc] 49) _ rfl
  have n5 := nkeep w5 (.cells #[.int .i64 p'.seq, .int .i64 p'.total, .int .i64 p'.got, .slice PA pn pc] 49)
  obtain ⟨W6, hW6⟩ : ∃ W6, w5.alloc (.cells #[.int .i64 p'.seq, .int .i64 p'.total, .int .i64 p'.got, .slice PA pn pc] 49) = W6 := ⟨_, rfl⟩
  obtain ⟨r, hr⟩ : ∃ r, w5.heap.size = r := ⟨_, rfl⟩
  rw [hW6, hr] at p5
  rw [hW6] at n5
  have HW6 := hidT hW6
  have P6 := hidT p5
  have X0 := hidT (keepH (keepH X0.out hb5) n5)
  have X1 := hidT (keepH (keepH X1.out hb5) n5)
  have X2 := hidT (keepH (keepH X2.out hb5) n5)
  have HBX := hidT (bthen HBX.out (bthen hb5 n5))
  have HRP := hidT (hrp.below n5)
  have HRS := hidT (hrs.below n5)
  clear p5 n5 hW6 hrp hrs hb5
  obtain ⟨i0, i1, i2, i3, i4⟩ := cells5 X0.out
  obtain ⟨j0, j1, j2, j3, j4, j5, j6, j7⟩ := cells8 X1.out
  obtain ⟨k0, k1, k2, k3⟩ := cells4 P6.out
  have x2 := X2.out
  rw [← HW6.out] at i0 i1 i2 i3 i4 j0 j1 j2 j3 j4 j5 j6 j7 k0 k1 k2 k3 x2
  have n7 := nkeep W6 (.cells #[.slice A n c, .int .i64 p'.seq, .int .i64 p'.total, .int .i64 p'.got, .slice PA pn pc] 51)
  have p7 := alloc_at W6 (.cells #[.slice A n c, .int .i64 p'.seq, .int .i64 p'.total, .int .i64 p'.got, .slice PA pn pc] 51) _ rfl
  obtain ⟨W7, hW7⟩ : ∃ W7, W6.alloc (.cells #[.slice A n c, .int .i64 p'.seq, .int .i64 p'.total, .int .i64 p'.got, .slice PA pn pc] 51) = W7 := ⟨_, rfl⟩
  have hs6 : W6.heap.size = r + 1 := by rw [← HW6.out, size_alloc, hr]
  rw [hW7, hs6] at p7
  rw [hW7] at n7
  have HW7 : Hid ((w5.alloc (.cells #[.int .i64 p'.seq, .int .i64 p'.total, .int .i64 p'.got, .slice PA pn pc] 49)).alloc (.cells #[.slice A n c, .int .i64 p'.seq, .int .i64 p'.total, .int .i64 p'.got, .slice PA pn pc] 51) = W7) := hidT (by rw [HW6.out]; exact hW7)
  have P7 := hidT p7
  have X2' := hidT (keepH X2.out n7)
  have HBX := hidT (bthen HBX.out n7)
  have HNP := hidT (HRP.out.neB X2.out)
  have HNS := hidT (HRS.out.neB X2.out)
  have HRS := hidT (HRS.out.below n7)
  have HRP := hidT (HRP.out.below n7)
  have HNL : Hid (IsLane (fun b => (S b ∨ w.heap.size ≤ b) ∧ b ≠ g + 1 + 1) W7 (.agg #[.slice A n c, .int .i64 p'.seq, .int .i64 p'.total, .int .i64 p'.got, .slice PA pn pc]) ⟨l.es, p'⟩) := hidT (by
    obtain ⟨A', n', c', B', m', d', ev, he, _, _⟩ := HLT0.out
    injection ev with ev
    simp only [Array.mk.injEq, List.cons.injEq, Value.slice.injEq, and_true, true_and] at ev
    obtain ⟨⟨rfl, rfl, rfl⟩, _⟩ := ev
    exact ⟨_, _, _, _, _, _, rfl, (he.mono (fun b hb => ⟨.inl hb.1, by have := HG.out; have := hb.2; omega⟩)).below HBX.out, HRP.out, fun h0 b o e => ⟨.inr (HAP.out b o e), HNP.out h0 b o e⟩⟩)
  clear hs6 p7 n7 hW7
  obtain ⟨z0', z1', z2', z3', z4'⟩ := cells5 P7.out
  have x3 := X2'.out
  rw [← HW7.out] at z0' z1' z2' z3' z4' x3
  have hbx := HBX.out
  have hrp := HRP.out
  rw [← HW7.out] at hbx hrp
  have HBX := hidT hbx
  have HRP := hidT hrp
  clear hbx hrp
  cases huu : decide (0 < l.p.got)
  all_goals
    go_wp2_with (
      refine wpList_stI rfl 51 _ _ rfl (g + 1 + 1) #[.slice A n c, .int .i64 p'.seq, .int .i64 p'.total, .int .i64 p'.got, .slice PA pn pc] rfl rfl _ _ x3 sizeL rfl (by simp [Value.oneCell']) ?_
      intro wy hgy hbuty hbely)
    obtain ⟨r0, r1, r2, r3, r4⟩ := cells5 hgy
    have hgg := HG.out
    have hsz := HSZ.out
    have bW : Below w.heap.size w wy := hbely _ _ HBX.out (by omega)
    have hpx := HRP.out.keptS HNP.out (KeptS.but hbuty fun b h => h)
    have hfin : IsLane (fun b => S b ∨ w.heap.size ≤ b) wy (.agg #[.slice A n c, .int .i64 p'.seq, .int .i64 p'.total, .int .i64 p'.got, .slice PA pn pc]) ⟨l.es, p'⟩ := ⟨_, _, _, _, _, _, rfl, (HE.out.mono (T := fun b => S b ∨ w.heap.size ≤ b) (fun _ h => .inl h)).below bW, hpx, fun h0 b o e => .inr (HAP.out b o e)⟩
    exact bodyPost_ret (v := .tuple #[.agg #[.slice A n c, .int .i64 p'.seq, .int .i64 p'.total, .int .i64 p'.got, .slice PA pn pc], .int .i64 0]) (by simp [results, Try.results39, go_sem, r0, r1, r2, r3, r4]) rfl
      ⟨_, rfl, hfin, bW⟩
end Go.Proofs.Ytdchgnmkeefffaa
