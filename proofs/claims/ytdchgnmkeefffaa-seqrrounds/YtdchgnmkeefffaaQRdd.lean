/- What the document's Read of an order comes to. -/
import Derived.Test.YtdchgnmkeefffaaQRda
set_option maxRecDepth 100000
namespace Go.Proofs.Ytdchgnmkeefffaa
open Go.RowKit
set_option linter.unusedVariables false

set_option maxHeartbeats 4000000 in
theorem qread_order {S : Nat → Prop} (v u : Value) (l : Lane.Ln) (it : Item.It) (w : World) (h : IsLane S w v l) (hi : IsItem w u it) (hS : SmallL l) (hb65 : it.b.length ≤ 65536) (hl65 : it.l.length ≤ 65536) (hk : it.k = 2) (hu : ¬ 0 < l.p.got) (hlt : ¬ it.q ≤ Lane.last l) :
    Calls Try.prog 39 #[v, u] w (QReadIs S w (⟨l.es ++ [⟨it.k, it.q, [], it.l, it.i == 1⟩], l.p⟩, 0)) := by
  obtain ⟨A, n, c, B, m, d, ev, hE, hB, hW⟩ := id h
  subst ev
  obtain ⟨LAi, lni, lci, BAi, bni, bci, eu, hli, hbi⟩ := id hi
  subst eu
  obtain ⟨t0, t1, t2, t4⟩ := three_alloc w (.cells #[.slice A n c, .int .i64 l.p.seq, .int .i64 l.p.total, .int .i64 l.p.got, .slice B m d] 51) (.cells #[.int .i64 it.k, .int .i64 it.q, .int .i64 it.e, .int .i64 it.i, .int .i64 it.t, .int .i64 it.c, .slice LAi lni lci, .slice BAi bni bci] 35) (.cells lz 51)
  obtain ⟨W, hWW⟩ : ∃ W, ((w.alloc (.cells #[.slice A n c, .int .i64 l.p.seq, .int .i64 l.p.total, .int .i64 l.p.got, .slice B m d] 51)).alloc (.cells #[.int .i64 it.k, .int .i64 it.q, .int .i64 it.e, .int .i64 it.i, .int .i64 it.t, .int .i64 it.c, .slice LAi lni lci, .slice BAi bni bci] 35)).alloc (.cells lz 51) = W := ⟨_, rfl⟩
  have HSZ : Hid (W.heap.size = w.heap.size + 3) := by rw [← hWW, size_alloc, size_alloc, size_alloc]; exact hidT rfl
  rw [hWW] at t0 t1 t2 t4
  obtain ⟨g, hg⟩ : ∃ g, w.heap.size = g := ⟨_, rfl⟩
  have HG := hidT hg
  rw [hg] at t0 t1 t2
  have HW := hidT hWW
  have T0 := hidT t0
  have T1 := hidT t1
  have T2 := hidT t2
  have T4 := hidT t4
  have HI := hidT hi
  have HS := hidT hS
  have HL := hidT (h.mono (T := fun b => S b ∨ w.heap.size ≤ b) fun _ h => .inl h)
  have HLT0 := hidT h.ltB
  have HE := hidT hE
  have HBB := hidT hB
  have HLI := hidT hli
  have HBI := hidT hbi
  have HB65 := hidT hb65
  have HL65 := hidT hl65
  have HLT := hidT hlt
  clear hlt
  have HUU := hidT hu
  clear hu
  have HKI := hidT hk
  have d1 : decide (it.k < 1) = false := by simp; omega
  have d2 : decide (3 < it.k) = false := by simp; omega
  have c1 : (it.k == 1) = false := by simp; omega
  have c2 : (it.k == 2) = true := by simp; omega
  clear hk
  obtain ⟨i0, i1, i2, i3, i4⟩ := cells5 t0
  obtain ⟨j0, j1, j2, j3, j4, j5, j6, j7⟩ := cells8 t1
  rw [← HW.out] at i0 i1 i2 i3 i4 j0 j1 j2 j3 j4 j5 j6 j7
  clear t0 t1 t2 t4 hE hB hWW hS h hi hb65 hl65 hli hbi
  go_enter Try.func39, Try.ntmps39
  obtain ⟨K, hK⟩ : ∃ K, Lane.last l = K := ⟨_, rfl⟩
  have HKK := hidT hK
  have HLAST : Hid (∀ m' : Later W, Calls Try.prog 61 #[.agg #[.slice A n c, .int .i64 l.p.seq, .int .i64 l.p.total, .int .i64 l.p.got, .slice B m d]] m'.w (IntIs m'.w K)) := hidT fun m' => rlast_any l A n c B m d m'.w (HE.out.below (bthen T4.out m'.h)) K hK
  have hlt : decide (it.q ≤ K) = false := by have := HLT.out; rw [HKK.out] at this; simp; omega
  clear hK
  go_wp2_with fail
  rw [HW.out]
  rw [HW.out] at i0 i1 i2 i3 i4 j1
  have NE := Later.ne W
  have a0 := Later.cell i0
  have a1 := Later.cell i1
  have a2 := Later.cell i2
  have a3 := Later.cell i3
  have a4 := Later.cell i4
  have b1 := Later.cell j1
  clear hg i0 i1 i2 i3 i4 j0 j1 j2 j3 j4 j5 j6 j7
  refine wp_later (by kernel_rfl) (by kernel_rfl) ?_
  repeat (go_big_quiet_step ((go_at_call 61; exact Later.int (HLAST.out _))))
  refine wpQuiet_nil ?_
  intro w9 hw9
  obtain ⟨⟨_, hb9⟩, rfl⟩ := hw9
  have X0 := hidT (keepH T0.out hb9)
  have X1 := hidT (keepH T1.out hb9)
  have X2 := hidT (keepH T2.out hb9)
  have HBX := hidT (bthen T4.out hb9)
  clear hb9 a0 a1 a2 a3 a4 b1 NE HLAST
  obtain ⟨i0, i1, i2, i3, i4⟩ := cells5 X0.out
  obtain ⟨j0, j1, j2, j3, j4, j5, j6, j7⟩ := cells8 X1.out
  have x2 := X2.out
  have huu : decide (0 < l.p.got) = false := by have := HUU.out; simp; omega
  have n7 := nkeep w9 (.cells #[.int .i64 it.k, .int .i64 it.q, .slice none 0 0, .slice none 0 0, .bool false] 59)
  have p7 := alloc_at w9 (.cells #[.int .i64 it.k, .int .i64 it.q, .slice none 0 0, .slice none 0 0, .bool false] 59) _ rfl
  obtain ⟨W7, hW7⟩ : ∃ W7, w9.alloc (.cells #[.int .i64 it.k, .int .i64 it.q, .slice none 0 0, .slice none 0 0, .bool false] 59) = W7 := ⟨_, rfl⟩
  obtain ⟨r, hr⟩ : ∃ r, w9.heap.size = r := ⟨_, rfl⟩
  rw [hW7, hr] at p7
  rw [hW7] at n7
  have HW7 := hidT hW7
  have P7 := hidT p7
  have X0' := hidT (keepH X0.out n7)
  have X1' := hidT (keepH X1.out n7)
  have X2' := hidT (keepH X2.out n7)
  have HRR : Hid (g + 3 ≤ r) := hidT (by have := blk_lt X2.out; omega)
  have HBX := hidT (bthen HBX.out n7)
  clear p7 n7 hW7
  obtain ⟨i0', i1', i2', i3', i4'⟩ := cells5 X0'.out
  obtain ⟨j0', j1', j2', j3', j4', j5', j6', j7'⟩ := cells8 X1'.out
  obtain ⟨z0', z1', z2', z3', z4'⟩ := cells5 P7.out
  rw [← HW7.out] at i0' i1' i2' i3' i4' j0' j1' j2' j3' j4' j5' j6' j7' z0' z1' z2' z3' z4'
  obtain ⟨hd, hhd⟩ : ∃ hd, (it.i == 1) = hd := ⟨_, rfl⟩
  have HHD := hidT hhd
  have N8 := hidT (nkeep W7 (.cells #[] 3))
  have hs7 : W7.heap.size = r + 1 := by rw [← HW7.out, size_alloc, hr]
  have how := World.ownsRow_made (base := W7.heap.size) (e := 3) (size := 1) W7 #[] 0 (Nat.le_refl _) (Nat.zero_le _) rfl
  rw [show (⟨W7.heap.size, 0, none⟩ : Addr) = ⟨r + 1, 0, none⟩ by rw [hs7]] at how
  have HOW := hidT how
  clear how hs7
  have HRD := hidT ((RdV.below HLI.out HBX.out).alloc (.cells #[] 3))
  have jx6 := (cells8 (keepH X1'.out N8.out)).2.2.2.2.2.2.1
  rw [← HW7.out] at jx6
  have hlni : lni ≤ 65536 := by have := HL65.out; have := RdI.size HLI.out; omega
  go_wp2_with (
    at_builtin
    rw [HW7.out]
    refine wpList_appV rfl (.tmp 84) (.tmp 86) 32 rfl W7.heap.size 3 (.int .i64 0) 8 info3 rfl (by omega) Try.underlying32 (.slice (some ⟨r + 1, 0, none⟩) 0 0) 0 [] rfl HOW.out LAi lni lci (is it.l) rfl HRD.out (is_one _) (by omega) N8.out.size ?_
    intro v8 w8 hown hb8 hg8
    rw [Nat.zero_add, List.nil_append] at hown
    obtain ⟨A8, c8, rfl, hrd8⟩ := OwnV.rd hown
    have hb8' := N8.out.trans hb8
    have y8 := keepH P7.out hb8'
    have f3 := no_frozen y8 3
    obtain ⟨q0, q1', q2', q3', q4'⟩ := cells5 y8
    have z8 : (w8.setCell ⟨r, 3, none⟩ (.slice A8 lni c8)).heap[r]? = some (.cells #[.int .i64 it.k, .int .i64 it.q, .slice none 0 0, .slice A8 lni c8, .bool false] 59 (0, 0)) := heap_setCell_same w8 r 3 _ _ _ y8
    have zb := But.setCell w8 r 3 (.slice A8 lni c8)
    have f4 := no_frozen z8 4
    obtain ⟨p0, p1, p2, p3, p4⟩ := cells5 z8
    have hgr : g + 1 ≠ r := by have := HRR.out; omega
    have hg0r : g ≠ r := by have := HRR.out; omega
    obtain ⟨m0, m1, m2, m3, m4, m5, m6, m7⟩ := cells8 ((zb.2 (g + 1) hgr).trans (keepH X1'.out hb8'))
    have z9 : ((w8.setCell ⟨r, 3, none⟩ (.slice A8 lni c8)).setCell ⟨r, 4, none⟩ (.bool hd)).heap[r]? = some (.cells #[.int .i64 it.k, .int .i64 it.q, .slice none 0 0, .slice A8 lni c8, .bool hd] 59 (0, 0)) := heap_setCell_same _ r 4 _ _ _ z8
    have zb2 := zb.trans (But.setCell (w8.setCell ⟨r, 3, none⟩ (.slice A8 lni c8)) r 4 (.bool hd))
    obtain ⟨s0, s1, s2, s3, s4⟩ := cells5 z9
    obtain ⟨t0, t1, t2, t3, t4⟩ := cells5 ((zb2.2 g hg0r).trans (keepH X0'.out hb8'))
    have X2' := hidT ((zb2.2 (g + 1 + 1) (by have := HRR.out; omega)).trans (keepH X2'.out hb8'))
    have hr7 := blk_lt P7.out
    have hadr : ∀ b o, A8 = some ⟨b, o, none⟩ → W7.heap.size ≤ b := addrV hown (Nat.le_refl _)
    have HLS := hidT (RdV.but (OwnV.same hown) (fun b o e => by have := hadr b o e; omega) zb2)
    have HAD := hidT hadr
    have HBX := hidT (((bthen HBX.out hb8').setCell (p := ⟨r, 3, none⟩) (by have := HRR.out; have := HG.out; show w.heap.size ≤ r; omega) (.slice A8 lni c8)).setCell (p := ⟨r, 4, none⟩) (by have := HRR.out; have := HG.out; show w.heap.size ≤ r; omega) (.bool hd))
    clear hown hb8 hg8 hrd8 hb8' y8 zb zb2 hgr hg0r hadr hr7 z8 z9)
  generalize ((w8.setCell ⟨r, 3, none⟩ (.slice A8 lni c8)).setCell ⟨r, 4, none⟩ (.bool hd)) = wX at HLS HBX X2' ⊢
  have hen : IsEn (fun b => (S b ∨ w.heap.size ≤ b) ∧ b ≠ g + 1 + 1) wX (.agg #[.int .i64 it.k, .int .i64 it.q, .slice none 0 0, .slice A8 lni c8, .bool hd]) ⟨it.k, it.q, [], it.l, hd⟩ := ⟨none, 0, 0, A8, lni, c8, rfl, Rd.nil_ _, HLS.out, Within.zero _ _, fun _ b o e => ⟨.inr (by have := HAD.out b o e; have := HG.out; have := blk_lt P7.out; have := HRR.out; omega), by have := HAD.out b o e; have := blk_lt P7.out; have := HRR.out; omega⟩⟩
  have HCALW := hidT (with_any (T := fun b => (S b ∨ w.heap.size ≤ b) ∧ b ≠ g + 1 + 1) _ _ l ⟨it.k, it.q, [], it.l, hd⟩ wX (HLT0.out.below HBX.out) hen HS.out.1 (fun b h => ⟨.inl h.1, by have := HG.out; have := h.2; omega⟩) (fun b h => h) (fun b h => ⟨.inr (by have := HBX.out.size; omega), by have := blk_lt X2'.out; omega⟩))
  clear hen hr i0 i1 i2 i3 i4 j0 j1 j2 j3 j4 j5 j6 j7 x2 i0' i1' i2' i3' i4' j0' j1' j2' j3' j4' j5' j6' j7' z0' z1' z2' z3' z4'
  with_reducible refine HCALW.out.mono ?_
  rintro e w10 ⟨v10, rfl, hl10, hb10⟩
  obtain ⟨q10, rfl, hs10, ha10⟩ := hl10.cells
  have x4 := keepH X2'.out hb10
  have HL10 := hidT hl10
  have HB10 := hidT (bthen HBX.out hb10)
  clear hl10 hb10
  go_wp2_with (
    refine wpList_stI rfl 51 _ _ rfl (g + 1 + 1) q10 rfl rfl _ _ x4 (by rw [hs10]; exact sizeL) (by rw [hs10]; rfl) ha10 ?_
    intro wy hgy hbuty hbely)
  have hgg := HG.out
  have hsz := HSZ.out
  obtain ⟨An, nn, cn, Bn, mn, dn, ev, _, _, _⟩ := id HL10.out
  injection ev with ev
  subst ev
  obtain ⟨r0, r1, r2, r3, r4⟩ := cells5 hgy
  have hfin := (HL10.out.keptS (KeptS.but hbuty fun b h => h.2)).mono fun b h => h.1
  exact bodyPost_ret (v := .tuple #[.agg #[.slice An nn cn, .int .i64 l.p.seq, .int .i64 l.p.total, .int .i64 l.p.got, .slice Bn mn dn], .int .i64 0]) (by simp [results, Try.results39, go_sem, r0, r1, r2, r3, r4]) rfl
    ⟨_, rfl, by rw [HHD.out]; exact hfin, hbely _ _ HB10.out (by omega)⟩
end Go.Proofs.Ytdchgnmkeefffaa
