import Derived.Test.YtmlmkkfieeaejaaLn10
import Derived.Test.YtmlmkkfieeaejaaLnQ
import Derived.Deep.RegionLaw
set_option maxRecDepth 100000
/- readPiece in one; lanes of a call's own. -/
namespace Go.Proofs.Ytmlmkkfieeaejaa
open Go.RowKit
set_option linter.unusedVariables false

theorem piece_any (l : Lane.Ln) (A : Option Addr) (n c : Nat) (us : List (Array Value)) (B : Option Addr) (m d : Nat) (base lo : Nat) (u : Value) (it : Item.It) (w : World) (h : OwnL w base lo A n c us B m d l) (hi : IsItem w u it) (hm65 : l.p.b.length ≤ 65536) (hb65 : it.b.length ≤ 65536)
    (hk : it.k = 1) (hl : ¬ it.q ≤ Lane.last l) (hg : 0 ≤ l.p.got) (hn16 : n + 1 ≤ 16777216) :
    Calls Try.prog 50 #[.agg #[.slice A n c, .int .i64 l.p.seq, .int .i64 l.p.total, .int .i64 l.p.got, .slice B m d], u] w (PieceIs w base (Lane.read l it).1 (Lane.read l it).2) := by
  rcases Lane.add_cases l.p it.q it.i it.t it.b with ⟨_, ha⟩ | ⟨_, _, ha⟩ | ⟨_, _, ha⟩
  · have e := Lane.read_bad (l := l) hk hl (by rw [ha]; exact (by decide : (2 : Int) ≠ 0))
    rw [e]
    exact piece_no l A n c us B m d base lo u it w h hi hm65 hb65 ha
  · have e := Lane.read_whole (l := l) hk hl ha
    rw [e]
    by_cases hu : l.p.got = 0
    · rw [if_neg (by omega)]
      exact piece_whole_n l A n c us B m d base lo u it w h hi hm65 hb65 _ _ ha hu hn16
    · rw [if_pos (by omega)]
      exact piece_whole_u l A n c us B m d base lo u it w h hi hm65 hb65 _ _ ha hu hn16
  · have e := Lane.read_part (l := l) hk hl ha
    rw [e]
    by_cases hu : l.p.got = 0
    · exact piece_on_n l A n c us B m d base lo u it w h hi hm65 hb65 _ ha hu
    · exact piece_on_u l A n c us B m d base lo u it w h hi hm65 hb65 _ ha hu
/-- A lane in new memory, and a code. -/
def ReadIs (w : World) (r : Lane.Ln × Int) (e : Ending) (w' : World) : Prop := ∃ v, e = .returned (.tuple #[v, .int .i64 r.2]) ∧ IsLane (Hi w.heap.size) w' v r.1 ∧ Below w.heap.size w w'
theorem OwnM.but {w w' : World} {base lo g q : Nat} {A : Option Addr} {n c : Nat} {us : List (Array Value)} {B : Option Addr} {m d : Nat} {l : Lane.Ln} (h : OwnM w base lo g A n c us B m d l) (hq : q < base) (hb : But q w w') : OwnM w' base lo g A n c us B m d l := by
  obtain ⟨h1, h2, h3, h4, h5, h6, h7⟩ := h
  have hk : KeptS (Spot lo g) w w' := KeptS.but hb fun b hS e => by have := hS.hi h6 h7; omega
  exact ⟨h1.but hq hb, h2.keptS hk, h3, h4.keptS h5 hk, h5, h6, h7⟩
/-- The row, and the lists, of a lane of the call's own. -/
def OwnN (w : World) (base lo : Nat) (A : Option Addr) (n c : Nat) (us : List (Array Value)) (B : Option Addr) (m d : Nat) (l : Lane.Ln) : Prop :=
  OwnK 5 w base 33 (.slice A n c) n us ∧ AreE (Hi lo) w us l.es ∧ (∀ b o, A = some ⟨b, o, none⟩ → b < lo) ∧ Rd w B m d l.p.b ∧ Within (Hi lo) B m ∧ base ≤ lo
section
variable {w w' : World} {base lo g q : Nat} {A : Option Addr} {n c : Nat} {us : List (Array Value)} {B : Option Addr} {m d : Nat} {l : Lane.Ln}
theorem OwnM.own (h : OwnM w base lo g A n c us B m d l) : OwnN w base lo A n c us B m d l := by
  obtain ⟨h1, h2, h3, h4, h5, h6, h7⟩ := h
  exact ⟨h1, h2.mono fun b hb => hb.hi (Nat.le_refl _) h7, h3, h4, h5.mono fun b hb => hb.hi (Nat.le_refl _) h7, h6⟩
theorem OwnL.own (h : OwnL w base lo A n c us B m d l) : OwnN w base lo A n c us B m d l := by
  obtain ⟨h1, h2, h3, h4, h5, h6, h7⟩ := h
  exact ⟨h1, h2, h3, h4, Within.of h5, h6⟩
theorem OwnN.later (h : OwnN w base lo A n c us B m d l) (hb : Below w.heap.size w w') : OwnN w' base lo A n c us B m d l := by
  obtain ⟨h1, h2, h3, h4, h5, h6⟩ := h
  exact ⟨h1.later hb, h2.below hb, h3, h4.below hb, h5, h6⟩
theorem OwnN.but (h : OwnN w base lo A n c us B m d l) (hq : q < base) (hb : But q w w') : OwnN w' base lo A n c us B m d l := by
  obtain ⟨h1, h2, h3, h4, h5, h6⟩ := h
  have hk : KeptS (Hi lo) w w' := KeptS.hi hb (by omega)
  exact ⟨h1.but hq hb, h2.keptS hk, h3, h4.keptS h5 hk, h5, h6⟩
theorem OwnN.lane (h : OwnN w base lo A n c us B m d l) : IsLane (Hi base) w (.agg #[.slice A n c, .int .i64 l.p.seq, .int .i64 l.p.total, .int .i64 l.p.got, .slice B m d]) l := by
  obtain ⟨h1, h2, h3, h4, h5, h6⟩ := h
  exact ⟨A, n, c, B, m, d, rfl, ⟨us, h1.same, h2.hi h6, Within.of fun b o e => (h1.addr b o e).1⟩, h4, h5.mono fun b hb => Nat.le_trans h6 hb⟩
end
end Go.Proofs.Ytmlmkkfieeaejaa
/- What Read comes to: of another kind; of a piece. -/
namespace Go.Proofs.Ytmlmkkfieeaejaa
open Go.RowKit
set_option linter.unusedVariables false

set_option maxHeartbeats 4000000 in
theorem read_k0 {S : Nat → Prop} (v u : Value) (l : Lane.Ln) (it : Item.It) (w : World) (h : IsLane S w v l) (hi : IsItem w u it) (hS : SmallL l) (hg0 : 0 ≤ l.p.got) (hl65 : it.l.length ≤ 65536) (hb65 : it.b.length ≤ 65536) (hk : it.k < 1 ∨ 3 < it.k) :
    Calls Try.prog 27 #[v, u] w (ReadIs w (l, 1)) := by
  obtain ⟨A, n, c, B, m, d, ev, hE, hB, hW⟩ := id h
  subst ev
  obtain ⟨LAi, lni, lci, BAi, bni, bci, eu, hli, hbi⟩ := id hi
  subst eu
  obtain ⟨t0, t1, t2, t4⟩ := three_alloc w (.cells #[.slice A n c, .int .i64 l.p.seq, .int .i64 l.p.total, .int .i64 l.p.got, .slice B m d] 27) (.cells #[.int .i64 it.k, .int .i64 it.q, .int .i64 it.e, .int .i64 it.i, .int .i64 it.t, .int .i64 it.c, .slice LAi lni lci, .slice BAi bni bci] 41) (.cells lz 27)
  obtain ⟨W, hWW⟩ : ∃ W, ((w.alloc (.cells #[.slice A n c, .int .i64 l.p.seq, .int .i64 l.p.total, .int .i64 l.p.got, .slice B m d] 27)).alloc (.cells #[.int .i64 it.k, .int .i64 it.q, .int .i64 it.e, .int .i64 it.i, .int .i64 it.t, .int .i64 it.c, .slice LAi lni lci, .slice BAi bni bci] 41)).alloc (.cells lz 27) = W := ⟨_, rfl⟩
  have HSZ : Hid (W.heap.size = w.heap.size + 3) := by rw [← hWW, size_alloc, size_alloc, size_alloc]; exact hidT rfl
  rw [hWW] at t0 t1 t2 t4
  have HF := hidT (fresh_any _ l W (h.below t4) hS)
  obtain ⟨g, hg⟩ : ∃ g, w.heap.size = g := ⟨_, rfl⟩
  have HG := hidT hg
  rw [hg] at t0 t1 t2
  have HW := hidT hWW
  have T0 := hidT t0
  have T1 := hidT t1
  have T2 := hidT t2
  have T4 := hidT t4
  have HI := hidT hi
  have HS := hidT hS
  have HG0 := hidT hg0
  have HL65 := hidT hl65
  have HB65 := hidT hb65
  have HLI := hidT hli
  have HES := hidT hE.size
  have c1 : (it.k == 1) = false := by simp; omega
  have c2 : (it.k == 2) = false := by simp; omega
  have c3 : (it.k == 3) = false := by simp; omega
  clear hk
  obtain ⟨e0, e1, e2, e3, e4⟩ := cells5 t0
  rw [← HW.out] at e0 e1 e2 e3 e4
  clear t0 t1 t2 t4 hE hB hW hWW hS h hi hg0 hl65 hb65 hli hbi
  go_enter Try.func27, Try.ntmps27
  go_wp2_with fail
  rw [HW.out]
  clear hg e0 e1 e2 e3 e4
  with_reducible refine HF.out.mono ?_
  intro e' w5 hfr
  obtain ⟨A5, n5, c5, us, B5, m5, d5, lo, rfl, ho5, hb5⟩ := hfr.own
  have y0 := keepH T0.out hb5
  have y1 := keepH T1.out hb5
  have y2 := keepH T2.out hb5
  have HO5 := hidT ho5
  have HB5 := hidT (bthen T4.out hb5)
  clear hfr hb5 ho5 HF
  have hgg := HG.out
  have hsz := HSZ.out
  go_wp2_with (
    refine wpList_stI rfl 27 _ _ rfl g #[.slice A5 n5 c5, .int .i64 l.p.seq, .int .i64 l.p.total, .int .i64 l.p.got, .slice B5 m5 d5] rfl rfl _ _ y0 sizeL rfl (by simp [Value.oneCell']) ?_
    intro w6 hg6 hbut6 hbel6)
  simp only [Act.put]
  have HO6 := hidT (HO5.out.but (by omega) hbut6)
  have Y1 := hidT ((hbut6.2 (g + 1) (by omega)).trans y1)
  have Y2 := hidT ((hbut6.2 (g + 1 + 1) (by omega)).trans y2)
  have HB6 := hidT (hbel6 _ _ HB5.out (by omega))
  have G6 := hidT hg6
  have hlen := HO6.out.rde.size
  obtain ⟨K, hK⟩ : ∃ K, Lane.last l = K := ⟨_, rfl⟩
  have HLAST : Hid (∀ m' : Later w6, Calls Try.prog 49 #[.agg #[.slice A5 n5 c5, .int .i64 l.p.seq, .int .i64 l.p.total, .int .i64 l.p.got, .slice B5 m5 d5]] m'.w (IntIs m'.w K)) := hidT fun m' => last_any l A5 n5 c5 B5 m5 d5 m'.w (HO6.out.rde.below m'.h) HG0.out K hK
  have HKK := hidT hK
  have HN5 : Hid (n5 ≤ 65536) := hidT (by have := HS.out.1; omega)
  obtain ⟨i0, i1, i2, i3, i4⟩ := cells5 hg6
  obtain ⟨j0, j1, j2, j3, j4, j5, j6, j7⟩ := cells8 Y1.out
  have NE := Later.ne w6
  have a0 := Later.cell i0
  have a1 := Later.cell i1
  have a2 := Later.cell i2
  have a3 := Later.cell i3
  have a4 := Later.cell i4
  have b1 := Later.cell j1
  clear hg6 hbut6 hbel6 y0 y1 y2 hgg hsz hlen hK i0 i1 i2 i3 i4 j0 j1 j2 j3 j4 j5 j6 j7
  obtain ⟨lt, hlt⟩ : ∃ lt, decide (it.q ≤ K) = lt := ⟨_, rfl⟩
  refine wp_later (by kernel_rfl) (by kernel_rfl) ?_
  repeat (go_big_quiet_step ((go_at_call 49; exact Later.int (HLAST.out _))))
  refine wpQuiet_nil ?_
  intro w9 hw9
  obtain ⟨⟨_, hb9⟩, rfl⟩ := hw9
  have Y0 := hidT (keepH G6.out hb9)
  have Y1 := hidT (keepH Y1.out hb9)
  have Y2 := hidT (keepH Y2.out hb9)
  have HO9 := hidT (HO6.out.later hb9)
  have HB9 := hidT (bthen HB6.out hb9)
  clear hb9 HO6 HB6 G6 a0 a1 a2 a3 a4 b1 NE HLAST HO5 HB5 T0 T1 T2
  obtain ⟨W9, hW9⟩ : ∃ W9, w9.alloc (.cells #[.int .i64 it.k, .int .i64 it.q, .slice none 0 0, .slice none 0 0, .bool false] 33) = W9 := ⟨_, rfl⟩
  obtain ⟨r, hr⟩ : ∃ r, w9.heap.size = r := ⟨_, rfl⟩
  have p9 := alloc_at w9 (.cells #[.int .i64 it.k, .int .i64 it.q, .slice none 0 0, .slice none 0 0, .bool false] 33) _ rfl
  have n9 := nkeep w9 (.cells #[.int .i64 it.k, .int .i64 it.q, .slice none 0 0, .slice none 0 0, .bool false] 33)
  rw [hW9, hr] at p9
  rw [hW9] at n9
  have HW9 := hidT hW9
  have P9 := hidT p9
  have X0 := hidT (keepH Y0.out n9)
  have X1 := hidT (keepH Y1.out n9)
  have X2 := hidT (keepH Y2.out n9)
  have hmid := HO9.out.mid
  rw [hr] at hmid
  have HM9 := hidT (hmid.later n9)
  have HO9 := hidT (HO9.out.later n9)
  have HBX := hidT (bthen HB9.out n9)
  have m0 := (cells8 Y1.out).1
  have m1 := (cells8 Y1.out).2.1
  have HRR : Hid (w.heap.size + 3 ≤ r) := hidT (by have := HSZ.out; have := HO9.out.2.2.2.2.2.1; have := hmid.2.2.2.2.2.2; omega)
  clear p9 n9 hW9 hmid Y0 Y1 Y2 HB9
  obtain ⟨i0, i1, i2, i3, i4⟩ := cells5 X0.out
  obtain ⟨j0, j1, j2, j3, j4, j5, j6, j7⟩ := cells8 X1.out
  rw [← HW9.out] at i0 i1 i2 i3 i4 j0 j1 j2 j3 j4 j5 j6 j7
  have x2 := X2.out
  have hbx := HBX.out
  have hox := HO9.out
  rw [← HW9.out] at x2 hbx hox
  have HBX := hidT hbx
  have HOX := hidT hox.own
  clear hbx hox
  go_wp2_with (
    refine wpList_stI rfl 27 _ _ rfl (g + 1 + 1) #[.slice A5 n5 c5, .int .i64 l.p.seq, .int .i64 l.p.total, .int .i64 l.p.got, .slice B5 m5 d5] rfl rfl _ _ x2 sizeL rfl (by simp [Value.oneCell']) ?_
    intro wy hgy hbuty hbely)
  obtain ⟨r0, r1, r2, r3, r4⟩ := cells5 hgy
  have hgg := HG.out
  have hsz := HSZ.out
  exact bodyPost_ret (v := .tuple #[.agg #[.slice A5 n5 c5, .int .i64 l.p.seq, .int .i64 l.p.total, .int .i64 l.p.got, .slice B5 m5 d5], .int .i64 1]) (by simp [results, Try.results27, go_sem, r0, r1, r2, r3, r4]) rfl
    ⟨_, rfl, ((HOX.out.but (by omega) hbuty).lane.hi (lo' := w.heap.size) (by omega)), hbely _ _ HBX.out (by omega)⟩

set_option maxHeartbeats 4000000 in
theorem read_late1 {S : Nat → Prop} (v u : Value) (l : Lane.Ln) (it : Item.It) (w : World) (h : IsLane S w v l) (hi : IsItem w u it) (hS : SmallL l) (hg0 : 0 ≤ l.p.got) (hl65 : it.l.length ≤ 65536) (hb65 : it.b.length ≤ 65536) (hk : it.k = 1) (hlt : it.q ≤ Lane.last l) :
    Calls Try.prog 27 #[v, u] w (ReadIs w (l, 2)) := by
  obtain ⟨A, n, c, B, m, d, ev, hE, hB, hW⟩ := id h
  subst ev
  obtain ⟨LAi, lni, lci, BAi, bni, bci, eu, hli, hbi⟩ := id hi
  subst eu
  obtain ⟨t0, t1, t2, t4⟩ := three_alloc w (.cells #[.slice A n c, .int .i64 l.p.seq, .int .i64 l.p.total, .int .i64 l.p.got, .slice B m d] 27) (.cells #[.int .i64 it.k, .int .i64 it.q, .int .i64 it.e, .int .i64 it.i, .int .i64 it.t, .int .i64 it.c, .slice LAi lni lci, .slice BAi bni bci] 41) (.cells lz 27)
  obtain ⟨W, hWW⟩ : ∃ W, ((w.alloc (.cells #[.slice A n c, .int .i64 l.p.seq, .int .i64 l.p.total, .int .i64 l.p.got, .slice B m d] 27)).alloc (.cells #[.int .i64 it.k, .int .i64 it.q, .int .i64 it.e, .int .i64 it.i, .int .i64 it.t, .int .i64 it.c, .slice LAi lni lci, .slice BAi bni bci] 41)).alloc (.cells lz 27) = W := ⟨_, rfl⟩
  have HSZ : Hid (W.heap.size = w.heap.size + 3) := by rw [← hWW, size_alloc, size_alloc, size_alloc]; exact hidT rfl
  rw [hWW] at t0 t1 t2 t4
  have HF := hidT (fresh_any _ l W (h.below t4) hS)
  obtain ⟨g, hg⟩ : ∃ g, w.heap.size = g := ⟨_, rfl⟩
  have HG := hidT hg
  rw [hg] at t0 t1 t2
  have HW := hidT hWW
  have T0 := hidT t0
  have T1 := hidT t1
  have T2 := hidT t2
  have T4 := hidT t4
  have HI := hidT hi
  have HS := hidT hS
  have HG0 := hidT hg0
  have HL65 := hidT hl65
  have HB65 := hidT hb65
  have HLI := hidT hli
  have HES := hidT hE.size
  have HLT := hidT hlt
  clear hlt
  have HKI := hidT hk
  have c1 : (it.k == 1) = true := by simp; omega
  clear hk
  obtain ⟨e0, e1, e2, e3, e4⟩ := cells5 t0
  rw [← HW.out] at e0 e1 e2 e3 e4
  clear t0 t1 t2 t4 hE hB hW hWW hS h hi hg0 hl65 hb65 hli hbi
  go_enter Try.func27, Try.ntmps27
  go_wp2_with fail
  rw [HW.out]
  clear hg e0 e1 e2 e3 e4
  with_reducible refine HF.out.mono ?_
  intro e' w5 hfr
  obtain ⟨A5, n5, c5, us, B5, m5, d5, lo, rfl, ho5, hb5⟩ := hfr.own
  have y0 := keepH T0.out hb5
  have y1 := keepH T1.out hb5
  have y2 := keepH T2.out hb5
  have HO5 := hidT ho5
  have HB5 := hidT (bthen T4.out hb5)
  clear hfr hb5 ho5 HF
  have hgg := HG.out
  have hsz := HSZ.out
  go_wp2_with (
    refine wpList_stI rfl 27 _ _ rfl g #[.slice A5 n5 c5, .int .i64 l.p.seq, .int .i64 l.p.total, .int .i64 l.p.got, .slice B5 m5 d5] rfl rfl _ _ y0 sizeL rfl (by simp [Value.oneCell']) ?_
    intro w6 hg6 hbut6 hbel6)
  simp only [Act.put]
  have HO6 := hidT (HO5.out.but (by omega) hbut6)
  have Y1 := hidT ((hbut6.2 (g + 1) (by omega)).trans y1)
  have Y2 := hidT ((hbut6.2 (g + 1 + 1) (by omega)).trans y2)
  have HB6 := hidT (hbel6 _ _ HB5.out (by omega))
  have G6 := hidT hg6
  have hlen := HO6.out.rde.size
  obtain ⟨K, hK⟩ : ∃ K, Lane.last l = K := ⟨_, rfl⟩
  have HLAST : Hid (∀ m' : Later w6, Calls Try.prog 49 #[.agg #[.slice A5 n5 c5, .int .i64 l.p.seq, .int .i64 l.p.total, .int .i64 l.p.got, .slice B5 m5 d5]] m'.w (IntIs m'.w K)) := hidT fun m' => last_any l A5 n5 c5 B5 m5 d5 m'.w (HO6.out.rde.below m'.h) HG0.out K hK
  have HKK := hidT hK
  have HN5 : Hid (n5 ≤ 65536) := hidT (by have := HS.out.1; omega)
  obtain ⟨i0, i1, i2, i3, i4⟩ := cells5 hg6
  obtain ⟨j0, j1, j2, j3, j4, j5, j6, j7⟩ := cells8 Y1.out
  have NE := Later.ne w6
  have a0 := Later.cell i0
  have a1 := Later.cell i1
  have a2 := Later.cell i2
  have a3 := Later.cell i3
  have a4 := Later.cell i4
  have b1 := Later.cell j1
  clear hg6 hbut6 hbel6 y0 y1 y2 hgg hsz hlen hK i0 i1 i2 i3 i4 j0 j1 j2 j3 j4 j5 j6 j7
  have hlt : decide (it.q ≤ K) = true := by have := HLT.out; rw [HKK.out] at this; simp; omega
  refine wp_later (by kernel_rfl) (by kernel_rfl) ?_
  repeat (go_big_quiet_step ((go_at_call 49; exact Later.int (HLAST.out _))))
  refine wpQuiet_nil ?_
  intro w9 hw9
  obtain ⟨⟨_, hb9⟩, rfl⟩ := hw9
  have Y0 := hidT (keepH G6.out hb9)
  have Y1 := hidT (keepH Y1.out hb9)
  have Y2 := hidT (keepH Y2.out hb9)
  have HO9 := hidT (HO6.out.later hb9)
  have HB9 := hidT (bthen HB6.out hb9)
  clear hb9 HO6 HB6 G6 a0 a1 a2 a3 a4 b1 NE HLAST HO5 HB5 T0 T1 T2
  obtain ⟨W9, hW9⟩ : ∃ W9, w9.alloc (.cells #[.int .i64 it.k, .int .i64 it.q, .slice none 0 0, .slice none 0 0, .bool false] 33) = W9 := ⟨_, rfl⟩
  obtain ⟨r, hr⟩ : ∃ r, w9.heap.size = r := ⟨_, rfl⟩
  have p9 := alloc_at w9 (.cells #[.int .i64 it.k, .int .i64 it.q, .slice none 0 0, .slice none 0 0, .bool false] 33) _ rfl
  have n9 := nkeep w9 (.cells #[.int .i64 it.k, .int .i64 it.q, .slice none 0 0, .slice none 0 0, .bool false] 33)
  rw [hW9, hr] at p9
  rw [hW9] at n9
  have HW9 := hidT hW9
  have P9 := hidT p9
  have X0 := hidT (keepH Y0.out n9)
  have X1 := hidT (keepH Y1.out n9)
  have X2 := hidT (keepH Y2.out n9)
  have hmid := HO9.out.mid
  rw [hr] at hmid
  have HM9 := hidT (hmid.later n9)
  have HO9 := hidT (HO9.out.later n9)
  have HBX := hidT (bthen HB9.out n9)
  have m0 := (cells8 Y1.out).1
  have m1 := (cells8 Y1.out).2.1
  have HRR : Hid (w.heap.size + 3 ≤ r) := hidT (by have := HSZ.out; have := HO9.out.2.2.2.2.2.1; have := hmid.2.2.2.2.2.2; omega)
  clear p9 n9 hW9 hmid Y0 Y1 Y2 HB9
  obtain ⟨i0, i1, i2, i3, i4⟩ := cells5 X0.out
  obtain ⟨j0, j1, j2, j3, j4, j5, j6, j7⟩ := cells8 X1.out
  rw [← HW9.out] at i0 i1 i2 i3 i4 j0 j1 j2 j3 j4 j5 j6 j7
  have x2 := X2.out
  have hbx := HBX.out
  have hox := HO9.out
  rw [← HW9.out] at x2 hbx hox
  have HBX := hidT hbx
  have HOX := hidT hox.own
  clear hbx hox
  go_wp2_with (
    refine wpList_stI rfl 27 _ _ rfl (g + 1 + 1) #[.slice A5 n5 c5, .int .i64 l.p.seq, .int .i64 l.p.total, .int .i64 l.p.got, .slice B5 m5 d5] rfl rfl _ _ x2 sizeL rfl (by simp [Value.oneCell']) ?_
    intro wy hgy hbuty hbely)
  obtain ⟨r0, r1, r2, r3, r4⟩ := cells5 hgy
  have hgg := HG.out
  have hsz := HSZ.out
  exact bodyPost_ret (v := .tuple #[.agg #[.slice A5 n5 c5, .int .i64 l.p.seq, .int .i64 l.p.total, .int .i64 l.p.got, .slice B5 m5 d5], .int .i64 2]) (by simp [results, Try.results27, go_sem, r0, r1, r2, r3, r4]) rfl
    ⟨_, rfl, ((HOX.out.but (by omega) hbuty).lane.hi (lo' := w.heap.size) (by omega)), hbely _ _ HBX.out (by omega)⟩

set_option maxHeartbeats 4000000 in
theorem read_piece {S : Nat → Prop} (v u : Value) (l : Lane.Ln) (it : Item.It) (w : World) (h : IsLane S w v l) (hi : IsItem w u it) (hS : SmallL l) (hg0 : 0 ≤ l.p.got) (hl65 : it.l.length ≤ 65536) (hb65 : it.b.length ≤ 65536) (hk : it.k = 1) (hlt : ¬ it.q ≤ Lane.last l) :
    Calls Try.prog 27 #[v, u] w (ReadIs w (Lane.read l it)) := by
  obtain ⟨A, n, c, B, m, d, ev, hE, hB, hW⟩ := id h
  subst ev
  obtain ⟨LAi, lni, lci, BAi, bni, bci, eu, hli, hbi⟩ := id hi
  subst eu
  obtain ⟨t0, t1, t2, t4⟩ := three_alloc w (.cells #[.slice A n c, .int .i64 l.p.seq, .int .i64 l.p.total, .int .i64 l.p.got, .slice B m d] 27) (.cells #[.int .i64 it.k, .int .i64 it.q, .int .i64 it.e, .int .i64 it.i, .int .i64 it.t, .int .i64 it.c, .slice LAi lni lci, .slice BAi bni bci] 41) (.cells lz 27)
  obtain ⟨W, hWW⟩ : ∃ W, ((w.alloc (.cells #[.slice A n c, .int .i64 l.p.seq, .int .i64 l.p.total, .int .i64 l.p.got, .slice B m d] 27)).alloc (.cells #[.int .i64 it.k, .int .i64 it.q, .int .i64 it.e, .int .i64 it.i, .int .i64 it.t, .int .i64 it.c, .slice LAi lni lci, .slice BAi bni bci] 41)).alloc (.cells lz 27) = W := ⟨_, rfl⟩
  have HSZ : Hid (W.heap.size = w.heap.size + 3) := by rw [← hWW, size_alloc, size_alloc, size_alloc]; exact hidT rfl
  rw [hWW] at t0 t1 t2 t4
  have HF := hidT (fresh_any _ l W (h.below t4) hS)
  obtain ⟨g, hg⟩ : ∃ g, w.heap.size = g := ⟨_, rfl⟩
  have HG := hidT hg
  rw [hg] at t0 t1 t2
  have HW := hidT hWW
  have T0 := hidT t0
  have T1 := hidT t1
  have T2 := hidT t2
  have T4 := hidT t4
  have HI := hidT hi
  have HS := hidT hS
  have HG0 := hidT hg0
  have HL65 := hidT hl65
  have HB65 := hidT hb65
  have HLI := hidT hli
  have HES := hidT hE.size
  have HLT := hidT hlt
  clear hlt
  have HKI := hidT hk
  have c1 : (it.k == 1) = true := by simp; omega
  clear hk
  obtain ⟨e0, e1, e2, e3, e4⟩ := cells5 t0
  rw [← HW.out] at e0 e1 e2 e3 e4
  clear t0 t1 t2 t4 hE hB hW hWW hS h hi hg0 hl65 hb65 hli hbi
  go_enter Try.func27, Try.ntmps27
  go_wp2_with fail
  rw [HW.out]
  clear hg e0 e1 e2 e3 e4
  with_reducible refine HF.out.mono ?_
  intro e' w5 hfr
  obtain ⟨A5, n5, c5, us, B5, m5, d5, lo, rfl, ho5, hb5⟩ := hfr.own
  have y0 := keepH T0.out hb5
  have y1 := keepH T1.out hb5
  have y2 := keepH T2.out hb5
  have HO5 := hidT ho5
  have HB5 := hidT (bthen T4.out hb5)
  clear hfr hb5 ho5 HF
  have hgg := HG.out
  have hsz := HSZ.out
  go_wp2_with (
    refine wpList_stI rfl 27 _ _ rfl g #[.slice A5 n5 c5, .int .i64 l.p.seq, .int .i64 l.p.total, .int .i64 l.p.got, .slice B5 m5 d5] rfl rfl _ _ y0 sizeL rfl (by simp [Value.oneCell']) ?_
    intro w6 hg6 hbut6 hbel6)
  simp only [Act.put]
  have HO6 := hidT (HO5.out.but (by omega) hbut6)
  have Y1 := hidT ((hbut6.2 (g + 1) (by omega)).trans y1)
  have Y2 := hidT ((hbut6.2 (g + 1 + 1) (by omega)).trans y2)
  have HB6 := hidT (hbel6 _ _ HB5.out (by omega))
  have G6 := hidT hg6
  have hlen := HO6.out.rde.size
  obtain ⟨K, hK⟩ : ∃ K, Lane.last l = K := ⟨_, rfl⟩
  have HLAST : Hid (∀ m' : Later w6, Calls Try.prog 49 #[.agg #[.slice A5 n5 c5, .int .i64 l.p.seq, .int .i64 l.p.total, .int .i64 l.p.got, .slice B5 m5 d5]] m'.w (IntIs m'.w K)) := hidT fun m' => last_any l A5 n5 c5 B5 m5 d5 m'.w (HO6.out.rde.below m'.h) HG0.out K hK
  have HKK := hidT hK
  have HN5 : Hid (n5 ≤ 65536) := hidT (by have := HS.out.1; omega)
  obtain ⟨i0, i1, i2, i3, i4⟩ := cells5 hg6
  obtain ⟨j0, j1, j2, j3, j4, j5, j6, j7⟩ := cells8 Y1.out
  have NE := Later.ne w6
  have a0 := Later.cell i0
  have a1 := Later.cell i1
  have a2 := Later.cell i2
  have a3 := Later.cell i3
  have a4 := Later.cell i4
  have b1 := Later.cell j1
  clear hg6 hbut6 hbel6 y0 y1 y2 hgg hsz hlen hK i0 i1 i2 i3 i4 j0 j1 j2 j3 j4 j5 j6 j7
  have hlt : decide (it.q ≤ K) = false := by have := HLT.out; rw [HKK.out] at this; simp; omega
  refine wp_later (by kernel_rfl) (by kernel_rfl) ?_
  repeat (go_big_quiet_step ((go_at_call 49; exact Later.int (HLAST.out _))))
  refine wpQuiet_nil ?_
  intro w9 hw9
  obtain ⟨⟨_, hb9⟩, rfl⟩ := hw9
  have Y0 := hidT (keepH G6.out hb9)
  have Y1 := hidT (keepH Y1.out hb9)
  have Y2 := hidT (keepH Y2.out hb9)
  have HO9 := hidT (HO6.out.later hb9)
  have HB9 := hidT (bthen HB6.out hb9)
  clear hb9 HO6 HB6 G6 a0 a1 a2 a3 a4 b1 NE HLAST HO5 HB5 T0 T1 T2
  obtain ⟨W9, hW9⟩ : ∃ W9, w9.alloc (.cells #[.int .i64 it.k, .int .i64 it.q, .slice none 0 0, .slice none 0 0, .bool false] 33) = W9 := ⟨_, rfl⟩
  obtain ⟨r, hr⟩ : ∃ r, w9.heap.size = r := ⟨_, rfl⟩
  have p9 := alloc_at w9 (.cells #[.int .i64 it.k, .int .i64 it.q, .slice none 0 0, .slice none 0 0, .bool false] 33) _ rfl
  have n9 := nkeep w9 (.cells #[.int .i64 it.k, .int .i64 it.q, .slice none 0 0, .slice none 0 0, .bool false] 33)
  rw [hW9, hr] at p9
  rw [hW9] at n9
  have HW9 := hidT hW9
  have P9 := hidT p9
  have X0 := hidT (keepH Y0.out n9)
  have X1 := hidT (keepH Y1.out n9)
  have X2 := hidT (keepH Y2.out n9)
  have hmid := HO9.out.mid
  rw [hr] at hmid
  have HM9 := hidT (hmid.later n9)
  have HO9 := hidT (HO9.out.later n9)
  have HBX := hidT (bthen HB9.out n9)
  have m0 := (cells8 Y1.out).1
  have m1 := (cells8 Y1.out).2.1
  have HRR : Hid (w.heap.size + 3 ≤ r) := hidT (by have := HSZ.out; have := HO9.out.2.2.2.2.2.1; have := hmid.2.2.2.2.2.2; omega)
  clear p9 n9 hW9 hmid Y0 Y1 Y2 HB9
  obtain ⟨i0, i1, i2, i3, i4⟩ := cells5 X0.out
  obtain ⟨j0, j1, j2, j3, j4, j5, j6, j7⟩ := cells8 X1.out
  rw [← HW9.out] at i0 i1 i2 i3 i4 j0 j1 j2 j3 j4 j5 j6 j7
  have hpc := piece_any l A5 n5 c5 us B5 m5 d5 W.heap.size lo _ it W9 HO9.out (HI.out.below HBX.out) HS.out.2.2 HB65.out HKI.out (by have := HLT.out; omega) HG0.out (by have := HN5.out; omega)
  have HPC := hidT hpc
  clear hpc
  go_wp2_with fail
  rw [HW9.out]
  clear hr i0 i1 i2 i3 i4 j0 j1 j2 j3 j4 j5 j6 j7
  with_reducible refine HPC.out.mono ?_
  rintro e w10 ⟨v10, rfl, hl10, hb10⟩
  obtain ⟨q10, rfl, hs10, ha10⟩ := hl10.cells
  have hgg := HG.out
  have hsz := HSZ.out
  have x2 := (hb10.block (g + 1 + 1) (by omega)).trans X2.out
  have HL10 := hidT hl10
  have HB10 := hidT (HBX.out.trans (hb10.mono (show w.heap.size ≤ W.heap.size by omega)))
  clear hl10 hb10 hgg hsz
  go_wp2_with (
    refine wpList_stI rfl 27 _ _ rfl (g + 1 + 1) q10 rfl rfl _ _ x2 (by rw [hs10]; exact sizeL) (by rw [hs10]; rfl) ha10 ?_
    intro wy hgy hbuty hbely)
  have hgg := HG.out
  have hsz := HSZ.out
  obtain ⟨An, nn, cn, Bn, mn, dn, ev, _, _, _⟩ := id HL10.out
  injection ev with ev
  subst ev
  obtain ⟨r0, r1, r2, r3, r4⟩ := cells5 hgy
  generalize Lane.read l it = RR at HL10 r0 r1 r2 r3 r4 ⊢
  exact bodyPost_ret (v := .tuple #[.agg #[.slice An nn cn, .int .i64 RR.1.p.seq, .int .i64 RR.1.p.total, .int .i64 RR.1.p.got, .slice Bn mn dn], .int .i64 RR.2]) (by simp [results, Try.results27, go_sem, r0, r1, r2, r3, r4]) rfl
    ⟨_, rfl, (HL10.out.keptS (KeptS.hi hbuty (by omega))).hi (lo' := w.heap.size) (by omega), hbely _ _ HB10.out (by omega)⟩
end Go.Proofs.Ytmlmkkfieeaejaa
/- What Read of a token comes to. -/
namespace Go.Proofs.Ytmlmkkfieeaejaa
open Go.RowKit
set_option linter.unusedVariables false

set_option maxHeartbeats 4000000 in
theorem read_late3 {S : Nat → Prop} (v u : Value) (l : Lane.Ln) (it : Item.It) (w : World) (h : IsLane S w v l) (hi : IsItem w u it) (hS : SmallL l) (hg0 : 0 ≤ l.p.got) (hl65 : it.l.length ≤ 65536) (hb65 : it.b.length ≤ 65536) (hk : it.k = 3) (hlt : it.q ≤ Lane.last l) :
    Calls Try.prog 27 #[v, u] w (ReadIs w (l, 2)) := by
  obtain ⟨A, n, c, B, m, d, ev, hE, hB, hW⟩ := id h
  subst ev
  obtain ⟨LAi, lni, lci, BAi, bni, bci, eu, hli, hbi⟩ := id hi
  subst eu
  obtain ⟨t0, t1, t2, t4⟩ := three_alloc w (.cells #[.slice A n c, .int .i64 l.p.seq, .int .i64 l.p.total, .int .i64 l.p.got, .slice B m d] 27) (.cells #[.int .i64 it.k, .int .i64 it.q, .int .i64 it.e, .int .i64 it.i, .int .i64 it.t, .int .i64 it.c, .slice LAi lni lci, .slice BAi bni bci] 41) (.cells lz 27)
  obtain ⟨W, hWW⟩ : ∃ W, ((w.alloc (.cells #[.slice A n c, .int .i64 l.p.seq, .int .i64 l.p.total, .int .i64 l.p.got, .slice B m d] 27)).alloc (.cells #[.int .i64 it.k, .int .i64 it.q, .int .i64 it.e, .int .i64 it.i, .int .i64 it.t, .int .i64 it.c, .slice LAi lni lci, .slice BAi bni bci] 41)).alloc (.cells lz 27) = W := ⟨_, rfl⟩
  have HSZ : Hid (W.heap.size = w.heap.size + 3) := by rw [← hWW, size_alloc, size_alloc, size_alloc]; exact hidT rfl
  rw [hWW] at t0 t1 t2 t4
  have HF := hidT (fresh_any _ l W (h.below t4) hS)
  obtain ⟨g, hg⟩ : ∃ g, w.heap.size = g := ⟨_, rfl⟩
  have HG := hidT hg
  rw [hg] at t0 t1 t2
  have HW := hidT hWW
  have T0 := hidT t0
  have T1 := hidT t1
  have T2 := hidT t2
  have T4 := hidT t4
  have HI := hidT hi
  have HS := hidT hS
  have HG0 := hidT hg0
  have HL65 := hidT hl65
  have HB65 := hidT hb65
  have HLI := hidT hli
  have HES := hidT hE.size
  have HLT := hidT hlt
  clear hlt
  have HKI := hidT hk
  have c1 : (it.k == 1) = false := by simp; omega
  have c2 : (it.k == 2) = false := by simp; omega
  have c3 : (it.k == 3) = true := by simp; omega
  clear hk
  obtain ⟨e0, e1, e2, e3, e4⟩ := cells5 t0
  rw [← HW.out] at e0 e1 e2 e3 e4
  clear t0 t1 t2 t4 hE hB hW hWW hS h hi hg0 hl65 hb65 hli hbi
  go_enter Try.func27, Try.ntmps27
  go_wp2_with fail
  rw [HW.out]
  clear hg e0 e1 e2 e3 e4
  with_reducible refine HF.out.mono ?_
  intro e' w5 hfr
  obtain ⟨A5, n5, c5, us, B5, m5, d5, lo, rfl, ho5, hb5⟩ := hfr.own
  have y0 := keepH T0.out hb5
  have y1 := keepH T1.out hb5
  have y2 := keepH T2.out hb5
  have HO5 := hidT ho5
  have HB5 := hidT (bthen T4.out hb5)
  clear hfr hb5 ho5 HF
  have hgg := HG.out
  have hsz := HSZ.out
  go_wp2_with (
    refine wpList_stI rfl 27 _ _ rfl g #[.slice A5 n5 c5, .int .i64 l.p.seq, .int .i64 l.p.total, .int .i64 l.p.got, .slice B5 m5 d5] rfl rfl _ _ y0 sizeL rfl (by simp [Value.oneCell']) ?_
    intro w6 hg6 hbut6 hbel6)
  simp only [Act.put]
  have HO6 := hidT (HO5.out.but (by omega) hbut6)
  have Y1 := hidT ((hbut6.2 (g + 1) (by omega)).trans y1)
  have Y2 := hidT ((hbut6.2 (g + 1 + 1) (by omega)).trans y2)
  have HB6 := hidT (hbel6 _ _ HB5.out (by omega))
  have G6 := hidT hg6
  have hlen := HO6.out.rde.size
  obtain ⟨K, hK⟩ : ∃ K, Lane.last l = K := ⟨_, rfl⟩
  have HLAST : Hid (∀ m' : Later w6, Calls Try.prog 49 #[.agg #[.slice A5 n5 c5, .int .i64 l.p.seq, .int .i64 l.p.total, .int .i64 l.p.got, .slice B5 m5 d5]] m'.w (IntIs m'.w K)) := hidT fun m' => last_any l A5 n5 c5 B5 m5 d5 m'.w (HO6.out.rde.below m'.h) HG0.out K hK
  have HKK := hidT hK
  have HN5 : Hid (n5 ≤ 65536) := hidT (by have := HS.out.1; omega)
  obtain ⟨i0, i1, i2, i3, i4⟩ := cells5 hg6
  obtain ⟨j0, j1, j2, j3, j4, j5, j6, j7⟩ := cells8 Y1.out
  have NE := Later.ne w6
  have a0 := Later.cell i0
  have a1 := Later.cell i1
  have a2 := Later.cell i2
  have a3 := Later.cell i3
  have a4 := Later.cell i4
  have b1 := Later.cell j1
  clear hg6 hbut6 hbel6 y0 y1 y2 hgg hsz hlen hK i0 i1 i2 i3 i4 j0 j1 j2 j3 j4 j5 j6 j7
  have hlt : decide (it.q ≤ K) = true := by have := HLT.out; rw [HKK.out] at this; simp; omega
  refine wp_later (by kernel_rfl) (by kernel_rfl) ?_
  repeat (go_big_quiet_step ((go_at_call 49; exact Later.int (HLAST.out _))))
  refine wpQuiet_nil ?_
  intro w9 hw9
  obtain ⟨⟨_, hb9⟩, rfl⟩ := hw9
  have Y0 := hidT (keepH G6.out hb9)
  have Y1 := hidT (keepH Y1.out hb9)
  have Y2 := hidT (keepH Y2.out hb9)
  have HO9 := hidT (HO6.out.later hb9)
  have HB9 := hidT (bthen HB6.out hb9)
  clear hb9 HO6 HB6 G6 a0 a1 a2 a3 a4 b1 NE HLAST HO5 HB5 T0 T1 T2
  obtain ⟨W9, hW9⟩ : ∃ W9, w9.alloc (.cells #[.int .i64 it.k, .int .i64 it.q, .slice none 0 0, .slice none 0 0, .bool false] 33) = W9 := ⟨_, rfl⟩
  obtain ⟨r, hr⟩ : ∃ r, w9.heap.size = r := ⟨_, rfl⟩
  have p9 := alloc_at w9 (.cells #[.int .i64 it.k, .int .i64 it.q, .slice none 0 0, .slice none 0 0, .bool false] 33) _ rfl
  have n9 := nkeep w9 (.cells #[.int .i64 it.k, .int .i64 it.q, .slice none 0 0, .slice none 0 0, .bool false] 33)
  rw [hW9, hr] at p9
  rw [hW9] at n9
  have HW9 := hidT hW9
  have P9 := hidT p9
  have X0 := hidT (keepH Y0.out n9)
  have X1 := hidT (keepH Y1.out n9)
  have X2 := hidT (keepH Y2.out n9)
  have hmid := HO9.out.mid
  rw [hr] at hmid
  have HM9 := hidT (hmid.later n9)
  have HO9 := hidT (HO9.out.later n9)
  have HBX := hidT (bthen HB9.out n9)
  have m0 := (cells8 Y1.out).1
  have m1 := (cells8 Y1.out).2.1
  have HRR : Hid (w.heap.size + 3 ≤ r) := hidT (by have := HSZ.out; have := HO9.out.2.2.2.2.2.1; have := hmid.2.2.2.2.2.2; omega)
  clear p9 n9 hW9 hmid Y0 Y1 Y2 HB9
  obtain ⟨i0, i1, i2, i3, i4⟩ := cells5 X0.out
  obtain ⟨j0, j1, j2, j3, j4, j5, j6, j7⟩ := cells8 X1.out
  rw [← HW9.out] at i0 i1 i2 i3 i4 j0 j1 j2 j3 j4 j5 j6 j7
  have x2 := X2.out
  have hbx := HBX.out
  have hox := HO9.out
  rw [← HW9.out] at x2 hbx hox
  have HBX := hidT hbx
  have HOX := hidT hox.own
  clear hbx hox
  go_wp2_with (
    refine wpList_stI rfl 27 _ _ rfl (g + 1 + 1) #[.slice A5 n5 c5, .int .i64 l.p.seq, .int .i64 l.p.total, .int .i64 l.p.got, .slice B5 m5 d5] rfl rfl _ _ x2 sizeL rfl (by simp [Value.oneCell']) ?_
    intro wy hgy hbuty hbely)
  obtain ⟨r0, r1, r2, r3, r4⟩ := cells5 hgy
  have hgg := HG.out
  have hsz := HSZ.out
  exact bodyPost_ret (v := .tuple #[.agg #[.slice A5 n5 c5, .int .i64 l.p.seq, .int .i64 l.p.total, .int .i64 l.p.got, .slice B5 m5 d5], .int .i64 2]) (by simp [results, Try.results27, go_sem, r0, r1, r2, r3, r4]) rfl
    ⟨_, rfl, ((HOX.out.but (by omega) hbuty).lane.hi (lo' := w.heap.size) (by omega)), hbely _ _ HBX.out (by omega)⟩

set_option maxHeartbeats 4000000 in
theorem read_under3 {S : Nat → Prop} (v u : Value) (l : Lane.Ln) (it : Item.It) (w : World) (h : IsLane S w v l) (hi : IsItem w u it) (hS : SmallL l) (hg0 : 0 ≤ l.p.got) (hl65 : it.l.length ≤ 65536) (hb65 : it.b.length ≤ 65536) (hk : it.k = 3) (hu : l.p.got ≠ 0) (hlt : ¬ it.q ≤ Lane.last l) :
    Calls Try.prog 27 #[v, u] w (ReadIs w (l, 2)) := by
  obtain ⟨A, n, c, B, m, d, ev, hE, hB, hW⟩ := id h
  subst ev
  obtain ⟨LAi, lni, lci, BAi, bni, bci, eu, hli, hbi⟩ := id hi
  subst eu
  obtain ⟨t0, t1, t2, t4⟩ := three_alloc w (.cells #[.slice A n c, .int .i64 l.p.seq, .int .i64 l.p.total, .int .i64 l.p.got, .slice B m d] 27) (.cells #[.int .i64 it.k, .int .i64 it.q, .int .i64 it.e, .int .i64 it.i, .int .i64 it.t, .int .i64 it.c, .slice LAi lni lci, .slice BAi bni bci] 41) (.cells lz 27)
  obtain ⟨W, hWW⟩ : ∃ W, ((w.alloc (.cells #[.slice A n c, .int .i64 l.p.seq, .int .i64 l.p.total, .int .i64 l.p.got, .slice B m d] 27)).alloc (.cells #[.int .i64 it.k, .int .i64 it.q, .int .i64 it.e, .int .i64 it.i, .int .i64 it.t, .int .i64 it.c, .slice LAi lni lci, .slice BAi bni bci] 41)).alloc (.cells lz 27) = W := ⟨_, rfl⟩
  have HSZ : Hid (W.heap.size = w.heap.size + 3) := by rw [← hWW, size_alloc, size_alloc, size_alloc]; exact hidT rfl
  rw [hWW] at t0 t1 t2 t4
  have HF := hidT (fresh_any _ l W (h.below t4) hS)
  obtain ⟨g, hg⟩ : ∃ g, w.heap.size = g := ⟨_, rfl⟩
  have HG := hidT hg
  rw [hg] at t0 t1 t2
  have HW := hidT hWW
  have T0 := hidT t0
  have T1 := hidT t1
  have T2 := hidT t2
  have T4 := hidT t4
  have HI := hidT hi
  have HS := hidT hS
  have HG0 := hidT hg0
  have HL65 := hidT hl65
  have HB65 := hidT hb65
  have HLI := hidT hli
  have HES := hidT hE.size
  have HLT := hidT hlt
  clear hlt
  have HUU := hidT hu
  clear hu
  have HKI := hidT hk
  have c1 : (it.k == 1) = false := by simp; omega
  have c2 : (it.k == 2) = false := by simp; omega
  have c3 : (it.k == 3) = true := by simp; omega
  clear hk
  obtain ⟨e0, e1, e2, e3, e4⟩ := cells5 t0
  rw [← HW.out] at e0 e1 e2 e3 e4
  clear t0 t1 t2 t4 hE hB hW hWW hS h hi hg0 hl65 hb65 hli hbi
  go_enter Try.func27, Try.ntmps27
  go_wp2_with fail
  rw [HW.out]
  clear hg e0 e1 e2 e3 e4
  with_reducible refine HF.out.mono ?_
  intro e' w5 hfr
  obtain ⟨A5, n5, c5, us, B5, m5, d5, lo, rfl, ho5, hb5⟩ := hfr.own
  have y0 := keepH T0.out hb5
  have y1 := keepH T1.out hb5
  have y2 := keepH T2.out hb5
  have HO5 := hidT ho5
  have HB5 := hidT (bthen T4.out hb5)
  clear hfr hb5 ho5 HF
  have hgg := HG.out
  have hsz := HSZ.out
  go_wp2_with (
    refine wpList_stI rfl 27 _ _ rfl g #[.slice A5 n5 c5, .int .i64 l.p.seq, .int .i64 l.p.total, .int .i64 l.p.got, .slice B5 m5 d5] rfl rfl _ _ y0 sizeL rfl (by simp [Value.oneCell']) ?_
    intro w6 hg6 hbut6 hbel6)
  simp only [Act.put]
  have HO6 := hidT (HO5.out.but (by omega) hbut6)
  have Y1 := hidT ((hbut6.2 (g + 1) (by omega)).trans y1)
  have Y2 := hidT ((hbut6.2 (g + 1 + 1) (by omega)).trans y2)
  have HB6 := hidT (hbel6 _ _ HB5.out (by omega))
  have G6 := hidT hg6
  have hlen := HO6.out.rde.size
  obtain ⟨K, hK⟩ : ∃ K, Lane.last l = K := ⟨_, rfl⟩
  have HLAST : Hid (∀ m' : Later w6, Calls Try.prog 49 #[.agg #[.slice A5 n5 c5, .int .i64 l.p.seq, .int .i64 l.p.total, .int .i64 l.p.got, .slice B5 m5 d5]] m'.w (IntIs m'.w K)) := hidT fun m' => last_any l A5 n5 c5 B5 m5 d5 m'.w (HO6.out.rde.below m'.h) HG0.out K hK
  have HKK := hidT hK
  have HN5 : Hid (n5 ≤ 65536) := hidT (by have := HS.out.1; omega)
  obtain ⟨i0, i1, i2, i3, i4⟩ := cells5 hg6
  obtain ⟨j0, j1, j2, j3, j4, j5, j6, j7⟩ := cells8 Y1.out
  have NE := Later.ne w6
  have a0 := Later.cell i0
  have a1 := Later.cell i1
  have a2 := Later.cell i2
  have a3 := Later.cell i3
  have a4 := Later.cell i4
  have b1 := Later.cell j1
  clear hg6 hbut6 hbel6 y0 y1 y2 hgg hsz hlen hK i0 i1 i2 i3 i4 j0 j1 j2 j3 j4 j5 j6 j7
  have hlt : decide (it.q ≤ K) = false := by have := HLT.out; rw [HKK.out] at this; simp; omega
  refine wp_later (by kernel_rfl) (by kernel_rfl) ?_
  repeat (go_big_quiet_step ((go_at_call 49; exact Later.int (HLAST.out _))))
  refine wpQuiet_nil ?_
  intro w9 hw9
  obtain ⟨⟨_, hb9⟩, rfl⟩ := hw9
  have Y0 := hidT (keepH G6.out hb9)
  have Y1 := hidT (keepH Y1.out hb9)
  have Y2 := hidT (keepH Y2.out hb9)
  have HO9 := hidT (HO6.out.later hb9)
  have HB9 := hidT (bthen HB6.out hb9)
  clear hb9 HO6 HB6 G6 a0 a1 a2 a3 a4 b1 NE HLAST HO5 HB5 T0 T1 T2
  obtain ⟨W9, hW9⟩ : ∃ W9, w9.alloc (.cells #[.int .i64 it.k, .int .i64 it.q, .slice none 0 0, .slice none 0 0, .bool false] 33) = W9 := ⟨_, rfl⟩
  obtain ⟨r, hr⟩ : ∃ r, w9.heap.size = r := ⟨_, rfl⟩
  have p9 := alloc_at w9 (.cells #[.int .i64 it.k, .int .i64 it.q, .slice none 0 0, .slice none 0 0, .bool false] 33) _ rfl
  have n9 := nkeep w9 (.cells #[.int .i64 it.k, .int .i64 it.q, .slice none 0 0, .slice none 0 0, .bool false] 33)
  rw [hW9, hr] at p9
  rw [hW9] at n9
  have HW9 := hidT hW9
  have P9 := hidT p9
  have X0 := hidT (keepH Y0.out n9)
  have X1 := hidT (keepH Y1.out n9)
  have X2 := hidT (keepH Y2.out n9)
  have hmid := HO9.out.mid
  rw [hr] at hmid
  have HM9 := hidT (hmid.later n9)
  have HO9 := hidT (HO9.out.later n9)
  have HBX := hidT (bthen HB9.out n9)
  have m0 := (cells8 Y1.out).1
  have m1 := (cells8 Y1.out).2.1
  have HRR : Hid (w.heap.size + 3 ≤ r) := hidT (by have := HSZ.out; have := HO9.out.2.2.2.2.2.1; have := hmid.2.2.2.2.2.2; omega)
  clear p9 n9 hW9 hmid Y0 Y1 Y2 HB9
  obtain ⟨i0, i1, i2, i3, i4⟩ := cells5 X0.out
  obtain ⟨j0, j1, j2, j3, j4, j5, j6, j7⟩ := cells8 X1.out
  rw [← HW9.out] at i0 i1 i2 i3 i4 j0 j1 j2 j3 j4 j5 j6 j7
  have Z2 := hidT P9.out
  have HOX := hidT HO9.out.own
  have hun := fun w' => isUnder_any l A5 n5 c5 B5 m5 d5 w' true (by have := HUU.out; simpa using this)
  go_wp2_with fail
  rw [HW9.out]
  clear hr j0 j1 j2 j3 j4 j5 j6 j7
  with_reducible refine (hun _).mono ?_
  rintro e w11 ⟨rfl, hb11⟩
  have X0 := hidT (keepH X0.out hb11)
  have X2 := hidT (keepH X2.out hb11)
  have Z2 := hidT (keepH Z2.out hb11)
  have HOX := hidT (HOX.out.later hb11)
  have HBX := hidT (bthen HBX.out hb11)
  clear hb11 hun
  clear i0 i1 i2 i3 i4
  obtain ⟨i0, i1, i2, i3, i4⟩ := cells5 X0.out
  obtain ⟨z0', z1', z2', z3', z4'⟩ := cells5 Z2.out
  have x2 := X2.out
  go_wp2_with (
    refine wpList_stI rfl 27 _ _ rfl (g + 1 + 1) #[.slice A5 n5 c5, .int .i64 l.p.seq, .int .i64 l.p.total, .int .i64 l.p.got, .slice B5 m5 d5] rfl rfl _ _ x2 sizeL rfl (by simp [Value.oneCell']) ?_
    intro wy hgy hbuty hbely)
  obtain ⟨r0, r1, r2, r3, r4⟩ := cells5 hgy
  have hgg := HG.out
  have hsz := HSZ.out
  exact bodyPost_ret (v := .tuple #[.agg #[.slice A5 n5 c5, .int .i64 l.p.seq, .int .i64 l.p.total, .int .i64 l.p.got, .slice B5 m5 d5], .int .i64 2]) (by simp [results, Try.results27, go_sem, r0, r1, r2, r3, r4]) rfl
    ⟨_, rfl, ((HOX.out.but (by omega) hbuty).lane.hi (lo' := w.heap.size) (by omega)), hbely _ _ HBX.out (by omega)⟩

set_option maxHeartbeats 4000000 in
theorem read_token {S : Nat → Prop} (v u : Value) (l : Lane.Ln) (it : Item.It) (w : World) (h : IsLane S w v l) (hi : IsItem w u it) (hS : SmallL l) (hg0 : 0 ≤ l.p.got) (hl65 : it.l.length ≤ 65536) (hb65 : it.b.length ≤ 65536) (hk : it.k = 3) (hu : l.p.got = 0) (hlt : ¬ it.q ≤ Lane.last l) :
    Calls Try.prog 27 #[v, u] w (ReadIs w (⟨l.es ++ [⟨it.k, it.q, [], [], false⟩], l.p⟩, 0)) := by
  obtain ⟨A, n, c, B, m, d, ev, hE, hB, hW⟩ := id h
  subst ev
  obtain ⟨LAi, lni, lci, BAi, bni, bci, eu, hli, hbi⟩ := id hi
  subst eu
  obtain ⟨t0, t1, t2, t4⟩ := three_alloc w (.cells #[.slice A n c, .int .i64 l.p.seq, .int .i64 l.p.total, .int .i64 l.p.got, .slice B m d] 27) (.cells #[.int .i64 it.k, .int .i64 it.q, .int .i64 it.e, .int .i64 it.i, .int .i64 it.t, .int .i64 it.c, .slice LAi lni lci, .slice BAi bni bci] 41) (.cells lz 27)
  obtain ⟨W, hWW⟩ : ∃ W, ((w.alloc (.cells #[.slice A n c, .int .i64 l.p.seq, .int .i64 l.p.total, .int .i64 l.p.got, .slice B m d] 27)).alloc (.cells #[.int .i64 it.k, .int .i64 it.q, .int .i64 it.e, .int .i64 it.i, .int .i64 it.t, .int .i64 it.c, .slice LAi lni lci, .slice BAi bni bci] 41)).alloc (.cells lz 27) = W := ⟨_, rfl⟩
  have HSZ : Hid (W.heap.size = w.heap.size + 3) := by rw [← hWW, size_alloc, size_alloc, size_alloc]; exact hidT rfl
  rw [hWW] at t0 t1 t2 t4
  have HF := hidT (fresh_any _ l W (h.below t4) hS)
  obtain ⟨g, hg⟩ : ∃ g, w.heap.size = g := ⟨_, rfl⟩
  have HG := hidT hg
  rw [hg] at t0 t1 t2
  have HW := hidT hWW
  have T0 := hidT t0
  have T1 := hidT t1
  have T2 := hidT t2
  have T4 := hidT t4
  have HI := hidT hi
  have HS := hidT hS
  have HG0 := hidT hg0
  have HL65 := hidT hl65
  have HB65 := hidT hb65
  have HLI := hidT hli
  have HES := hidT hE.size
  have HLT := hidT hlt
  clear hlt
  have HUU := hidT hu
  clear hu
  have HKI := hidT hk
  have c1 : (it.k == 1) = false := by simp; omega
  have c2 : (it.k == 2) = false := by simp; omega
  have c3 : (it.k == 3) = true := by simp; omega
  clear hk
  obtain ⟨e0, e1, e2, e3, e4⟩ := cells5 t0
  rw [← HW.out] at e0 e1 e2 e3 e4
  clear t0 t1 t2 t4 hE hB hW hWW hS h hi hg0 hl65 hb65 hli hbi
  go_enter Try.func27, Try.ntmps27
  go_wp2_with fail
  rw [HW.out]
  clear hg e0 e1 e2 e3 e4
  with_reducible refine HF.out.mono ?_
  intro e' w5 hfr
  obtain ⟨A5, n5, c5, us, B5, m5, d5, lo, rfl, ho5, hb5⟩ := hfr.own
  have y0 := keepH T0.out hb5
  have y1 := keepH T1.out hb5
  have y2 := keepH T2.out hb5
  have HO5 := hidT ho5
  have HB5 := hidT (bthen T4.out hb5)
  clear hfr hb5 ho5 HF
  have hgg := HG.out
  have hsz := HSZ.out
  go_wp2_with (
    refine wpList_stI rfl 27 _ _ rfl g #[.slice A5 n5 c5, .int .i64 l.p.seq, .int .i64 l.p.total, .int .i64 l.p.got, .slice B5 m5 d5] rfl rfl _ _ y0 sizeL rfl (by simp [Value.oneCell']) ?_
    intro w6 hg6 hbut6 hbel6)
  simp only [Act.put]
  have HO6 := hidT (HO5.out.but (by omega) hbut6)
  have Y1 := hidT ((hbut6.2 (g + 1) (by omega)).trans y1)
  have Y2 := hidT ((hbut6.2 (g + 1 + 1) (by omega)).trans y2)
  have HB6 := hidT (hbel6 _ _ HB5.out (by omega))
  have G6 := hidT hg6
  have hlen := HO6.out.rde.size
  obtain ⟨K, hK⟩ : ∃ K, Lane.last l = K := ⟨_, rfl⟩
  have HLAST : Hid (∀ m' : Later w6, Calls Try.prog 49 #[.agg #[.slice A5 n5 c5, .int .i64 l.p.seq, .int .i64 l.p.total, .int .i64 l.p.got, .slice B5 m5 d5]] m'.w (IntIs m'.w K)) := hidT fun m' => last_any l A5 n5 c5 B5 m5 d5 m'.w (HO6.out.rde.below m'.h) HG0.out K hK
  have HKK := hidT hK
  have HN5 : Hid (n5 ≤ 65536) := hidT (by have := HS.out.1; omega)
  obtain ⟨i0, i1, i2, i3, i4⟩ := cells5 hg6
  obtain ⟨j0, j1, j2, j3, j4, j5, j6, j7⟩ := cells8 Y1.out
  have NE := Later.ne w6
  have a0 := Later.cell i0
  have a1 := Later.cell i1
  have a2 := Later.cell i2
  have a3 := Later.cell i3
  have a4 := Later.cell i4
  have b1 := Later.cell j1
  clear hg6 hbut6 hbel6 y0 y1 y2 hgg hsz hlen hK i0 i1 i2 i3 i4 j0 j1 j2 j3 j4 j5 j6 j7
  have hlt : decide (it.q ≤ K) = false := by have := HLT.out; rw [HKK.out] at this; simp; omega
  refine wp_later (by kernel_rfl) (by kernel_rfl) ?_
  repeat (go_big_quiet_step ((go_at_call 49; exact Later.int (HLAST.out _))))
  refine wpQuiet_nil ?_
  intro w9 hw9
  obtain ⟨⟨_, hb9⟩, rfl⟩ := hw9
  have Y0 := hidT (keepH G6.out hb9)
  have Y1 := hidT (keepH Y1.out hb9)
  have Y2 := hidT (keepH Y2.out hb9)
  have HO9 := hidT (HO6.out.later hb9)
  have HB9 := hidT (bthen HB6.out hb9)
  clear hb9 HO6 HB6 G6 a0 a1 a2 a3 a4 b1 NE HLAST HO5 HB5 T0 T1 T2
  obtain ⟨W9, hW9⟩ : ∃ W9, w9.alloc (.cells #[.int .i64 it.k, .int .i64 it.q, .slice none 0 0, .slice none 0 0, .bool false] 33) = W9 := ⟨_, rfl⟩
  obtain ⟨r, hr⟩ : ∃ r, w9.heap.size = r := ⟨_, rfl⟩
  have p9 := alloc_at w9 (.cells #[.int .i64 it.k, .int .i64 it.q, .slice none 0 0, .slice none 0 0, .bool false] 33) _ rfl
  have n9 := nkeep w9 (.cells #[.int .i64 it.k, .int .i64 it.q, .slice none 0 0, .slice none 0 0, .bool false] 33)
  rw [hW9, hr] at p9
  rw [hW9] at n9
  have HW9 := hidT hW9
  have P9 := hidT p9
  have X0 := hidT (keepH Y0.out n9)
  have X1 := hidT (keepH Y1.out n9)
  have X2 := hidT (keepH Y2.out n9)
  have hmid := HO9.out.mid
  rw [hr] at hmid
  have HM9 := hidT (hmid.later n9)
  have HO9 := hidT (HO9.out.later n9)
  have HBX := hidT (bthen HB9.out n9)
  have m0 := (cells8 Y1.out).1
  have m1 := (cells8 Y1.out).2.1
  have HRR : Hid (w.heap.size + 3 ≤ r) := hidT (by have := HSZ.out; have := HO9.out.2.2.2.2.2.1; have := hmid.2.2.2.2.2.2; omega)
  clear p9 n9 hW9 hmid Y0 Y1 Y2 HB9
  obtain ⟨i0, i1, i2, i3, i4⟩ := cells5 X0.out
  obtain ⟨j0, j1, j2, j3, j4, j5, j6, j7⟩ := cells8 X1.out
  rw [← HW9.out] at i0 i1 i2 i3 i4 j0 j1 j2 j3 j4 j5 j6 j7
  have Z2 := hidT P9.out
  have HOX := hidT HO9.out.own
  have hun := fun w' => isUnder_any l A5 n5 c5 B5 m5 d5 w' false (by have := HUU.out; simpa using this)
  go_wp2_with fail
  rw [HW9.out]
  clear hr j0 j1 j2 j3 j4 j5 j6 j7
  with_reducible refine (hun _).mono ?_
  rintro e w11 ⟨rfl, hb11⟩
  have X0 := hidT (keepH X0.out hb11)
  have X2 := hidT (keepH X2.out hb11)
  have Z2 := hidT (keepH Z2.out hb11)
  have HOX := hidT (HOX.out.later hb11)
  have HBX := hidT (bthen HBX.out hb11)
  clear hb11 hun
  clear i0 i1 i2 i3 i4
  obtain ⟨i0, i1, i2, i3, i4⟩ := cells5 X0.out
  obtain ⟨z0', z1', z2', z3', z4'⟩ := cells5 Z2.out
  have x2 := X2.out
  have N9 := hidT (nkeep w11 (.cells #[.int .i64 it.k, .int .i64 it.q, .slice none 0 0, .slice none 0 0, .bool false] 33))
  have HOA := hidT (HOX.out.1.later N9.out)
  have HLA := hidT (RdK.lit (k := 5) w11 33 (0, 0) #[.int .i64 it.k, .int .i64 it.q, .slice none 0 0, .slice none 0 0, .bool false] [#[.int .i64 it.k, .int .i64 it.q, .slice none 0 0, .slice none 0 0, .bool false]] (AllK.one rfl (by simp [Value.oneCell'])) (by simp [flat]) 1 rfl (by simp only [maxLen]; omega) w11.heap.size rfl)
  have HSA : Hid (W.heap.size ≤ (w11.alloc (.cells #[.int .i64 it.k, .int .i64 it.q, .slice none 0 0, .slice none 0 0, .bool false] 33)).heap.size) := hidT (by rw [size_alloc]; have := blk_lt X2.out; have := HG.out; have := HSZ.out; omega)
  have hrl := HOX.out.1.rowlt HOX.out.2.2.1
  have HRL := hidT hrl
  have Y0 := hidT (keepH X0.out N9.out)
  have Y2 := hidT (keepH X2.out N9.out)
  have HBW : Hid (∀ b, (Value.slice A5 n5 c5).ownBlock = some b → W.heap.size ≤ b) := hidT fun b hb => (World.ownsRow.lt HOX.out.1.2.2 b hb).1
  have hn5 := HN5.out
  clear hrl
  go_wp2_with (first
    | (at_builtin
       refine wpList_appK 5 (by omega) rfl (.tmp 50) (.tmp 52) 22 rfl W.heap.size 33 _ 72 infoE rfl (by omega) Try.underlying22 (.slice A5 n5 c5) n5 us rfl HOA.out (some ⟨w11.heap.size, 0, none⟩) 1 1 [#[.int .i64 it.k, .int .i64 it.q, .slice none 0 0, .slice none 0 0, .bool false]] rfl HLA.out (by omega) HSA.out ?_
       intro v9 wa hown hb9 hg9
       obtain ⟨A9, c9, rfl, hrd9⟩ := OwnK.rd hown
       have hgg := HG.out
       have hsz := HSZ.out
       have y9 := (hb9.block g (by omega)).trans Y0.out
       have y92 := (hb9.block (g + 1 + 1) (by omega)).trans Y2.out
       have f9 := no_frozen y9 0
       obtain ⟨k0, k1, k2, k3, k4⟩ := cells5 y9
       have z10 : (wa.setCell ⟨g, 0, none⟩ (.slice A9 (n5 + 1) c9)).heap[g]? = some (.cells #[.slice A9 (n5 + 1) c9, .int .i64 l.p.seq, .int .i64 l.p.total, .int .i64 l.p.got, .slice B5 m5 d5] 27 (0, 0)) := heap_setCell_same wa g 0 _ _ _ y9
       have zb := But.setCell wa g 0 (.slice A9 (n5 + 1) c9)
       have z12 := (zb.2 (g + 1 + 1) (by omega)).trans y92
       obtain ⟨q0, q1', q2', q3', q4'⟩ := cells5 z10
       have HOWN := hidT hown
       have HB9' := hidT hb9
       have HG9 := hidT hg9
       clear hown hb9 hg9 hrd9 hgg hsz y9 y92)
    | (refine wpList_stI rfl 27 _ _ rfl (g + 1 + 1) #[.slice A9 (n5 + 1) c9, .int .i64 l.p.seq, .int .i64 l.p.total, .int .i64 l.p.got, .slice B5 m5 d5] rfl rfl _ _ z12 sizeL rfl (by simp [Value.oneCell']) ?_
       intro wx hgx hbutx hbelx)
    | fail)
  obtain ⟨r0, r1, r2, r3, r4⟩ := cells5 hgx
  have hgg := HG.out
  have hsz := HSZ.out
  have hbl := HOX.out.2.2.2.2.2
  have hK : KeptS (Hi lo) (w11.alloc (.cells #[.int .i64 it.k, .int .i64 it.q, .slice none 0 0, .slice none 0 0, .bool false] 33)) wa := KeptS.hig HG9.out HRL.out
  have hkx : KeptS (Hi lo) wa wx := fun b o u hS hu => KeptS.hi hbutx (by omega) b o u hS (KeptS.hi zb (by omega) b o u hS hu)
  have hen : IsEn (Hi lo) (w11.alloc (.cells #[.int .i64 it.k, .int .i64 it.q, .slice none 0 0, .slice none 0 0, .bool false] 33)) (.agg #[.int .i64 it.k, .int .i64 it.q, .slice none 0 0, .slice none 0 0, .bool false]) ⟨it.k, it.q, [], [], false⟩ := ⟨none, 0, 0, none, 0, 0, rfl, Rd.nil_ _, RdV.nil_ _, Within.zero _ _, Within.zero _ _⟩
  have hare := ((((HOX.out.2.1.below N9.out).app (AreE.one hen)).keptS hK).keptS hkx).hi (lo' := w.heap.size) (by omega)
  have hrpx : Rd wx B5 m5 d5 l.p.b := (((HOX.out.2.2.2.1.below N9.out).keptS HOX.out.2.2.2.2.1 hK)).keptS HOX.out.2.2.2.2.1 hkx
  have hown2 := (HOWN.out.but (by omega) zb).but (by omega) hbutx
  have hfin : IsLane (Hi w.heap.size) wx (.agg #[.slice A9 (n5 + 1) c9, .int .i64 l.p.seq, .int .i64 l.p.total, .int .i64 l.p.got, .slice B5 m5 d5]) ⟨l.es ++ [⟨it.k, it.q, [], [], false⟩], l.p⟩ := ⟨_, _, _, _, _, _, rfl, ⟨_, hown2.same, hare, Within.of fun b o e => by have := (hown2.addr b o e).1; omega⟩, hrpx, HOX.out.2.2.2.2.1.mono fun b hb => by have : lo ≤ b := hb; show w.heap.size ≤ b; omega⟩
  have hb8x : Below w.heap.size w wx := hbelx _ _ ((((bthen HBX.out N9.out)).trans (HB9'.out.mono (show w.heap.size ≤ W.heap.size by omega))).setCell (p := ⟨g, 0, none⟩) (by show w.heap.size ≤ g; omega) (.slice A9 (n5 + 1) c9)) (by omega)
  exact bodyPost_ret (v := .tuple #[.agg #[.slice A9 (n5 + 1) c9, .int .i64 l.p.seq, .int .i64 l.p.total, .int .i64 l.p.got, .slice B5 m5 d5], .int .i64 0]) (by simp [results, Try.results27, go_sem, r0, r1, r2, r3, r4]) rfl
    ⟨_, rfl, hfin, hb8x⟩
end Go.Proofs.Ytmlmkkfieeaejaa
/- What Read of an order comes to. -/
namespace Go.Proofs.Ytmlmkkfieeaejaa
open Go.RowKit
set_option linter.unusedVariables false

set_option maxHeartbeats 4000000 in
theorem read_late2 {S : Nat → Prop} (v u : Value) (l : Lane.Ln) (it : Item.It) (w : World) (h : IsLane S w v l) (hi : IsItem w u it) (hS : SmallL l) (hg0 : 0 ≤ l.p.got) (hl65 : it.l.length ≤ 65536) (hb65 : it.b.length ≤ 65536) (hk : it.k = 2) (hlt : it.q ≤ Lane.last l) :
    Calls Try.prog 27 #[v, u] w (ReadIs w (l, 2)) := by
  obtain ⟨A, n, c, B, m, d, ev, hE, hB, hW⟩ := id h
  subst ev
  obtain ⟨LAi, lni, lci, BAi, bni, bci, eu, hli, hbi⟩ := id hi
  subst eu
  obtain ⟨t0, t1, t2, t4⟩ := three_alloc w (.cells #[.slice A n c, .int .i64 l.p.seq, .int .i64 l.p.total, .int .i64 l.p.got, .slice B m d] 27) (.cells #[.int .i64 it.k, .int .i64 it.q, .int .i64 it.e, .int .i64 it.i, .int .i64 it.t, .int .i64 it.c, .slice LAi lni lci, .slice BAi bni bci] 41) (.cells lz 27)
  obtain ⟨W, hWW⟩ : ∃ W, ((w.alloc (.cells #[.slice A n c, .int .i64 l.p.seq, .int .i64 l.p.total, .int .i64 l.p.got, .slice B m d] 27)).alloc (.cells #[.int .i64 it.k, .int .i64 it.q, .int .i64 it.e, .int .i64 it.i, .int .i64 it.t, .int .i64 it.c, .slice LAi lni lci, .slice BAi bni bci] 41)).alloc (.cells lz 27) = W := ⟨_, rfl⟩
  have HSZ : Hid (W.heap.size = w.heap.size + 3) := by rw [← hWW, size_alloc, size_alloc, size_alloc]; exact hidT rfl
  rw [hWW] at t0 t1 t2 t4
  have HF := hidT (fresh_any _ l W (h.below t4) hS)
  obtain ⟨g, hg⟩ : ∃ g, w.heap.size = g := ⟨_, rfl⟩
  have HG := hidT hg
  rw [hg] at t0 t1 t2
  have HW := hidT hWW
  have T0 := hidT t0
  have T1 := hidT t1
  have T2 := hidT t2
  have T4 := hidT t4
  have HI := hidT hi
  have HS := hidT hS
  have HG0 := hidT hg0
  have HL65 := hidT hl65
  have HB65 := hidT hb65
  have HLI := hidT hli
  have HES := hidT hE.size
  have HLT := hidT hlt
  clear hlt
  have HKI := hidT hk
  have c1 : (it.k == 1) = false := by simp; omega
  have c2 : (it.k == 2) = true := by simp; omega
  clear hk
  obtain ⟨e0, e1, e2, e3, e4⟩ := cells5 t0
  rw [← HW.out] at e0 e1 e2 e3 e4
  clear t0 t1 t2 t4 hE hB hW hWW hS h hi hg0 hl65 hb65 hli hbi
  go_enter Try.func27, Try.ntmps27
  go_wp2_with fail
  rw [HW.out]
  clear hg e0 e1 e2 e3 e4
  with_reducible refine HF.out.mono ?_
  intro e' w5 hfr
  obtain ⟨A5, n5, c5, us, B5, m5, d5, lo, rfl, ho5, hb5⟩ := hfr.own
  have y0 := keepH T0.out hb5
  have y1 := keepH T1.out hb5
  have y2 := keepH T2.out hb5
  have HO5 := hidT ho5
  have HB5 := hidT (bthen T4.out hb5)
  clear hfr hb5 ho5 HF
  have hgg := HG.out
  have hsz := HSZ.out
  go_wp2_with (
    refine wpList_stI rfl 27 _ _ rfl g #[.slice A5 n5 c5, .int .i64 l.p.seq, .int .i64 l.p.total, .int .i64 l.p.got, .slice B5 m5 d5] rfl rfl _ _ y0 sizeL rfl (by simp [Value.oneCell']) ?_
    intro w6 hg6 hbut6 hbel6)
  simp only [Act.put]
  have HO6 := hidT (HO5.out.but (by omega) hbut6)
  have Y1 := hidT ((hbut6.2 (g + 1) (by omega)).trans y1)
  have Y2 := hidT ((hbut6.2 (g + 1 + 1) (by omega)).trans y2)
  have HB6 := hidT (hbel6 _ _ HB5.out (by omega))
  have G6 := hidT hg6
  have hlen := HO6.out.rde.size
  obtain ⟨K, hK⟩ : ∃ K, Lane.last l = K := ⟨_, rfl⟩
  have HLAST : Hid (∀ m' : Later w6, Calls Try.prog 49 #[.agg #[.slice A5 n5 c5, .int .i64 l.p.seq, .int .i64 l.p.total, .int .i64 l.p.got, .slice B5 m5 d5]] m'.w (IntIs m'.w K)) := hidT fun m' => last_any l A5 n5 c5 B5 m5 d5 m'.w (HO6.out.rde.below m'.h) HG0.out K hK
  have HKK := hidT hK
  have HN5 : Hid (n5 ≤ 65536) := hidT (by have := HS.out.1; omega)
  obtain ⟨i0, i1, i2, i3, i4⟩ := cells5 hg6
  obtain ⟨j0, j1, j2, j3, j4, j5, j6, j7⟩ := cells8 Y1.out
  have NE := Later.ne w6
  have a0 := Later.cell i0
  have a1 := Later.cell i1
  have a2 := Later.cell i2
  have a3 := Later.cell i3
  have a4 := Later.cell i4
  have b1 := Later.cell j1
  clear hg6 hbut6 hbel6 y0 y1 y2 hgg hsz hlen hK i0 i1 i2 i3 i4 j0 j1 j2 j3 j4 j5 j6 j7
  have hlt : decide (it.q ≤ K) = true := by have := HLT.out; rw [HKK.out] at this; simp; omega
  refine wp_later (by kernel_rfl) (by kernel_rfl) ?_
  repeat (go_big_quiet_step ((go_at_call 49; exact Later.int (HLAST.out _))))
  refine wpQuiet_nil ?_
  intro w9 hw9
  obtain ⟨⟨_, hb9⟩, rfl⟩ := hw9
  have Y0 := hidT (keepH G6.out hb9)
  have Y1 := hidT (keepH Y1.out hb9)
  have Y2 := hidT (keepH Y2.out hb9)
  have HO9 := hidT (HO6.out.later hb9)
  have HB9 := hidT (bthen HB6.out hb9)
  clear hb9 HO6 HB6 G6 a0 a1 a2 a3 a4 b1 NE HLAST HO5 HB5 T0 T1 T2
  obtain ⟨W9, hW9⟩ : ∃ W9, w9.alloc (.cells #[.int .i64 it.k, .int .i64 it.q, .slice none 0 0, .slice none 0 0, .bool false] 33) = W9 := ⟨_, rfl⟩
  obtain ⟨r, hr⟩ : ∃ r, w9.heap.size = r := ⟨_, rfl⟩
  have p9 := alloc_at w9 (.cells #[.int .i64 it.k, .int .i64 it.q, .slice none 0 0, .slice none 0 0, .bool false] 33) _ rfl
  have n9 := nkeep w9 (.cells #[.int .i64 it.k, .int .i64 it.q, .slice none 0 0, .slice none 0 0, .bool false] 33)
  rw [hW9, hr] at p9
  rw [hW9] at n9
  have HW9 := hidT hW9
  have P9 := hidT p9
  have X0 := hidT (keepH Y0.out n9)
  have X1 := hidT (keepH Y1.out n9)
  have X2 := hidT (keepH Y2.out n9)
  have hmid := HO9.out.mid
  rw [hr] at hmid
  have HM9 := hidT (hmid.later n9)
  have HO9 := hidT (HO9.out.later n9)
  have HBX := hidT (bthen HB9.out n9)
  have m0 := (cells8 Y1.out).1
  have m1 := (cells8 Y1.out).2.1
  have HRR : Hid (w.heap.size + 3 ≤ r) := hidT (by have := HSZ.out; have := HO9.out.2.2.2.2.2.1; have := hmid.2.2.2.2.2.2; omega)
  clear p9 n9 hW9 hmid Y0 Y1 Y2 HB9
  obtain ⟨i0, i1, i2, i3, i4⟩ := cells5 X0.out
  obtain ⟨j0, j1, j2, j3, j4, j5, j6, j7⟩ := cells8 X1.out
  rw [← HW9.out] at i0 i1 i2 i3 i4 j0 j1 j2 j3 j4 j5 j6 j7
  have HCL : Hid (∀ w', Below W9.heap.size W9 w' → Calls Try.prog 51 #[.slice LAi lni lci] w' (fun e w2 => ∃ B d, e = .returned (.slice B lni d) ∧ OwnV w2 w'.heap.size 3 (.slice B lni d) lni (is it.l) ∧ Below w'.heap.size w' w2)) :=
    hidT fun w' hb' => cloneI_any LAi lni lci it.l w' (RdV.below HLI.out (bthen HBX.out hb')) (by have := HL65.out; have := RdI.size HLI.out; omega)
  obtain ⟨hd, hhd⟩ : ∃ hd, (it.i == 1) = hd := ⟨_, rfl⟩
  have HHD := hidT hhd
  go_wp2_with fail
  rw [HW9.out]
  rw [HW9.out] at j3 j6
  clear hr i0 i1 i2 i3 i4 j0 j1 j2 j4 j5 j7
  have hgr : g + 1 ≠ r := by have := HRR.out; have := HG.out; omega
  have hrW : r ≤ W9.heap.size := by have := blk_lt P9.out; omega
  go_region_law
    (first
      | (go_simp; go_at_call 51; ((with_reducible refine (HCL.out _ (Below.refl _ _).drew).mono ?_); rintro e5 w10 ⟨A10, c10, rfl, ho10, hb10'⟩; have hb10 : Below W9.heap.size W9 w10 := undrew hb10'; have y10 := keepH P9.out hb10; have f3 := no_frozen y10 3; have f4 := no_frozen y10 4; obtain ⟨q0, q1', q2', q3', q4'⟩ := cells5 y10; obtain ⟨k0, k1, k2, k3, k4, k5, k6, k7⟩ := cells8 (keepH X1.out hb10); have kx3 := (But.setCell w10 r 3 (.slice A10 lni c10)).cell (p := ⟨g + 1, 3, none⟩) hgr k3))
      | fail)
  all_goals
    have z1 : (w10.setCell ⟨r, 3, none⟩ (.slice A10 lni c10)).heap[r]? = some (.cells #[.int .i64 it.k, .int .i64 it.q, .slice none 0 0, .slice A10 lni c10, .bool false] 33 (0, 0)) := heap_setCell_same w10 r 3 _ _ _ y10
    have z2 : ((w10.setCell ⟨r, 3, none⟩ (.slice A10 lni c10)).setCell ⟨r, 4, none⟩ (.bool hd)).heap[r]? = some (.cells #[.int .i64 it.k, .int .i64 it.q, .slice none 0 0, .slice A10 lni c10, .bool hd] 33 (0, 0)) := heap_setCell_same _ r 4 _ _ _ z1
    have zb : But r w10 ((w10.setCell ⟨r, 3, none⟩ (.slice A10 lni c10)).setCell ⟨r, 4, none⟩ (.bool hd)) := (But.setCell w10 r 3 _).trans (But.setCell _ r 4 _)
    have hrr := HRR.out
    have hgg := HG.out
    have hsz := HSZ.out
    have hls : ∀ b o, A10 = some ⟨b, o, none⟩ → W9.heap.size ≤ b := addrV ho10 (Nat.le_refl _)
    have hr9 := blk_lt P9.out
    have HLS := hidT hls
    have X0 := hidT ((zb.2 g (by omega)).trans (keepH X0.out hb10))
    have X2 := hidT ((zb.2 (g + 1 + 1) (by omega)).trans (keepH X2.out hb10))
    have HOX := hidT ((HM9.out.later hb10).far (Nat.le_refl _) (by omega) zb).own
    have HBX := hidT (((bthen HBX.out hb10).setCell (p := ⟨r, 3, none⟩) (by show w.heap.size ≤ r; omega) (.slice A10 lni c10)).setCell (p := ⟨r, 4, none⟩) (by show w.heap.size ≤ r; omega) (.bool hd))
    have HLR := hidT (RdV.but (OwnV.same ho10) (fun b o e => by have := hls b o e; omega) zb)
    have Z2 := hidT z2
    have hszx := zb.1
    have HLW : Hid (lo ≤ W9.heap.size) := hidT (by have := HM9.out.2.2.2.2.2.2; omega)
    clear z1 zb hls y10 f3 f4 q0 q1' q2' q3' q4' k0 k1 k2 k3 k4 k5 k6 k7 kx3 hgr j3 j6 hb10 hb10' ho10 hhd hrr hgg hsz hr9 hszx
    generalize ((w10.setCell ⟨r, 3, none⟩ (.slice A10 lni c10)).setCell ⟨r, 4, none⟩ (.bool hd)) = wX at *
    obtain ⟨i0, i1, i2, i3, i4⟩ := cells5 X0.out
    obtain ⟨z0', z1', z2', z3', z4'⟩ := cells5 Z2.out
    have x2 := X2.out
    go_wp2_with (
      refine wpList_stI rfl 27 _ _ rfl (g + 1 + 1) #[.slice A5 n5 c5, .int .i64 l.p.seq, .int .i64 l.p.total, .int .i64 l.p.got, .slice B5 m5 d5] rfl rfl _ _ x2 sizeL rfl (by simp [Value.oneCell']) ?_
      intro wy hgy hbuty hbely)
    obtain ⟨r0, r1, r2, r3, r4⟩ := cells5 hgy
    have hgg := HG.out
    have hsz := HSZ.out
    exact bodyPost_ret (v := .tuple #[.agg #[.slice A5 n5 c5, .int .i64 l.p.seq, .int .i64 l.p.total, .int .i64 l.p.got, .slice B5 m5 d5], .int .i64 2]) (by simp [results, Try.results27, go_sem, r0, r1, r2, r3, r4]) rfl
      ⟨_, rfl, ((HOX.out.but (by omega) hbuty).lane.hi (lo' := w.heap.size) (by omega)), hbely _ _ HBX.out (by omega)⟩

set_option maxHeartbeats 4000000 in
theorem read_under2 {S : Nat → Prop} (v u : Value) (l : Lane.Ln) (it : Item.It) (w : World) (h : IsLane S w v l) (hi : IsItem w u it) (hS : SmallL l) (hg0 : 0 ≤ l.p.got) (hl65 : it.l.length ≤ 65536) (hb65 : it.b.length ≤ 65536) (hk : it.k = 2) (hu : l.p.got ≠ 0) (hlt : ¬ it.q ≤ Lane.last l) :
    Calls Try.prog 27 #[v, u] w (ReadIs w (l, 2)) := by
  obtain ⟨A, n, c, B, m, d, ev, hE, hB, hW⟩ := id h
  subst ev
  obtain ⟨LAi, lni, lci, BAi, bni, bci, eu, hli, hbi⟩ := id hi
  subst eu
  obtain ⟨t0, t1, t2, t4⟩ := three_alloc w (.cells #[.slice A n c, .int .i64 l.p.seq, .int .i64 l.p.total, .int .i64 l.p.got, .slice B m d] 27) (.cells #[.int .i64 it.k, .int .i64 it.q, .int .i64 it.e, .int .i64 it.i, .int .i64 it.t, .int .i64 it.c, .slice LAi lni lci, .slice BAi bni bci] 41) (.cells lz 27)
  obtain ⟨W, hWW⟩ : ∃ W, ((w.alloc (.cells #[.slice A n c, .int .i64 l.p.seq, .int .i64 l.p.total, .int .i64 l.p.got, .slice B m d] 27)).alloc (.cells #[.int .i64 it.k, .int .i64 it.q, .int .i64 it.e, .int .i64 it.i, .int .i64 it.t, .int .i64 it.c, .slice LAi lni lci, .slice BAi bni bci] 41)).alloc (.cells lz 27) = W := ⟨_, rfl⟩
  have HSZ : Hid (W.heap.size = w.heap.size + 3) := by rw [← hWW, size_alloc, size_alloc, size_alloc]; exact hidT rfl
  rw [hWW] at t0 t1 t2 t4
  have HF := hidT (fresh_any _ l W (h.below t4) hS)
  obtain ⟨g, hg⟩ : ∃ g, w.heap.size = g := ⟨_, rfl⟩
  have HG := hidT hg
  rw [hg] at t0 t1 t2
  have HW := hidT hWW
  have T0 := hidT t0
  have T1 := hidT t1
  have T2 := hidT t2
  have T4 := hidT t4
  have HI := hidT hi
  have HS := hidT hS
  have HG0 := hidT hg0
  have HL65 := hidT hl65
  have HB65 := hidT hb65
  have HLI := hidT hli
  have HES := hidT hE.size
  have HLT := hidT hlt
  clear hlt
  have HUU := hidT hu
  clear hu
  have HKI := hidT hk
  have c1 : (it.k == 1) = false := by simp; omega
  have c2 : (it.k == 2) = true := by simp; omega
  clear hk
  obtain ⟨e0, e1, e2, e3, e4⟩ := cells5 t0
  rw [← HW.out] at e0 e1 e2 e3 e4
  clear t0 t1 t2 t4 hE hB hW hWW hS h hi hg0 hl65 hb65 hli hbi
  go_enter Try.func27, Try.ntmps27
  go_wp2_with fail
  rw [HW.out]
  clear hg e0 e1 e2 e3 e4
  with_reducible refine HF.out.mono ?_
  intro e' w5 hfr
  obtain ⟨A5, n5, c5, us, B5, m5, d5, lo, rfl, ho5, hb5⟩ := hfr.own
  have y0 := keepH T0.out hb5
  have y1 := keepH T1.out hb5
  have y2 := keepH T2.out hb5
  have HO5 := hidT ho5
  have HB5 := hidT (bthen T4.out hb5)
  clear hfr hb5 ho5 HF
  have hgg := HG.out
  have hsz := HSZ.out
  go_wp2_with (
    refine wpList_stI rfl 27 _ _ rfl g #[.slice A5 n5 c5, .int .i64 l.p.seq, .int .i64 l.p.total, .int .i64 l.p.got, .slice B5 m5 d5] rfl rfl _ _ y0 sizeL rfl (by simp [Value.oneCell']) ?_
    intro w6 hg6 hbut6 hbel6)
  simp only [Act.put]
  have HO6 := hidT (HO5.out.but (by omega) hbut6)
  have Y1 := hidT ((hbut6.2 (g + 1) (by omega)).trans y1)
  have Y2 := hidT ((hbut6.2 (g + 1 + 1) (by omega)).trans y2)
  have HB6 := hidT (hbel6 _ _ HB5.out (by omega))
  have G6 := hidT hg6
  have hlen := HO6.out.rde.size
  obtain ⟨K, hK⟩ : ∃ K, Lane.last l = K := ⟨_, rfl⟩
  have HLAST : Hid (∀ m' : Later w6, Calls Try.prog 49 #[.agg #[.slice A5 n5 c5, .int .i64 l.p.seq, .int .i64 l.p.total, .int .i64 l.p.got, .slice B5 m5 d5]] m'.w (IntIs m'.w K)) := hidT fun m' => last_any l A5 n5 c5 B5 m5 d5 m'.w (HO6.out.rde.below m'.h) HG0.out K hK
  have HKK := hidT hK
  have HN5 : Hid (n5 ≤ 65536) := hidT (by have := HS.out.1; omega)
  obtain ⟨i0, i1, i2, i3, i4⟩ := cells5 hg6
  obtain ⟨j0, j1, j2, j3, j4, j5, j6, j7⟩ := cells8 Y1.out
  have NE := Later.ne w6
  have a0 := Later.cell i0
  have a1 := Later.cell i1
  have a2 := Later.cell i2
  have a3 := Later.cell i3
  have a4 := Later.cell i4
  have b1 := Later.cell j1
  clear hg6 hbut6 hbel6 y0 y1 y2 hgg hsz hlen hK i0 i1 i2 i3 i4 j0 j1 j2 j3 j4 j5 j6 j7
  have hlt : decide (it.q ≤ K) = false := by have := HLT.out; rw [HKK.out] at this; simp; omega
  refine wp_later (by kernel_rfl) (by kernel_rfl) ?_
  repeat (go_big_quiet_step ((go_at_call 49; exact Later.int (HLAST.out _))))
  refine wpQuiet_nil ?_
  intro w9 hw9
  obtain ⟨⟨_, hb9⟩, rfl⟩ := hw9
  have Y0 := hidT (keepH G6.out hb9)
  have Y1 := hidT (keepH Y1.out hb9)
  have Y2 := hidT (keepH Y2.out hb9)
  have HO9 := hidT (HO6.out.later hb9)
  have HB9 := hidT (bthen HB6.out hb9)
  clear hb9 HO6 HB6 G6 a0 a1 a2 a3 a4 b1 NE HLAST HO5 HB5 T0 T1 T2
  obtain ⟨W9, hW9⟩ : ∃ W9, w9.alloc (.cells #[.int .i64 it.k, .int .i64 it.q, .slice none 0 0, .slice none 0 0, .bool false] 33) = W9 := ⟨_, rfl⟩
  obtain ⟨r, hr⟩ : ∃ r, w9.heap.size = r := ⟨_, rfl⟩
  have p9 := alloc_at w9 (.cells #[.int .i64 it.k, .int .i64 it.q, .slice none 0 0, .slice none 0 0, .bool false] 33) _ rfl
  have n9 := nkeep w9 (.cells #[.int .i64 it.k, .int .i64 it.q, .slice none 0 0, .slice none 0 0, .bool false] 33)
  rw [hW9, hr] at p9
  rw [hW9] at n9
  have HW9 := hidT hW9
  have P9 := hidT p9
  have X0 := hidT (keepH Y0.out n9)
  have X1 := hidT (keepH Y1.out n9)
  have X2 := hidT (keepH Y2.out n9)
  have hmid := HO9.out.mid
  rw [hr] at hmid
  have HM9 := hidT (hmid.later n9)
  have HO9 := hidT (HO9.out.later n9)
  have HBX := hidT (bthen HB9.out n9)
  have m0 := (cells8 Y1.out).1
  have m1 := (cells8 Y1.out).2.1
  have HRR : Hid (w.heap.size + 3 ≤ r) := hidT (by have := HSZ.out; have := HO9.out.2.2.2.2.2.1; have := hmid.2.2.2.2.2.2; omega)
  clear p9 n9 hW9 hmid Y0 Y1 Y2 HB9
  obtain ⟨i0, i1, i2, i3, i4⟩ := cells5 X0.out
  obtain ⟨j0, j1, j2, j3, j4, j5, j6, j7⟩ := cells8 X1.out
  rw [← HW9.out] at i0 i1 i2 i3 i4 j0 j1 j2 j3 j4 j5 j6 j7
  have HCL : Hid (∀ w', Below W9.heap.size W9 w' → Calls Try.prog 51 #[.slice LAi lni lci] w' (fun e w2 => ∃ B d, e = .returned (.slice B lni d) ∧ OwnV w2 w'.heap.size 3 (.slice B lni d) lni (is it.l) ∧ Below w'.heap.size w' w2)) :=
    hidT fun w' hb' => cloneI_any LAi lni lci it.l w' (RdV.below HLI.out (bthen HBX.out hb')) (by have := HL65.out; have := RdI.size HLI.out; omega)
  obtain ⟨hd, hhd⟩ : ∃ hd, (it.i == 1) = hd := ⟨_, rfl⟩
  have HHD := hidT hhd
  go_wp2_with fail
  rw [HW9.out]
  rw [HW9.out] at j3 j6
  clear hr i0 i1 i2 i3 i4 j0 j1 j2 j4 j5 j7
  have hgr : g + 1 ≠ r := by have := HRR.out; have := HG.out; omega
  have hrW : r ≤ W9.heap.size := by have := blk_lt P9.out; omega
  go_region_law
    (first
      | (go_simp; go_at_call 51; ((with_reducible refine (HCL.out _ (Below.refl _ _).drew).mono ?_); rintro e5 w10 ⟨A10, c10, rfl, ho10, hb10'⟩; have hb10 : Below W9.heap.size W9 w10 := undrew hb10'; have y10 := keepH P9.out hb10; have f3 := no_frozen y10 3; have f4 := no_frozen y10 4; obtain ⟨q0, q1', q2', q3', q4'⟩ := cells5 y10; obtain ⟨k0, k1, k2, k3, k4, k5, k6, k7⟩ := cells8 (keepH X1.out hb10); have kx3 := (But.setCell w10 r 3 (.slice A10 lni c10)).cell (p := ⟨g + 1, 3, none⟩) hgr k3))
      | fail)
  all_goals
    have z1 : (w10.setCell ⟨r, 3, none⟩ (.slice A10 lni c10)).heap[r]? = some (.cells #[.int .i64 it.k, .int .i64 it.q, .slice none 0 0, .slice A10 lni c10, .bool false] 33 (0, 0)) := heap_setCell_same w10 r 3 _ _ _ y10
    have z2 : ((w10.setCell ⟨r, 3, none⟩ (.slice A10 lni c10)).setCell ⟨r, 4, none⟩ (.bool hd)).heap[r]? = some (.cells #[.int .i64 it.k, .int .i64 it.q, .slice none 0 0, .slice A10 lni c10, .bool hd] 33 (0, 0)) := heap_setCell_same _ r 4 _ _ _ z1
    have zb : But r w10 ((w10.setCell ⟨r, 3, none⟩ (.slice A10 lni c10)).setCell ⟨r, 4, none⟩ (.bool hd)) := (But.setCell w10 r 3 _).trans (But.setCell _ r 4 _)
    have hrr := HRR.out
    have hgg := HG.out
    have hsz := HSZ.out
    have hls : ∀ b o, A10 = some ⟨b, o, none⟩ → W9.heap.size ≤ b := addrV ho10 (Nat.le_refl _)
    have hr9 := blk_lt P9.out
    have HLS := hidT hls
    have X0 := hidT ((zb.2 g (by omega)).trans (keepH X0.out hb10))
    have X2 := hidT ((zb.2 (g + 1 + 1) (by omega)).trans (keepH X2.out hb10))
    have HOX := hidT ((HM9.out.later hb10).far (Nat.le_refl _) (by omega) zb).own
    have HBX := hidT (((bthen HBX.out hb10).setCell (p := ⟨r, 3, none⟩) (by show w.heap.size ≤ r; omega) (.slice A10 lni c10)).setCell (p := ⟨r, 4, none⟩) (by show w.heap.size ≤ r; omega) (.bool hd))
    have HLR := hidT (RdV.but (OwnV.same ho10) (fun b o e => by have := hls b o e; omega) zb)
    have Z2 := hidT z2
    have hszx := zb.1
    have HLW : Hid (lo ≤ W9.heap.size) := hidT (by have := HM9.out.2.2.2.2.2.2; omega)
    clear z1 zb hls y10 f3 f4 q0 q1' q2' q3' q4' k0 k1 k2 k3 k4 k5 k6 k7 kx3 hgr j3 j6 hb10 hb10' ho10 hhd hrr hgg hsz hr9 hszx
    generalize ((w10.setCell ⟨r, 3, none⟩ (.slice A10 lni c10)).setCell ⟨r, 4, none⟩ (.bool hd)) = wX at *
    obtain ⟨i0, i1, i2, i3, i4⟩ := cells5 X0.out
    obtain ⟨z0', z1', z2', z3', z4'⟩ := cells5 Z2.out
    have x2 := X2.out
    have hun := fun w' => isUnder_any l A5 n5 c5 B5 m5 d5 w' true (by have := HUU.out; simpa using this)
    go_wp2_with fail
    with_reducible refine (hun _).mono ?_
    rintro e w11 ⟨rfl, hb11⟩
    have X0 := hidT (keepH X0.out hb11)
    have X2 := hidT (keepH X2.out hb11)
    have Z2 := hidT (keepH Z2.out hb11)
    have HOX := hidT (HOX.out.later hb11)
    have HBX := hidT (bthen HBX.out hb11)
    have HLR := hidT (RdV.below HLR.out (by assumption))
    clear hb11 hun
    clear i0 i1 i2 i3 i4
    obtain ⟨i0, i1, i2, i3, i4⟩ := cells5 X0.out
    obtain ⟨z0', z1', z2', z3', z4'⟩ := cells5 Z2.out
    have x2 := X2.out
    go_wp2_with (
      refine wpList_stI rfl 27 _ _ rfl (g + 1 + 1) #[.slice A5 n5 c5, .int .i64 l.p.seq, .int .i64 l.p.total, .int .i64 l.p.got, .slice B5 m5 d5] rfl rfl _ _ x2 sizeL rfl (by simp [Value.oneCell']) ?_
      intro wy hgy hbuty hbely)
    obtain ⟨r0, r1, r2, r3, r4⟩ := cells5 hgy
    have hgg := HG.out
    have hsz := HSZ.out
    exact bodyPost_ret (v := .tuple #[.agg #[.slice A5 n5 c5, .int .i64 l.p.seq, .int .i64 l.p.total, .int .i64 l.p.got, .slice B5 m5 d5], .int .i64 2]) (by simp [results, Try.results27, go_sem, r0, r1, r2, r3, r4]) rfl
      ⟨_, rfl, ((HOX.out.but (by omega) hbuty).lane.hi (lo' := w.heap.size) (by omega)), hbely _ _ HBX.out (by omega)⟩

set_option maxHeartbeats 4000000 in
theorem read_order {S : Nat → Prop} (v u : Value) (l : Lane.Ln) (it : Item.It) (w : World) (h : IsLane S w v l) (hi : IsItem w u it) (hS : SmallL l) (hg0 : 0 ≤ l.p.got) (hl65 : it.l.length ≤ 65536) (hb65 : it.b.length ≤ 65536) (hk : it.k = 2) (hu : l.p.got = 0) (hlt : ¬ it.q ≤ Lane.last l) :
    Calls Try.prog 27 #[v, u] w (ReadIs w (⟨l.es ++ [⟨it.k, it.q, [], it.l, it.i == 1⟩], l.p⟩, 0)) := by
  obtain ⟨A, n, c, B, m, d, ev, hE, hB, hW⟩ := id h
  subst ev
  obtain ⟨LAi, lni, lci, BAi, bni, bci, eu, hli, hbi⟩ := id hi
  subst eu
  obtain ⟨t0, t1, t2, t4⟩ := three_alloc w (.cells #[.slice A n c, .int .i64 l.p.seq, .int .i64 l.p.total, .int .i64 l.p.got, .slice B m d] 27) (.cells #[.int .i64 it.k, .int .i64 it.q, .int .i64 it.e, .int .i64 it.i, .int .i64 it.t, .int .i64 it.c, .slice LAi lni lci, .slice BAi bni bci] 41) (.cells lz 27)
  obtain ⟨W, hWW⟩ : ∃ W, ((w.alloc (.cells #[.slice A n c, .int .i64 l.p.seq, .int .i64 l.p.total, .int .i64 l.p.got, .slice B m d] 27)).alloc (.cells #[.int .i64 it.k, .int .i64 it.q, .int .i64 it.e, .int .i64 it.i, .int .i64 it.t, .int .i64 it.c, .slice LAi lni lci, .slice BAi bni bci] 41)).alloc (.cells lz 27) = W := ⟨_, rfl⟩
  have HSZ : Hid (W.heap.size = w.heap.size + 3) := by rw [← hWW, size_alloc, size_alloc, size_alloc]; exact hidT rfl
  rw [hWW] at t0 t1 t2 t4
  have HF := hidT (fresh_any _ l W (h.below t4) hS)
  obtain ⟨g, hg⟩ : ∃ g, w.heap.size = g := ⟨_, rfl⟩
  have HG := hidT hg
  rw [hg] at t0 t1 t2
  have HW := hidT hWW
  have T0 := hidT t0
  have T1 := hidT t1
  have T2 := hidT t2
  have T4 := hidT t4
  have HI := hidT hi
  have HS := hidT hS
  have HG0 := hidT hg0
  have HL65 := hidT hl65
  have HB65 := hidT hb65
  have HLI := hidT hli
  have HES := hidT hE.size
  have HLT := hidT hlt
  clear hlt
  have HUU := hidT hu
  clear hu
  have HKI := hidT hk
  have c1 : (it.k == 1) = false := by simp; omega
  have c2 : (it.k == 2) = true := by simp; omega
  clear hk
  obtain ⟨e0, e1, e2, e3, e4⟩ := cells5 t0
  rw [← HW.out] at e0 e1 e2 e3 e4
  clear t0 t1 t2 t4 hE hB hW hWW hS h hi hg0 hl65 hb65 hli hbi
  go_enter Try.func27, Try.ntmps27
  go_wp2_with fail
  rw [HW.out]
  clear hg e0 e1 e2 e3 e4
  with_reducible refine HF.out.mono ?_
  intro e' w5 hfr
  obtain ⟨A5, n5, c5, us, B5, m5, d5, lo, rfl, ho5, hb5⟩ := hfr.own
  have y0 := keepH T0.out hb5
  have y1 := keepH T1.out hb5
  have y2 := keepH T2.out hb5
  have HO5 := hidT ho5
  have HB5 := hidT (bthen T4.out hb5)
  clear hfr hb5 ho5 HF
  have hgg := HG.out
  have hsz := HSZ.out
  go_wp2_with (
    refine wpList_stI rfl 27 _ _ rfl g #[.slice A5 n5 c5, .int .i64 l.p.seq, .int .i64 l.p.total, .int .i64 l.p.got, .slice B5 m5 d5] rfl rfl _ _ y0 sizeL rfl (by simp [Value.oneCell']) ?_
    intro w6 hg6 hbut6 hbel6)
  simp only [Act.put]
  have HO6 := hidT (HO5.out.but (by omega) hbut6)
  have Y1 := hidT ((hbut6.2 (g + 1) (by omega)).trans y1)
  have Y2 := hidT ((hbut6.2 (g + 1 + 1) (by omega)).trans y2)
  have HB6 := hidT (hbel6 _ _ HB5.out (by omega))
  have G6 := hidT hg6
  have hlen := HO6.out.rde.size
  obtain ⟨K, hK⟩ : ∃ K, Lane.last l = K := ⟨_, rfl⟩
  have HLAST : Hid (∀ m' : Later w6, Calls Try.prog 49 #[.agg #[.slice A5 n5 c5, .int .i64 l.p.seq, .int .i64 l.p.total, .int .i64 l.p.got, .slice B5 m5 d5]] m'.w (IntIs m'.w K)) := hidT fun m' => last_any l A5 n5 c5 B5 m5 d5 m'.w (HO6.out.rde.below m'.h) HG0.out K hK
  have HKK := hidT hK
  have HN5 : Hid (n5 ≤ 65536) := hidT (by have := HS.out.1; omega)
  obtain ⟨i0, i1, i2, i3, i4⟩ := cells5 hg6
  obtain ⟨j0, j1, j2, j3, j4, j5, j6, j7⟩ := cells8 Y1.out
  have NE := Later.ne w6
  have a0 := Later.cell i0
  have a1 := Later.cell i1
  have a2 := Later.cell i2
  have a3 := Later.cell i3
  have a4 := Later.cell i4
  have b1 := Later.cell j1
  clear hg6 hbut6 hbel6 y0 y1 y2 hgg hsz hlen hK i0 i1 i2 i3 i4 j0 j1 j2 j3 j4 j5 j6 j7
  have hlt : decide (it.q ≤ K) = false := by have := HLT.out; rw [HKK.out] at this; simp; omega
  refine wp_later (by kernel_rfl) (by kernel_rfl) ?_
  repeat (go_big_quiet_step ((go_at_call 49; exact Later.int (HLAST.out _))))
  refine wpQuiet_nil ?_
  intro w9 hw9
  obtain ⟨⟨_, hb9⟩, rfl⟩ := hw9
  have Y0 := hidT (keepH G6.out hb9)
  have Y1 := hidT (keepH Y1.out hb9)
  have Y2 := hidT (keepH Y2.out hb9)
  have HO9 := hidT (HO6.out.later hb9)
  have HB9 := hidT (bthen HB6.out hb9)
  clear hb9 HO6 HB6 G6 a0 a1 a2 a3 a4 b1 NE HLAST HO5 HB5 T0 T1 T2
  obtain ⟨W9, hW9⟩ : ∃ W9, w9.alloc (.cells #[.int .i64 it.k, .int .i64 it.q, .slice none 0 0, .slice none 0 0, .bool false] 33) = W9 := ⟨_, rfl⟩
  obtain ⟨r, hr⟩ : ∃ r, w9.heap.size = r := ⟨_, rfl⟩
  have p9 := alloc_at w9 (.cells #[.int .i64 it.k, .int .i64 it.q, .slice none 0 0, .slice none 0 0, .bool false] 33) _ rfl
  have n9 := nkeep w9 (.cells #[.int .i64 it.k, .int .i64 it.q, .slice none 0 0, .slice none 0 0, .bool false] 33)
  rw [hW9, hr] at p9
  rw [hW9] at n9
  have HW9 := hidT hW9
  have P9 := hidT p9
  have X0 := hidT (keepH Y0.out n9)
  have X1 := hidT (keepH Y1.out n9)
  have X2 := hidT (keepH Y2.out n9)
  have hmid := HO9.out.mid
  rw [hr] at hmid
  have HM9 := hidT (hmid.later n9)
  have HO9 := hidT (HO9.out.later n9)
  have HBX := hidT (bthen HB9.out n9)
  have m0 := (cells8 Y1.out).1
  have m1 := (cells8 Y1.out).2.1
  have HRR : Hid (w.heap.size + 3 ≤ r) := hidT (by have := HSZ.out; have := HO9.out.2.2.2.2.2.1; have := hmid.2.2.2.2.2.2; omega)
  clear p9 n9 hW9 hmid Y0 Y1 Y2 HB9
  obtain ⟨i0, i1, i2, i3, i4⟩ := cells5 X0.out
  obtain ⟨j0, j1, j2, j3, j4, j5, j6, j7⟩ := cells8 X1.out
  rw [← HW9.out] at i0 i1 i2 i3 i4 j0 j1 j2 j3 j4 j5 j6 j7
  have HCL : Hid (∀ w', Below W9.heap.size W9 w' → Calls Try.prog 51 #[.slice LAi lni lci] w' (fun e w2 => ∃ B d, e = .returned (.slice B lni d) ∧ OwnV w2 w'.heap.size 3 (.slice B lni d) lni (is it.l) ∧ Below w'.heap.size w' w2)) :=
    hidT fun w' hb' => cloneI_any LAi lni lci it.l w' (RdV.below HLI.out (bthen HBX.out hb')) (by have := HL65.out; have := RdI.size HLI.out; omega)
  obtain ⟨hd, hhd⟩ : ∃ hd, (it.i == 1) = hd := ⟨_, rfl⟩
  have HHD := hidT hhd
  go_wp2_with fail
  rw [HW9.out]
  rw [HW9.out] at j3 j6
  clear hr i0 i1 i2 i3 i4 j0 j1 j2 j4 j5 j7
  have hgr : g + 1 ≠ r := by have := HRR.out; have := HG.out; omega
  have hrW : r ≤ W9.heap.size := by have := blk_lt P9.out; omega
  go_region_law
    (first
      | (go_simp; go_at_call 51; ((with_reducible refine (HCL.out _ (Below.refl _ _).drew).mono ?_); rintro e5 w10 ⟨A10, c10, rfl, ho10, hb10'⟩; have hb10 : Below W9.heap.size W9 w10 := undrew hb10'; have y10 := keepH P9.out hb10; have f3 := no_frozen y10 3; have f4 := no_frozen y10 4; obtain ⟨q0, q1', q2', q3', q4'⟩ := cells5 y10; obtain ⟨k0, k1, k2, k3, k4, k5, k6, k7⟩ := cells8 (keepH X1.out hb10); have kx3 := (But.setCell w10 r 3 (.slice A10 lni c10)).cell (p := ⟨g + 1, 3, none⟩) hgr k3))
      | fail)
  all_goals
    have z1 : (w10.setCell ⟨r, 3, none⟩ (.slice A10 lni c10)).heap[r]? = some (.cells #[.int .i64 it.k, .int .i64 it.q, .slice none 0 0, .slice A10 lni c10, .bool false] 33 (0, 0)) := heap_setCell_same w10 r 3 _ _ _ y10
    have z2 : ((w10.setCell ⟨r, 3, none⟩ (.slice A10 lni c10)).setCell ⟨r, 4, none⟩ (.bool hd)).heap[r]? = some (.cells #[.int .i64 it.k, .int .i64 it.q, .slice none 0 0, .slice A10 lni c10, .bool hd] 33 (0, 0)) := heap_setCell_same _ r 4 _ _ _ z1
    have zb : But r w10 ((w10.setCell ⟨r, 3, none⟩ (.slice A10 lni c10)).setCell ⟨r, 4, none⟩ (.bool hd)) := (But.setCell w10 r 3 _).trans (But.setCell _ r 4 _)
    have hrr := HRR.out
    have hgg := HG.out
    have hsz := HSZ.out
    have hls : ∀ b o, A10 = some ⟨b, o, none⟩ → W9.heap.size ≤ b := addrV ho10 (Nat.le_refl _)
    have hr9 := blk_lt P9.out
    have HLS := hidT hls
    have X0 := hidT ((zb.2 g (by omega)).trans (keepH X0.out hb10))
    have X2 := hidT ((zb.2 (g + 1 + 1) (by omega)).trans (keepH X2.out hb10))
    have HOX := hidT ((HM9.out.later hb10).far (Nat.le_refl _) (by omega) zb).own
    have HBX := hidT (((bthen HBX.out hb10).setCell (p := ⟨r, 3, none⟩) (by show w.heap.size ≤ r; omega) (.slice A10 lni c10)).setCell (p := ⟨r, 4, none⟩) (by show w.heap.size ≤ r; omega) (.bool hd))
    have HLR := hidT (RdV.but (OwnV.same ho10) (fun b o e => by have := hls b o e; omega) zb)
    have Z2 := hidT z2
    have hszx := zb.1
    have HLW : Hid (lo ≤ W9.heap.size) := hidT (by have := HM9.out.2.2.2.2.2.2; omega)
    clear z1 zb hls y10 f3 f4 q0 q1' q2' q3' q4' k0 k1 k2 k3 k4 k5 k6 k7 kx3 hgr j3 j6 hb10 hb10' ho10 hhd hrr hgg hsz hr9 hszx
    generalize ((w10.setCell ⟨r, 3, none⟩ (.slice A10 lni c10)).setCell ⟨r, 4, none⟩ (.bool hd)) = wX at *
    obtain ⟨i0, i1, i2, i3, i4⟩ := cells5 X0.out
    obtain ⟨z0', z1', z2', z3', z4'⟩ := cells5 Z2.out
    have x2 := X2.out
    have hun := fun w' => isUnder_any l A5 n5 c5 B5 m5 d5 w' false (by have := HUU.out; simpa using this)
    go_wp2_with fail
    with_reducible refine (hun _).mono ?_
    rintro e w11 ⟨rfl, hb11⟩
    have X0 := hidT (keepH X0.out hb11)
    have X2 := hidT (keepH X2.out hb11)
    have Z2 := hidT (keepH Z2.out hb11)
    have HOX := hidT (HOX.out.later hb11)
    have HBX := hidT (bthen HBX.out hb11)
    have HLR := hidT (RdV.below HLR.out (by assumption))
    clear hb11 hun
    clear i0 i1 i2 i3 i4
    obtain ⟨i0, i1, i2, i3, i4⟩ := cells5 X0.out
    obtain ⟨z0', z1', z2', z3', z4'⟩ := cells5 Z2.out
    have x2 := X2.out
    have N9 := hidT (nkeep w11 (.cells #[.int .i64 it.k, .int .i64 it.q, .slice none 0 0, .slice A10 lni c10, .bool hd] 33))
    have HOA := hidT (HOX.out.1.later N9.out)
    have HLA := hidT (RdK.lit (k := 5) w11 33 (0, 0) #[.int .i64 it.k, .int .i64 it.q, .slice none 0 0, .slice A10 lni c10, .bool hd] [#[.int .i64 it.k, .int .i64 it.q, .slice none 0 0, .slice A10 lni c10, .bool hd]] (AllK.one rfl (by simp [Value.oneCell'])) (by simp [flat]) 1 rfl (by simp only [maxLen]; omega) w11.heap.size rfl)
    have HSA : Hid (W.heap.size ≤ (w11.alloc (.cells #[.int .i64 it.k, .int .i64 it.q, .slice none 0 0, .slice A10 lni c10, .bool hd] 33)).heap.size) := hidT (by rw [size_alloc]; have := blk_lt X2.out; have := HG.out; have := HSZ.out; omega)
    have hrl := HOX.out.1.rowlt HOX.out.2.2.1
    have HRL := hidT hrl
    have Y0 := hidT (keepH X0.out N9.out)
    have Y2 := hidT (keepH X2.out N9.out)
    have HBW : Hid (∀ b, (Value.slice A5 n5 c5).ownBlock = some b → W.heap.size ≤ b) := hidT fun b hb => (World.ownsRow.lt HOX.out.1.2.2 b hb).1
    have hn5 := HN5.out
    clear hrl
    go_wp2_with (first
      | (at_builtin
         refine wpList_appK 5 (by omega) rfl (.tmp 50) (.tmp 52) 22 rfl W.heap.size 33 _ 72 infoE rfl (by omega) Try.underlying22 (.slice A5 n5 c5) n5 us rfl HOA.out (some ⟨w11.heap.size, 0, none⟩) 1 1 [#[.int .i64 it.k, .int .i64 it.q, .slice none 0 0, .slice A10 lni c10, .bool hd]] rfl HLA.out (by omega) HSA.out ?_
         intro v9 wa hown hb9 hg9
         obtain ⟨A9, c9, rfl, hrd9⟩ := OwnK.rd hown
         have hgg := HG.out
         have hsz := HSZ.out
         have y9 := (hb9.block g (by omega)).trans Y0.out
         have y92 := (hb9.block (g + 1 + 1) (by omega)).trans Y2.out
         have f9 := no_frozen y9 0
         obtain ⟨k0, k1, k2, k3, k4⟩ := cells5 y9
         have z10 : (wa.setCell ⟨g, 0, none⟩ (.slice A9 (n5 + 1) c9)).heap[g]? = some (.cells #[.slice A9 (n5 + 1) c9, .int .i64 l.p.seq, .int .i64 l.p.total, .int .i64 l.p.got, .slice B5 m5 d5] 27 (0, 0)) := heap_setCell_same wa g 0 _ _ _ y9
         have zb := But.setCell wa g 0 (.slice A9 (n5 + 1) c9)
         have z12 := (zb.2 (g + 1 + 1) (by omega)).trans y92
         obtain ⟨q0, q1', q2', q3', q4'⟩ := cells5 z10
         have HOWN := hidT hown
         have HB9' := hidT hb9
         have HG9 := hidT hg9
         clear hown hb9 hg9 hrd9 hgg hsz y9 y92)
      | (refine wpList_stI rfl 27 _ _ rfl (g + 1 + 1) #[.slice A9 (n5 + 1) c9, .int .i64 l.p.seq, .int .i64 l.p.total, .int .i64 l.p.got, .slice B5 m5 d5] rfl rfl _ _ z12 sizeL rfl (by simp [Value.oneCell']) ?_
         intro wx hgx hbutx hbelx)
      | fail)
    obtain ⟨r0, r1, r2, r3, r4⟩ := cells5 hgx
    have hgg := HG.out
    have hsz := HSZ.out
    have hbl := HOX.out.2.2.2.2.2
    have hK : KeptS (Hi lo) (w11.alloc (.cells #[.int .i64 it.k, .int .i64 it.q, .slice none 0 0, .slice A10 lni c10, .bool hd] 33)) wa := KeptS.hig HG9.out HRL.out
    have hkx : KeptS (Hi lo) wa wx := fun b o u hS hu => KeptS.hi hbutx (by omega) b o u hS (KeptS.hi zb (by omega) b o u hS hu)
    have hen : IsEn (Hi lo) (w11.alloc (.cells #[.int .i64 it.k, .int .i64 it.q, .slice none 0 0, .slice A10 lni c10, .bool hd] 33)) (.agg #[.int .i64 it.k, .int .i64 it.q, .slice none 0 0, .slice A10 lni c10, .bool hd]) ⟨it.k, it.q, [], it.l, hd⟩ := ⟨none, 0, 0, A10, lni, c10, rfl, Rd.nil_ _, RdV.below HLR.out N9.out, Within.zero _ _, Within.of fun b o e => by have := HLS.out b o e; have := HLW.out; omega⟩
    have hare := ((((HOX.out.2.1.below N9.out).app (AreE.one hen)).keptS hK).keptS hkx).hi (lo' := w.heap.size) (by omega)
    have hrpx : Rd wx B5 m5 d5 l.p.b := (((HOX.out.2.2.2.1.below N9.out).keptS HOX.out.2.2.2.2.1 hK)).keptS HOX.out.2.2.2.2.1 hkx
    have hown2 := (HOWN.out.but (by omega) zb).but (by omega) hbutx
    have hfin : IsLane (Hi w.heap.size) wx (.agg #[.slice A9 (n5 + 1) c9, .int .i64 l.p.seq, .int .i64 l.p.total, .int .i64 l.p.got, .slice B5 m5 d5]) ⟨l.es ++ [⟨it.k, it.q, [], it.l, hd⟩], l.p⟩ := ⟨_, _, _, _, _, _, rfl, ⟨_, hown2.same, hare, Within.of fun b o e => by have := (hown2.addr b o e).1; omega⟩, hrpx, HOX.out.2.2.2.2.1.mono fun b hb => by have : lo ≤ b := hb; show w.heap.size ≤ b; omega⟩
    have hb8x : Below w.heap.size w wx := hbelx _ _ ((((bthen HBX.out N9.out)).trans (HB9'.out.mono (show w.heap.size ≤ W.heap.size by omega))).setCell (p := ⟨g, 0, none⟩) (by show w.heap.size ≤ g; omega) (.slice A9 (n5 + 1) c9)) (by omega)
    exact bodyPost_ret (v := .tuple #[.agg #[.slice A9 (n5 + 1) c9, .int .i64 l.p.seq, .int .i64 l.p.total, .int .i64 l.p.got, .slice B5 m5 d5], .int .i64 0]) (by simp [results, Try.results27, go_sem, r0, r1, r2, r3, r4]) rfl
      ⟨_, rfl, by rw [HHD.out]; exact hfin, hb8x⟩
end Go.Proofs.Ytmlmkkfieeaejaa
/- What lane.Read comes to. -/
namespace Go.Proofs.Ytmlmkkfieeaejaa
open Go.RowKit
set_option linter.unusedVariables false

theorem read_any {S : Nat → Prop} (v u : Value) (l : Lane.Ln) (it : Item.It) (w : World) (h : IsLane S w v l) (hi : IsItem w u it) (hS : SmallL l) (hg0 : 0 ≤ l.p.got) (hl65 : it.l.length ≤ 65536) (hb65 : it.b.length ≤ 65536) :
    Calls Try.prog 27 #[v, u] w (ReadIs w (Lane.read l it)) := by
  by_cases hk0 : it.k < 1 ∨ 3 < it.k
  · rw [Lane.read_kind hk0]; exact read_k0 v u l it w h hi hS hg0 hl65 hb65 hk0
  by_cases h1 : it.k = 1
  · by_cases hlt : it.q ≤ Lane.last l
    · rw [Lane.read_low hk0 hlt]; exact read_late1 v u l it w h hi hS hg0 hl65 hb65 h1 hlt
    · exact read_piece v u l it w h hi hS hg0 hl65 hb65 h1 hlt
  by_cases h2 : it.k = 2
  · by_cases hlt : it.q ≤ Lane.last l
    · rw [Lane.read_low hk0 hlt]; exact read_late2 v u l it w h hi hS hg0 hl65 hb65 h2 hlt
    · by_cases hu : l.p.got = 0
      · rw [Lane.read_order (.inl h2) hlt (by omega)]
        have e : (⟨it.k, it.q, [], if it.k = 2 then it.l else [], decide (it.k = 2) && decide (it.i = 1)⟩ : Lane.En) = ⟨it.k, it.q, [], it.l, it.i == 1⟩ := by
          rw [if_pos h2, show decide (it.k = 2) = true by simpa using h2, Bool.true_and]
          rfl
        rw [e]
        exact read_order v u l it w h hi hS hg0 hl65 hb65 h2 hu hlt
      · rw [Lane.read_under (.inl h2) hlt (by omega)]; exact read_under2 v u l it w h hi hS hg0 hl65 hb65 h2 hu hlt
  have h3 : it.k = 3 := by omega
  by_cases hlt : it.q ≤ Lane.last l
  · rw [Lane.read_low hk0 hlt]; exact read_late3 v u l it w h hi hS hg0 hl65 hb65 h3 hlt
  · by_cases hu : l.p.got = 0
    · rw [Lane.read_order (.inr h3) hlt (by omega)]
      have e : (⟨it.k, it.q, [], if it.k = 2 then it.l else [], decide (it.k = 2) && decide (it.i = 1)⟩ : Lane.En) = ⟨it.k, it.q, [], [], false⟩ := by
        rw [if_neg h2, show decide (it.k = 2) = false by simpa using h2, Bool.false_and]
      rw [e]
      exact read_token v u l it w h hi hS hg0 hl65 hb65 h3 hu hlt
    · rw [Lane.read_under (.inr h3) hlt (by omega)]; exact read_under3 v u l it w h hi hS hg0 hl65 hb65 h3 hu hlt
end Go.Proofs.Ytmlmkkfieeaejaa
