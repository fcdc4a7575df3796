/- What readPiece comes to. -/
import Derived.Test.YtmlmkkfieeaejaaLn8a
import Derived.Test.YtmlmkkfieeaejaaLnRise
import Derived.Test.YtmlmkkfieeaejaaLF3
import Derived.Deep.Cut
set_option maxRecDepth 100000
namespace Go.Proofs.Ytmlmkkfieeaejaa
open Go.RowKit
set_option linter.unusedVariables false

theorem set4p {w : World} {g : Nat} {a0 b1 b2 b3 b4 : Value} {t : TypeId} (h : w.heap[g]? = some (.cells #[a0, b1, b2, b3, b4] t (0, 0))) (a1 a2 a3 a4 : Value) :
    ((((w.setCell ⟨g, 1, none⟩ a1).setCell ⟨g, 2, none⟩ a2).setCell ⟨g, 3, none⟩ a3).setCell ⟨g, 4, none⟩ a4).heap[g]? = some (.cells #[a0, a1, a2, a3, a4] t (0, 0)) ∧ But g w ((((w.setCell ⟨g, 1, none⟩ a1).setCell ⟨g, 2, none⟩ a2).setCell ⟨g, 3, none⟩ a3).setCell ⟨g, 4, none⟩ a4) ∧
    (∀ base w0, Below base w0 w → base ≤ g → Below base w0 ((((w.setCell ⟨g, 1, none⟩ a1).setCell ⟨g, 2, none⟩ a2).setCell ⟨g, 3, none⟩ a3).setCell ⟨g, 4, none⟩ a4)) := by
  have s1 : (w.setCell ⟨g, 1, none⟩ a1).heap[g]? = some (.cells #[a0, a1, b2, b3, b4] t (0, 0)) := heap_setCell_same w g 1 _ t a1 h
  have s2 : ((w.setCell ⟨g, 1, none⟩ a1).setCell ⟨g, 2, none⟩ a2).heap[g]? = some (.cells #[a0, a1, a2, b3, b4] t (0, 0)) := heap_setCell_same _ g 2 _ t a2 s1
  have s3 : (((w.setCell ⟨g, 1, none⟩ a1).setCell ⟨g, 2, none⟩ a2).setCell ⟨g, 3, none⟩ a3).heap[g]? = some (.cells #[a0, a1, a2, a3, b4] t (0, 0)) := heap_setCell_same _ g 3 _ t a3 s2
  exact ⟨heap_setCell_same _ g 4 _ t a4 s3, (((But.setCell w g 1 a1).trans (But.setCell _ g 2 a2)).trans (But.setCell _ g 3 a3)).trans (But.setCell _ g 4 a4),
    fun base w0 hb hg => (((hb.setCell (p := ⟨g, 1, none⟩) hg a1).setCell (p := ⟨g, 2, none⟩) hg a2).setCell (p := ⟨g, 3, none⟩) hg a3).setCell (p := ⟨g, 4, none⟩) hg a4⟩
/-- Where a lane's lists lie while its call's own three boxes are written. -/
def Spot (lo g : Nat) : Nat → Prop := fun b => (lo ≤ b ∧ b < g) ∨ g + 3 ≤ b
theorem Rd.lt {w : World} {A : Option Addr} {n c : Nat} {l : List UInt8} (h : Rd w A n c l) : Within (fun b => b < w.heap.size) A n := fun h0 b o e => by
  obtain ⟨b', o', hA, hc⟩ := h.2.2.2.2 h0
  rw [e] at hA
  injection hA with hA
  injection hA with h1 h2
  subst h1
  subst h2
  have hlt : 0 < l.length := by rw [h.1]; exact h0
  exact World.block_lt_of_cell? w _ (hc 0 l[0] (List.getElem?_eq_getElem hlt))
theorem RdI.lt {w : World} {A : Option Addr} {n c : Nat} {l : List Int} (h : RdI w A n c l) : Within (fun b => b < w.heap.size) A n := fun h0 b o e => by
  obtain ⟨b', o', x, hA, _, hc⟩ := RdI.at_ h h0
  rw [e] at hA
  injection hA with hA
  injection hA with h1 h2
  subst h1
  exact World.block_lt_of_cell? w _ hc
theorem Within.and {S T : Nat → Prop} {A : Option Addr} {n : Nat} (h : Within S A n) (h2 : Within T A n) : Within (fun b => S b ∧ T b) A n := fun h0 b o e => ⟨h h0 b o e, h2 h0 b o e⟩
theorem AreE.lt {S : Nat → Prop} {w : World} {rs : List (Array Value)} {xs : List Lane.En} (h : AreE S w rs xs) : AreE (fun b => S b ∧ b < w.heap.size) w rs xs := ⟨h.1, fun i r x h1 h2 => by
  obtain ⟨BA, bn, bc, LA, ln, lc, e, a, b, c, d⟩ := h.2 i r x h1 h2
  exact ⟨BA, bn, bc, LA, ln, lc, e, a, b, c.and a.lt, d.and (RdI.lt b)⟩⟩
theorem OwnK.apart {k : Nat} {w : World} {base n c g : Nat} {e t : TypeId} {A : Option Addr} {us : List (Array Value)} {cs : Array Value} {fr : Nat × Nat} (h : OwnK k w base e (.slice A n c) n us) (hg : w.heap[g]? = some (.cells cs t fr)) (hne : e ≠ t) : ∀ b o, A = some ⟨b, o, none⟩ → b ≠ g := by
  intro b o hA hbg
  subst hbg
  rcases h.2.2.2 with ⟨h2, _⟩ | ⟨g', cap, cur, hv, _, hh, _⟩
  · injection h2 with h2
    rw [hA] at h2; cases h2
  · injection hv with hv
    rw [hA] at hv
    injection hv with hv
    injection hv with hv
    subst hv
    rw [hh] at hg
    injection hg with hg
    injection hg with _ ht
    exact hne ht
theorem OwnK.butA {k : Nat} {w w' : World} {base n c g : Nat} {e : TypeId} {A : Option Addr} {us : List (Array Value)} (h : OwnK k w base e (.slice A n c) n us) (hA : ∀ b o, A = some ⟨b, o, none⟩ → b ≠ g) (hb : But g w w') : OwnK k w' base e (.slice A n c) n us := by
  obtain ⟨h0, hl, h⟩ := h
  refine ⟨h0, hl, h.1, ?_⟩
  rcases h.2 with h2 | ⟨q, cap, cur, hv, hq, hh, r⟩
  · exact .inl h2
  · refine .inr ⟨q, cap, cur, hv, hq, (hb.2 q ?_).trans hh, r⟩
    injection hv with hv
    exact hA q 0 hv
/-- A lane of the call's own, its lists in such spots. -/
def OwnM (w : World) (base lo g : Nat) (A : Option Addr) (n c : Nat) (us : List (Array Value)) (B : Option Addr) (m d : Nat) (l : Lane.Ln) : Prop :=
  OwnK 5 w base 33 (.slice A n c) n us ∧ AreE (Spot lo g) w us l.es ∧ (∀ b o, A = some ⟨b, o, none⟩ → b < lo) ∧ Rd w B m d l.p.b ∧ Within (Spot lo g) B m ∧ base ≤ lo ∧ lo ≤ g
section
variable {w w' : World} {base lo g q : Nat} {A : Option Addr} {n c : Nat} {us : List (Array Value)} {B : Option Addr} {m d : Nat} {l : Lane.Ln}
theorem OwnL.mid (h : OwnL w base lo A n c us B m d l) : OwnM w base lo w.heap.size A n c us B m d l := by
  obtain ⟨h1, h2, h3, h4, h5, h6, h7⟩ := h
  exact ⟨h1, h2.lt.mono fun b hb => .inl hb, h3, h4, (Within.of h5).and h4.lt |>.mono fun b hb => .inl hb, h6, h7⟩
theorem OwnM.later (h : OwnM w base lo g A n c us B m d l) (hb : Below w.heap.size w w') : OwnM w' base lo g A n c us B m d l := by
  obtain ⟨h1, h2, h3, h4, h5, h6, h7⟩ := h
  exact ⟨h1.later hb, h2.below hb, h3, h4.below hb, h5, h6, h7⟩
theorem KeptS.spot (hb : But q w w') (h1 : g ≤ q) (h2 : q < g + 3) : KeptS (Spot lo g) w w' := KeptS.but hb fun b hS e => by
  subst e
  rcases hS with ⟨_, h⟩ | h <;> omega
theorem OwnM.far (h : OwnM w base lo g A n c us B m d l) (h8 : g ≤ q) (h9 : q < g + 3) (hb : But q w w') : OwnM w' base lo g A n c us B m d l := by
  obtain ⟨h1, h2, h3, h4, h5, h6, h7⟩ := h
  exact ⟨h1.butA (fun b o e => by have := h3 b o e; omega) hb, h2.keptS (KeptS.spot hb h8 h9), h3, h4.keptS h5 (KeptS.spot hb h8 h9), h5, h6, h7⟩
theorem Spot.hi {b : Nat} (h : Spot lo g b) (h6 : base ≤ lo) (h7 : lo ≤ g) : base ≤ b := by rcases h with ⟨h, _⟩ | h <;> omega
theorem OwnM.rde (h : OwnM w base lo g A n c us B m d l) : RdE (Hi base) w A n c l.es := by
  obtain ⟨h1, h2, h3, h4, h5, h6, h7⟩ := h
  exact ⟨us, h1.same, h2.mono fun b hb => hb.hi h6 h7, Within.of fun b o e => (h1.addr b o e).1⟩
theorem OwnM.lane (h : OwnM w base lo g A n c us B m d l) : IsLane (Hi base) w (.agg #[.slice A n c, .int .i64 l.p.seq, .int .i64 l.p.total, .int .i64 l.p.got, .slice B m d]) l :=
  ⟨A, n, c, B, m, d, rfl, h.rde, h.2.2.2.1, h.2.2.2.2.1.mono fun b hb => hb.hi h.2.2.2.2.2.1 h.2.2.2.2.2.2⟩
end
/-- A lane in memory from a place on, and a code. -/
def PieceIs (w : World) (base : Nat) (l : Lane.Ln) (k : Int) (e : Ending) (w' : World) : Prop := ∃ v, e = .returned (.tuple #[v, .int .i64 k]) ∧ IsLane (Hi base) w' v l ∧ Below base w w'

set_option maxHeartbeats 4000000 in
theorem piece_no (l : Lane.Ln) (A : Option Addr) (n c : Nat) (us : List (Array Value)) (B : Option Addr) (m d : Nat) (base lo : Nat) (u : Value) (it : Item.It) (w : World) (h : OwnL w base lo A n c us B m d l) (hi : IsItem w u it) (hm65 : l.p.b.length ≤ 65536) (hb65 : it.b.length ≤ 65536) (ha : addOf l.p it.q it.i it.t it.b = ⟨l.p, [], false, 2⟩) :
    Calls Try.prog 50 #[.agg #[.slice A n c, .int .i64 l.p.seq, .int .i64 l.p.total, .int .i64 l.p.got, .slice B m d], u] w (PieceIs w base l 2) := by
  obtain ⟨LAi, lni, lci, BAi, bni, bci, rfl, hli, hbi⟩ := hi
  have hbb : base ≤ w.heap.size := by have := h.2.2.2.2.2.1; have := h.2.2.2.2.2.2; omega
  have hlw : lo ≤ w.heap.size := h.2.2.2.2.2.2
  obtain ⟨t0, t1, t2, t4⟩ := three_alloc w (.cells #[.slice A n c, .int .i64 l.p.seq, .int .i64 l.p.total, .int .i64 l.p.got, .slice B m d] 27) (.cells #[.int .i64 it.k, .int .i64 it.q, .int .i64 it.e, .int .i64 it.i, .int .i64 it.t, .int .i64 it.c, .slice LAi lni lci, .slice BAi bni bci] 41) (.cells lz 27)
  obtain ⟨W, hWW⟩ : ∃ W, ((w.alloc (.cells #[.slice A n c, .int .i64 l.p.seq, .int .i64 l.p.total, .int .i64 l.p.got, .slice B m d] 27)).alloc (.cells #[.int .i64 it.k, .int .i64 it.q, .int .i64 it.e, .int .i64 it.i, .int .i64 it.t, .int .i64 it.c, .slice LAi lni lci, .slice BAi bni bci] 41)).alloc (.cells lz 27) = W := ⟨_, rfl⟩
  have HSZ : Hid (W.heap.size = w.heap.size + 3) := by rw [← hWW, size_alloc, size_alloc, size_alloc]; exact hidT rfl
  rw [hWW] at t0 t1 t2 t4
  have hmB : m ≤ 65536 := by have := h.2.2.2.1.1; omega
  have hbB : bni ≤ 65536 := by have := hbi.1; omega
  have hadd := add_anyF l.p B m d it.q it.i it.t BAi bni bci it.b W (h.2.2.2.1.below t4) (hbi.below t4) hmB hbB
  rw [ha] at hadd
  have HADD := hidT hadd
  obtain ⟨g, hg⟩ : ∃ g, w.heap.size = g := ⟨_, rfl⟩
  have HG := hidT hg
  rw [hg] at t0 t1 t2
  have HW := hidT hWW
  have T0 := hidT t0
  have T1 := hidT t1
  have T2 := hidT t2
  have T4 := hidT t4
  have hmid := h.mid
  rw [hg] at hmid
  have HO := hidT (hmid.later t4)
  have HBB := hidT hbb
  have HLW := hidT hlw
  obtain ⟨e0, e1, e2, e3, e4⟩ := cells5 t0
  obtain ⟨j0, j1, j2, j3, j4, j5, j6, j7⟩ := cells8 t1
  rw [← HW.out] at e0 e1 e2 e3 e4 j0 j1 j2 j3 j4 j5 j6 j7
  clear t0 t1 t2 t4 hWW h hmid hadd ha hmB hbB hm65 hb65 hli hbi hbb hlw
  go_enter Try.func50, Try.ntmps50
  go_wp2_with fail
  rw [HW.out]
  clear hg e0 e1 e2 e3 e4 j0 j1 j2 j3 j4 j5 j6 j7
  with_reducible refine HADD.out.mono ?_
  rintro e w5 ⟨PA, pn, pc, SB, sn, sc, rfl, hrp, hrs, hb5, hpa, hsb⟩
  dsimp only at hrp hrs ⊢
  have p5 := alloc_at w5 (.cells #[.int .i64 l.p.seq, .int .i64 l.p.total, .int .i64 l.p.got, .slice PA pn pc] 25) _ rfl
  have n5 := nkeep w5 (.cells #[.int .i64 l.p.seq, .int .i64 l.p.total, .int .i64 l.p.got, .slice PA pn pc] 25)
  obtain ⟨W6, hW6⟩ : ∃ W6, w5.alloc (.cells #[.int .i64 l.p.seq, .int .i64 l.p.total, .int .i64 l.p.got, .slice PA pn pc] 25) = W6 := ⟨_, rfl⟩
  obtain ⟨r, hr⟩ : ∃ r, w5.heap.size = r := ⟨_, rfl⟩
  rw [hW6, hr] at p5
  rw [hW6] at n5
  have HW6 := hidT hW6
  have P6 := hidT p5
  have HR := hidT hr
  have HB6 := hidT (bthen T4.out (bthen hb5 n5))
  have Y0 := hidT (keepH (keepH T0.out hb5) n5)
  have Y1 := hidT (keepH (keepH T1.out hb5) n5)
  have Y2 := hidT (keepH (keepH T2.out hb5) n5)
  have HO6 := hidT ((HO.out.later hb5).later n5)
  have HRP := hidT (hrp.below n5)
  have HRS := hidT (hrs.below n5)
  have HPA := hidT hpa
  have HSB := hidT hsb
  have HRG : Hid (g + 3 ≤ r) := hidT (by have := HSZ.out; have := HG.out; have := hb5.size; omega)
  clear p5 n5 hW6 hrp hrs hb5 hpa hsb HADD
  obtain ⟨e0, e1, e2, e3, e4⟩ := cells5 Y0.out
  have y2 := Y2.out
  have hbw := HB6.out
  have ho6 := HO6.out
  rw [← HW6.out] at e0 e1 e2 e3 e4 y2 hbw ho6
  have HBW := hidT hbw
  have HOW := hidT ho6
  clear hbw ho6
  go_wp2_with (
    refine wpList_stI rfl 27 _ _ rfl (g + 1 + 1) #[.slice A n c, .int .i64 l.p.seq, .int .i64 l.p.total, .int .i64 l.p.got, .slice B m d] rfl rfl _ _ y2 sizeL rfl (by simp [Value.oneCell']) ?_
    intro w9 hg9 hbut9 hbel9)
  obtain ⟨r0, r1, r2, r3, r4⟩ := cells5 hg9
  have hgg := HG.out
  have hbb := HBB.out
  have hlw := HLW.out
  exact bodyPost_ret (v := .tuple #[.agg #[.slice A n c, .int .i64 l.p.seq, .int .i64 l.p.total, .int .i64 l.p.got, .slice B m d], .int .i64 2]) (by simp [results, Try.results50, go_sem, r0, r1, r2, r3, r4]) rfl
    ⟨_, rfl, (HOW.out.far (by omega) (by omega) hbut9).lane, (hbel9 _ _ (HBW.out.mono hbb) (by omega))⟩

set_option maxHeartbeats 4000000 in
theorem piece_on_n (l : Lane.Ln) (A : Option Addr) (n c : Nat) (us : List (Array Value)) (B : Option Addr) (m d : Nat) (base lo : Nat) (u : Value) (it : Item.It) (w : World) (h : OwnL w base lo A n c us B m d l) (hi : IsItem w u it) (hm65 : l.p.b.length ≤ 65536) (hb65 : it.b.length ≤ 65536) (p' : Pt) (ha : addOf l.p it.q it.i it.t it.b = ⟨p', [], false, 0⟩) (hu : l.p.got = 0) :
    Calls Try.prog 50 #[.agg #[.slice A n c, .int .i64 l.p.seq, .int .i64 l.p.total, .int .i64 l.p.got, .slice B m d], u] w (PieceIs w base ⟨l.es, p'⟩ 0) := by
  have HUU := hidT hu
  clear hu
  obtain ⟨LAi, lni, lci, BAi, bni, bci, rfl, hli, hbi⟩ := hi
  have hbb : base ≤ w.heap.size := by have := h.2.2.2.2.2.1; have := h.2.2.2.2.2.2; omega
  have hlw : lo ≤ w.heap.size := h.2.2.2.2.2.2
  obtain ⟨t0, t1, t2, t4⟩ := three_alloc w (.cells #[.slice A n c, .int .i64 l.p.seq, .int .i64 l.p.total, .int .i64 l.p.got, .slice B m d] 27) (.cells #[.int .i64 it.k, .int .i64 it.q, .int .i64 it.e, .int .i64 it.i, .int .i64 it.t, .int .i64 it.c, .slice LAi lni lci, .slice BAi bni bci] 41) (.cells lz 27)
  obtain ⟨W, hWW⟩ : ∃ W, ((w.alloc (.cells #[.slice A n c, .int .i64 l.p.seq, .int .i64 l.p.total, .int .i64 l.p.got, .slice B m d] 27)).alloc (.cells #[.int .i64 it.k, .int .i64 it.q, .int .i64 it.e, .int .i64 it.i, .int .i64 it.t, .int .i64 it.c, .slice LAi lni lci, .slice BAi bni bci] 41)).alloc (.cells lz 27) = W := ⟨_, rfl⟩
  have HSZ : Hid (W.heap.size = w.heap.size + 3) := by rw [← hWW, size_alloc, size_alloc, size_alloc]; exact hidT rfl
  rw [hWW] at t0 t1 t2 t4
  have hmB : m ≤ 65536 := by have := h.2.2.2.1.1; omega
  have hbB : bni ≤ 65536 := by have := hbi.1; omega
  have hadd := add_anyF l.p B m d it.q it.i it.t BAi bni bci it.b W (h.2.2.2.1.below t4) (hbi.below t4) hmB hbB
  rw [ha] at hadd
  have HADD := hidT hadd
  obtain ⟨g, hg⟩ : ∃ g, w.heap.size = g := ⟨_, rfl⟩
  have HG := hidT hg
  rw [hg] at t0 t1 t2
  have HW := hidT hWW
  have T0 := hidT t0
  have T1 := hidT t1
  have T2 := hidT t2
  have T4 := hidT t4
  have hmid := h.mid
  rw [hg] at hmid
  have HO := hidT (hmid.later t4)
  have HBB := hidT hbb
  have HLW := hidT hlw
  obtain ⟨e0, e1, e2, e3, e4⟩ := cells5 t0
  obtain ⟨j0, j1, j2, j3, j4, j5, j6, j7⟩ := cells8 t1
  rw [← HW.out] at e0 e1 e2 e3 e4 j0 j1 j2 j3 j4 j5 j6 j7
  clear t0 t1 t2 t4 hWW h hmid hadd ha hmB hbB hm65 hb65 hli hbi hbb hlw
  go_enter Try.func50, Try.ntmps50
  go_wp2_with fail
  rw [HW.out]
  clear hg e0 e1 e2 e3 e4 j0 j1 j2 j3 j4 j5 j6 j7
  with_reducible refine HADD.out.mono ?_
  rintro e w5 ⟨PA, pn, pc, SB, sn, sc, rfl, hrp, hrs, hb5, hpa, hsb⟩
  dsimp only at hrp hrs ⊢
  have p5 := alloc_at w5 (.cells #[.int .i64 p'.seq, .int .i64 p'.total, .int .i64 p'.got, .slice PA pn pc] 25) _ rfl
  have n5 := nkeep w5 (.cells #[.int .i64 p'.seq, .int .i64 p'.total, .int .i64 p'.got, .slice PA pn pc] 25)
  obtain ⟨W6, hW6⟩ : ∃ W6, w5.alloc (.cells #[.int .i64 p'.seq, .int .i64 p'.total, .int .i64 p'.got, .slice PA pn pc] 25) = W6 := ⟨_, rfl⟩
  obtain ⟨r, hr⟩ : ∃ r, w5.heap.size = r := ⟨_, rfl⟩
  rw [hW6, hr] at p5
  rw [hW6] at n5
  have HW6 := hidT hW6
  have P6 := hidT p5
  have HR := hidT hr
  have HB6 := hidT (bthen T4.out (bthen hb5 n5))
  have Y0 := hidT (keepH (keepH T0.out hb5) n5)
  have Y1 := hidT (keepH (keepH T1.out hb5) n5)
  have Y2 := hidT (keepH (keepH T2.out hb5) n5)
  have HO6 := hidT ((HO.out.later hb5).later n5)
  have HRP := hidT (hrp.below n5)
  have HRS := hidT (hrs.below n5)
  have HPA := hidT hpa
  have HSB := hidT hsb
  have HRG : Hid (g + 3 ≤ r) := hidT (by have := HSZ.out; have := HG.out; have := hb5.size; omega)
  clear p5 n5 hW6 hrp hrs hb5 hpa hsb HADD
  obtain ⟨e0, e1, e2, e3, e4⟩ := cells5 Y0.out
  obtain ⟨j0, j1, j2, j3, j4, j5, j6, j7⟩ := cells8 Y1.out
  rw [← HW6.out] at e0 e1 e2 e3 e4 j0 j1 j2 j3 j4 j5 j6 j7
  have hun := fun w' => isUnder_any l A n c B m d w' false (by have := HUU.out; simpa using this)
  go_wp2_with fail
  rw [HW6.out]
  clear hr e0 e1 e2 e3 e4 j0 j1 j2 j3 j4 j5 j6 j7
  with_reducible refine (hun _).mono ?_
  rintro e w7 ⟨rfl, hb7⟩
  have y0 := keepH Y0.out hb7
  obtain ⟨k0, k1, k2, k3⟩ := cells4 (keepH P6.out hb7)
  obtain ⟨e0, e1, e2, e3, e4⟩ := cells5 y0
  have f1 := no_frozen y0 1
  have f2 := no_frozen y0 2
  have f3 := no_frozen y0 3
  have f4 := no_frozen y0 4
  have hset := set4p y0 (.int .i64 p'.seq) (.int .i64 p'.total) (.int .i64 p'.got) (.slice PA pn pc)
  have HSET := hidT hset
  have Y2 := hidT (keepH Y2.out hb7)
  have HO7 := hidT (HO6.out.later hb7)
  have HRP := hidT (HRP.out.below hb7)
  have HRS := hidT (HRS.out.below hb7)
  have HB7 := hidT (bthen HB6.out hb7)
  clear hb7 hun y0 hset Y0 Y1 HO6 HB6
  go_upto_region 8 with fail
  have hset := HSET.out
  clear HSET
  generalize ((((w7.setCell ⟨g, 1, none⟩ (.int .i64 p'.seq)).setCell ⟨g, 2, none⟩ (.int .i64 p'.total)).setCell ⟨g, 3, none⟩ (.int .i64 p'.got)).setCell ⟨g, 4, none⟩ (.slice PA pn pc)) = w8 at hset ⊢
  obtain ⟨z0, hbx, hbel⟩ := hset
  have hgg := HG.out
  have hbb := HBB.out
  have hlw := HLW.out
  have hsz := HSZ.out
  have Z0 := hidT z0
  have Z2 := hidT ((hbx.2 (g + 1 + 1) (by omega)).trans Y2.out)
  have HO8 := hidT (HO7.out.far (by omega) (by omega) hbx)
  have HRP8 := hidT (HRP.out.but (fun b o e => by have := HPA.out b o e; omega) hbx)
  have HRS8 := hidT (HRS.out.but (fun b o e => by have := HSB.out b o e; omega) hbx)
  have HB8 := hidT (hbel _ _ HB7.out (by omega))
  have HSX : Hid (W.heap.size ≤ w8.heap.size) := hidT (by rw [hbx.1]; have := blk_lt P6.out; have := HRG.out; have := HB7.out.size; have := blk_lt Y2.out; omega)
  clear z0 hbx hbel k0 k1 k2 k3 e0 e1 e2 e3 e4 f1 f2 f3 f4 hgg hbb hlw hsz Y2 HO7 HRP HRS HB7
  obtain ⟨e0, e1, e2, e3, e4⟩ := cells5 Z0.out
  have y2 := Z2.out
  go_wp2_with (
    refine wpList_stI rfl 27 _ _ rfl (g + 1 + 1) #[.slice A n c, .int .i64 p'.seq, .int .i64 p'.total, .int .i64 p'.got, .slice PA pn pc] rfl rfl _ _ y2 sizeL rfl (by simp [Value.oneCell']) ?_
    intro w9 hg9 hbut9 hbel9)
  obtain ⟨r0, r1, r2, r3, r4⟩ := cells5 hg9
  have hgg := HG.out
  have hbb := HBB.out
  have hlw := HLW.out
  have hsz := HSZ.out
  have ho9 := HO8.out.far (by omega) (by omega) hbut9
  have hfin : IsLane (Hi base) w9 (.agg #[.slice A n c, .int .i64 p'.seq, .int .i64 p'.total, .int .i64 p'.got, .slice PA pn pc]) ⟨l.es, p'⟩ := ⟨_, _, _, _, _, _, rfl, ho9.rde, HRP8.out.but (fun b o e => by have := HPA.out b o e; omega) hbut9, Within.of fun b o e => by have := HPA.out b o e; omega⟩
  exact bodyPost_ret (v := .tuple #[.agg #[.slice A n c, .int .i64 p'.seq, .int .i64 p'.total, .int .i64 p'.got, .slice PA pn pc], .int .i64 0]) (by simp [results, Try.results50, go_sem, r0, r1, r2, r3, r4]) rfl
    ⟨_, rfl, hfin, (hbel9 _ _ (HB8.out.mono hbb) (by omega))⟩

set_option maxHeartbeats 4000000 in
theorem piece_whole_n (l : Lane.Ln) (A : Option Addr) (n c : Nat) (us : List (Array Value)) (B : Option Addr) (m d : Nat) (base lo : Nat) (u : Value) (it : Item.It) (w : World) (h : OwnL w base lo A n c us B m d l) (hi : IsItem w u it) (hm65 : l.p.b.length ≤ 65536) (hb65 : it.b.length ≤ 65536) (p' : Pt) (s : List UInt8) (ha : addOf l.p it.q it.i it.t it.b = ⟨p', s, true, 0⟩) (hu : l.p.got = 0) (hn16 : n + 1 ≤ 16777216) :
    Calls Try.prog 50 #[.agg #[.slice A n c, .int .i64 l.p.seq, .int .i64 l.p.total, .int .i64 l.p.got, .slice B m d], u] w (PieceIs w base ⟨l.es ++ [⟨1, it.q, s, [], false⟩], p'⟩ 0) := by
  have HUU := hidT hu
  clear hu
  obtain ⟨LAi, lni, lci, BAi, bni, bci, rfl, hli, hbi⟩ := hi
  have hbb : base ≤ w.heap.size := by have := h.2.2.2.2.2.1; have := h.2.2.2.2.2.2; omega
  have hlw : lo ≤ w.heap.size := h.2.2.2.2.2.2
  obtain ⟨t0, t1, t2, t4⟩ := three_alloc w (.cells #[.slice A n c, .int .i64 l.p.seq, .int .i64 l.p.total, .int .i64 l.p.got, .slice B m d] 27) (.cells #[.int .i64 it.k, .int .i64 it.q, .int .i64 it.e, .int .i64 it.i, .int .i64 it.t, .int .i64 it.c, .slice LAi lni lci, .slice BAi bni bci] 41) (.cells lz 27)
  obtain ⟨W, hWW⟩ : ∃ W, ((w.alloc (.cells #[.slice A n c, .int .i64 l.p.seq, .int .i64 l.p.total, .int .i64 l.p.got, .slice B m d] 27)).alloc (.cells #[.int .i64 it.k, .int .i64 it.q, .int .i64 it.e, .int .i64 it.i, .int .i64 it.t, .int .i64 it.c, .slice LAi lni lci, .slice BAi bni bci] 41)).alloc (.cells lz 27) = W := ⟨_, rfl⟩
  have HSZ : Hid (W.heap.size = w.heap.size + 3) := by rw [← hWW, size_alloc, size_alloc, size_alloc]; exact hidT rfl
  rw [hWW] at t0 t1 t2 t4
  have hmB : m ≤ 65536 := by have := h.2.2.2.1.1; omega
  have hbB : bni ≤ 65536 := by have := hbi.1; omega
  have hadd := add_anyF l.p B m d it.q it.i it.t BAi bni bci it.b W (h.2.2.2.1.below t4) (hbi.below t4) hmB hbB
  rw [ha] at hadd
  have HADD := hidT hadd
  obtain ⟨g, hg⟩ : ∃ g, w.heap.size = g := ⟨_, rfl⟩
  have HG := hidT hg
  rw [hg] at t0 t1 t2
  have HW := hidT hWW
  have T0 := hidT t0
  have T1 := hidT t1
  have T2 := hidT t2
  have T4 := hidT t4
  have hmid := h.mid
  rw [hg] at hmid
  have HO := hidT (hmid.later t4)
  have HBB := hidT hbb
  have HLW := hidT hlw
  obtain ⟨e0, e1, e2, e3, e4⟩ := cells5 t0
  obtain ⟨j0, j1, j2, j3, j4, j5, j6, j7⟩ := cells8 t1
  rw [← HW.out] at e0 e1 e2 e3 e4 j0 j1 j2 j3 j4 j5 j6 j7
  clear t0 t1 t2 t4 hWW h hmid hadd ha hmB hbB hm65 hb65 hli hbi hbb hlw
  go_enter Try.func50, Try.ntmps50
  go_wp2_with fail
  rw [HW.out]
  clear hg e0 e1 e2 e3 e4 j0 j1 j2 j3 j4 j5 j6 j7
  with_reducible refine HADD.out.mono ?_
  rintro e w5 ⟨PA, pn, pc, SB, sn, sc, rfl, hrp, hrs, hb5, hpa, hsb⟩
  dsimp only at hrp hrs ⊢
  have p5 := alloc_at w5 (.cells #[.int .i64 p'.seq, .int .i64 p'.total, .int .i64 p'.got, .slice PA pn pc] 25) _ rfl
  have n5 := nkeep w5 (.cells #[.int .i64 p'.seq, .int .i64 p'.total, .int .i64 p'.got, .slice PA pn pc] 25)
  obtain ⟨W6, hW6⟩ : ∃ W6, w5.alloc (.cells #[.int .i64 p'.seq, .int .i64 p'.total, .int .i64 p'.got, .slice PA pn pc] 25) = W6 := ⟨_, rfl⟩
  obtain ⟨r, hr⟩ : ∃ r, w5.heap.size = r := ⟨_, rfl⟩
  rw [hW6, hr] at p5
  rw [hW6] at n5
  have HW6 := hidT hW6
  have P6 := hidT p5
  have HR := hidT hr
  have HB6 := hidT (bthen T4.out (bthen hb5 n5))
  have Y0 := hidT (keepH (keepH T0.out hb5) n5)
  have Y1 := hidT (keepH (keepH T1.out hb5) n5)
  have Y2 := hidT (keepH (keepH T2.out hb5) n5)
  have HO6 := hidT ((HO.out.later hb5).later n5)
  have HRP := hidT (hrp.below n5)
  have HRS := hidT (hrs.below n5)
  have HPA := hidT hpa
  have HSB := hidT hsb
  have HRG : Hid (g + 3 ≤ r) := hidT (by have := HSZ.out; have := HG.out; have := hb5.size; omega)
  clear p5 n5 hW6 hrp hrs hb5 hpa hsb HADD
  obtain ⟨e0, e1, e2, e3, e4⟩ := cells5 Y0.out
  obtain ⟨j0, j1, j2, j3, j4, j5, j6, j7⟩ := cells8 Y1.out
  rw [← HW6.out] at e0 e1 e2 e3 e4 j0 j1 j2 j3 j4 j5 j6 j7
  have hun := fun w' => isUnder_any l A n c B m d w' false (by have := HUU.out; simpa using this)
  go_wp2_with fail
  rw [HW6.out]
  clear hr e0 e1 e2 e3 e4 j0 j1 j2 j3 j4 j5 j6 j7
  with_reducible refine (hun _).mono ?_
  rintro e w7 ⟨rfl, hb7⟩
  have y0 := keepH Y0.out hb7
  obtain ⟨k0, k1, k2, k3⟩ := cells4 (keepH P6.out hb7)
  obtain ⟨e0, e1, e2, e3, e4⟩ := cells5 y0
  have f1 := no_frozen y0 1
  have f2 := no_frozen y0 2
  have f3 := no_frozen y0 3
  have f4 := no_frozen y0 4
  have hset := set4p y0 (.int .i64 p'.seq) (.int .i64 p'.total) (.int .i64 p'.got) (.slice PA pn pc)
  have HSET := hidT hset
  have Y2 := hidT (keepH Y2.out hb7)
  have HO7 := hidT (HO6.out.later hb7)
  have HRP := hidT (HRP.out.below hb7)
  have HRS := hidT (HRS.out.below hb7)
  have HB7 := hidT (bthen HB6.out hb7)
  clear hb7 hun y0 hset Y0 Y1 HO6 HB6
  go_upto_region 8 with fail
  have hset := HSET.out
  clear HSET
  generalize ((((w7.setCell ⟨g, 1, none⟩ (.int .i64 p'.seq)).setCell ⟨g, 2, none⟩ (.int .i64 p'.total)).setCell ⟨g, 3, none⟩ (.int .i64 p'.got)).setCell ⟨g, 4, none⟩ (.slice PA pn pc)) = w8 at hset ⊢
  obtain ⟨z0, hbx, hbel⟩ := hset
  have hgg := HG.out
  have hbb := HBB.out
  have hlw := HLW.out
  have hsz := HSZ.out
  have Z0 := hidT z0
  have Z2 := hidT ((hbx.2 (g + 1 + 1) (by omega)).trans Y2.out)
  have HO8 := hidT (HO7.out.far (by omega) (by omega) hbx)
  have HRP8 := hidT (HRP.out.but (fun b o e => by have := HPA.out b o e; omega) hbx)
  have HRS8 := hidT (HRS.out.but (fun b o e => by have := HSB.out b o e; omega) hbx)
  have HB8 := hidT (hbel _ _ HB7.out (by omega))
  have HSX : Hid (W.heap.size ≤ w8.heap.size) := hidT (by rw [hbx.1]; have := blk_lt P6.out; have := HRG.out; have := HB7.out.size; have := blk_lt Y2.out; omega)
  clear z0 hbx hbel k0 k1 k2 k3 e0 e1 e2 e3 e4 f1 f2 f3 f4 hgg hbb hlw hsz Y2 HO7 HRP HRS HB7
  obtain ⟨e0, e1, e2, e3, e4⟩ := cells5 Z0.out
  have N9 := hidT (nkeep w8 (.cells #[.int .i64 1, .int .i64 it.q, .slice SB sn sc, .slice none 0 0, .bool false] 33))
  have HOA := hidT (HO8.out.1.later N9.out)
  have HLA := hidT (RdK.lit (k := 5) w8 33 (0, 0) #[.int .i64 1, .int .i64 it.q, .slice SB sn sc, .slice none 0 0, .bool false] [#[.int .i64 1, .int .i64 it.q, .slice SB sn sc, .slice none 0 0, .bool false]] (AllK.one rfl (by simp [Value.oneCell'])) (by simp [flat]) 1 rfl (by simp only [maxLen]; omega) w8.heap.size rfl)
  have HSA : Hid (base ≤ (w8.alloc (.cells #[.int .i64 1, .int .i64 it.q, .slice SB sn sc, .slice none 0 0, .bool false] 33)).heap.size) := hidT (by rw [size_alloc]; have := HBB.out; have := HSX.out; have := HSZ.out; omega)
  have hrl := HO8.out.1.rowlt HO8.out.2.2.1
  have HRL := hidT hrl
  have Y0 := hidT (keepH Z0.out N9.out)
  have Y2 := hidT (keepH Z2.out N9.out)
  have HN16 := hn16
  clear hrl
  go_wp2_with (first
    | (at_builtin
       refine wpList_appK 5 (by omega) rfl (.tmp 42) (.tmp 46) 22 rfl base 33 _ 72 infoE rfl (by omega) Try.underlying22 (.slice A n c) n us rfl HOA.out (some ⟨w8.heap.size, 0, none⟩) 1 1 [#[.int .i64 1, .int .i64 it.q, .slice SB sn sc, .slice none 0 0, .bool false]] rfl HLA.out (by omega) HSA.out ?_
       intro v9 w9 hown hb9 hg9
       obtain ⟨A9, c9, rfl, hrd9⟩ := OwnK.rd hown
       have hgg := HG.out
       have hlw := HLW.out
       have hbb := HBB.out
       have y9 := (hg9.block g (blk_lt Y0.out) (fun e => by have := HRL.out g e.symm; omega)).trans Y0.out
       have y92 := (hg9.block (g + 1 + 1) (blk_lt Y2.out) (fun e => by have := HRL.out (g + 1 + 1) e.symm; omega)).trans Y2.out
       have f9 := no_frozen y9 0
       obtain ⟨k0, k1, k2, k3, k4⟩ := cells5 y9
       have z10 : (w9.setCell ⟨g, 0, none⟩ (.slice A9 (n + 1) c9)).heap[g]? = some (.cells #[.slice A9 (n + 1) c9, .int .i64 p'.seq, .int .i64 p'.total, .int .i64 p'.got, .slice PA pn pc] 27 (0, 0)) := heap_setCell_same w9 g 0 _ _ _ y9
       have zb := But.setCell w9 g 0 (.slice A9 (n + 1) c9)
       have z12 := (zb.2 (g + 1 + 1) (by omega)).trans y92
       obtain ⟨q0, q1', q2, q3, q4⟩ := cells5 z10
       have HOWN := hidT hown
       have HAG := hidT (OwnK.apart hown y9 (by decide))
       have HAG2 := hidT (OwnK.apart hown y92 (by decide))
       have HB9 := hidT hb9
       have HG9 := hidT hg9
       clear hown hb9 hg9 hrd9 hgg hlw hbb y9 y92)
    | (refine wpList_stI rfl 27 _ _ rfl (g + 1 + 1) #[.slice A9 (n + 1) c9, .int .i64 p'.seq, .int .i64 p'.total, .int .i64 p'.got, .slice PA pn pc] rfl rfl _ _ z12 sizeL rfl (by simp [Value.oneCell']) ?_
       intro wx hgx hbutx hbelx)
    | fail)
  obtain ⟨r0, r1, r2, r3, r4⟩ := cells5 hgx
  have hgg := HG.out
  have hbb := HBB.out
  have hlw := HLW.out
  have hsz := HSZ.out
  have hsx := HSX.out
  have hbl := HO8.out.2.2.2.2.2.1
  have hlg := HO8.out.2.2.2.2.2.2
  have hK : KeptS (Spot lo g) (w8.alloc (.cells #[.int .i64 1, .int .i64 it.q, .slice SB sn sc, .slice none 0 0, .bool false] 33)) w9 := KeptS.grown HG9.out fun b hS e => by
    have := HRL.out b e
    rcases hS with ⟨h, _⟩ | h <;> omega
  have hkx : KeptS (Spot lo g) w9 wx := fun b o u hS hu => KeptS.spot hbutx (show g ≤ g + 1 + 1 by omega) (by omega) b o u hS (KeptS.spot zb (Nat.le_refl _) (by omega) b o u hS hu)
  have hsS : Within (Spot lo g) SB sn := fun _ b o e => .inr (by have := HSB.out b o e; omega)
  have hpS : Within (Spot lo g) PA pn := fun _ b o e => .inr (by have := HPA.out b o e; omega)
  have hen : IsEn (Spot lo g) w9 (.agg #[.int .i64 1, .int .i64 it.q, .slice SB sn sc, .slice none 0 0, .bool false]) ⟨1, it.q, s, [], false⟩ := ⟨SB, sn, sc, none, 0, 0, rfl, (HRS8.out.below N9.out).keptS hsS hK, RdV.nil_ _, hsS, Within.zero _ _⟩
  have hare := ((((HO8.out.2.1.below N9.out).keptS hK).app (AreE.one hen)).keptS hkx).mono (T := Hi base) fun b hb => hb.hi hbl hlg
  have hrpx : Rd wx PA pn pc p'.b := ((HRP8.out.below N9.out).keptS hpS hK).keptS hpS hkx
  have hown2 := (HOWN.out.butA HAG.out zb).butA HAG2.out hbutx
  have hfin : IsLane (Hi base) wx (.agg #[.slice A9 (n + 1) c9, .int .i64 p'.seq, .int .i64 p'.total, .int .i64 p'.got, .slice PA pn pc]) ⟨l.es ++ [⟨1, it.q, s, [], false⟩], p'⟩ := ⟨_, _, _, _, _, _, rfl, ⟨_, hown2.same, hare, Within.of fun b o e => (hown2.addr b o e).1⟩, hrpx, hpS.mono fun b hb => hb.hi hbl hlg⟩
  have hb8x : Below base w wx := hbelx _ _ (((HB8.out.mono hbb).trans ((N9.out.mono (show base ≤ w8.heap.size by omega)).trans HB9.out)).setCell (p := ⟨g, 0, none⟩) (by show base ≤ g; omega) (.slice A9 (n + 1) c9)) (by omega)
  exact bodyPost_ret (v := .tuple #[.agg #[.slice A9 (n + 1) c9, .int .i64 p'.seq, .int .i64 p'.total, .int .i64 p'.got, .slice PA pn pc], .int .i64 0]) (by simp [results, Try.results50, go_sem, r0, r1, r2, r3, r4]) rfl
    ⟨_, rfl, hfin, hb8x⟩

set_option maxHeartbeats 4000000 in
theorem piece_on_u (l : Lane.Ln) (A : Option Addr) (n c : Nat) (us : List (Array Value)) (B : Option Addr) (m d : Nat) (base lo : Nat) (u : Value) (it : Item.It) (w : World) (h : OwnL w base lo A n c us B m d l) (hi : IsItem w u it) (hm65 : l.p.b.length ≤ 65536) (hb65 : it.b.length ≤ 65536) (p' : Pt) (ha : addOf l.p it.q it.i it.t it.b = ⟨p', [], false, 0⟩) (hu : l.p.got ≠ 0) :
    Calls Try.prog 50 #[.agg #[.slice A n c, .int .i64 l.p.seq, .int .i64 l.p.total, .int .i64 l.p.got, .slice B m d], u] w (PieceIs w base ⟨l.es, p'⟩ 0) := by
  have HUU := hidT hu
  clear hu
  obtain ⟨LAi, lni, lci, BAi, bni, bci, rfl, hli, hbi⟩ := hi
  have hbb : base ≤ w.heap.size := by have := h.2.2.2.2.2.1; have := h.2.2.2.2.2.2; omega
  have hlw : lo ≤ w.heap.size := h.2.2.2.2.2.2
  obtain ⟨t0, t1, t2, t4⟩ := three_alloc w (.cells #[.slice A n c, .int .i64 l.p.seq, .int .i64 l.p.total, .int .i64 l.p.got, .slice B m d] 27) (.cells #[.int .i64 it.k, .int .i64 it.q, .int .i64 it.e, .int .i64 it.i, .int .i64 it.t, .int .i64 it.c, .slice LAi lni lci, .slice BAi bni bci] 41) (.cells lz 27)
  obtain ⟨W, hWW⟩ : ∃ W, ((w.alloc (.cells #[.slice A n c, .int .i64 l.p.seq, .int .i64 l.p.total, .int .i64 l.p.got, .slice B m d] 27)).alloc (.cells #[.int .i64 it.k, .int .i64 it.q, .int .i64 it.e, .int .i64 it.i, .int .i64 it.t, .int .i64 it.c, .slice LAi lni lci, .slice BAi bni bci] 41)).alloc (.cells lz 27) = W := ⟨_, rfl⟩
  have HSZ : Hid (W.heap.size = w.heap.size + 3) := by rw [← hWW, size_alloc, size_alloc, size_alloc]; exact hidT rfl
  rw [hWW] at t0 t1 t2 t4
  have hmB : m ≤ 65536 := by have := h.2.2.2.1.1; omega
  have hbB : bni ≤ 65536 := by have := hbi.1; omega
  have hadd := add_anyF l.p B m d it.q it.i it.t BAi bni bci it.b W (h.2.2.2.1.below t4) (hbi.below t4) hmB hbB
  rw [ha] at hadd
  have HADD := hidT hadd
  obtain ⟨g, hg⟩ : ∃ g, w.heap.size = g := ⟨_, rfl⟩
  have HG := hidT hg
  rw [hg] at t0 t1 t2
  have HW := hidT hWW
  have T0 := hidT t0
  have T1 := hidT t1
  have T2 := hidT t2
  have T4 := hidT t4
  have hmid := h.mid
  rw [hg] at hmid
  have HO := hidT (hmid.later t4)
  have HBB := hidT hbb
  have HLW := hidT hlw
  obtain ⟨e0, e1, e2, e3, e4⟩ := cells5 t0
  obtain ⟨j0, j1, j2, j3, j4, j5, j6, j7⟩ := cells8 t1
  rw [← HW.out] at e0 e1 e2 e3 e4 j0 j1 j2 j3 j4 j5 j6 j7
  clear t0 t1 t2 t4 hWW h hmid hadd ha hmB hbB hm65 hb65 hli hbi hbb hlw
  go_enter Try.func50, Try.ntmps50
  go_wp2_with fail
  rw [HW.out]
  clear hg e0 e1 e2 e3 e4 j0 j1 j2 j3 j4 j5 j6 j7
  with_reducible refine HADD.out.mono ?_
  rintro e w5 ⟨PA, pn, pc, SB, sn, sc, rfl, hrp, hrs, hb5, hpa, hsb⟩
  dsimp only at hrp hrs ⊢
  have p5 := alloc_at w5 (.cells #[.int .i64 p'.seq, .int .i64 p'.total, .int .i64 p'.got, .slice PA pn pc] 25) _ rfl
  have n5 := nkeep w5 (.cells #[.int .i64 p'.seq, .int .i64 p'.total, .int .i64 p'.got, .slice PA pn pc] 25)
  obtain ⟨W6, hW6⟩ : ∃ W6, w5.alloc (.cells #[.int .i64 p'.seq, .int .i64 p'.total, .int .i64 p'.got, .slice PA pn pc] 25) = W6 := ⟨_, rfl⟩
  obtain ⟨r, hr⟩ : ∃ r, w5.heap.size = r := ⟨_, rfl⟩
  rw [hW6, hr] at p5
  rw [hW6] at n5
  have HW6 := hidT hW6
  have P6 := hidT p5
  have HR := hidT hr
  have HB6 := hidT (bthen T4.out (bthen hb5 n5))
  have Y0 := hidT (keepH (keepH T0.out hb5) n5)
  have Y1 := hidT (keepH (keepH T1.out hb5) n5)
  have Y2 := hidT (keepH (keepH T2.out hb5) n5)
  have HO6 := hidT ((HO.out.later hb5).later n5)
  have HRP := hidT (hrp.below n5)
  have HRS := hidT (hrs.below n5)
  have HPA := hidT hpa
  have HSB := hidT hsb
  have HRG : Hid (g + 3 ≤ r) := hidT (by have := HSZ.out; have := HG.out; have := hb5.size; omega)
  clear p5 n5 hW6 hrp hrs hb5 hpa hsb HADD
  obtain ⟨e0, e1, e2, e3, e4⟩ := cells5 Y0.out
  obtain ⟨j0, j1, j2, j3, j4, j5, j6, j7⟩ := cells8 Y1.out
  rw [← HW6.out] at e0 e1 e2 e3 e4 j0 j1 j2 j3 j4 j5 j6 j7
  have hun := fun w' => isUnder_any l A n c B m d w' true (by have := HUU.out; simpa using this)
  go_wp2_with fail
  rw [HW6.out]
  clear hr e0 e1 e2 e3 e4 j0 j1 j2 j3 j4 j5 j6 j7
  with_reducible refine (hun _).mono ?_
  rintro e w7 ⟨rfl, hb7⟩
  have y0 := keepH Y0.out hb7
  obtain ⟨k0, k1, k2, k3⟩ := cells4 (keepH P6.out hb7)
  obtain ⟨e0, e1, e2, e3, e4⟩ := cells5 y0
  have f1 := no_frozen y0 1
  have f2 := no_frozen y0 2
  have f3 := no_frozen y0 3
  have f4 := no_frozen y0 4
  have hset := set4p y0 (.int .i64 p'.seq) (.int .i64 p'.total) (.int .i64 p'.got) (.slice PA pn pc)
  have HSET := hidT hset
  have Y2 := hidT (keepH Y2.out hb7)
  have HO7 := hidT (HO6.out.later hb7)
  have HRP := hidT (HRP.out.below hb7)
  have HRS := hidT (HRS.out.below hb7)
  have HB7 := hidT (bthen HB6.out hb7)
  clear hb7 hun y0 hset Y0 Y1 HO6 HB6
  go_upto_region 8 with fail
  have hset := HSET.out
  clear HSET
  generalize ((((w7.setCell ⟨g, 1, none⟩ (.int .i64 p'.seq)).setCell ⟨g, 2, none⟩ (.int .i64 p'.total)).setCell ⟨g, 3, none⟩ (.int .i64 p'.got)).setCell ⟨g, 4, none⟩ (.slice PA pn pc)) = w8 at hset ⊢
  obtain ⟨z0, hbx, hbel⟩ := hset
  have hgg := HG.out
  have hbb := HBB.out
  have hlw := HLW.out
  have hsz := HSZ.out
  have Z0 := hidT z0
  have Z2 := hidT ((hbx.2 (g + 1 + 1) (by omega)).trans Y2.out)
  have HO8 := hidT (HO7.out.far (by omega) (by omega) hbx)
  have HRP8 := hidT (HRP.out.but (fun b o e => by have := HPA.out b o e; omega) hbx)
  have HRS8 := hidT (HRS.out.but (fun b o e => by have := HSB.out b o e; omega) hbx)
  have HB8 := hidT (hbel _ _ HB7.out (by omega))
  have HSX : Hid (W.heap.size ≤ w8.heap.size) := hidT (by rw [hbx.1]; have := blk_lt P6.out; have := HRG.out; have := HB7.out.size; have := blk_lt Y2.out; omega)
  clear z0 hbx hbel k0 k1 k2 k3 e0 e1 e2 e3 e4 f1 f2 f3 f4 hgg hbb hlw hsz Y2 HO7 HRP HRS HB7
  obtain ⟨e0, e1, e2, e3, e4⟩ := cells5 Z0.out
  have y2 := Z2.out
  go_wp2_with (
    refine wpList_stI rfl 27 _ _ rfl (g + 1 + 1) #[.slice A n c, .int .i64 p'.seq, .int .i64 p'.total, .int .i64 p'.got, .slice PA pn pc] rfl rfl _ _ y2 sizeL rfl (by simp [Value.oneCell']) ?_
    intro w9 hg9 hbut9 hbel9)
  obtain ⟨r0, r1, r2, r3, r4⟩ := cells5 hg9
  have hgg := HG.out
  have hbb := HBB.out
  have hlw := HLW.out
  have hsz := HSZ.out
  have ho9 := HO8.out.far (by omega) (by omega) hbut9
  have hfin : IsLane (Hi base) w9 (.agg #[.slice A n c, .int .i64 p'.seq, .int .i64 p'.total, .int .i64 p'.got, .slice PA pn pc]) ⟨l.es, p'⟩ := ⟨_, _, _, _, _, _, rfl, ho9.rde, HRP8.out.but (fun b o e => by have := HPA.out b o e; omega) hbut9, Within.of fun b o e => by have := HPA.out b o e; omega⟩
  exact bodyPost_ret (v := .tuple #[.agg #[.slice A n c, .int .i64 p'.seq, .int .i64 p'.total, .int .i64 p'.got, .slice PA pn pc], .int .i64 0]) (by simp [results, Try.results50, go_sem, r0, r1, r2, r3, r4]) rfl
    ⟨_, rfl, hfin, (hbel9 _ _ (HB8.out.mono hbb) (by omega))⟩

set_option maxHeartbeats 4000000 in
theorem piece_whole_u (l : Lane.Ln) (A : Option Addr) (n c : Nat) (us : List (Array Value)) (B : Option Addr) (m d : Nat) (base lo : Nat) (u : Value) (it : Item.It) (w : World) (h : OwnL w base lo A n c us B m d l) (hi : IsItem w u it) (hm65 : l.p.b.length ≤ 65536) (hb65 : it.b.length ≤ 65536) (p' : Pt) (s : List UInt8) (ha : addOf l.p it.q it.i it.t it.b = ⟨p', s, true, 0⟩) (hu : l.p.got ≠ 0) (hn16 : n + 1 ≤ 16777216) :
    Calls Try.prog 50 #[.agg #[.slice A n c, .int .i64 l.p.seq, .int .i64 l.p.total, .int .i64 l.p.got, .slice B m d], u] w (PieceIs w base ⟨l.es ++ [⟨1, l.p.seq, s, [], false⟩], p'⟩ 0) := by
  have HUU := hidT hu
  clear hu
  obtain ⟨LAi, lni, lci, BAi, bni, bci, rfl, hli, hbi⟩ := hi
  have hbb : base ≤ w.heap.size := by have := h.2.2.2.2.2.1; have := h.2.2.2.2.2.2; omega
  have hlw : lo ≤ w.heap.size := h.2.2.2.2.2.2
  obtain ⟨t0, t1, t2, t4⟩ := three_alloc w (.cells #[.slice A n c, .int .i64 l.p.seq, .int .i64 l.p.total, .int .i64 l.p.got, .slice B m d] 27) (.cells #[.int .i64 it.k, .int .i64 it.q, .int .i64 it.e, .int .i64 it.i, .int .i64 it.t, .int .i64 it.c, .slice LAi lni lci, .slice BAi bni bci] 41) (.cells lz 27)
  obtain ⟨W, hWW⟩ : ∃ W, ((w.alloc (.cells #[.slice A n c, .int .i64 l.p.seq, .int .i64 l.p.total, .int .i64 l.p.got, .slice B m d] 27)).alloc (.cells #[.int .i64 it.k, .int .i64 it.q, .int .i64 it.e, .int .i64 it.i, .int .i64 it.t, .int .i64 it.c, .slice LAi lni lci, .slice BAi bni bci] 41)).alloc (.cells lz 27) = W := ⟨_, rfl⟩
  have HSZ : Hid (W.heap.size = w.heap.size + 3) := by rw [← hWW, size_alloc, size_alloc, size_alloc]; exact hidT rfl
  rw [hWW] at t0 t1 t2 t4
  have hmB : m ≤ 65536 := by have := h.2.2.2.1.1; omega
  have hbB : bni ≤ 65536 := by have := hbi.1; omega
  have hadd := add_anyF l.p B m d it.q it.i it.t BAi bni bci it.b W (h.2.2.2.1.below t4) (hbi.below t4) hmB hbB
  rw [ha] at hadd
  have HADD := hidT hadd
  obtain ⟨g, hg⟩ : ∃ g, w.heap.size = g := ⟨_, rfl⟩
  have HG := hidT hg
  rw [hg] at t0 t1 t2
  have HW := hidT hWW
  have T0 := hidT t0
  have T1 := hidT t1
  have T2 := hidT t2
  have T4 := hidT t4
  have hmid := h.mid
  rw [hg] at hmid
  have HO := hidT (hmid.later t4)
  have HBB := hidT hbb
  have HLW := hidT hlw
  obtain ⟨e0, e1, e2, e3, e4⟩ := cells5 t0
  obtain ⟨j0, j1, j2, j3, j4, j5, j6, j7⟩ := cells8 t1
  rw [← HW.out] at e0 e1 e2 e3 e4 j0 j1 j2 j3 j4 j5 j6 j7
  clear t0 t1 t2 t4 hWW h hmid hadd ha hmB hbB hm65 hb65 hli hbi hbb hlw
  go_enter Try.func50, Try.ntmps50
  go_wp2_with fail
  rw [HW.out]
  clear hg e0 e1 e2 e3 e4 j0 j1 j2 j3 j4 j5 j6 j7
  with_reducible refine HADD.out.mono ?_
  rintro e w5 ⟨PA, pn, pc, SB, sn, sc, rfl, hrp, hrs, hb5, hpa, hsb⟩
  dsimp only at hrp hrs ⊢
  have p5 := alloc_at w5 (.cells #[.int .i64 p'.seq, .int .i64 p'.total, .int .i64 p'.got, .slice PA pn pc] 25) _ rfl
  have n5 := nkeep w5 (.cells #[.int .i64 p'.seq, .int .i64 p'.total, .int .i64 p'.got, .slice PA pn pc] 25)
  obtain ⟨W6, hW6⟩ : ∃ W6, w5.alloc (.cells #[.int .i64 p'.seq, .int .i64 p'.total, .int .i64 p'.got, .slice PA pn pc] 25) = W6 := ⟨_, rfl⟩
  obtain ⟨r, hr⟩ : ∃ r, w5.heap.size = r := ⟨_, rfl⟩
  rw [hW6, hr] at p5
  rw [hW6] at n5
  have HW6 := hidT hW6
  have P6 := hidT p5
  have HR := hidT hr
  have HB6 := hidT (bthen T4.out (bthen hb5 n5))
  have Y0 := hidT (keepH (keepH T0.out hb5) n5)
  have Y1 := hidT (keepH (keepH T1.out hb5) n5)
  have Y2 := hidT (keepH (keepH T2.out hb5) n5)
  have HO6 := hidT ((HO.out.later hb5).later n5)
  have HRP := hidT (hrp.below n5)
  have HRS := hidT (hrs.below n5)
  have HPA := hidT hpa
  have HSB := hidT hsb
  have HRG : Hid (g + 3 ≤ r) := hidT (by have := HSZ.out; have := HG.out; have := hb5.size; omega)
  clear p5 n5 hW6 hrp hrs hb5 hpa hsb HADD
  obtain ⟨e0, e1, e2, e3, e4⟩ := cells5 Y0.out
  obtain ⟨j0, j1, j2, j3, j4, j5, j6, j7⟩ := cells8 Y1.out
  rw [← HW6.out] at e0 e1 e2 e3 e4 j0 j1 j2 j3 j4 j5 j6 j7
  have hun := fun w' => isUnder_any l A n c B m d w' true (by have := HUU.out; simpa using this)
  go_wp2_with fail
  rw [HW6.out]
  clear hr e0 e1 e2 e3 e4 j0 j1 j2 j3 j4 j5 j6 j7
  with_reducible refine (hun _).mono ?_
  rintro e w7 ⟨rfl, hb7⟩
  have y0 := keepH Y0.out hb7
  obtain ⟨k0, k1, k2, k3⟩ := cells4 (keepH P6.out hb7)
  obtain ⟨e0, e1, e2, e3, e4⟩ := cells5 y0
  have f1 := no_frozen y0 1
  have f2 := no_frozen y0 2
  have f3 := no_frozen y0 3
  have f4 := no_frozen y0 4
  have hset := set4p y0 (.int .i64 p'.seq) (.int .i64 p'.total) (.int .i64 p'.got) (.slice PA pn pc)
  have HSET := hidT hset
  have Y2 := hidT (keepH Y2.out hb7)
  have HO7 := hidT (HO6.out.later hb7)
  have HRP := hidT (HRP.out.below hb7)
  have HRS := hidT (HRS.out.below hb7)
  have HB7 := hidT (bthen HB6.out hb7)
  clear hb7 hun y0 hset Y0 Y1 HO6 HB6
  go_upto_region 8 with fail
  have hset := HSET.out
  clear HSET
  generalize ((((w7.setCell ⟨g, 1, none⟩ (.int .i64 p'.seq)).setCell ⟨g, 2, none⟩ (.int .i64 p'.total)).setCell ⟨g, 3, none⟩ (.int .i64 p'.got)).setCell ⟨g, 4, none⟩ (.slice PA pn pc)) = w8 at hset ⊢
  obtain ⟨z0, hbx, hbel⟩ := hset
  have hgg := HG.out
  have hbb := HBB.out
  have hlw := HLW.out
  have hsz := HSZ.out
  have Z0 := hidT z0
  have Z2 := hidT ((hbx.2 (g + 1 + 1) (by omega)).trans Y2.out)
  have HO8 := hidT (HO7.out.far (by omega) (by omega) hbx)
  have HRP8 := hidT (HRP.out.but (fun b o e => by have := HPA.out b o e; omega) hbx)
  have HRS8 := hidT (HRS.out.but (fun b o e => by have := HSB.out b o e; omega) hbx)
  have HB8 := hidT (hbel _ _ HB7.out (by omega))
  have HSX : Hid (W.heap.size ≤ w8.heap.size) := hidT (by rw [hbx.1]; have := blk_lt P6.out; have := HRG.out; have := HB7.out.size; have := blk_lt Y2.out; omega)
  clear z0 hbx hbel k0 k1 k2 k3 e0 e1 e2 e3 e4 f1 f2 f3 f4 hgg hbb hlw hsz Y2 HO7 HRP HRS HB7
  obtain ⟨e0, e1, e2, e3, e4⟩ := cells5 Z0.out
  have N9 := hidT (nkeep w8 (.cells #[.int .i64 1, .int .i64 l.p.seq, .slice SB sn sc, .slice none 0 0, .bool false] 33))
  have HOA := hidT (HO8.out.1.later N9.out)
  have HLA := hidT (RdK.lit (k := 5) w8 33 (0, 0) #[.int .i64 1, .int .i64 l.p.seq, .slice SB sn sc, .slice none 0 0, .bool false] [#[.int .i64 1, .int .i64 l.p.seq, .slice SB sn sc, .slice none 0 0, .bool false]] (AllK.one rfl (by simp [Value.oneCell'])) (by simp [flat]) 1 rfl (by simp only [maxLen]; omega) w8.heap.size rfl)
  have HSA : Hid (base ≤ (w8.alloc (.cells #[.int .i64 1, .int .i64 l.p.seq, .slice SB sn sc, .slice none 0 0, .bool false] 33)).heap.size) := hidT (by rw [size_alloc]; have := HBB.out; have := HSX.out; have := HSZ.out; omega)
  have hrl := HO8.out.1.rowlt HO8.out.2.2.1
  have HRL := hidT hrl
  have Y0 := hidT (keepH Z0.out N9.out)
  have Y2 := hidT (keepH Z2.out N9.out)
  have HN16 := hn16
  clear hrl
  go_wp2_with (first
    | (at_builtin
       refine wpList_appK 5 (by omega) rfl (.tmp 42) (.tmp 46) 22 rfl base 33 _ 72 infoE rfl (by omega) Try.underlying22 (.slice A n c) n us rfl HOA.out (some ⟨w8.heap.size, 0, none⟩) 1 1 [#[.int .i64 1, .int .i64 l.p.seq, .slice SB sn sc, .slice none 0 0, .bool false]] rfl HLA.out (by omega) HSA.out ?_
       intro v9 w9 hown hb9 hg9
       obtain ⟨A9, c9, rfl, hrd9⟩ := OwnK.rd hown
       have hgg := HG.out
       have hlw := HLW.out
       have hbb := HBB.out
       have y9 := (hg9.block g (blk_lt Y0.out) (fun e => by have := HRL.out g e.symm; omega)).trans Y0.out
       have y92 := (hg9.block (g + 1 + 1) (blk_lt Y2.out) (fun e => by have := HRL.out (g + 1 + 1) e.symm; omega)).trans Y2.out
       have f9 := no_frozen y9 0
       obtain ⟨k0, k1, k2, k3, k4⟩ := cells5 y9
       have z10 : (w9.setCell ⟨g, 0, none⟩ (.slice A9 (n + 1) c9)).heap[g]? = some (.cells #[.slice A9 (n + 1) c9, .int .i64 p'.seq, .int .i64 p'.total, .int .i64 p'.got, .slice PA pn pc] 27 (0, 0)) := heap_setCell_same w9 g 0 _ _ _ y9
       have zb := But.setCell w9 g 0 (.slice A9 (n + 1) c9)
       have z12 := (zb.2 (g + 1 + 1) (by omega)).trans y92
       obtain ⟨q0, q1', q2, q3, q4⟩ := cells5 z10
       have HOWN := hidT hown
       have HAG := hidT (OwnK.apart hown y9 (by decide))
       have HAG2 := hidT (OwnK.apart hown y92 (by decide))
       have HB9 := hidT hb9
       have HG9 := hidT hg9
       clear hown hb9 hg9 hrd9 hgg hlw hbb y9 y92)
    | (refine wpList_stI rfl 27 _ _ rfl (g + 1 + 1) #[.slice A9 (n + 1) c9, .int .i64 p'.seq, .int .i64 p'.total, .int .i64 p'.got, .slice PA pn pc] rfl rfl _ _ z12 sizeL rfl (by simp [Value.oneCell']) ?_
       intro wx hgx hbutx hbelx)
    | fail)
  obtain ⟨r0, r1, r2, r3, r4⟩ := cells5 hgx
  have hgg := HG.out
  have hbb := HBB.out
  have hlw := HLW.out
  have hsz := HSZ.out
  have hsx := HSX.out
  have hbl := HO8.out.2.2.2.2.2.1
  have hlg := HO8.out.2.2.2.2.2.2
  have hK : KeptS (Spot lo g) (w8.alloc (.cells #[.int .i64 1, .int .i64 l.p.seq, .slice SB sn sc, .slice none 0 0, .bool false] 33)) w9 := KeptS.grown HG9.out fun b hS e => by
    have := HRL.out b e
    rcases hS with ⟨h, _⟩ | h <;> omega
  have hkx : KeptS (Spot lo g) w9 wx := fun b o u hS hu => KeptS.spot hbutx (show g ≤ g + 1 + 1 by omega) (by omega) b o u hS (KeptS.spot zb (Nat.le_refl _) (by omega) b o u hS hu)
  have hsS : Within (Spot lo g) SB sn := fun _ b o e => .inr (by have := HSB.out b o e; omega)
  have hpS : Within (Spot lo g) PA pn := fun _ b o e => .inr (by have := HPA.out b o e; omega)
  have hen : IsEn (Spot lo g) w9 (.agg #[.int .i64 1, .int .i64 l.p.seq, .slice SB sn sc, .slice none 0 0, .bool false]) ⟨1, l.p.seq, s, [], false⟩ := ⟨SB, sn, sc, none, 0, 0, rfl, (HRS8.out.below N9.out).keptS hsS hK, RdV.nil_ _, hsS, Within.zero _ _⟩
  have hare := ((((HO8.out.2.1.below N9.out).keptS hK).app (AreE.one hen)).keptS hkx).mono (T := Hi base) fun b hb => hb.hi hbl hlg
  have hrpx : Rd wx PA pn pc p'.b := ((HRP8.out.below N9.out).keptS hpS hK).keptS hpS hkx
  have hown2 := (HOWN.out.butA HAG.out zb).butA HAG2.out hbutx
  have hfin : IsLane (Hi base) wx (.agg #[.slice A9 (n + 1) c9, .int .i64 p'.seq, .int .i64 p'.total, .int .i64 p'.got, .slice PA pn pc]) ⟨l.es ++ [⟨1, l.p.seq, s, [], false⟩], p'⟩ := ⟨_, _, _, _, _, _, rfl, ⟨_, hown2.same, hare, Within.of fun b o e => (hown2.addr b o e).1⟩, hrpx, hpS.mono fun b hb => hb.hi hbl hlg⟩
  have hb8x : Below base w wx := hbelx _ _ (((HB8.out.mono hbb).trans ((N9.out.mono (show base ≤ w8.heap.size by omega)).trans HB9.out)).setCell (p := ⟨g, 0, none⟩) (by show base ≤ g; omega) (.slice A9 (n + 1) c9)) (by omega)
  exact bodyPost_ret (v := .tuple #[.agg #[.slice A9 (n + 1) c9, .int .i64 p'.seq, .int .i64 p'.total, .int .i64 p'.got, .slice PA pn pc], .int .i64 0]) (by simp [results, Try.results50, go_sem, r0, r1, r2, r3, r4]) rfl
    ⟨_, rfl, hfin, hb8x⟩
end Go.Proofs.Ytmlmkkfieeaejaa
