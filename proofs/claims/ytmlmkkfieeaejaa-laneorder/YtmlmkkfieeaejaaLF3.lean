/- What frag.Add comes to. -/
import Derived.Test.YtmlmkkfieeaejaaLF1
set_option maxRecDepth 100000
namespace Go.Proofs.Ytmlmkkfieeaejaa
open Go.RowKit
set_option linter.unusedVariables false


/-- A message under way, bytes, whether it is whole, and a code. -/
def AddIs (w : World) (r : AddR) (e : Ending) (w' : World) : Prop :=
  ∃ A n c B m d, e = .returned (.tuple #[.agg #[.int .i64 r.p.seq, .int .i64 r.p.total, .int .i64 r.p.got, .slice A n c], .slice B m d, .bool r.whole, .int .i64 r.err]) ∧ Rd w' A n c r.p.b ∧ Rd w' B m d r.s ∧ Below w.heap.size w w'
/-- The same, and what is told is new. -/
def AddIsF (w : World) (r : AddR) (e : Ending) (w' : World) : Prop :=
  ∃ A n c B m d, e = .returned (.tuple #[.agg #[.int .i64 r.p.seq, .int .i64 r.p.total, .int .i64 r.p.got, .slice A n c], .slice B m d, .bool r.whole, .int .i64 r.err]) ∧ Rd w' A n c r.p.b ∧ Rd w' B m d r.s ∧ Below w.heap.size w w' ∧ (∀ b o, A = some ⟨b, o, none⟩ → w.heap.size ≤ b) ∧ (∀ b o, B = some ⟨b, o, none⟩ → w.heap.size ≤ b)
theorem AddIsF.is {w w' : World} {r : AddR} {e : Ending} (h : AddIsF w r e w') : AddIs w r e w' := by
  obtain ⟨A, n, c, B, m, d, h1, h2, h3, h4, _, _⟩ := h
  exact ⟨A, n, c, B, m, d, h1, h2, h3, h4⟩
theorem infoPt : (Try.prog.info? 25).map (·.size) = some 4 := by kernel_rfl
theorem all4 {a0 a1 a2 a3 : Value} (h0 : a0.oneCell' = true) (h1 : a1.oneCell' = true) (h2 : a2.oneCell' = true) (h3 : a3.oneCell' = true) : (#[a0, a1, a2, a3] : Array Value).all (·.oneCell') = true := by simp [h0, h1, h2, h3]
theorem set4 {w : World} {g : Nat} {b0 b1 b2 b3 : Value} {t : TypeId} (h : w.heap[g]? = some (.cells #[b0, b1, b2, b3] t (0, 0))) (a0 a1 a2 a3 : Value) :
    ((((w.setCell ⟨g, 0, none⟩ a0).setCell ⟨g, 1, none⟩ a1).setCell ⟨g, 2, none⟩ a2).setCell ⟨g, 3, none⟩ a3).heap[g]? = some (.cells #[a0, a1, a2, a3] t (0, 0)) ∧ But g w ((((w.setCell ⟨g, 0, none⟩ a0).setCell ⟨g, 1, none⟩ a1).setCell ⟨g, 2, none⟩ a2).setCell ⟨g, 3, none⟩ a3) ∧
    (∀ base w0, Below base w0 w → base ≤ g → Below base w0 ((((w.setCell ⟨g, 0, none⟩ a0).setCell ⟨g, 1, none⟩ a1).setCell ⟨g, 2, none⟩ a2).setCell ⟨g, 3, none⟩ a3)) := by
  have s0 : (w.setCell ⟨g, 0, none⟩ a0).heap[g]? = some (.cells #[a0, b1, b2, b3] t (0, 0)) := heap_setCell_same w g 0 _ t a0 h
  have s1 : ((w.setCell ⟨g, 0, none⟩ a0).setCell ⟨g, 1, none⟩ a1).heap[g]? = some (.cells #[a0, a1, b2, b3] t (0, 0)) := heap_setCell_same _ g 1 _ t a1 s0
  have s2 : (((w.setCell ⟨g, 0, none⟩ a0).setCell ⟨g, 1, none⟩ a1).setCell ⟨g, 2, none⟩ a2).heap[g]? = some (.cells #[a0, a1, a2, b3] t (0, 0)) := heap_setCell_same _ g 2 _ t a2 s1
  exact ⟨heap_setCell_same _ g 3 _ t a3 s2, (((But.setCell w g 0 a0).trans (But.setCell _ g 1 a1)).trans (But.setCell _ g 2 a2)).trans (But.setCell _ g 3 a3),
    fun base w0 hb hg => (((hb.setCell (p := ⟨g, 0, none⟩) hg a0).setCell (p := ⟨g, 1, none⟩) hg a1).setCell (p := ⟨g, 2, none⟩) hg a2).setCell (p := ⟨g, 3, none⟩) hg a3⟩

set_option maxHeartbeats 4000000 in
theorem add_no (sq tt gt : Int) (b : List UInt8) (A : Option Addr) (n c : Nat) (seq index total : Int) (B : Option Addr) (m d : Nat) (pc : List UInt8) (w : World) (hr : Rd w A n c b) (hp : Rd w B m d pc) (hn : n ≤ 65536) (hm : m ≤ 65536)
    (hf : fits ⟨sq, tt, gt, b⟩ index total = false) :
    Calls Try.prog 63 #[.agg #[.int .i64 sq, .int .i64 tt, .int .i64 gt, .slice A n c], .int .i64 seq, .int .i64 index, .int .i64 total, .slice B m d] w (AddIsF w ⟨⟨sq, tt, gt, b⟩, [], false, 2⟩) := by
  obtain ⟨g0, g1, hb0⟩ := two_alloc w (.cells #[.int .i64 sq, .int .i64 tt, .int .i64 gt, .slice A n c] 25) (.cells #[.int .i64 0, .int .i64 0, .int .i64 0, .slice none 0 0] 25)
  have hs0 : w.heap.size < ((w.alloc (.cells #[.int .i64 sq, .int .i64 tt, .int .i64 gt, .slice A n c] 25)).alloc (.cells #[.int .i64 0, .int .i64 0, .int .i64 0, .slice none 0 0] 25)).heap.size := by simp only [size_alloc]; omega
  have hs1 : w.heap.size + 1 < ((w.alloc (.cells #[.int .i64 sq, .int .i64 tt, .int .i64 gt, .slice A n c] 25)).alloc (.cells #[.int .i64 0, .int .i64 0, .int .i64 0, .slice none 0 0] 25)).heap.size := by simp only [size_alloc]; omega
  obtain ⟨k0, k1, k2, k3⟩ := cells4 g0
  have hq := follows_any ⟨sq, tt, gt, b⟩ A n c index total ((w.alloc (.cells #[.int .i64 sq, .int .i64 tt, .int .i64 gt, .slice A n c] 25)).alloc (.cells #[.int .i64 0, .int .i64 0, .int .i64 0, .slice none 0 0] 25)) false hf
  dsimp only at hq
  go_enter Try.func63, Try.ntmps63
  go_wp2_with fail
  with_reducible refine hq.mono ?_
  rintro e w1 ⟨rfl, hb1⟩
  have x1 := (hb1.block _ hs0).trans g0
  have z1 := (hb1.block _ hs1).trans g1
  have hl1 := hb1.size
  have hb01 := bthen hb0 hb1
  clear hq k0 k1 k2 k3 g0 g1
  obtain ⟨k0, k1, k2, k3⟩ := cells4 x1
  have hc := clone_any A n c b w1 (hr.below hb01) hn
  go_wp2_with fail
  with_reducible refine hc.mono ?_
  rintro e w2 ⟨A2, c2, rfl, ho2, hb2⟩
  have x2 := (hb2.block _ (by omega)).trans x1
  have z2 := (hb2.block _ (by omega)).trans z1
  have hb02 := bthen hb01 hb2
  clear hc x1 z1 k0 k1 k2 k3
  obtain ⟨k0, k1, k2, k3⟩ := cells4 x2
  have fz := no_frozen x2
  have HG := ((But.setCell w2 w.heap.size 3 (.slice A2 b.length c2)).2 (w.heap.size + 1) (by omega)).trans z2
  have ho3 := ho2.but (by omega) (But.setCell w2 w.heap.size 3 (.slice A2 b.length c2))
  have hb3 := hb02.setCell (p := ⟨w.heap.size, 3, none⟩) (Nat.le_refl _) (.slice A2 b.length c2)
  go_wp2_with (
    refine wpList_stI rfl 25 (.tmp 10) (.tmp 23) rfl (w.heap.size + 1) #[.int .i64 sq, .int .i64 tt, .int .i64 gt, .slice A2 b.length c2] rfl rfl _ _ HG infoPt rfl (all4 rfl rfl rfl rfl) ?_
    intro w9 hg9 hbut9 hbel9)
  obtain ⟨y0, y1, y2, y3⟩ := cells4 hg9
  exact bodyPost_ret (v := .tuple #[.agg #[.int .i64 sq, .int .i64 tt, .int .i64 gt, .slice A2 b.length c2], .slice none 0 0, .bool false, .int .i64 2]) (by simp [results, Try.results63, go_sem, y0, y1, y2, y3]) rfl ⟨_, _, _, _, _, _, rfl, (ho3.but (by omega) hbut9).same, Rd.nil_ _, hbel9 _ _ hb3 (Nat.le_succ _), addrB ho3 hb01.size, no_addr⟩

set_option maxHeartbeats 4000000 in
theorem add_first_whole (sq tt gt : Int) (b : List UInt8) (A : Option Addr) (n c : Nat) (seq : Int) (B : Option Addr) (m d : Nat) (pc : List UInt8) (w : World) (hr : Rd w A n c b) (hp : Rd w B m d pc) (hn : n ≤ 65536) (hm : m ≤ 65536)
    (hgt : gt = 0) :
    Calls Try.prog 63 #[.agg #[.int .i64 sq, .int .i64 tt, .int .i64 gt, .slice A n c], .int .i64 seq, .int .i64 gt, .int .i64 1, .slice B m d] w (AddIsF w ⟨none_, [] ++ pc, true, 0⟩) := by
  obtain ⟨g0, g1, hb0⟩ := two_alloc w (.cells #[.int .i64 sq, .int .i64 tt, .int .i64 gt, .slice A n c] 25) (.cells #[.int .i64 0, .int .i64 0, .int .i64 0, .slice none 0 0] 25)
  have hs0 : w.heap.size < ((w.alloc (.cells #[.int .i64 sq, .int .i64 tt, .int .i64 gt, .slice A n c] 25)).alloc (.cells #[.int .i64 0, .int .i64 0, .int .i64 0, .slice none 0 0] 25)).heap.size := by simp only [size_alloc]; omega
  have hs1 : w.heap.size + 1 < ((w.alloc (.cells #[.int .i64 sq, .int .i64 tt, .int .i64 gt, .slice A n c] 25)).alloc (.cells #[.int .i64 0, .int .i64 0, .int .i64 0, .slice none 0 0] 25)).heap.size := by simp only [size_alloc]; omega
  obtain ⟨k0, k1, k2, k3⟩ := cells4 g0
  have hq := follows_any ⟨sq, tt, gt, b⟩ A n c gt 1 ((w.alloc (.cells #[.int .i64 sq, .int .i64 tt, .int .i64 gt, .slice A n c] 25)).alloc (.cells #[.int .i64 0, .int .i64 0, .int .i64 0, .slice none 0 0] 25)) true (by subst hgt; simp [fits])
  dsimp only at hq
  subst hgt
  go_enter Try.func63, Try.ntmps63
  go_wp2_with fail
  with_reducible refine hq.mono ?_
  rintro e w1 ⟨rfl, hb1⟩
  have x1 := (hb1.block _ hs0).trans g0
  have z1 := (hb1.block _ hs1).trans g1
  have hl1 := hb1.size
  have hb01 := bthen hb0 hb1
  clear hq k0 k1 k2 k3 g0 g1
  obtain ⟨k0, k1, k2, k3⟩ := cells4 x1
  go_wp2_with (
    refine wpList_stI rfl 25 (.tmp 5) (.tmp 29) rfl w.heap.size #[.int .i64 seq, .int .i64 1, .int .i64 0, .slice none 0 0] rfl rfl _ _ x1 infoPt rfl (all4 rfl rfl rfl rfl) ?_
    intro w2 x2 but2 bel2
    obtain ⟨j0, j1, j2, j3⟩ := cells4 x2)
  have hsz2 := but2.1
  have z2 := (but2.2 (w.heap.size + 1) (by omega)).trans z1
  have hb02 := bel2 _ _ hb01 (Nat.le_refl _)
  have ra := Rd.nil_ (w2.alloc (.cells #[.slice none 0 0, .slice B m d] 23))
  have A' : Option Addr := none
  have hw3 := alloc_at w2 (.cells #[.slice none 0 0, .slice B m d] 23) _ rfl
  have hba := nkeep w2 (.cells #[.slice none 0 0, .slice B m d] 23)
  have hc := concat2 w2.heap.size none 0 0 [] B m d pc (w2.alloc (.cells #[.slice none 0 0, .slice B m d] 23)) (cell_at hw3 0 rfl) (cell_at hw3 1 rfl) ra ((hp.below hb02).alloc _) (by omega) hm
  clear hw3
  with_reducible refine hc.mono ?_
  rintro e w3 ⟨A3, c3, rfl, ho3, hb3'⟩
  have hb3 := bthen hba hb3'
  have x3 := (hb3.block _ (by omega)).trans x2
  have z3 := (hb3.block _ (by omega)).trans z2
  have hb03 := bthen hb02 hb3
  have hl3 := hb3.size
  have hbase : w.heap.size + 1 < (w2.alloc (.cells #[.slice none 0 0, .slice B m d] 23)).heap.size := by rw [size_alloc]; omega
  clear hc x1 z1 k0 k1 k2 k3 hba hb3' ra
  obtain ⟨k0, k1, k2, k3⟩ := cells4 x3
  have fz := no_frozen x3
  have HL : Hid (([] ++ pc).length = ([] ++ pc).length) := hidT rfl
  obtain ⟨N3, HN3⟩ : ∃ N3, Hid (([] ++ pc).length = N3) := ⟨_, hidT rfl⟩
  rw [HN3.out] at ho3 ⊢
  have e3 := heap_setCell_same w3 w.heap.size 3 _ _ (.slice A3 N3 c3) x3
  have e4 := heap_setCell_same _ w.heap.size 2 _ _ (.int .i64 1) e3
  have bb : But w.heap.size w3 ((w3.setCell ⟨w.heap.size, 3, none⟩ (.slice A3 N3 c3)).setCell ⟨w.heap.size, 2, none⟩ (.int .i64 1)) := (But.setCell w3 w.heap.size 3 _).trans (But.setCell _ w.heap.size 2 _)
  have hb4 : Below w.heap.size w ((w3.setCell ⟨w.heap.size, 3, none⟩ (.slice A3 N3 c3)).setCell ⟨w.heap.size, 2, none⟩ (.int .i64 1)) := (hb03.setCell (p := ⟨w.heap.size, 3, none⟩) (Nat.le_refl _) _).setCell (p := ⟨w.heap.size, 2, none⟩) (Nat.le_refl _) _
  have z4 := (bb.2 (w.heap.size + 1) (by omega)).trans z3
  have ho4 := ho3.but (by omega) bb
  have hAD := addrB (base' := w.heap.size) ho3 (by omega)
  clear z3 z2
  go_wp2_with fail
  generalize ((w3.setCell ⟨w.heap.size, 3, none⟩ (.slice A3 N3 c3)).setCell ⟨w.heap.size, 2, none⟩ (.int .i64 1)) = w4 at e4 z4 ho4 hb4 ⊢
  clear e3 bb k0 k1 k2 k3 fz x3
  obtain ⟨k0, k1, k2, k3⟩ := cells4 e4
  obtain ⟨y0, y1, y2, y3⟩ := cells4 z4
  have fz := no_frozen z4
  go_region
  obtain ⟨hg2, hbut, hbel⟩ := set4 z4 (.int .i64 0) (.int .i64 0) (.int .i64 0) (.slice none 0 0)
  have hr5 := (ho4.but (by omega) hbut).same
  have hb5 := hbel _ _ hb4 (Nat.le_succ _)
  clear hbut hbel ho4 hb4
  generalize ((((w4.setCell ⟨w.heap.size + 1, 0, none⟩ (.int .i64 0)).setCell ⟨w.heap.size + 1, 1, none⟩ (.int .i64 0)).setCell ⟨w.heap.size + 1, 2, none⟩ (.int .i64 0)).setCell ⟨w.heap.size + 1, 3, none⟩ (.slice none 0 0)) = w5 at hg2 hr5 hb5 ⊢
  clear k0 k1 k2 k3 y0 y1 y2 y3 fz e4 z4
  obtain ⟨y0, y1, y2, y3⟩ := cells4 (w := w5.drew) hg2
  have HR := hidT hr5
  clear hr5
  go_wp2
  exact bodyPost_ret (v := .tuple #[.agg #[.int .i64 0, .int .i64 0, .int .i64 0, .slice none 0 0], .slice A3 N3 c3, .bool true, .int .i64 0]) (by simp [results, Try.results63, go_sem, y0, y1, y2, y3]) rfl ⟨none, 0, 0, A3, N3, c3, rfl, Rd.nil_ _, HR.out.drew, hb5.drew, no_addr, hAD⟩

set_option maxHeartbeats 4000000 in
theorem add_first_on (sq tt gt : Int) (b : List UInt8) (A : Option Addr) (n c : Nat) (seq total : Int) (B : Option Addr) (m d : Nat) (pc : List UInt8) (w : World) (hr : Rd w A n c b) (hp : Rd w B m d pc) (hn : n ≤ 65536) (hm : m ≤ 65536)
    (hgt : gt = 0) (h1 : 2 ≤ total) (h2 : total ≤ 32) :
    Calls Try.prog 63 #[.agg #[.int .i64 sq, .int .i64 tt, .int .i64 gt, .slice A n c], .int .i64 seq, .int .i64 gt, .int .i64 total, .slice B m d] w (AddIsF w ⟨⟨seq, total, 1, [] ++ pc⟩, [], false, 0⟩) := by
  obtain ⟨g0, g1, hb0⟩ := two_alloc w (.cells #[.int .i64 sq, .int .i64 tt, .int .i64 gt, .slice A n c] 25) (.cells #[.int .i64 0, .int .i64 0, .int .i64 0, .slice none 0 0] 25)
  have hs0 : w.heap.size < ((w.alloc (.cells #[.int .i64 sq, .int .i64 tt, .int .i64 gt, .slice A n c] 25)).alloc (.cells #[.int .i64 0, .int .i64 0, .int .i64 0, .slice none 0 0] 25)).heap.size := by simp only [size_alloc]; omega
  have hs1 : w.heap.size + 1 < ((w.alloc (.cells #[.int .i64 sq, .int .i64 tt, .int .i64 gt, .slice A n c] 25)).alloc (.cells #[.int .i64 0, .int .i64 0, .int .i64 0, .slice none 0 0] 25)).heap.size := by simp only [size_alloc]; omega
  obtain ⟨k0, k1, k2, k3⟩ := cells4 g0
  have hq := follows_any ⟨sq, tt, gt, b⟩ A n c gt total ((w.alloc (.cells #[.int .i64 sq, .int .i64 tt, .int .i64 gt, .slice A n c] 25)).alloc (.cells #[.int .i64 0, .int .i64 0, .int .i64 0, .slice none 0 0] 25)) true (by subst hgt; simp [fits]; omega)
  dsimp only at hq
  subst hgt
  go_enter Try.func63, Try.ntmps63
  go_wp2_with fail
  with_reducible refine hq.mono ?_
  rintro e w1 ⟨rfl, hb1⟩
  have x1 := (hb1.block _ hs0).trans g0
  have z1 := (hb1.block _ hs1).trans g1
  have hl1 := hb1.size
  have hb01 := bthen hb0 hb1
  clear hq k0 k1 k2 k3 g0 g1
  obtain ⟨k0, k1, k2, k3⟩ := cells4 x1
  go_wp2_with (
    refine wpList_stI rfl 25 (.tmp 5) (.tmp 29) rfl w.heap.size #[.int .i64 seq, .int .i64 total, .int .i64 0, .slice none 0 0] rfl rfl _ _ x1 infoPt rfl (all4 rfl rfl rfl rfl) ?_
    intro w2 x2 but2 bel2
    obtain ⟨j0, j1, j2, j3⟩ := cells4 x2)
  have hsz2 := but2.1
  have z2 := (but2.2 (w.heap.size + 1) (by omega)).trans z1
  have hb02 := bel2 _ _ hb01 (Nat.le_refl _)
  have ra := Rd.nil_ (w2.alloc (.cells #[.slice none 0 0, .slice B m d] 23))
  have A' : Option Addr := none
  have hw3 := alloc_at w2 (.cells #[.slice none 0 0, .slice B m d] 23) _ rfl
  have hba := nkeep w2 (.cells #[.slice none 0 0, .slice B m d] 23)
  have hc := concat2 w2.heap.size none 0 0 [] B m d pc (w2.alloc (.cells #[.slice none 0 0, .slice B m d] 23)) (cell_at hw3 0 rfl) (cell_at hw3 1 rfl) ra ((hp.below hb02).alloc _) (by omega) hm
  clear hw3
  with_reducible refine hc.mono ?_
  rintro e w3 ⟨A3, c3, rfl, ho3, hb3'⟩
  have hb3 := bthen hba hb3'
  have x3 := (hb3.block _ (by omega)).trans x2
  have z3 := (hb3.block _ (by omega)).trans z2
  have hb03 := bthen hb02 hb3
  have hl3 := hb3.size
  have hbase : w.heap.size + 1 < (w2.alloc (.cells #[.slice none 0 0, .slice B m d] 23)).heap.size := by rw [size_alloc]; omega
  clear hc x1 z1 k0 k1 k2 k3 hba hb3' ra
  obtain ⟨k0, k1, k2, k3⟩ := cells4 x3
  have fz := no_frozen x3
  have HL : Hid (([] ++ pc).length = ([] ++ pc).length) := hidT rfl
  obtain ⟨N3, HN3⟩ : ∃ N3, Hid (([] ++ pc).length = N3) := ⟨_, hidT rfl⟩
  rw [HN3.out] at ho3 ⊢
  have e3 := heap_setCell_same w3 w.heap.size 3 _ _ (.slice A3 N3 c3) x3
  have e4 := heap_setCell_same _ w.heap.size 2 _ _ (.int .i64 1) e3
  have bb : But w.heap.size w3 ((w3.setCell ⟨w.heap.size, 3, none⟩ (.slice A3 N3 c3)).setCell ⟨w.heap.size, 2, none⟩ (.int .i64 1)) := (But.setCell w3 w.heap.size 3 _).trans (But.setCell _ w.heap.size 2 _)
  have hb4 : Below w.heap.size w ((w3.setCell ⟨w.heap.size, 3, none⟩ (.slice A3 N3 c3)).setCell ⟨w.heap.size, 2, none⟩ (.int .i64 1)) := (hb03.setCell (p := ⟨w.heap.size, 3, none⟩) (Nat.le_refl _) _).setCell (p := ⟨w.heap.size, 2, none⟩) (Nat.le_refl _) _
  have z4 := (bb.2 (w.heap.size + 1) (by omega)).trans z3
  have ho4 := ho3.but (by omega) bb
  have hAD := addrB (base' := w.heap.size) ho3 (by omega)
  clear z3 z2
  go_wp2_with (
    refine wpList_stI rfl 25 (.tmp 10) (.tmp 47) rfl (w.heap.size + 1) #[.int .i64 seq, .int .i64 total, .int .i64 1, .slice A3 N3 c3] rfl rfl _ _ z4 infoPt rfl (all4 rfl rfl rfl rfl) ?_
    intro w9 hg9 hbut9 hbel9)
  obtain ⟨y0, y1, y2, y3⟩ := cells4 hg9
  exact bodyPost_ret (v := .tuple #[.agg #[.int .i64 seq, .int .i64 total, .int .i64 1, .slice A3 N3 c3], .slice none 0 0, .bool false, .int .i64 0]) (by simp [results, Try.results63, go_sem, y0, y1, y2, y3]) rfl ⟨_, _, _, _, _, _, rfl, (ho4.but (by omega) hbut9).same, Rd.nil_ _, hbel9 _ _ hb4 (Nat.le_succ _), hAD, no_addr⟩

set_option maxHeartbeats 4000000 in
theorem add_next_whole (sq tt gt : Int) (b : List UInt8) (A : Option Addr) (n c : Nat) (seq : Int) (B : Option Addr) (m d : Nat) (pc : List UInt8) (w : World) (hr : Rd w A n c b) (hp : Rd w B m d pc) (hn : n ≤ 65536) (hm : m ≤ 65536)
    (hgt : gt ≠ 0) (h1 : 1 ≤ tt) (h2 : tt ≤ 32) (h3 : IntKind.i64.wrap (gt + 1) = tt) :
    Calls Try.prog 63 #[.agg #[.int .i64 sq, .int .i64 tt, .int .i64 gt, .slice A n c], .int .i64 seq, .int .i64 gt, .int .i64 tt, .slice B m d] w (AddIsF w ⟨none_, b ++ pc, true, 0⟩) := by
  obtain ⟨g0, g1, hb0⟩ := two_alloc w (.cells #[.int .i64 sq, .int .i64 tt, .int .i64 gt, .slice A n c] 25) (.cells #[.int .i64 0, .int .i64 0, .int .i64 0, .slice none 0 0] 25)
  have hs0 : w.heap.size < ((w.alloc (.cells #[.int .i64 sq, .int .i64 tt, .int .i64 gt, .slice A n c] 25)).alloc (.cells #[.int .i64 0, .int .i64 0, .int .i64 0, .slice none 0 0] 25)).heap.size := by simp only [size_alloc]; omega
  have hs1 : w.heap.size + 1 < ((w.alloc (.cells #[.int .i64 sq, .int .i64 tt, .int .i64 gt, .slice A n c] 25)).alloc (.cells #[.int .i64 0, .int .i64 0, .int .i64 0, .slice none 0 0] 25)).heap.size := by simp only [size_alloc]; omega
  obtain ⟨k0, k1, k2, k3⟩ := cells4 g0
  have hq := follows_any ⟨sq, tt, gt, b⟩ A n c gt tt ((w.alloc (.cells #[.int .i64 sq, .int .i64 tt, .int .i64 gt, .slice A n c] 25)).alloc (.cells #[.int .i64 0, .int .i64 0, .int .i64 0, .slice none 0 0] 25)) true (by simp [fits]; omega)
  dsimp only at hq
  have q0 : (gt == 0) = false := by simpa using hgt
  have HGT : Hid (IntKind.i64.wrap (gt + 1) = tt) := hidT h3
  clear h3
  go_enter Try.func63, Try.ntmps63
  go_wp2_with fail
  with_reducible refine hq.mono ?_
  rintro e w1 ⟨rfl, hb1⟩
  have x1 := (hb1.block _ hs0).trans g0
  have z1 := (hb1.block _ hs1).trans g1
  have hl1 := hb1.size
  have hb01 := bthen hb0 hb1
  clear hq k0 k1 k2 k3 g0 g1
  obtain ⟨k0, k1, k2, k3⟩ := cells4 x1
  have hb02 := hb01
  have x2 := x1
  have z2 := z1
  obtain ⟨w2, hw2⟩ : ∃ w2, w1 = w2 := ⟨_, rfl⟩
  subst hw2
  have hsz2 : w1.heap.size = w1.heap.size := rfl
  have ra := (hr.below hb01).alloc (.cells #[.slice A n c, .slice B m d] 23)
  have hw3 := alloc_at w1 (.cells #[.slice A n c, .slice B m d] 23) _ rfl
  have hba := nkeep w1 (.cells #[.slice A n c, .slice B m d] 23)
  have hc := concat2 w1.heap.size A n c b B m d pc (w1.alloc (.cells #[.slice A n c, .slice B m d] 23)) (cell_at hw3 0 rfl) (cell_at hw3 1 rfl) ra ((hp.below hb02).alloc _) (by omega) hm
  clear hw3
  go_wp2_with fail
  with_reducible refine hc.mono ?_
  rintro e w3 ⟨A3, c3, rfl, ho3, hb3'⟩
  have hb3 := bthen hba hb3'
  have x3 := (hb3.block _ (by omega)).trans x2
  have z3 := (hb3.block _ (by omega)).trans z2
  have hb03 := bthen hb02 hb3
  have hl3 := hb3.size
  have hbase : w.heap.size + 1 < (w1.alloc (.cells #[.slice A n c, .slice B m d] 23)).heap.size := by rw [size_alloc]; omega
  clear hc x1 z1 k0 k1 k2 k3 hba hb3' ra
  obtain ⟨k0, k1, k2, k3⟩ := cells4 x3
  have fz := no_frozen x3
  have HL : Hid ((b ++ pc).length = (b ++ pc).length) := hidT rfl
  obtain ⟨N3, HN3⟩ : ∃ N3, Hid ((b ++ pc).length = N3) := ⟨_, hidT rfl⟩
  rw [HN3.out] at ho3 ⊢
  have e3 := heap_setCell_same w3 w.heap.size 3 _ _ (.slice A3 N3 c3) x3
  have e4 := heap_setCell_same _ w.heap.size 2 _ _ (.int .i64 tt) e3
  have bb : But w.heap.size w3 ((w3.setCell ⟨w.heap.size, 3, none⟩ (.slice A3 N3 c3)).setCell ⟨w.heap.size, 2, none⟩ (.int .i64 tt)) := (But.setCell w3 w.heap.size 3 _).trans (But.setCell _ w.heap.size 2 _)
  have hb4 : Below w.heap.size w ((w3.setCell ⟨w.heap.size, 3, none⟩ (.slice A3 N3 c3)).setCell ⟨w.heap.size, 2, none⟩ (.int .i64 tt)) := (hb03.setCell (p := ⟨w.heap.size, 3, none⟩) (Nat.le_refl _) _).setCell (p := ⟨w.heap.size, 2, none⟩) (Nat.le_refl _) _
  have z4 := (bb.2 (w.heap.size + 1) (by omega)).trans z3
  have ho4 := ho3.but (by omega) bb
  have hAD := addrB (base' := w.heap.size) ho3 (by omega)
  clear z3 z2
  have wrp := HGT.out
  go_wp2_with fail
  generalize ((w3.setCell ⟨w.heap.size, 3, none⟩ (.slice A3 N3 c3)).setCell ⟨w.heap.size, 2, none⟩ (.int .i64 tt)) = w4 at e4 z4 ho4 hb4 ⊢
  clear e3 bb k0 k1 k2 k3 fz x3
  obtain ⟨k0, k1, k2, k3⟩ := cells4 e4
  obtain ⟨y0, y1, y2, y3⟩ := cells4 z4
  have fz := no_frozen z4
  go_region
  obtain ⟨hg2, hbut, hbel⟩ := set4 z4 (.int .i64 0) (.int .i64 0) (.int .i64 0) (.slice none 0 0)
  have hr5 := (ho4.but (by omega) hbut).same
  have hb5 := hbel _ _ hb4 (Nat.le_succ _)
  clear hbut hbel ho4 hb4
  generalize ((((w4.setCell ⟨w.heap.size + 1, 0, none⟩ (.int .i64 0)).setCell ⟨w.heap.size + 1, 1, none⟩ (.int .i64 0)).setCell ⟨w.heap.size + 1, 2, none⟩ (.int .i64 0)).setCell ⟨w.heap.size + 1, 3, none⟩ (.slice none 0 0)) = w5 at hg2 hr5 hb5 ⊢
  clear k0 k1 k2 k3 y0 y1 y2 y3 fz e4 z4
  obtain ⟨y0, y1, y2, y3⟩ := cells4 (w := w5.drew) hg2
  have HR := hidT hr5
  clear hr5
  go_wp2
  exact bodyPost_ret (v := .tuple #[.agg #[.int .i64 0, .int .i64 0, .int .i64 0, .slice none 0 0], .slice A3 N3 c3, .bool true, .int .i64 0]) (by simp [results, Try.results63, go_sem, y0, y1, y2, y3]) rfl ⟨none, 0, 0, A3, N3, c3, rfl, Rd.nil_ _, HR.out.drew, hb5.drew, no_addr, hAD⟩

set_option maxHeartbeats 4000000 in
theorem add_next_on (sq tt gt : Int) (b : List UInt8) (A : Option Addr) (n c : Nat) (seq : Int) (B : Option Addr) (m d : Nat) (pc : List UInt8) (w : World) (hr : Rd w A n c b) (hp : Rd w B m d pc) (hn : n ≤ 65536) (hm : m ≤ 65536)
    (hgt : gt ≠ 0) (h1 : 1 ≤ tt) (h2 : tt ≤ 32) (h3 : IntKind.i64.wrap (gt + 1) ≠ tt) :
    Calls Try.prog 63 #[.agg #[.int .i64 sq, .int .i64 tt, .int .i64 gt, .slice A n c], .int .i64 seq, .int .i64 gt, .int .i64 tt, .slice B m d] w (AddIsF w ⟨⟨sq, tt, IntKind.i64.wrap (gt + 1), b ++ pc⟩, [], false, 0⟩) := by
  obtain ⟨g0, g1, hb0⟩ := two_alloc w (.cells #[.int .i64 sq, .int .i64 tt, .int .i64 gt, .slice A n c] 25) (.cells #[.int .i64 0, .int .i64 0, .int .i64 0, .slice none 0 0] 25)
  have hs0 : w.heap.size < ((w.alloc (.cells #[.int .i64 sq, .int .i64 tt, .int .i64 gt, .slice A n c] 25)).alloc (.cells #[.int .i64 0, .int .i64 0, .int .i64 0, .slice none 0 0] 25)).heap.size := by simp only [size_alloc]; omega
  have hs1 : w.heap.size + 1 < ((w.alloc (.cells #[.int .i64 sq, .int .i64 tt, .int .i64 gt, .slice A n c] 25)).alloc (.cells #[.int .i64 0, .int .i64 0, .int .i64 0, .slice none 0 0] 25)).heap.size := by simp only [size_alloc]; omega
  obtain ⟨k0, k1, k2, k3⟩ := cells4 g0
  have hq := follows_any ⟨sq, tt, gt, b⟩ A n c gt tt ((w.alloc (.cells #[.int .i64 sq, .int .i64 tt, .int .i64 gt, .slice A n c] 25)).alloc (.cells #[.int .i64 0, .int .i64 0, .int .i64 0, .slice none 0 0] 25)) true (by simp [fits]; omega)
  dsimp only at hq
  have q0 : (gt == 0) = false := by simpa using hgt
  obtain ⟨GT, HGT⟩ : ∃ GT, Hid (IntKind.i64.wrap (gt + 1) = GT) := ⟨_, hidT rfl⟩
  rw [HGT.out] at h3 ⊢
  have q3 : (GT == tt) = false := by simpa using h3
  go_enter Try.func63, Try.ntmps63
  go_wp2_with fail
  with_reducible refine hq.mono ?_
  rintro e w1 ⟨rfl, hb1⟩
  have x1 := (hb1.block _ hs0).trans g0
  have z1 := (hb1.block _ hs1).trans g1
  have hl1 := hb1.size
  have hb01 := bthen hb0 hb1
  clear hq k0 k1 k2 k3 g0 g1
  obtain ⟨k0, k1, k2, k3⟩ := cells4 x1
  have hb02 := hb01
  have x2 := x1
  have z2 := z1
  obtain ⟨w2, hw2⟩ : ∃ w2, w1 = w2 := ⟨_, rfl⟩
  subst hw2
  have hsz2 : w1.heap.size = w1.heap.size := rfl
  have ra := (hr.below hb01).alloc (.cells #[.slice A n c, .slice B m d] 23)
  have hw3 := alloc_at w1 (.cells #[.slice A n c, .slice B m d] 23) _ rfl
  have hba := nkeep w1 (.cells #[.slice A n c, .slice B m d] 23)
  have hc := concat2 w1.heap.size A n c b B m d pc (w1.alloc (.cells #[.slice A n c, .slice B m d] 23)) (cell_at hw3 0 rfl) (cell_at hw3 1 rfl) ra ((hp.below hb02).alloc _) (by omega) hm
  clear hw3
  go_wp2_with fail
  with_reducible refine hc.mono ?_
  rintro e w3 ⟨A3, c3, rfl, ho3, hb3'⟩
  have hb3 := bthen hba hb3'
  have x3 := (hb3.block _ (by omega)).trans x2
  have z3 := (hb3.block _ (by omega)).trans z2
  have hb03 := bthen hb02 hb3
  have hl3 := hb3.size
  have hbase : w.heap.size + 1 < (w1.alloc (.cells #[.slice A n c, .slice B m d] 23)).heap.size := by rw [size_alloc]; omega
  clear hc x1 z1 k0 k1 k2 k3 hba hb3' ra
  obtain ⟨k0, k1, k2, k3⟩ := cells4 x3
  have fz := no_frozen x3
  have HL : Hid ((b ++ pc).length = (b ++ pc).length) := hidT rfl
  obtain ⟨N3, HN3⟩ : ∃ N3, Hid ((b ++ pc).length = N3) := ⟨_, hidT rfl⟩
  rw [HN3.out] at ho3 ⊢
  have e3 := heap_setCell_same w3 w.heap.size 3 _ _ (.slice A3 N3 c3) x3
  have e4 := heap_setCell_same _ w.heap.size 2 _ _ (.int .i64 GT) e3
  have bb : But w.heap.size w3 ((w3.setCell ⟨w.heap.size, 3, none⟩ (.slice A3 N3 c3)).setCell ⟨w.heap.size, 2, none⟩ (.int .i64 GT)) := (But.setCell w3 w.heap.size 3 _).trans (But.setCell _ w.heap.size 2 _)
  have hb4 : Below w.heap.size w ((w3.setCell ⟨w.heap.size, 3, none⟩ (.slice A3 N3 c3)).setCell ⟨w.heap.size, 2, none⟩ (.int .i64 GT)) := (hb03.setCell (p := ⟨w.heap.size, 3, none⟩) (Nat.le_refl _) _).setCell (p := ⟨w.heap.size, 2, none⟩) (Nat.le_refl _) _
  have z4 := (bb.2 (w.heap.size + 1) (by omega)).trans z3
  have ho4 := ho3.but (by omega) bb
  have hAD := addrB (base' := w.heap.size) ho3 (by omega)
  clear z3 z2
  have wrp := HGT.out
  go_wp2_with (
    refine wpList_stI rfl 25 (.tmp 10) (.tmp 47) rfl (w.heap.size + 1) #[.int .i64 sq, .int .i64 tt, .int .i64 GT, .slice A3 N3 c3] rfl rfl _ _ z4 infoPt rfl (all4 rfl rfl rfl rfl) ?_
    intro w9 hg9 hbut9 hbel9)
  obtain ⟨y0, y1, y2, y3⟩ := cells4 hg9
  exact bodyPost_ret (v := .tuple #[.agg #[.int .i64 sq, .int .i64 tt, .int .i64 GT, .slice A3 N3 c3], .slice none 0 0, .bool false, .int .i64 0]) (by simp [results, Try.results63, go_sem, y0, y1, y2, y3]) rfl ⟨_, _, _, _, _, _, rfl, (ho4.but (by omega) hbut9).same, Rd.nil_ _, hbel9 _ _ hb4 (Nat.le_succ _), hAD, no_addr⟩

theorem add_anyF (p : Pt) (A : Option Addr) (n c : Nat) (seq index total : Int) (B : Option Addr) (m d : Nat) (pc : List UInt8) (w : World) (hr : Rd w A n c p.b) (hp : Rd w B m d pc) (hn : n ≤ 65536) (hm : m ≤ 65536) :
    Calls Try.prog 63 #[.agg #[.int .i64 p.seq, .int .i64 p.total, .int .i64 p.got, .slice A n c], .int .i64 seq, .int .i64 index, .int .i64 total, .slice B m d] w (AddIsF w (addOf p seq index total pc)) := by
  obtain ⟨sq, tt, gt, b⟩ := p
  dsimp only at hr ⊢
  unfold addOf
  by_cases hf : fits ⟨sq, tt, gt, b⟩ index total = true
  · rw [if_pos hf]
    have hf' := hf
    simp only [fits, Bool.and_eq_true, decide_eq_true_eq, Bool.or_eq_true] at hf'
    obtain ⟨⟨⟨f1, f2⟩, rfl⟩, f4⟩ := hf'
    by_cases h0 : index = 0
    · subst h0
      have e : nextP ⟨sq, tt, 0, b⟩ seq total pc = ⟨seq, total, 1, pc⟩ := rfl
      rw [e]
      dsimp only
      by_cases h1 : 1 = total
      · subst h1
        rw [if_pos rfl]
        exact add_first_whole sq tt 0 b A n c seq B m d pc w hr hp hn hm rfl
      · rw [if_neg h1]
        exact add_first_on sq tt 0 b A n c seq total B m d pc w hr hp hn hm rfl (by omega) f2
    · obtain rfl : total = tt := by rcases f4 with h | h; exact absurd h h0; exact h
      have e : nextP ⟨sq, total, index, b⟩ seq total pc = ⟨sq, total, IntKind.i64.wrap (index + 1), b ++ pc⟩ := by unfold nextP; rw [if_neg h0]
      rw [e]
      dsimp only
      by_cases h1 : IntKind.i64.wrap (index + 1) = total
      · rw [if_pos h1]
        exact add_next_whole sq total index b A n c seq B m d pc w hr hp hn hm h0 f1 f2 h1
      · rw [if_neg h1]
        exact add_next_on sq total index b A n c seq B m d pc w hr hp hn hm h0 f1 f2 h1
  · rw [if_neg hf]
    exact add_no sq tt gt b A n c seq index total B m d pc w hr hp hn hm (by simpa using hf)

theorem add_any (p : Pt) (A : Option Addr) (n c : Nat) (seq index total : Int) (B : Option Addr) (m d : Nat) (pc : List UInt8) (w : World) (hr : Rd w A n c p.b) (hp : Rd w B m d pc) (hn : n ≤ 65536) (hm : m ≤ 65536) :
    Calls Try.prog 63 #[.agg #[.int .i64 p.seq, .int .i64 p.total, .int .i64 p.got, .slice A n c], .int .i64 seq, .int .i64 index, .int .i64 total, .slice B m d] w (AddIs w (addOf p seq index total pc)) :=
  (add_anyF p A n c seq index total B m d pc w hr hp hn hm).mono fun _ _ h => h.is
end Go.Proofs.Ytmlmkkfieeaejaa
