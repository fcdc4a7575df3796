/- What frag.Add and frag.Cut come to, with what they tell as the call's own. (Written by wip/gen/frago.py.) -/
import Derived.Test.YtapdlcfaghbjhaaFrag3
import Derived.Test.YtapdlcfaghbjhaaFrag5
set_option maxRecDepth 100000
namespace Go.Proofs.Ytapdlcfaghbjhaa
open Go.RowKit Go.Shelf
set_option linter.unusedVariables false

/-- A message under way, bytes that are the call's own, whether it is whole, and a code. -/
def AddIsO (w : World) (r : AddR) (e : Ending) (w' : World) : Prop :=
  ∃ A n c B m d, e = .returned (.tuple #[.agg #[.int .i64 r.p.seq, .int .i64 r.p.total, .int .i64 r.p.got, .slice A n c], .slice B m d, .bool r.whole, .int .i64 r.err]) ∧ Rd w' A n c r.p.b ∧ Own w' w.heap.size 5 (.slice B m d) m r.s ∧ Below w.heap.size w w' ∧ (∀ b o, A = some ⟨b, o, none⟩ → w.heap.size ≤ b)
/-- Pieces, in new memory. -/
def GivesO (w : World) (ls : List (List UInt8)) (e : Ending) (w' : World) : Prop :=
  ∃ (A : Option Addr) (n c : Nat) (rs : List Bw), e = .returned (.slice A n c) ∧ OwnV w' w.heap.size 22 (.slice A n c) n (rs.map Bw.val) ∧ (∀ r ∈ rs, Rd w' r.A r.n r.c r.b) ∧ (∀ r ∈ rs, ∀ b o, r.A = some ⟨b, o, none⟩ → w.heap.size ≤ b) ∧ rs.map Bw.b = ls ∧ Below w.heap.size w w'

set_option maxHeartbeats 4000000 in
theorem add_noO (sq tt gt : Int) (b : List UInt8) (A : Option Addr) (n c : Nat) (seq index total : Int) (B : Option Addr) (m d : Nat) (pc : List UInt8) (w : World) (hr : Rd w A n c b) (hp : Rd w B m d pc) (hn : n ≤ 65536) (hm : m ≤ 65536)
    (hf : fits ⟨sq, tt, gt, b⟩ index total = false) :
    Calls Try.prog 11 #[.agg #[.int .i64 sq, .int .i64 tt, .int .i64 gt, .slice A n c], .int .i64 seq, .int .i64 index, .int .i64 total, .slice B m d] w (AddIsO w ⟨⟨sq, tt, gt, b⟩, [], false, 2⟩) := by
  obtain ⟨g0, g1, hb0⟩ := two_alloc w (.cells #[.int .i64 sq, .int .i64 tt, .int .i64 gt, .slice A n c] 24) (.cells #[.int .i64 0, .int .i64 0, .int .i64 0, .slice none 0 0] 24)
  have hs0 : w.heap.size < ((w.alloc (.cells #[.int .i64 sq, .int .i64 tt, .int .i64 gt, .slice A n c] 24)).alloc (.cells #[.int .i64 0, .int .i64 0, .int .i64 0, .slice none 0 0] 24)).heap.size := by simp only [size_alloc]; omega
  have hs1 : w.heap.size + 1 < ((w.alloc (.cells #[.int .i64 sq, .int .i64 tt, .int .i64 gt, .slice A n c] 24)).alloc (.cells #[.int .i64 0, .int .i64 0, .int .i64 0, .slice none 0 0] 24)).heap.size := by simp only [size_alloc]; omega
  obtain ⟨k0, k1, k2, k3⟩ := cells4 g0
  have hq := follows_any ⟨sq, tt, gt, b⟩ A n c index total ((w.alloc (.cells #[.int .i64 sq, .int .i64 tt, .int .i64 gt, .slice A n c] 24)).alloc (.cells #[.int .i64 0, .int .i64 0, .int .i64 0, .slice none 0 0] 24)) false hf
  dsimp only at hq
  go_enter Try.func11, Try.ntmps11
  go_wp2_with fail
  with_reducible refine hq.mono ?_
  rintro e w1 ⟨rfl, hb1⟩
  have x1 := (hb1.block _ hs0).trans g0
  have z1 := (hb1.block _ hs1).trans g1
  have hl1 := hb1.size
  have hb01 := bthen hb0 hb1
  clear hq k0 k1 k2 k3 g0 g1
  obtain ⟨k0, k1, k2, k3⟩ := cells4 x1
  have hc := clone_any A n c b w1 (hr.below hb01) hn
  go_wp2_with fail
  with_reducible refine hc.mono ?_
  rintro e w2 ⟨A2, c2, rfl, ho2, hb2⟩
  have x2 := (hb2.block _ (by omega)).trans x1
  have z2 := (hb2.block _ (by omega)).trans z1
  have hb02 := bthen hb01 hb2
  clear hc x1 z1 k0 k1 k2 k3
  obtain ⟨k0, k1, k2, k3⟩ := cells4 x2
  have fz := no_frozen x2
  have HG := ((But.setCell w2 w.heap.size 3 (.slice A2 b.length c2)).2 (w.heap.size + 1) (by omega)).trans z2
  have ho3 := ho2.but (by omega) (But.setCell w2 w.heap.size 3 (.slice A2 b.length c2))
  have hb3 := hb02.setCell (p := ⟨w.heap.size, 3, none⟩) (Nat.le_refl _) (.slice A2 b.length c2)
  go_wp2_with (
    refine wpList_stI rfl 24 (.tmp 10) (.tmp 23) rfl (w.heap.size + 1) #[.int .i64 sq, .int .i64 tt, .int .i64 gt, .slice A2 b.length c2] rfl rfl _ _ HG infoPt rfl (all4 rfl rfl rfl rfl) ?_
    intro w9 hg9 hbut9 hbel9)
  obtain ⟨y0, y1, y2, y3⟩ := cells4 hg9
  exact bodyPost_ret (v := .tuple #[.agg #[.int .i64 sq, .int .i64 tt, .int .i64 gt, .slice A2 b.length c2], .slice none 0 0, .bool false, .int .i64 2]) (by simp [results, Try.results11, go_sem, y0, y1, y2, y3]) rfl ⟨_, _, _, _, _, _, rfl, (ho3.but (by omega) hbut9).same, World.ownsRow_nil _ _ _ _, hbel9 _ _ hb3 (Nat.le_succ _), addrB ho3 hb01.size⟩

set_option maxHeartbeats 4000000 in
theorem add_first_wholeO (sq tt gt : Int) (b : List UInt8) (A : Option Addr) (n c : Nat) (seq : Int) (B : Option Addr) (m d : Nat) (pc : List UInt8) (w : World) (hr : Rd w A n c b) (hp : Rd w B m d pc) (hn : n ≤ 65536) (hm : m ≤ 65536)
    (hgt : gt = 0) :
    Calls Try.prog 11 #[.agg #[.int .i64 sq, .int .i64 tt, .int .i64 gt, .slice A n c], .int .i64 seq, .int .i64 gt, .int .i64 1, .slice B m d] w (AddIsO w ⟨none_, [] ++ pc, true, 0⟩) := by
  obtain ⟨g0, g1, hb0⟩ := two_alloc w (.cells #[.int .i64 sq, .int .i64 tt, .int .i64 gt, .slice A n c] 24) (.cells #[.int .i64 0, .int .i64 0, .int .i64 0, .slice none 0 0] 24)
  have hs0 : w.heap.size < ((w.alloc (.cells #[.int .i64 sq, .int .i64 tt, .int .i64 gt, .slice A n c] 24)).alloc (.cells #[.int .i64 0, .int .i64 0, .int .i64 0, .slice none 0 0] 24)).heap.size := by simp only [size_alloc]; omega
  have hs1 : w.heap.size + 1 < ((w.alloc (.cells #[.int .i64 sq, .int .i64 tt, .int .i64 gt, .slice A n c] 24)).alloc (.cells #[.int .i64 0, .int .i64 0, .int .i64 0, .slice none 0 0] 24)).heap.size := by simp only [size_alloc]; omega
  obtain ⟨k0, k1, k2, k3⟩ := cells4 g0
  have hq := follows_any ⟨sq, tt, gt, b⟩ A n c gt 1 ((w.alloc (.cells #[.int .i64 sq, .int .i64 tt, .int .i64 gt, .slice A n c] 24)).alloc (.cells #[.int .i64 0, .int .i64 0, .int .i64 0, .slice none 0 0] 24)) true (by subst hgt; simp [fits])
  dsimp only at hq
  subst hgt
  go_enter Try.func11, Try.ntmps11
  go_wp2_with fail
  with_reducible refine hq.mono ?_
  rintro e w1 ⟨rfl, hb1⟩
  have x1 := (hb1.block _ hs0).trans g0
  have z1 := (hb1.block _ hs1).trans g1
  have hl1 := hb1.size
  have hb01 := bthen hb0 hb1
  clear hq k0 k1 k2 k3 g0 g1
  obtain ⟨k0, k1, k2, k3⟩ := cells4 x1
  go_wp2_with (
    refine wpList_stI rfl 24 (.tmp 5) (.tmp 29) rfl w.heap.size #[.int .i64 seq, .int .i64 1, .int .i64 0, .slice none 0 0] rfl rfl _ _ x1 infoPt rfl (all4 rfl rfl rfl rfl) ?_
    intro w2 x2 but2 bel2
    obtain ⟨j0, j1, j2, j3⟩ := cells4 x2)
  have hsz2 := but2.1
  have z2 := (but2.2 (w.heap.size + 1) (by omega)).trans z1
  have hb02 := bel2 _ _ hb01 (Nat.le_refl _)
  have ra := Rd.nil_ (w2.alloc (.cells #[.slice none 0 0, .slice B m d] 22))
  have A' : Option Addr := none
  have hw3 := alloc_at w2 (.cells #[.slice none 0 0, .slice B m d] 22) _ rfl
  have hba := nkeep w2 (.cells #[.slice none 0 0, .slice B m d] 22)
  have hc := concat2 w2.heap.size none 0 0 [] B m d pc (w2.alloc (.cells #[.slice none 0 0, .slice B m d] 22)) (cell_at hw3 0 rfl) (cell_at hw3 1 rfl) ra ((hp.below hb02).alloc _) (by omega) hm
  clear hw3
  with_reducible refine hc.mono ?_
  rintro e w3 ⟨A3, c3, rfl, ho3, hb3'⟩
  have hb3 := bthen hba hb3'
  have x3 := (hb3.block _ (by omega)).trans x2
  have z3 := (hb3.block _ (by omega)).trans z2
  have hb03 := bthen hb02 hb3
  have hl3 := hb3.size
  have hbase : w.heap.size + 1 < (w2.alloc (.cells #[.slice none 0 0, .slice B m d] 22)).heap.size := by rw [size_alloc]; omega
  clear hc x1 z1 k0 k1 k2 k3 hba hb3' ra
  obtain ⟨k0, k1, k2, k3⟩ := cells4 x3
  have fz := no_frozen x3
  have HL : Hid (([] ++ pc).length = ([] ++ pc).length) := hidT rfl
  obtain ⟨N3, HN3⟩ : ∃ N3, Hid (([] ++ pc).length = N3) := ⟨_, hidT rfl⟩
  rw [HN3.out] at ho3 ⊢
  have e3 := heap_setCell_same w3 w.heap.size 3 _ _ (.slice A3 N3 c3) x3
  have e4 := heap_setCell_same _ w.heap.size 2 _ _ (.int .i64 1) e3
  have bb : But w.heap.size w3 ((w3.setCell ⟨w.heap.size, 3, none⟩ (.slice A3 N3 c3)).setCell ⟨w.heap.size, 2, none⟩ (.int .i64 1)) := (But.setCell w3 w.heap.size 3 _).trans (But.setCell _ w.heap.size 2 _)
  have hb4 : Below w.heap.size w ((w3.setCell ⟨w.heap.size, 3, none⟩ (.slice A3 N3 c3)).setCell ⟨w.heap.size, 2, none⟩ (.int .i64 1)) := (hb03.setCell (p := ⟨w.heap.size, 3, none⟩) (Nat.le_refl _) _).setCell (p := ⟨w.heap.size, 2, none⟩) (Nat.le_refl _) _
  have z4 := (bb.2 (w.heap.size + 1) (by omega)).trans z3
  have ho4 := ho3.but (by omega) bb
  have hAD := addrB (base' := w.heap.size) ho3 (by omega)
  clear z3 z2
  go_wp2_with fail
  generalize ((w3.setCell ⟨w.heap.size, 3, none⟩ (.slice A3 N3 c3)).setCell ⟨w.heap.size, 2, none⟩ (.int .i64 1)) = w4 at e4 z4 ho4 hb4 ⊢
  clear e3 bb k0 k1 k2 k3 fz x3
  obtain ⟨k0, k1, k2, k3⟩ := cells4 e4
  obtain ⟨y0, y1, y2, y3⟩ := cells4 z4
  have fz := no_frozen z4
  go_region
  obtain ⟨hg2, hbut, hbel⟩ := set4 z4 (.int .i64 0) (.int .i64 0) (.int .i64 0) (.slice none 0 0)
  have hr5 := Own.mono (base' := w.heap.size) (ho4.but (by omega) hbut) (by omega)
  have hb5 := hbel _ _ hb4 (Nat.le_succ _)
  clear hbut hbel ho4 hb4
  generalize ((((w4.setCell ⟨w.heap.size + 1, 0, none⟩ (.int .i64 0)).setCell ⟨w.heap.size + 1, 1, none⟩ (.int .i64 0)).setCell ⟨w.heap.size + 1, 2, none⟩ (.int .i64 0)).setCell ⟨w.heap.size + 1, 3, none⟩ (.slice none 0 0)) = w5 at hg2 hr5 hb5 ⊢
  clear k0 k1 k2 k3 y0 y1 y2 y3 fz e4 z4
  obtain ⟨y0, y1, y2, y3⟩ := cells4 (w := w5.drew) hg2
  have HR := hidT hr5
  clear hr5
  go_wp2
  exact bodyPost_ret (v := .tuple #[.agg #[.int .i64 0, .int .i64 0, .int .i64 0, .slice none 0 0], .slice A3 N3 c3, .bool true, .int .i64 0]) (by simp [results, Try.results11, go_sem, y0, y1, y2, y3]) rfl ⟨none, 0, 0, A3, N3, c3, rfl, Rd.nil_ _, HR.out, hb5.drew, no_addr⟩

set_option maxHeartbeats 4000000 in
theorem add_first_onO (sq tt gt : Int) (b : List UInt8) (A : Option Addr) (n c : Nat) (seq total : Int) (B : Option Addr) (m d : Nat) (pc : List UInt8) (w : World) (hr : Rd w A n c b) (hp : Rd w B m d pc) (hn : n ≤ 65536) (hm : m ≤ 65536)
    (hgt : gt = 0) (h1 : 2 ≤ total) (h2 : total ≤ 32) :
    Calls Try.prog 11 #[.agg #[.int .i64 sq, .int .i64 tt, .int .i64 gt, .slice A n c], .int .i64 seq, .int .i64 gt, .int .i64 total, .slice B m d] w (AddIsO w ⟨⟨seq, total, 1, [] ++ pc⟩, [], false, 0⟩) := by
  obtain ⟨g0, g1, hb0⟩ := two_alloc w (.cells #[.int .i64 sq, .int .i64 tt, .int .i64 gt, .slice A n c] 24) (.cells #[.int .i64 0, .int .i64 0, .int .i64 0, .slice none 0 0] 24)
  have hs0 : w.heap.size < ((w.alloc (.cells #[.int .i64 sq, .int .i64 tt, .int .i64 gt, .slice A n c] 24)).alloc (.cells #[.int .i64 0, .int .i64 0, .int .i64 0, .slice none 0 0] 24)).heap.size := by simp only [size_alloc]; omega
  have hs1 : w.heap.size + 1 < ((w.alloc (.cells #[.int .i64 sq, .int .i64 tt, .int .i64 gt, .slice A n c] 24)).alloc (.cells #[.int .i64 0, .int .i64 0, .int .i64 0, .slice none 0 0] 24)).heap.size := by simp only [size_alloc]; omega
  obtain ⟨k0, k1, k2, k3⟩ := cells4 g0
  have hq := follows_any ⟨sq, tt, gt, b⟩ A n c gt total ((w.alloc (.cells #[.int .i64 sq, .int .i64 tt, .int .i64 gt, .slice A n c] 24)).alloc (.cells #[.int .i64 0, .int .i64 0, .int .i64 0, .slice none 0 0] 24)) true (by subst hgt; simp [fits]; omega)
  dsimp only at hq
  subst hgt
  go_enter Try.func11, Try.ntmps11
  go_wp2_with fail
  with_reducible refine hq.mono ?_
  rintro e w1 ⟨rfl, hb1⟩
  have x1 := (hb1.block _ hs0).trans g0
  have z1 := (hb1.block _ hs1).trans g1
  have hl1 := hb1.size
  have hb01 := bthen hb0 hb1
  clear hq k0 k1 k2 k3 g0 g1
  obtain ⟨k0, k1, k2, k3⟩ := cells4 x1
  go_wp2_with (
    refine wpList_stI rfl 24 (.tmp 5) (.tmp 29) rfl w.heap.size #[.int .i64 seq, .int .i64 total, .int .i64 0, .slice none 0 0] rfl rfl _ _ x1 infoPt rfl (all4 rfl rfl rfl rfl) ?_
    intro w2 x2 but2 bel2
    obtain ⟨j0, j1, j2, j3⟩ := cells4 x2)
  have hsz2 := but2.1
  have z2 := (but2.2 (w.heap.size + 1) (by omega)).trans z1
  have hb02 := bel2 _ _ hb01 (Nat.le_refl _)
  have ra := Rd.nil_ (w2.alloc (.cells #[.slice none 0 0, .slice B m d] 22))
  have A' : Option Addr := none
  have hw3 := alloc_at w2 (.cells #[.slice none 0 0, .slice B m d] 22) _ rfl
  have hba := nkeep w2 (.cells #[.slice none 0 0, .slice B m d] 22)
  have hc := concat2 w2.heap.size none 0 0 [] B m d pc (w2.alloc (.cells #[.slice none 0 0, .slice B m d] 22)) (cell_at hw3 0 rfl) (cell_at hw3 1 rfl) ra ((hp.below hb02).alloc _) (by omega) hm
  clear hw3
  with_reducible refine hc.mono ?_
  rintro e w3 ⟨A3, c3, rfl, ho3, hb3'⟩
  have hb3 := bthen hba hb3'
  have x3 := (hb3.block _ (by omega)).trans x2
  have z3 := (hb3.block _ (by omega)).trans z2
  have hb03 := bthen hb02 hb3
  have hl3 := hb3.size
  have hbase : w.heap.size + 1 < (w2.alloc (.cells #[.slice none 0 0, .slice B m d] 22)).heap.size := by rw [size_alloc]; omega
  clear hc x1 z1 k0 k1 k2 k3 hba hb3' ra
  obtain ⟨k0, k1, k2, k3⟩ := cells4 x3
  have fz := no_frozen x3
  have HL : Hid (([] ++ pc).length = ([] ++ pc).length) := hidT rfl
  obtain ⟨N3, HN3⟩ : ∃ N3, Hid (([] ++ pc).length = N3) := ⟨_, hidT rfl⟩
  rw [HN3.out] at ho3 ⊢
  have e3 := heap_setCell_same w3 w.heap.size 3 _ _ (.slice A3 N3 c3) x3
  have e4 := heap_setCell_same _ w.heap.size 2 _ _ (.int .i64 1) e3
  have bb : But w.heap.size w3 ((w3.setCell ⟨w.heap.size, 3, none⟩ (.slice A3 N3 c3)).setCell ⟨w.heap.size, 2, none⟩ (.int .i64 1)) := (But.setCell w3 w.heap.size 3 _).trans (But.setCell _ w.heap.size 2 _)
  have hb4 : Below w.heap.size w ((w3.setCell ⟨w.heap.size, 3, none⟩ (.slice A3 N3 c3)).setCell ⟨w.heap.size, 2, none⟩ (.int .i64 1)) := (hb03.setCell (p := ⟨w.heap.size, 3, none⟩) (Nat.le_refl _) _).setCell (p := ⟨w.heap.size, 2, none⟩) (Nat.le_refl _) _
  have z4 := (bb.2 (w.heap.size + 1) (by omega)).trans z3
  have ho4 := ho3.but (by omega) bb
  have hAD := addrB (base' := w.heap.size) ho3 (by omega)
  clear z3 z2
  go_wp2_with (
    refine wpList_stI rfl 24 (.tmp 10) (.tmp 47) rfl (w.heap.size + 1) #[.int .i64 seq, .int .i64 total, .int .i64 1, .slice A3 N3 c3] rfl rfl _ _ z4 infoPt rfl (all4 rfl rfl rfl rfl) ?_
    intro w9 hg9 hbut9 hbel9)
  obtain ⟨y0, y1, y2, y3⟩ := cells4 hg9
  exact bodyPost_ret (v := .tuple #[.agg #[.int .i64 seq, .int .i64 total, .int .i64 1, .slice A3 N3 c3], .slice none 0 0, .bool false, .int .i64 0]) (by simp [results, Try.results11, go_sem, y0, y1, y2, y3]) rfl ⟨_, _, _, _, _, _, rfl, (ho4.but (by omega) hbut9).same, World.ownsRow_nil _ _ _ _, hbel9 _ _ hb4 (Nat.le_succ _), hAD⟩

set_option maxHeartbeats 4000000 in
theorem add_next_wholeO (sq tt gt : Int) (b : List UInt8) (A : Option Addr) (n c : Nat) (seq : Int) (B : Option Addr) (m d : Nat) (pc : List UInt8) (w : World) (hr : Rd w A n c b) (hp : Rd w B m d pc) (hn : n ≤ 65536) (hm : m ≤ 65536)
    (hgt : gt ≠ 0) (h1 : 1 ≤ tt) (h2 : tt ≤ 32) (h3 : IntKind.i64.wrap (gt + 1) = tt) :
    Calls Try.prog 11 #[.agg #[.int .i64 sq, .int .i64 tt, .int .i64 gt, .slice A n c], .int .i64 seq, .int .i64 gt, .int .i64 tt, .slice B m d] w (AddIsO w ⟨none_, b ++ pc, true, 0⟩) := by
  obtain ⟨g0, g1, hb0⟩ := two_alloc w (.cells #[.int .i64 sq, .int .i64 tt, .int .i64 gt, .slice A n c] 24) (.cells #[.int .i64 0, .int .i64 0, .int .i64 0, .slice none 0 0] 24)
  have hs0 : w.heap.size < ((w.alloc (.cells #[.int .i64 sq, .int .i64 tt, .int .i64 gt, .slice A n c] 24)).alloc (.cells #[.int .i64 0, .int .i64 0, .int .i64 0, .slice none 0 0] 24)).heap.size := by simp only [size_alloc]; omega
  have hs1 : w.heap.size + 1 < ((w.alloc (.cells #[.int .i64 sq, .int .i64 tt, .int .i64 gt, .slice A n c] 24)).alloc (.cells #[.int .i64 0, .int .i64 0, .int .i64 0, .slice none 0 0] 24)).heap.size := by simp only [size_alloc]; omega
  obtain ⟨k0, k1, k2, k3⟩ := cells4 g0
  have hq := follows_any ⟨sq, tt, gt, b⟩ A n c gt tt ((w.alloc (.cells #[.int .i64 sq, .int .i64 tt, .int .i64 gt, .slice A n c] 24)).alloc (.cells #[.int .i64 0, .int .i64 0, .int .i64 0, .slice none 0 0] 24)) true (by simp [fits]; omega)
  dsimp only at hq
  have q0 : (gt == 0) = false := by simpa using hgt
  have HGT : Hid (IntKind.i64.wrap (gt + 1) = tt) := hidT h3
  clear h3
  go_enter Try.func11, Try.ntmps11
  go_wp2_with fail
  with_reducible refine hq.mono ?_
  rintro e w1 ⟨rfl, hb1⟩
  have x1 := (hb1.block _ hs0).trans g0
  have z1 := (hb1.block _ hs1).trans g1
  have hl1 := hb1.size
  have hb01 := bthen hb0 hb1
  clear hq k0 k1 k2 k3 g0 g1
  obtain ⟨k0, k1, k2, k3⟩ := cells4 x1
  have hb02 := hb01
  have x2 := x1
  have z2 := z1
  obtain ⟨w2, hw2⟩ : ∃ w2, w1 = w2 := ⟨_, rfl⟩
  subst hw2
  have hsz2 : w1.heap.size = w1.heap.size := rfl
  have ra := (hr.below hb01).alloc (.cells #[.slice A n c, .slice B m d] 22)
  have hw3 := alloc_at w1 (.cells #[.slice A n c, .slice B m d] 22) _ rfl
  have hba := nkeep w1 (.cells #[.slice A n c, .slice B m d] 22)
  have hc := concat2 w1.heap.size A n c b B m d pc (w1.alloc (.cells #[.slice A n c, .slice B m d] 22)) (cell_at hw3 0 rfl) (cell_at hw3 1 rfl) ra ((hp.below hb02).alloc _) (by omega) hm
  clear hw3
  go_wp2_with fail
  with_reducible refine hc.mono ?_
  rintro e w3 ⟨A3, c3, rfl, ho3, hb3'⟩
  have hb3 := bthen hba hb3'
  have x3 := (hb3.block _ (by omega)).trans x2
  have z3 := (hb3.block _ (by omega)).trans z2
  have hb03 := bthen hb02 hb3
  have hl3 := hb3.size
  have hbase : w.heap.size + 1 < (w1.alloc (.cells #[.slice A n c, .slice B m d] 22)).heap.size := by rw [size_alloc]; omega
  clear hc x1 z1 k0 k1 k2 k3 hba hb3' ra
  obtain ⟨k0, k1, k2, k3⟩ := cells4 x3
  have fz := no_frozen x3
  have HL : Hid ((b ++ pc).length = (b ++ pc).length) := hidT rfl
  obtain ⟨N3, HN3⟩ : ∃ N3, Hid ((b ++ pc).length = N3) := ⟨_, hidT rfl⟩
  rw [HN3.out] at ho3 ⊢
  have e3 := heap_setCell_same w3 w.heap.size 3 _ _ (.slice A3 N3 c3) x3
  have e4 := heap_setCell_same _ w.heap.size 2 _ _ (.int .i64 tt) e3
  have bb : But w.heap.size w3 ((w3.setCell ⟨w.heap.size, 3, none⟩ (.slice A3 N3 c3)).setCell ⟨w.heap.size, 2, none⟩ (.int .i64 tt)) := (But.setCell w3 w.heap.size 3 _).trans (But.setCell _ w.heap.size 2 _)
  have hb4 : Below w.heap.size w ((w3.setCell ⟨w.heap.size, 3, none⟩ (.slice A3 N3 c3)).setCell ⟨w.heap.size, 2, none⟩ (.int .i64 tt)) := (hb03.setCell (p := ⟨w.heap.size, 3, none⟩) (Nat.le_refl _) _).setCell (p := ⟨w.heap.size, 2, none⟩) (Nat.le_refl _) _
  have z4 := (bb.2 (w.heap.size + 1) (by omega)).trans z3
  have ho4 := ho3.but (by omega) bb
  have hAD := addrB (base' := w.heap.size) ho3 (by omega)
  clear z3 z2
  have wrp := HGT.out
  go_wp2_with fail
  generalize ((w3.setCell ⟨w.heap.size, 3, none⟩ (.slice A3 N3 c3)).setCell ⟨w.heap.size, 2, none⟩ (.int .i64 tt)) = w4 at e4 z4 ho4 hb4 ⊢
  clear e3 bb k0 k1 k2 k3 fz x3
  obtain ⟨k0, k1, k2, k3⟩ := cells4 e4
  obtain ⟨y0, y1, y2, y3⟩ := cells4 z4
  have fz := no_frozen z4
  go_region
  obtain ⟨hg2, hbut, hbel⟩ := set4 z4 (.int .i64 0) (.int .i64 0) (.int .i64 0) (.slice none 0 0)
  have hr5 := Own.mono (base' := w.heap.size) (ho4.but (by omega) hbut) (by omega)
  have hb5 := hbel _ _ hb4 (Nat.le_succ _)
  clear hbut hbel ho4 hb4
  generalize ((((w4.setCell ⟨w.heap.size + 1, 0, none⟩ (.int .i64 0)).setCell ⟨w.heap.size + 1, 1, none⟩ (.int .i64 0)).setCell ⟨w.heap.size + 1, 2, none⟩ (.int .i64 0)).setCell ⟨w.heap.size + 1, 3, none⟩ (.slice none 0 0)) = w5 at hg2 hr5 hb5 ⊢
  clear k0 k1 k2 k3 y0 y1 y2 y3 fz e4 z4
  obtain ⟨y0, y1, y2, y3⟩ := cells4 (w := w5.drew) hg2
  have HR := hidT hr5
  clear hr5
  go_wp2
  exact bodyPost_ret (v := .tuple #[.agg #[.int .i64 0, .int .i64 0, .int .i64 0, .slice none 0 0], .slice A3 N3 c3, .bool true, .int .i64 0]) (by simp [results, Try.results11, go_sem, y0, y1, y2, y3]) rfl ⟨none, 0, 0, A3, N3, c3, rfl, Rd.nil_ _, HR.out, hb5.drew, no_addr⟩

set_option maxHeartbeats 4000000 in
theorem add_next_onO (sq tt gt : Int) (b : List UInt8) (A : Option Addr) (n c : Nat) (seq : Int) (B : Option Addr) (m d : Nat) (pc : List UInt8) (w : World) (hr : Rd w A n c b) (hp : Rd w B m d pc) (hn : n ≤ 65536) (hm : m ≤ 65536)
    (hgt : gt ≠ 0) (h1 : 1 ≤ tt) (h2 : tt ≤ 32) (h3 : IntKind.i64.wrap (gt + 1) ≠ tt) :
    Calls Try.prog 11 #[.agg #[.int .i64 sq, .int .i64 tt, .int .i64 gt, .slice A n c], .int .i64 seq, .int .i64 gt, .int .i64 tt, .slice B m d] w (AddIsO w ⟨⟨sq, tt, IntKind.i64.wrap (gt + 1), b ++ pc⟩, [], false, 0⟩) := by
  obtain ⟨g0, g1, hb0⟩ := two_alloc w (.cells #[.int .i64 sq, .int .i64 tt, .int .i64 gt, .slice A n c] 24) (.cells #[.int .i64 0, .int .i64 0, .int .i64 0, .slice none 0 0] 24)
  have hs0 : w.heap.size < ((w.alloc (.cells #[.int .i64 sq, .int .i64 tt, .int .i64 gt, .slice A n c] 24)).alloc (.cells #[.int .i64 0, .int .i64 0, .int .i64 0, .slice none 0 0] 24)).heap.size := by simp only [size_alloc]; omega
  have hs1 : w.heap.size + 1 < ((w.alloc (.cells #[.int .i64 sq, .int .i64 tt, .int .i64 gt, .slice A n c] 24)).alloc (.cells #[.int .i64 0, .int .i64 0, .int .i64 0, .slice none 0 0] 24)).heap.size := by simp only [size_alloc]; omega
  obtain ⟨k0, k1, k2, k3⟩ := cells4 g0
  have hq := follows_any ⟨sq, tt, gt, b⟩ A n c gt tt ((w.alloc (.cells #[.int .i64 sq, .int .i64 tt, .int .i64 gt, .slice A n c] 24)).alloc (.cells #[.int .i64 0, .int .i64 0, .int .i64 0, .slice none 0 0] 24)) true (by simp [fits]; omega)
  dsimp only at hq
  have q0 : (gt == 0) = false := by simpa using hgt
  obtain ⟨GT, HGT⟩ : ∃ GT, Hid (IntKind.i64.wrap (gt + 1) = GT) := ⟨_, hidT rfl⟩
  rw [HGT.out] at h3 ⊢
  have q3 : (GT == tt) = false := by simpa using h3
  go_enter Try.func11, Try.ntmps11
  go_wp2_with fail
  with_reducible refine hq.mono ?_
  rintro e w1 ⟨rfl, hb1⟩
  have x1 := (hb1.block _ hs0).trans g0
  have z1 := (hb1.block _ hs1).trans g1
  have hl1 := hb1.size
  have hb01 := bthen hb0 hb1
  clear hq k0 k1 k2 k3 g0 g1
  obtain ⟨k0, k1, k2, k3⟩ := cells4 x1
  have hb02 := hb01
  have x2 := x1
  have z2 := z1
  obtain ⟨w2, hw2⟩ : ∃ w2, w1 = w2 := ⟨_, rfl⟩
  subst hw2
  have hsz2 : w1.heap.size = w1.heap.size := rfl
  have ra := (hr.below hb01).alloc (.cells #[.slice A n c, .slice B m d] 22)
  have hw3 := alloc_at w1 (.cells #[.slice A n c, .slice B m d] 22) _ rfl
  have hba := nkeep w1 (.cells #[.slice A n c, .slice B m d] 22)
  have hc := concat2 w1.heap.size A n c b B m d pc (w1.alloc (.cells #[.slice A n c, .slice B m d] 22)) (cell_at hw3 0 rfl) (cell_at hw3 1 rfl) ra ((hp.below hb02).alloc _) (by omega) hm
  clear hw3
  go_wp2_with fail
  with_reducible refine hc.mono ?_
  rintro e w3 ⟨A3, c3, rfl, ho3, hb3'⟩
  have hb3 := bthen hba hb3'
  have x3 := (hb3.block _ (by omega)).trans x2
  have z3 := (hb3.block _ (by omega)).trans z2
  have hb03 := bthen hb02 hb3
  have hl3 := hb3.size
  have hbase : w.heap.size + 1 < (w1.alloc (.cells #[.slice A n c, .slice B m d] 22)).heap.size := by rw [size_alloc]; omega
  clear hc x1 z1 k0 k1 k2 k3 hba hb3' ra
  obtain ⟨k0, k1, k2, k3⟩ := cells4 x3
  have fz := no_frozen x3
  have HL : Hid ((b ++ pc).length = (b ++ pc).length) := hidT rfl
  obtain ⟨N3, HN3⟩ : ∃ N3, Hid ((b ++ pc).length = N3) := ⟨_, hidT rfl⟩
  rw [HN3.out] at ho3 ⊢
  have e3 := heap_setCell_same w3 w.heap.size 3 _ _ (.slice A3 N3 c3) x3
  have e4 := heap_setCell_same _ w.heap.size 2 _ _ (.int .i64 GT) e3
  have bb : But w.heap.size w3 ((w3.setCell ⟨w.heap.size, 3, none⟩ (.slice A3 N3 c3)).setCell ⟨w.heap.size, 2, none⟩ (.int .i64 GT)) := (But.setCell w3 w.heap.size 3 _).trans (But.setCell _ w.heap.size 2 _)
  have hb4 : Below w.heap.size w ((w3.setCell ⟨w.heap.size, 3, none⟩ (.slice A3 N3 c3)).setCell ⟨w.heap.size, 2, none⟩ (.int .i64 GT)) := (hb03.setCell (p := ⟨w.heap.size, 3, none⟩) (Nat.le_refl _) _).setCell (p := ⟨w.heap.size, 2, none⟩) (Nat.le_refl _) _
  have z4 := (bb.2 (w.heap.size + 1) (by omega)).trans z3
  have ho4 := ho3.but (by omega) bb
  have hAD := addrB (base' := w.heap.size) ho3 (by omega)
  clear z3 z2
  have wrp := HGT.out
  go_wp2_with (
    refine wpList_stI rfl 24 (.tmp 10) (.tmp 47) rfl (w.heap.size + 1) #[.int .i64 sq, .int .i64 tt, .int .i64 GT, .slice A3 N3 c3] rfl rfl _ _ z4 infoPt rfl (all4 rfl rfl rfl rfl) ?_
    intro w9 hg9 hbut9 hbel9)
  obtain ⟨y0, y1, y2, y3⟩ := cells4 hg9
  exact bodyPost_ret (v := .tuple #[.agg #[.int .i64 sq, .int .i64 tt, .int .i64 GT, .slice A3 N3 c3], .slice none 0 0, .bool false, .int .i64 0]) (by simp [results, Try.results11, go_sem, y0, y1, y2, y3]) rfl ⟨_, _, _, _, _, _, rfl, (ho4.but (by omega) hbut9).same, World.ownsRow_nil _ _ _ _, hbel9 _ _ hb4 (Nat.le_succ _), hAD⟩

theorem add_anyO (p : Pt) (A : Option Addr) (n c : Nat) (seq index total : Int) (B : Option Addr) (m d : Nat) (pc : List UInt8) (w : World) (hr : Rd w A n c p.b) (hp : Rd w B m d pc) (hn : n ≤ 65536) (hm : m ≤ 65536) :
    Calls Try.prog 11 #[.agg #[.int .i64 p.seq, .int .i64 p.total, .int .i64 p.got, .slice A n c], .int .i64 seq, .int .i64 index, .int .i64 total, .slice B m d] w (AddIsO w (addOf p seq index total pc)) := by
  obtain ⟨sq, tt, gt, b⟩ := p
  dsimp only at hr ⊢
  unfold addOf
  by_cases hf : fits ⟨sq, tt, gt, b⟩ index total = true
  · rw [if_pos hf]
    have hf' := hf
    simp only [fits, Bool.and_eq_true, decide_eq_true_eq, Bool.or_eq_true] at hf'
    obtain ⟨⟨⟨f1, f2⟩, rfl⟩, f4⟩ := hf'
    by_cases h0 : index = 0
    · subst h0
      have e : nextP ⟨sq, tt, 0, b⟩ seq total pc = ⟨seq, total, 1, pc⟩ := rfl
      rw [e]
      dsimp only
      by_cases h1 : 1 = total
      · subst h1
        rw [if_pos rfl]
        exact add_first_wholeO sq tt 0 b A n c seq B m d pc w hr hp hn hm rfl
      · rw [if_neg h1]
        exact add_first_onO sq tt 0 b A n c seq total B m d pc w hr hp hn hm rfl (by omega) f2
    · obtain rfl : total = tt := by rcases f4 with h | h; exact absurd h h0; exact h
      have e : nextP ⟨sq, total, index, b⟩ seq total pc = ⟨sq, total, IntKind.i64.wrap (index + 1), b ++ pc⟩ := by unfold nextP; rw [if_neg h0]
      rw [e]
      dsimp only
      by_cases h1 : IntKind.i64.wrap (index + 1) = total
      · rw [if_pos h1]
        exact add_next_wholeO sq total index b A n c seq B m d pc w hr hp hn hm h0 f1 f2 h1
      · rw [if_neg h1]
        exact add_next_onO sq total index b A n c seq B m d pc w hr hp hn hm h0 f1 f2 h1
  · rw [if_neg hf]
    exact add_noO sq tt gt b A n c seq index total B m d pc w hr hp hn hm (by simpa using hf)

section
attribute [local go_sem] Oper.semAt_some
set_option maxRecDepth 100000 in
set_option maxHeartbeats 2000000 in
theorem cut_someO (A : Option Addr) (n c : Nat) (l : List UInt8) (m : Nat) (w : World) (h : Rd w A n c l) (hn : n ≤ 65536) (hm : 1 ≤ m) (hmm : m ≤ 9223372036854775807) :
    Calls Try.prog 16 #[.slice A n c, .int .i64 (m : Int)] w (GivesO w (cutOf l m)) := by
  have q1 : decide ((m : Int) < 1) = false := by simp; omega
  have hmany := many_any (n : Int) (m : Int) w ⟨by omega, by omega⟩ ⟨by omega, by omega⟩
  rw [manyI_nat n m hm] at hmany
  have hK := manyN_le n m hm
  have hln := h.1
  obtain ⟨i0, hi, hz0, hz1, hz2⟩ := info_parts infoS
  refine (callsIn_wide (n := 4)).1 ?_
  refine callsIn_of_wp_marks Try.func16 rfl trivial ?_ rfl
  simp only [Try.ntmps16, List.size_toArray, List.length_cons, List.length_nil, Nat.reduceAdd, Nat.reduceSub, Array.replicate_succ, Array.replicate_zero, List.push_toArray, List.append_toArray, List.nil_append, List.cons_append]
  gi_wp2_with fail
  refine ⟨trivial, (callsIn_wide.2 hmany).mono ?_⟩
  rintro e w' ⟨rfl, hww⟩
  obtain rfl : w = w' := hww.symm
  clear hww
  gi_wp2_with (
    gi_at_make
    refine wpListIn_make_own _ rfl _ _ 35 rfl w.heap.size 22 i0 (.slice none 0 0) 1 Try.underlying35 hi hz0 hz1 .i64 .i64 _ (manyN n m) rfl rfl rfl (by rw [hz2]; omega) (by simp only [maxLen]; omega) (Nat.le_refl _) ?_
    intro w2 ho2 hg2)
  have hb2 : Below w.heap.size w w2 := (Below.refl _ w).grown hg2 (Nat.le_refl _) (fun k hk => by cases hk)
  have bO := Boxed.new w2 35 (.slice (some ⟨w.heap.size, 0, none⟩) 0 (manyN n m))
  have hb3 : Below w.heap.size w (w2.alloc (.cells #[.slice (some ⟨w.heap.size, 0, none⟩) 0 (manyN n m)] 35)) := hb2.alloc hb2.size _
  have ho3 := ho2.alloc (.cells #[.slice (some ⟨w.heap.size, 0, none⟩) 0 (manyN n m)] 35)
  have hs3 : w2.heap.size < (w2.alloc (.cells #[.slice (some ⟨w.heap.size, 0, none⟩) 0 (manyN n m)] 35)).heap.size := by rw [size_alloc]; omega
  generalize w2.alloc (.cells #[.slice (some ⟨w.heap.size, 0, none⟩) 0 (manyN n m)] 35) = w3 at bO hb3 ho3 hs3 ⊢
  have hcl := clone_any A n c l w3 (h.below hb3) hn
  refine ⟨trivial, (callsIn_wide.2 hcl).mono ?_⟩
  rintro e w4 ⟨A4, c4, rfl, hcl4, hb4⟩
  rw [hln] at hcl4 ⊢
  have bO4 : Boxed w4 w2.heap.size 35 (.slice (some ⟨w.heap.size, 0, none⟩) 0 (manyN n m)) := (hb4.block _ hs3).trans bO
  have ho4 := OwnV.later ho3 hb4
  have hb04 := bthen hb3 hb4
  have hAS := hcl4.atStart
  have hcap := hcl4.same.2.1
  have hmax : c4 ≤ 9223372036854775807 := by have := hcl4.same.2.2.1; unfold maxLen at this; omega
  clear hcl bO ho3 hmany
  gi_wp2_with fail
  refine ⟨trivial, (pieces_in Fence.wide _ trivial rfl A4 n c4 m w4).mono ?_⟩
  rintro e w5 ⟨rfl, hw5⟩
  have g5 : w5.heap[w4.heap.size]? = some (.cells #[.slice A4 n c4] 22 (0, 0)) ∧ w5.heap[w4.heap.size + 1]? = some (.cells #[.int .i64 (m : Int)] 3 (0, 0)) ∧ Below w4.heap.size w4 w5 := by
    rw [hw5]; exact two_alloc w4 _ _
  have hs5 : w5.heap.size = w4.heap.size + 2 := by rw [hw5]; simp only [size_alloc]
  obtain ⟨g50, g51, hb5⟩ := g5
  clear hw5
  have bO5 : Boxed w5 w2.heap.size 35 (.slice (some ⟨w.heap.size, 0, none⟩) 0 (manyN n m)) := (hb5.block _ (by have := hb4.size; omega)).trans bO4
  have ho5 := OwnV.later ho4 hb5
  have hcl5 := hcl4.later hb5
  have hb05 := bthen hb04 hb5
  have hsz := hb4.size
  have hsz2 := hb2.size
  have hne : w4.heap.size + 1 ≠ w2.heap.size := by omega
  clear bO4 ho4 hcl4
  gi_wp2_with fail
  refine wpIn_rangeFunc_ownG rfl (by omega) (gf := 26) (lb := #[.pointer (some ⟨w4.heap.size, 0, none⟩), .pointer (some ⟨w4.heap.size + 1, 0, none⟩)]) rfl trivial (enters_of Try.func26 (by kernel_rfl) rfl)
    (pieces_stops Fence.wide _ trivial rfl (by omega) w4.heap.size (w4.heap.size + 1) A4 n c4 m hAS hm hcap hmax hmm w5 (by omega) (by omega) (cell_at g50 0 rfl) g51)
    (fun h1 h2 => Eq.trans h2 h1) (fun W l o o' hl h1 h2 h3 => World.putObj_heap_other (by omega)) (Below.refl _ _) (fun _ => rfl)
    (fun pre W => (∃ v, Boxed W w2.heap.size 35 v ∧ W.ownsRow w.heap.size 22 1 v pre.length (pre.map Sl.val)) ∧ (Own W w3.heap.size 5 (.slice A4 n c4) n l ∧ Boxed W (w4.heap.size + 1) 3 (.int .i64 (m : Int))) ∧ Below w.heap.size w W)
    (fun _ _ _ => False)
    ?own (fun _ _ _ _ _ hs _ _ => hs) ⟨⟨_, bO5, ho5⟩, ⟨hcl5, g51⟩, hb05⟩ ?a1 ?assign ?body ?done ?stop
  case own =>
    rintro s W W' row ⟨⟨v, h1, h2⟩, ⟨h3, h4⟩, h5⟩ hg hr
    have hr' := fun r e => (hr r e).2
    exact ⟨⟨v, box_own h1 hg hr', row_own h2 hg hr'⟩, ⟨row_own h3 hg hr', box_own h4 hg hr'⟩, h5.grown hg h5.size (fun k hk => by have := (hr k hk).1; omega)⟩
  case a1 => exact fun x => { tmps := #[.slice A n c, .int .i64 (m : Int), undef, undef, .slice none 0 0, .pointer (some ⟨w2.heap.size, 0, none⟩), Sl.val x, .int .i64 (m : Int), .bool false, .slice A n c, .int .i64 (n : Int), .int .i64 (m : Int), .int .i64 (manyN n m : Int), .slice (some ⟨w.heap.size, 0, none⟩) 0 (manyN n m), .slice A n c, .slice A4 n c4, .int .i64 (m : Int), .func (.func 26) #[] #[.pointer (some ⟨w4.heap.size, 0, none⟩), .pointer (some ⟨w4.heap.size + 1, 0, none⟩)], Sl.val x, undef, undef, undef, undef, undef], defers := [] }
  case assign =>
    intro l x W K hK
    gi_wp2
    exact hK
  case body =>
    rintro l1 pre ⟨xa, xn, xc⟩ W ⟨⟨v, hv, hrow⟩, ⟨hcl, hbm⟩, hB⟩ hlt
    have hc := hv.cell
    have hBs := hB.size
    dsimp only [Sl.val]
    gi_wp2_with (
      gi_at_builtin
      refine wpListIn_append_own _ rfl _ _ 35 rfl w.heap.size 22 i0 (.slice none 0 0) 1 24 Try.underlying35 hi hz0 hz1 hz2 rfl (by decide) _ _ _ rfl (hrow.alloc _) ⟨W.heap.size, 0, none⟩ 1 1 [.slice xa xn xc] rfl rfl (cell_one_new _ _ _) (by simp [Value.oneCell']) (by simp only [maxLen]; omega) (by omega) (by simp; omega) ?_
      intro v' w1 hown' hgrow _
      obtain ⟨g', cap', rfl⟩ := ownsRow_succ hown'
      obtain ⟨hv1, hv2, hr2, hk2, hb2⟩ := hv.appended (by decide) hrow hB.size hsz2 hown' hgrow
      have hc1 := hv1.cell
      have hf1 := hv1.frozen)
    have bm1 : Boxed w1 (w4.heap.size + 1) 3 (.int .i64 (m : Int)) := (hbm.alloc _).kept hgrow (hbm.not_row (by decide) hrow)
    have bm2 := bm1.kept (grownBy_setCell' w1 w2.heap.size (.slice (some ⟨g', 0, none⟩) (pre.length + 1) cap')) (fun e => hne (by injection e))
    have cl1 : Own w1 w3.heap.size 5 (.slice A4 n c4) n l := OwnV.grown (OwnV.later hcl (nkeep' W _)) (OwnV.later hrow (nkeep' W _)) (by decide) hgrow
    have cl2 := cl1.but hs3 (But.setCell w1 w2.heap.size 0 (.slice (some ⟨g', 0, none⟩) (pre.length + 1) cap'))
    refine ⟨hk2.from _, Eq.trans (show _ = _ from bm2) (show _ = _ from hbm).symm, ⟨⟨_, hv2, ?_⟩, ⟨cl2, bm2⟩, hB.trans hb2⟩⟩
    rw [List.length_append, List.map_append]
    exact hr2
  case done =>
    rintro D ys W hD rfl ⟨⟨v, hv, hrow⟩, ⟨hcl, hbm⟩, hB⟩ hK
    have hc := hv.cell
    rw [uptoV_length] at hrow
    gi_wp2
    refine ⟨by simp, .inl ⟨_, _, rfl, run_takeDeferred hK, ?_⟩⟩
    have hrow' : OwnV (W.putObj D (.deferred none)) w.heap.size 22 v (manyN n m) _ := ownsRow_putObj hrow _ hK rfl
    have hcl' : Own (W.putObj D (.deferred none)) w3.heap.size 5 (.slice A4 n c4) n l := ownsRow_putObj hcl _ hK rfl
    have hB' : Below w.heap.size w (W.putObj D (.deferred none)) := hB.trans (belowK_b (w := w) (Nat.le_refl _) W D _ _ (by omega) hK rfl rfl)
    obtain ⟨A6, c6, rfl, hr6⟩ := OwnV.rd hrow'
    have hca := addrB hcl' hb3.size
    refine ⟨_, results_tmp rfl _ _ _, A6, manyN n m, c6, rowsOf A4 n m l (manyN n m), rfl, ?_, ?_, ?_, ?_, hB'⟩
    · rw [rowsOf_val]; exact hrow'
    · intro r hr
      unfold rowsOf at hr
      obtain ⟨k, hk, rfl⟩ := List.mem_map.1 hr
      rw [List.mem_range] at hk
      exact hcl'.same.pieceOf hAS (Mid.of hm hk)
    · intro r hr b o hrA
      unfold rowsOf at hr
      obtain ⟨k, hk, rfl⟩ := List.mem_map.1 hr
      rcases hAS with ⟨rfl, _, _⟩ | ⟨g, rfl⟩
      · simp [pvOf] at hrA
      · simp [pvOf] at hrA
        obtain ⟨rfl, _⟩ := hrA
        exact hca g 0 rfl
    · rw [rowsOf_b, ← hln]; rfl
  case stop =>
    rintro D c pre W _ _ h _
    exact h.elim
end
end Go.Proofs.Ytapdlcfaghbjhaa
