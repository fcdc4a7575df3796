import Derived.Test.YtdchgnmkeefffaaLBX
import Derived.Test.YtdchgnmkeefffaaBM
import Derived.Deep.QuietTactic
import Derived.BigQuiet
set_option maxRecDepth 100000
/- What frag.follows, both Same of messages under way, and slices.Concat come to. -/
namespace Go.Proofs.Ytdchgnmkeefffaa
open Go.RowKit
set_option linter.unusedVariables false

/-- A message under way, as a value. -/
def IsPt (w : World) (v : Value) (p : Pt) : Prop := ∃ A n c, v = .agg #[.int .i64 p.seq, .int .i64 p.total, .int .i64 p.got, .slice A n c] ∧ Rd w A n c p.b
theorem IsPt.below {w w' : World} {v : Value} {p : Pt} (h : IsPt w v p) (hb : Below w.heap.size w w') : IsPt w' v p := by
  obtain ⟨A, n, c, rfl, hr⟩ := h
  exact ⟨A, n, c, rfl, hr.below hb⟩
set_option maxHeartbeats 2000000 in
theorem fsame_any (p q : Pt) (A : Option Addr) (n c : Nat) (B : Option Addr) (m d : Nat) (w : World) (ha : Rd w A n c p.b) (hb : Rd w B m d q.b) (t : Bool) (ht : decide (p = q) = t) :
    Calls Try.prog 48 #[.agg #[.int .i64 p.seq, .int .i64 p.total, .int .i64 p.got, .slice A n c], .agg #[.int .i64 q.seq, .int .i64 q.total, .int .i64 q.got, .slice B m d]] w (Says w t) := by
  have HT := hidT ht
  clear ht
  obtain ⟨s1, t1, g1, l1⟩ := p
  obtain ⟨s2, t2, g2, l2⟩ := q
  dsimp only at ha hb ⊢
  obtain ⟨h0, h1, hbel⟩ := two_alloc w (.cells #[.int .i64 s1, .int .i64 t1, .int .i64 g1, .slice A n c] 49) (.cells #[.int .i64 s2, .int .i64 t2, .int .i64 g2, .slice B m d] 49)
  obtain ⟨k0, k1, k2, k3⟩ := cells4 h0
  obtain ⟨j0, j1, j2, j3⟩ := cells4 h1
  have ra := ha.below hbel
  have rb := hb.below hbel
  have HB := hidT hbel
  clear h0 h1 ha hb hbel
  by_cases h : s1 ≠ s2
  · skip
    have q1 : (s1 == s2) = false := by simpa using h
    have HF : Hid (t = false) := hidT (by have := HT.out; simpa [h] using this.symm)
    clear HT
    go_enter Try.func48, Try.ntmps48
    go_wp2
    go_ret
    rw [HF.out]
    exact ⟨rfl, HB.out⟩
  obtain rfl := Decidable.not_not.1 h
  clear h
  by_cases h : t1 ≠ t2
  · skip
    have q1 : (t1 == t2) = false := by simpa using h
    have HF : Hid (t = false) := hidT (by have := HT.out; simpa [h] using this.symm)
    clear HT
    go_enter Try.func48, Try.ntmps48
    go_wp2
    go_ret
    rw [HF.out]
    exact ⟨rfl, HB.out⟩
  obtain rfl := Decidable.not_not.1 h
  clear h
  by_cases h : g1 ≠ g2
  · skip
    have q1 : (g1 == g2) = false := by simpa using h
    have HF : Hid (t = false) := hidT (by have := HT.out; simpa [h] using this.symm)
    clear HT
    go_enter Try.func48, Try.ntmps48
    go_wp2
    go_ret
    rw [HF.out]
    exact ⟨rfl, HB.out⟩
  obtain rfl := Decidable.not_not.1 h
  clear h
  have HF : Hid (decide (l1 = l2) = t) := hidT (by have := HT.out; simpa using this)
  clear HT
  have hq := bytesEqual_is A n c l1 B m d l2 _ ra rb t HF.out
  clear ra rb
  go_enter Try.func48, Try.ntmps48
  go_wp2_with fail
  with_reducible refine hq.mono ?_
  rintro e w1 ⟨rfl, rfl⟩
  cases t
  all_goals
    go_wp2
    go_ret
    exact ⟨rfl, HB.out⟩

set_option maxHeartbeats 2000000 in
theorem psame_any (p q : Pt) (A : Option Addr) (n c : Nat) (B : Option Addr) (m d : Nat) (w : World) (ha : Rd w A n c p.b) (hb : Rd w B m d q.b) (t : Bool) (ht : decide (p = q) = t) :
    Calls Try.prog 60 #[.agg #[.int .i64 p.seq, .int .i64 p.total, .int .i64 p.got, .slice A n c], .agg #[.int .i64 q.seq, .int .i64 q.total, .int .i64 q.got, .slice B m d]] w (Says w t) := by
  have HT := hidT ht
  clear ht
  obtain ⟨s1, t1, g1, l1⟩ := p
  obtain ⟨s2, t2, g2, l2⟩ := q
  dsimp only at ha hb ⊢
  obtain ⟨h0, h1, hbel⟩ := two_alloc w (.cells #[.int .i64 s1, .int .i64 t1, .int .i64 g1, .slice A n c] 49) (.cells #[.int .i64 s2, .int .i64 t2, .int .i64 g2, .slice B m d] 49)
  obtain ⟨k0, k1, k2, k3⟩ := cells4 h0
  obtain ⟨j0, j1, j2, j3⟩ := cells4 h1
  have ra := ha.below hbel
  have rb := hb.below hbel
  have HB := hidT hbel
  clear h0 h1 ha hb hbel
  by_cases h : s1 ≠ s2
  · skip
    have q1 : (s1 == s2) = false := by simpa using h
    have HF : Hid (t = false) := hidT (by have := HT.out; simpa [h] using this.symm)
    clear HT
    go_enter Try.func60, Try.ntmps60
    go_wp2
    go_ret
    rw [HF.out]
    exact ⟨rfl, HB.out⟩
  obtain rfl := Decidable.not_not.1 h
  clear h
  by_cases h : t1 ≠ t2
  · skip
    have q1 : (t1 == t2) = false := by simpa using h
    have HF : Hid (t = false) := hidT (by have := HT.out; simpa [h] using this.symm)
    clear HT
    go_enter Try.func60, Try.ntmps60
    go_wp2
    go_ret
    rw [HF.out]
    exact ⟨rfl, HB.out⟩
  obtain rfl := Decidable.not_not.1 h
  clear h
  by_cases h : g1 ≠ g2
  · skip
    have q1 : (g1 == g2) = false := by simpa using h
    have HF : Hid (t = false) := hidT (by have := HT.out; simpa [h] using this.symm)
    clear HT
    go_enter Try.func60, Try.ntmps60
    go_wp2
    go_ret
    rw [HF.out]
    exact ⟨rfl, HB.out⟩
  obtain rfl := Decidable.not_not.1 h
  clear h
  have HF : Hid (decide (l1 = l2) = t) := hidT (by have := HT.out; simpa using this)
  clear HT
  have z1 := strs ra _ (Below.refl _ _)
  have z2 := strs rb _ (Below.refl _ _)
  have q := str_beq l1 l2
  rw [HF.out] at q
  clear ra rb HF
  cases t
  all_goals
    go_enter Try.func60, Try.ntmps60
    go_wp2
    go_ret
    exact ⟨rfl, HB.out⟩

/-- A row of the call's own with room, of no element yet. -/
def Room (w : World) (e : Ending) (w' : World) : Prop := ∃ A c, e = .returned (.slice A 0 c) ∧ Own w' w.heap.size 5 (.slice A 0 c) 0 [] ∧ Below w.heap.size w w'

theorem keepC' {w w' : World} {p : Addr} {u : Value} (hb : Below w.heap.size w w') (h : w.cell? p = some u) : w'.cell? p = some u := (hb.cell (World.block_lt_of_cell? _ _ h)).trans h

end Go.Proofs.Ytdchgnmkeefffaa
/- What frag.Add comes to. -/
namespace Go.Proofs.Ytdchgnmkeefffaa
open Go.RowKit
set_option linter.unusedVariables false


/-- A message under way, bytes, whether it is whole, and a code. -/
def AddIs (w : World) (r : AddR) (e : Ending) (w' : World) : Prop :=
  ∃ A n c B m d, e = .returned (.tuple #[.agg #[.int .i64 r.p.seq, .int .i64 r.p.total, .int .i64 r.p.got, .slice A n c], .slice B m d, .bool r.whole, .int .i64 r.err]) ∧ Rd w' A n c r.p.b ∧ Rd w' B m d r.s ∧ Below w.heap.size w w'
/-- The same, and what is told is new. -/
def AddIsF (w : World) (r : AddR) (e : Ending) (w' : World) : Prop :=
  ∃ A n c B m d, e = .returned (.tuple #[.agg #[.int .i64 r.p.seq, .int .i64 r.p.total, .int .i64 r.p.got, .slice A n c], .slice B m d, .bool r.whole, .int .i64 r.err]) ∧ Rd w' A n c r.p.b ∧ Rd w' B m d r.s ∧ Below w.heap.size w w' ∧ (∀ b o, A = some ⟨b, o, none⟩ → w.heap.size ≤ b) ∧ (∀ b o, B = some ⟨b, o, none⟩ → w.heap.size ≤ b)
theorem AddIsF.is {w w' : World} {r : AddR} {e : Ending} (h : AddIsF w r e w') : AddIs w r e w' := by
  obtain ⟨A, n, c, B, m, d, h1, h2, h3, h4, _, _⟩ := h
  exact ⟨A, n, c, B, m, d, h1, h2, h3, h4⟩
theorem infoPt : (Try.prog.info? 49).map (·.size) = some 4 := by kernel_rfl
theorem all4 {a0 a1 a2 a3 : Value} (h0 : a0.oneCell' = true) (h1 : a1.oneCell' = true) (h2 : a2.oneCell' = true) (h3 : a3.oneCell' = true) : (#[a0, a1, a2, a3] : Array Value).all (·.oneCell') = true := by simp [h0, h1, h2, h3]
theorem set4 {w : World} {g : Nat} {b0 b1 b2 b3 : Value} {t : TypeId} (h : w.heap[g]? = some (.cells #[b0, b1, b2, b3] t (0, 0))) (a0 a1 a2 a3 : Value) :
    ((((w.setCell ⟨g, 0, none⟩ a0).setCell ⟨g, 1, none⟩ a1).setCell ⟨g, 2, none⟩ a2).setCell ⟨g, 3, none⟩ a3).heap[g]? = some (.cells #[a0, a1, a2, a3] t (0, 0)) ∧ But g w ((((w.setCell ⟨g, 0, none⟩ a0).setCell ⟨g, 1, none⟩ a1).setCell ⟨g, 2, none⟩ a2).setCell ⟨g, 3, none⟩ a3) ∧
    (∀ base w0, Below base w0 w → base ≤ g → Below base w0 ((((w.setCell ⟨g, 0, none⟩ a0).setCell ⟨g, 1, none⟩ a1).setCell ⟨g, 2, none⟩ a2).setCell ⟨g, 3, none⟩ a3)) := by
  have s0 : (w.setCell ⟨g, 0, none⟩ a0).heap[g]? = some (.cells #[a0, b1, b2, b3] t (0, 0)) := heap_setCell_same w g 0 _ t a0 h
  have s1 : ((w.setCell ⟨g, 0, none⟩ a0).setCell ⟨g, 1, none⟩ a1).heap[g]? = some (.cells #[a0, a1, b2, b3] t (0, 0)) := heap_setCell_same _ g 1 _ t a1 s0
  have s2 : (((w.setCell ⟨g, 0, none⟩ a0).setCell ⟨g, 1, none⟩ a1).setCell ⟨g, 2, none⟩ a2).heap[g]? = some (.cells #[a0, a1, a2, b3] t (0, 0)) := heap_setCell_same _ g 2 _ t a2 s1
  exact ⟨heap_setCell_same _ g 3 _ t a3 s2, (((But.setCell w g 0 a0).trans (But.setCell _ g 1 a1)).trans (But.setCell _ g 2 a2)).trans (But.setCell _ g 3 a3),
    fun base w0 hb hg => (((hb.setCell (p := ⟨g, 0, none⟩) hg a0).setCell (p := ⟨g, 1, none⟩) hg a1).setCell (p := ⟨g, 2, none⟩) hg a2).setCell (p := ⟨g, 3, none⟩) hg a3⟩

end Go.Proofs.Ytdchgnmkeefffaa
/- What the document's Add comes to. -/
namespace Go.Proofs.Ytdchgnmkeefffaa
open Go.RowKit
set_option linter.unusedVariables false


theorem madeB (w : World) (base : Nat) (hb : base ≤ w.heap.size) (e : TypeId) (g : Nat) (hg : w.heap.size = g) : Own (w.alloc (.cells #[] e)) base e (.slice (some ⟨g, 0, none⟩) 0 0) 0 [] := by
  subst hg
  exact World.ownsRow_made (base := base) (e := e) (size := 1) w #[] 0 hb (Nat.zero_le _) rfl

set_option maxHeartbeats 4000000 in
theorem radd_no1 (sq tt gt : Int) (b : List UInt8) (A : Option Addr) (n c : Nat) (seq index total : Int) (B : Option Addr) (m d : Nat) (pc : List UInt8) (w : World) (hr : Rd w A n c b) (hp : Rd w B m d pc) (hn : n ≤ 65536) (hm : m ≤ 65536)
    (h : total < 1) :
    Calls Try.prog 62 #[.agg #[.int .i64 sq, .int .i64 tt, .int .i64 gt, .slice A n c], .int .i64 seq, .int .i64 index, .int .i64 total, .slice B m d] w (AddIs w ⟨⟨sq, tt, gt, b⟩, [], false, 2⟩) := by
  have q1 : decide (total < 1) = true := by simpa using h
  obtain ⟨g0, g1, hb0⟩ := two_alloc w (.cells #[.int .i64 sq, .int .i64 tt, .int .i64 gt, .slice A n c] 49) (.cells #[.int .i64 0, .int .i64 0, .int .i64 0, .slice none 0 0] 49)
  have hs0 : w.heap.size < ((w.alloc (.cells #[.int .i64 sq, .int .i64 tt, .int .i64 gt, .slice A n c] 49)).alloc (.cells #[.int .i64 0, .int .i64 0, .int .i64 0, .slice none 0 0] 49)).heap.size := by simp only [size_alloc]; omega
  have hs1 : w.heap.size + 1 < ((w.alloc (.cells #[.int .i64 sq, .int .i64 tt, .int .i64 gt, .slice A n c] 49)).alloc (.cells #[.int .i64 0, .int .i64 0, .int .i64 0, .slice none 0 0] 49)).heap.size := by simp only [size_alloc]; omega
  obtain ⟨k0, k1, k2, k3⟩ := cells4 g0
  obtain ⟨u0, u1, hb9⟩ := two_alloc w (.cells #[.int .i64 sq, .int .i64 tt, .int .i64 gt, .slice A n c] 49) (.cells #[.int .i64 sq, .int .i64 tt, .int .i64 gt, .slice A n c] 49)
  obtain ⟨y0, y1, y2, y3⟩ := cells4 u1
  clear u0 u1 g0 g1
  go_enter Try.func62, Try.ntmps62
  go_wp2
  exact bodyPost_ret (v := .tuple #[.agg #[.int .i64 sq, .int .i64 tt, .int .i64 gt, .slice A n c], .slice none 0 0, .bool false, .int .i64 2]) (by simp [results, Try.results62, go_sem, y0, y1, y2, y3]) rfl ⟨_, _, _, _, _, _, rfl, hr.below hb9, Rd.nil_ _, hb9⟩

set_option maxHeartbeats 4000000 in
theorem radd_no2 (sq tt gt : Int) (b : List UInt8) (A : Option Addr) (n c : Nat) (seq index total : Int) (B : Option Addr) (m d : Nat) (pc : List UInt8) (w : World) (hr : Rd w A n c b) (hp : Rd w B m d pc) (hn : n ≤ 65536) (hm : m ≤ 65536)
    (h1 : 1 ≤ total) (h : 32 < total) :
    Calls Try.prog 62 #[.agg #[.int .i64 sq, .int .i64 tt, .int .i64 gt, .slice A n c], .int .i64 seq, .int .i64 index, .int .i64 total, .slice B m d] w (AddIs w ⟨⟨sq, tt, gt, b⟩, [], false, 2⟩) := by
  have q1 : decide (total < 1) = false := by simp; omega
  have q2 : decide (32 < total) = true := by simpa using h
  obtain ⟨g0, g1, hb0⟩ := two_alloc w (.cells #[.int .i64 sq, .int .i64 tt, .int .i64 gt, .slice A n c] 49) (.cells #[.int .i64 0, .int .i64 0, .int .i64 0, .slice none 0 0] 49)
  have hs0 : w.heap.size < ((w.alloc (.cells #[.int .i64 sq, .int .i64 tt, .int .i64 gt, .slice A n c] 49)).alloc (.cells #[.int .i64 0, .int .i64 0, .int .i64 0, .slice none 0 0] 49)).heap.size := by simp only [size_alloc]; omega
  have hs1 : w.heap.size + 1 < ((w.alloc (.cells #[.int .i64 sq, .int .i64 tt, .int .i64 gt, .slice A n c] 49)).alloc (.cells #[.int .i64 0, .int .i64 0, .int .i64 0, .slice none 0 0] 49)).heap.size := by simp only [size_alloc]; omega
  obtain ⟨k0, k1, k2, k3⟩ := cells4 g0
  obtain ⟨u0, u1, hb9⟩ := two_alloc w (.cells #[.int .i64 sq, .int .i64 tt, .int .i64 gt, .slice A n c] 49) (.cells #[.int .i64 sq, .int .i64 tt, .int .i64 gt, .slice A n c] 49)
  obtain ⟨y0, y1, y2, y3⟩ := cells4 u1
  clear u0 u1 g0 g1
  go_enter Try.func62, Try.ntmps62
  go_wp2
  exact bodyPost_ret (v := .tuple #[.agg #[.int .i64 sq, .int .i64 tt, .int .i64 gt, .slice A n c], .slice none 0 0, .bool false, .int .i64 2]) (by simp [results, Try.results62, go_sem, y0, y1, y2, y3]) rfl ⟨_, _, _, _, _, _, rfl, hr.below hb9, Rd.nil_ _, hb9⟩

set_option maxHeartbeats 4000000 in
theorem radd_no3 (sq tt gt : Int) (b : List UInt8) (A : Option Addr) (n c : Nat) (seq index total : Int) (B : Option Addr) (m d : Nat) (pc : List UInt8) (w : World) (hr : Rd w A n c b) (hp : Rd w B m d pc) (hn : n ≤ 65536) (hm : m ≤ 65536)
    (h1 : 1 ≤ total) (h2 : total ≤ 32) (h : index ≠ gt) :
    Calls Try.prog 62 #[.agg #[.int .i64 sq, .int .i64 tt, .int .i64 gt, .slice A n c], .int .i64 seq, .int .i64 index, .int .i64 total, .slice B m d] w (AddIs w ⟨⟨sq, tt, gt, b⟩, [], false, 2⟩) := by
  have q1 : decide (total < 1) = false := by simp; omega
  have q2 : decide (32 < total) = false := by simp; omega
  have q3 : (index != gt) = true := by simpa using h
  have q4 : (index == gt) = false := by simpa using h
  obtain ⟨g0, g1, hb0⟩ := two_alloc w (.cells #[.int .i64 sq, .int .i64 tt, .int .i64 gt, .slice A n c] 49) (.cells #[.int .i64 0, .int .i64 0, .int .i64 0, .slice none 0 0] 49)
  have hs0 : w.heap.size < ((w.alloc (.cells #[.int .i64 sq, .int .i64 tt, .int .i64 gt, .slice A n c] 49)).alloc (.cells #[.int .i64 0, .int .i64 0, .int .i64 0, .slice none 0 0] 49)).heap.size := by simp only [size_alloc]; omega
  have hs1 : w.heap.size + 1 < ((w.alloc (.cells #[.int .i64 sq, .int .i64 tt, .int .i64 gt, .slice A n c] 49)).alloc (.cells #[.int .i64 0, .int .i64 0, .int .i64 0, .slice none 0 0] 49)).heap.size := by simp only [size_alloc]; omega
  obtain ⟨k0, k1, k2, k3⟩ := cells4 g0
  obtain ⟨u0, u1, hb9⟩ := two_alloc w (.cells #[.int .i64 sq, .int .i64 tt, .int .i64 gt, .slice A n c] 49) (.cells #[.int .i64 sq, .int .i64 tt, .int .i64 gt, .slice A n c] 49)
  obtain ⟨y0, y1, y2, y3⟩ := cells4 u1
  clear u0 u1 g0 g1
  go_enter Try.func62, Try.ntmps62
  go_wp2
  exact bodyPost_ret (v := .tuple #[.agg #[.int .i64 sq, .int .i64 tt, .int .i64 gt, .slice A n c], .slice none 0 0, .bool false, .int .i64 2]) (by simp [results, Try.results62, go_sem, y0, y1, y2, y3]) rfl ⟨_, _, _, _, _, _, rfl, hr.below hb9, Rd.nil_ _, hb9⟩

set_option maxHeartbeats 4000000 in
theorem radd_no4 (sq tt gt : Int) (b : List UInt8) (A : Option Addr) (n c : Nat) (seq index total : Int) (B : Option Addr) (m d : Nat) (pc : List UInt8) (w : World) (hr : Rd w A n c b) (hp : Rd w B m d pc) (hn : n ≤ 65536) (hm : m ≤ 65536)
    (h1 : 1 ≤ total) (h2 : total ≤ 32) (h3 : index = gt) (h4 : gt ≠ 0) (h : total ≠ tt) :
    Calls Try.prog 62 #[.agg #[.int .i64 sq, .int .i64 tt, .int .i64 gt, .slice A n c], .int .i64 seq, .int .i64 index, .int .i64 total, .slice B m d] w (AddIs w ⟨⟨sq, tt, gt, b⟩, [], false, 2⟩) := by
  subst h3
  have q1 : decide (total < 1) = false := by simp; omega
  have q2 : decide (32 < total) = false := by simp; omega
  have q3 : (index != 0) = true := by simpa using h4
  have q4 : (index == 0) = false := by simpa using h4
  have q5 : (total != tt) = true := by simpa using h
  have q6 : (total == tt) = false := by simpa using h
  obtain ⟨g0, g1, hb0⟩ := two_alloc w (.cells #[.int .i64 sq, .int .i64 tt, .int .i64 index, .slice A n c] 49) (.cells #[.int .i64 0, .int .i64 0, .int .i64 0, .slice none 0 0] 49)
  have hs0 : w.heap.size < ((w.alloc (.cells #[.int .i64 sq, .int .i64 tt, .int .i64 index, .slice A n c] 49)).alloc (.cells #[.int .i64 0, .int .i64 0, .int .i64 0, .slice none 0 0] 49)).heap.size := by simp only [size_alloc]; omega
  have hs1 : w.heap.size + 1 < ((w.alloc (.cells #[.int .i64 sq, .int .i64 tt, .int .i64 index, .slice A n c] 49)).alloc (.cells #[.int .i64 0, .int .i64 0, .int .i64 0, .slice none 0 0] 49)).heap.size := by simp only [size_alloc]; omega
  obtain ⟨k0, k1, k2, k3⟩ := cells4 g0
  obtain ⟨u0, u1, hb9⟩ := two_alloc w (.cells #[.int .i64 sq, .int .i64 tt, .int .i64 index, .slice A n c] 49) (.cells #[.int .i64 sq, .int .i64 tt, .int .i64 index, .slice A n c] 49)
  obtain ⟨y0, y1, y2, y3⟩ := cells4 u1
  clear u0 u1 g0 g1
  go_enter Try.func62, Try.ntmps62
  go_wp2
  exact bodyPost_ret (v := .tuple #[.agg #[.int .i64 sq, .int .i64 tt, .int .i64 index, .slice A n c], .slice none 0 0, .bool false, .int .i64 2]) (by simp [results, Try.results62, go_sem, y0, y1, y2, y3]) rfl ⟨_, _, _, _, _, _, rfl, hr.below hb9, Rd.nil_ _, hb9⟩

set_option maxHeartbeats 4000000 in
theorem radd_first_whole (sq tt gt : Int) (b : List UInt8) (A : Option Addr) (n c : Nat) (seq : Int) (B : Option Addr) (m d : Nat) (pc : List UInt8) (w : World) (hr : Rd w A n c b) (hp : Rd w B m d pc) (hn : n ≤ 65536) (hm : m ≤ 65536)
    (hgt : gt = 0) :
    Calls Try.prog 62 #[.agg #[.int .i64 sq, .int .i64 tt, .int .i64 gt, .slice A n c], .int .i64 seq, .int .i64 0, .int .i64 1, .slice B m d] w (AddIs w ⟨none_, [] ++ pc, true, 0⟩) := by
  subst hgt
  obtain ⟨g0, g1, hb0⟩ := two_alloc w (.cells #[.int .i64 sq, .int .i64 tt, .int .i64 0, .slice A n c] 49) (.cells #[.int .i64 0, .int .i64 0, .int .i64 0, .slice none 0 0] 49)
  have hsz : ((w.alloc (.cells #[.int .i64 sq, .int .i64 tt, .int .i64 0, .slice A n c] 49)).alloc (.cells #[.int .i64 0, .int .i64 0, .int .i64 0, .slice none 0 0] 49)).heap.size = w.heap.size + 2 := by simp only [size_alloc]
  have HE := hidT (madeB ((w.alloc (.cells #[.int .i64 sq, .int .i64 tt, .int .i64 0, .slice A n c] 49)).alloc (.cells #[.int .i64 0, .int .i64 0, .int .i64 0, .slice none 0 0] 49)) (w.heap.size + 2) (by omega) 5 (w.heap.size + 2) hsz)
  have hbE : Below w.heap.size w (((w.alloc (.cells #[.int .i64 sq, .int .i64 tt, .int .i64 0, .slice A n c] 49)).alloc (.cells #[.int .i64 0, .int .i64 0, .int .i64 0, .slice none 0 0] 49)).alloc (.cells #[] 5)) := bthen hb0 (nkeep _ _)
  have HP := hidT (hp.below hbE)
  have hzE : w.heap.size + 2 ≤ (((w.alloc (.cells #[.int .i64 sq, .int .i64 tt, .int .i64 0, .slice A n c] 49)).alloc (.cells #[.int .i64 0, .int .i64 0, .int .i64 0, .slice none 0 0] 49)).alloc (.cells #[] 5)).heap.size := by simp only [size_alloc]; omega
  have x2 := (alloc_old ((w.alloc (.cells #[.int .i64 sq, .int .i64 tt, .int .i64 0, .slice A n c] 49)).alloc (.cells #[.int .i64 0, .int .i64 0, .int .i64 0, .slice none 0 0] 49)) (.cells #[] 5) w.heap.size (by omega)).trans g0
  have z2 := (alloc_old ((w.alloc (.cells #[.int .i64 sq, .int .i64 tt, .int .i64 0, .slice A n c] 49)).alloc (.cells #[.int .i64 0, .int .i64 0, .int .i64 0, .slice none 0 0] 49)) (.cells #[] 5) (w.heap.size + 1) (by omega)).trans g1
  obtain ⟨k0, k1, k2, k3⟩ := cells4 g0
  obtain ⟨j0, j1, j2, j3⟩ := cells4 x2
  clear hsz
  go_enter Try.func62, Try.ntmps62
  go_wp2_with (
    at_builtin
    refine wpList_app rfl (.tmp 41) (.tmp 42) 33 rfl (w.heap.size + 2) 5 info5 Try.underlying33 (.slice (some ⟨w.heap.size + 2, 0, none⟩) 0 0) 0 [] rfl HE.out B m d pc rfl HP.out (by omega) hzE ?_
    intro v3 w3 ho3 hb3
    obtain ⟨A3, c3, rfl, hrd3⟩ := Own.rd ho3
    have x3 := (hb3.block w.heap.size (by omega)).trans x2
    have z3 := (hb3.block (w.heap.size + 1) (by omega)).trans z2
    have hl3 := hb3.size
    have hb03 := hbE.trans (hb3.mono (by omega))
    obtain ⟨N3, HN3⟩ : ∃ N3, 0 + m = N3 := ⟨_, rfl⟩
    rw [HN3] at ho3 hrd3 ⊢
    clear HN3 k0 k1 k2 k3 j0 j1 j2 j3
    have x4 := (alloc_old w3 (.cells #[.int .i64 seq, .int .i64 1, .int .i64 1, .slice A3 N3 c3] 49) w.heap.size (by omega)).trans x3
    have z4 := (alloc_old w3 (.cells #[.int .i64 seq, .int .i64 1, .int .i64 1, .slice A3 N3 c3] 49) (w.heap.size + 1) (by omega)).trans z3
    have e4 := alloc_at w3 (.cells #[.int .i64 seq, .int .i64 1, .int .i64 1, .slice A3 N3 c3] 49) _ rfl
    have hb34 := nkeep w3 (.cells #[.int .i64 seq, .int .i64 1, .int .i64 1, .slice A3 N3 c3] 49)
    have ho4 := ho3.later hb34
    have hb04 := bthen hb03 hb34
    have hsz4 := size_alloc w3 (.cells #[.int .i64 seq, .int .i64 1, .int .i64 1, .slice A3 N3 c3] 49)
    have fz := no_frozen z4
    obtain ⟨y0, y1, y2, y3⟩ := cells4 z4
    obtain ⟨k0, k1, k2, k3⟩ := cells4 x4)
  obtain ⟨w4, HW4⟩ : ∃ w4, Hid (w3.alloc (.cells #[.int .i64 seq, .int .i64 1, .int .i64 1, .slice A3 N3 c3] 49) = w4) := ⟨_, hidT rfl⟩
  rw [HW4.out] at x4 z4 e4 ho4 hb04 hsz4 fz y0 y1 y2 y3 k0 k1 k2 k3 hb34 ⊢
  clear HW4
  obtain ⟨d0, d1, d2, d3⟩ := cells4 e4
  go_region
  obtain ⟨hg2, hbut, hbel⟩ := set4 z4 (.int .i64 0) (.int .i64 0) (.int .i64 0) (.slice none 0 0)
  have hr5 := (ho4.but (by omega) hbut).same
  have hb5 := hbel _ _ hb04 (Nat.le_succ _)
  clear hbut hbel
  generalize ((((w4.setCell ⟨w.heap.size + 1, 0, none⟩ (.int .i64 0)).setCell ⟨w.heap.size + 1, 1, none⟩ (.int .i64 0)).setCell ⟨w.heap.size + 1, 2, none⟩ (.int .i64 0)).setCell ⟨w.heap.size + 1, 3, none⟩ (.slice none 0 0)) = w8 at hg2 hr5 hb5 ⊢
  obtain ⟨i0, i1, i2, i3⟩ := cells4 (w := w8.drew) hg2
  have HR := hidT hr5
  clear hr5 k0 k1 k2 k3 y0 y1 y2 y3 fz
  go_wp2
  exact bodyPost_ret (v := .tuple #[.agg #[.int .i64 0, .int .i64 0, .int .i64 0, .slice none 0 0], .slice A3 N3 c3, .bool true, .int .i64 0]) (by simp [results, Try.results62, go_sem, i0, i1, i2, i3]) rfl ⟨none, 0, 0, _, _, _, rfl, Rd.nil_ _, HR.out.drew, hb5.drew⟩

set_option maxHeartbeats 4000000 in
theorem radd_first_on (sq tt gt : Int) (b : List UInt8) (A : Option Addr) (n c : Nat) (seq total : Int) (B : Option Addr) (m d : Nat) (pc : List UInt8) (w : World) (hr : Rd w A n c b) (hp : Rd w B m d pc) (hn : n ≤ 65536) (hm : m ≤ 65536)
    (hgt : gt = 0) (h1 : 2 ≤ total) (h2 : total ≤ 32) :
    Calls Try.prog 62 #[.agg #[.int .i64 sq, .int .i64 tt, .int .i64 gt, .slice A n c], .int .i64 seq, .int .i64 0, .int .i64 total, .slice B m d] w (AddIs w ⟨⟨seq, total, 1, [] ++ pc⟩, [], false, 0⟩) := by
  subst hgt
  have q1 : decide (total < 1) = false := by simp; omega
  have q2 : decide (32 < total) = false := by simp; omega
  have q7 : ((1 : Int) == total) = false := by simp; omega
  obtain ⟨g0, g1, hb0⟩ := two_alloc w (.cells #[.int .i64 sq, .int .i64 tt, .int .i64 0, .slice A n c] 49) (.cells #[.int .i64 0, .int .i64 0, .int .i64 0, .slice none 0 0] 49)
  have hsz : ((w.alloc (.cells #[.int .i64 sq, .int .i64 tt, .int .i64 0, .slice A n c] 49)).alloc (.cells #[.int .i64 0, .int .i64 0, .int .i64 0, .slice none 0 0] 49)).heap.size = w.heap.size + 2 := by simp only [size_alloc]
  have HE := hidT (madeB ((w.alloc (.cells #[.int .i64 sq, .int .i64 tt, .int .i64 0, .slice A n c] 49)).alloc (.cells #[.int .i64 0, .int .i64 0, .int .i64 0, .slice none 0 0] 49)) (w.heap.size + 2) (by omega) 5 (w.heap.size + 2) hsz)
  have hbE : Below w.heap.size w (((w.alloc (.cells #[.int .i64 sq, .int .i64 tt, .int .i64 0, .slice A n c] 49)).alloc (.cells #[.int .i64 0, .int .i64 0, .int .i64 0, .slice none 0 0] 49)).alloc (.cells #[] 5)) := bthen hb0 (nkeep _ _)
  have HP := hidT (hp.below hbE)
  have hzE : w.heap.size + 2 ≤ (((w.alloc (.cells #[.int .i64 sq, .int .i64 tt, .int .i64 0, .slice A n c] 49)).alloc (.cells #[.int .i64 0, .int .i64 0, .int .i64 0, .slice none 0 0] 49)).alloc (.cells #[] 5)).heap.size := by simp only [size_alloc]; omega
  have x2 := (alloc_old ((w.alloc (.cells #[.int .i64 sq, .int .i64 tt, .int .i64 0, .slice A n c] 49)).alloc (.cells #[.int .i64 0, .int .i64 0, .int .i64 0, .slice none 0 0] 49)) (.cells #[] 5) w.heap.size (by omega)).trans g0
  have z2 := (alloc_old ((w.alloc (.cells #[.int .i64 sq, .int .i64 tt, .int .i64 0, .slice A n c] 49)).alloc (.cells #[.int .i64 0, .int .i64 0, .int .i64 0, .slice none 0 0] 49)) (.cells #[] 5) (w.heap.size + 1) (by omega)).trans g1
  obtain ⟨k0, k1, k2, k3⟩ := cells4 g0
  obtain ⟨j0, j1, j2, j3⟩ := cells4 x2
  clear hsz
  go_enter Try.func62, Try.ntmps62
  go_wp2_with (
    at_builtin
    refine wpList_app rfl (.tmp 41) (.tmp 42) 33 rfl (w.heap.size + 2) 5 info5 Try.underlying33 (.slice (some ⟨w.heap.size + 2, 0, none⟩) 0 0) 0 [] rfl HE.out B m d pc rfl HP.out (by omega) hzE ?_
    intro v3 w3 ho3 hb3
    obtain ⟨A3, c3, rfl, hrd3⟩ := Own.rd ho3
    have x3 := (hb3.block w.heap.size (by omega)).trans x2
    have z3 := (hb3.block (w.heap.size + 1) (by omega)).trans z2
    have hl3 := hb3.size
    have hb03 := hbE.trans (hb3.mono (by omega))
    obtain ⟨N3, HN3⟩ : ∃ N3, 0 + m = N3 := ⟨_, rfl⟩
    rw [HN3] at ho3 hrd3 ⊢
    clear HN3 k0 k1 k2 k3 j0 j1 j2 j3
    have x4 := (alloc_old w3 (.cells #[.int .i64 seq, .int .i64 total, .int .i64 1, .slice A3 N3 c3] 49) w.heap.size (by omega)).trans x3
    have z4 := (alloc_old w3 (.cells #[.int .i64 seq, .int .i64 total, .int .i64 1, .slice A3 N3 c3] 49) (w.heap.size + 1) (by omega)).trans z3
    have e4 := alloc_at w3 (.cells #[.int .i64 seq, .int .i64 total, .int .i64 1, .slice A3 N3 c3] 49) _ rfl
    have hb34 := nkeep w3 (.cells #[.int .i64 seq, .int .i64 total, .int .i64 1, .slice A3 N3 c3] 49)
    have ho4 := ho3.later hb34
    have hb04 := bthen hb03 hb34
    have hsz4 := size_alloc w3 (.cells #[.int .i64 seq, .int .i64 total, .int .i64 1, .slice A3 N3 c3] 49)
    have fz := no_frozen z4
    obtain ⟨y0, y1, y2, y3⟩ := cells4 z4
    obtain ⟨k0, k1, k2, k3⟩ := cells4 x4)
  obtain ⟨hg9, hbut9, hbel9⟩ := set4 z4 (.int .i64 seq) (.int .i64 total) (.int .i64 1) (.slice A3 N3 c3)
  have HR := hidT ((ho4.but (by omega) hbut9).same)
  have HB := hidT (hbel9 _ _ hb04 (Nat.le_succ _))
  generalize (((((w3.alloc (.cells #[.int .i64 seq, .int .i64 total, .int .i64 1, .slice A3 N3 c3] 49)).setCell ⟨w.heap.size + 1, 0, none⟩ _).setCell ⟨w.heap.size + 1, 1, none⟩ _).setCell ⟨w.heap.size + 1, 2, none⟩ _).setCell ⟨w.heap.size + 1, 3, none⟩ _) = w9 at hg9 HR HB ⊢
  obtain ⟨i0, i1, i2, i3⟩ := cells4 hg9
  exact bodyPost_ret (v := .tuple #[.agg #[.int .i64 seq, .int .i64 total, .int .i64 1, .slice A3 N3 c3], .slice none 0 0, .bool false, .int .i64 0]) (by simp [results, Try.results62, go_sem, i0, i1, i2, i3]) rfl ⟨_, _, _, _, _, _, rfl, HR.out, Rd.nil_ _, HB.out⟩

set_option maxHeartbeats 4000000 in
theorem radd_next_whole (sq tt gt : Int) (b : List UInt8) (A : Option Addr) (n c : Nat) (seq : Int) (B : Option Addr) (m d : Nat) (pc : List UInt8) (w : World) (hr : Rd w A n c b) (hp : Rd w B m d pc) (hn : n ≤ 65536) (hm : m ≤ 65536)
    (hgt : gt ≠ 0) (h1 : 1 ≤ tt) (h2 : tt ≤ 32) (h3 : IntKind.i64.wrap (gt + 1) = tt) :
    Calls Try.prog 62 #[.agg #[.int .i64 sq, .int .i64 tt, .int .i64 gt, .slice A n c], .int .i64 seq, .int .i64 gt, .int .i64 tt, .slice B m d] w (AddIs w ⟨none_, b ++ pc, true, 0⟩) := by
  have q1 : decide (tt < 1) = false := by simp; omega
  have q2 : decide (32 < tt) = false := by simp; omega
  have q3 : (gt != 0) = true := by simpa using hgt
  have q4 : (gt == 0) = false := by simpa using hgt
  obtain ⟨GT, HGT⟩ : ∃ GT, Hid (IntKind.i64.wrap (gt + 1) = GT) := ⟨_, hidT rfl⟩
  rw [HGT.out] at h3
  subst h3
  obtain ⟨g0, g1, hb0⟩ := two_alloc w (.cells #[.int .i64 sq, .int .i64 GT, .int .i64 gt, .slice A n c] 49) (.cells #[.int .i64 0, .int .i64 0, .int .i64 0, .slice none 0 0] 49)
  have hsz : ((w.alloc (.cells #[.int .i64 sq, .int .i64 GT, .int .i64 gt, .slice A n c] 49)).alloc (.cells #[.int .i64 0, .int .i64 0, .int .i64 0, .slice none 0 0] 49)).heap.size = w.heap.size + 2 := by simp only [size_alloc]
  have HE := hidT (madeB ((w.alloc (.cells #[.int .i64 sq, .int .i64 GT, .int .i64 gt, .slice A n c] 49)).alloc (.cells #[.int .i64 0, .int .i64 0, .int .i64 0, .slice none 0 0] 49)) (w.heap.size + 2) (by omega) 5 (w.heap.size + 2) hsz)
  have hbE : Below w.heap.size w (((w.alloc (.cells #[.int .i64 sq, .int .i64 GT, .int .i64 gt, .slice A n c] 49)).alloc (.cells #[.int .i64 0, .int .i64 0, .int .i64 0, .slice none 0 0] 49)).alloc (.cells #[] 5)) := bthen hb0 (nkeep _ _)
  have HP := hidT (hp.below hbE)
  have hzE : w.heap.size + 2 ≤ (((w.alloc (.cells #[.int .i64 sq, .int .i64 GT, .int .i64 gt, .slice A n c] 49)).alloc (.cells #[.int .i64 0, .int .i64 0, .int .i64 0, .slice none 0 0] 49)).alloc (.cells #[] 5)).heap.size := by simp only [size_alloc]; omega
  have x2 := (alloc_old ((w.alloc (.cells #[.int .i64 sq, .int .i64 GT, .int .i64 gt, .slice A n c] 49)).alloc (.cells #[.int .i64 0, .int .i64 0, .int .i64 0, .slice none 0 0] 49)) (.cells #[] 5) w.heap.size (by omega)).trans g0
  have z2 := (alloc_old ((w.alloc (.cells #[.int .i64 sq, .int .i64 GT, .int .i64 gt, .slice A n c] 49)).alloc (.cells #[.int .i64 0, .int .i64 0, .int .i64 0, .slice none 0 0] 49)) (.cells #[] 5) (w.heap.size + 1) (by omega)).trans g1
  obtain ⟨k0, k1, k2, k3⟩ := cells4 g0
  obtain ⟨j0, j1, j2, j3⟩ := cells4 x2
  clear hsz
  go_enter Try.func62, Try.ntmps62
  go_wp2_with (
    at_builtin
    refine wpList_app rfl (.tmp 41) (.tmp 42) 33 rfl (w.heap.size + 2) 5 info5 Try.underlying33 (.slice (some ⟨w.heap.size + 2, 0, none⟩) 0 0) 0 [] rfl HE.out B m d pc rfl HP.out (by omega) hzE ?_
    intro v3 w3 ho3 hb3
    obtain ⟨A3, c3, rfl, hrd3⟩ := Own.rd ho3
    have x3 := (hb3.block w.heap.size (by omega)).trans x2
    have z3 := (hb3.block (w.heap.size + 1) (by omega)).trans z2
    have hl3 := hb3.size
    have hb03 := hbE.trans (hb3.mono (by omega))
    obtain ⟨N3, HN3⟩ : ∃ N3, 0 + m = N3 := ⟨_, rfl⟩
    rw [HN3] at ho3 hrd3 ⊢
    clear HN3 k0 k1 k2 k3 j0 j1 j2 j3
    have x4 := (alloc_old w3 (.cells #[.int .i64 seq, .int .i64 GT, .int .i64 1, .slice A3 N3 c3] 49) w.heap.size (by omega)).trans x3
    have z4 := (alloc_old w3 (.cells #[.int .i64 seq, .int .i64 GT, .int .i64 1, .slice A3 N3 c3] 49) (w.heap.size + 1) (by omega)).trans z3
    have e4 := alloc_at w3 (.cells #[.int .i64 seq, .int .i64 GT, .int .i64 1, .slice A3 N3 c3] 49) _ rfl
    have hb34 := nkeep w3 (.cells #[.int .i64 seq, .int .i64 GT, .int .i64 1, .slice A3 N3 c3] 49)
    have ho4 := ho3.later hb34
    have hb04 := bthen hb03 hb34
    have hsz4 := size_alloc w3 (.cells #[.int .i64 seq, .int .i64 GT, .int .i64 1, .slice A3 N3 c3] 49)
    have fz := no_frozen z4
    obtain ⟨y0, y1, y2, y3⟩ := cells4 z4
    obtain ⟨k0, k1, k2, k3⟩ := cells4 x4)
  obtain ⟨w4, HW4⟩ : ∃ w4, Hid (w3.alloc (.cells #[.int .i64 seq, .int .i64 GT, .int .i64 1, .slice A3 N3 c3] 49) = w4) := ⟨_, hidT rfl⟩
  rw [HW4.out] at x4 z4 e4 ho4 hb04 hsz4 fz y0 y1 y2 y3 k0 k1 k2 k3 hb34 ⊢
  clear HW4
  obtain ⟨d0, d1, d2, d3⟩ := cells4 e4
  obtain ⟨r, HRR⟩ : ∃ r, Hid (w3.heap.size = r) := ⟨_, hidT rfl⟩
  rw [HRR.out] at e4 hsz4 hb34 hl3 d0 d1 d2 d3 ⊢
  have hgr : w.heap.size + 1 < r := by omega
  have hrb : ∀ w', Below r w4 w' → Below w.heap.size w w' := fun w' hb => hb04.trans (hb.mono (by omega))
  have kk0 := fun w' (hb : Below r w4 w') => (hb.cell (p := ⟨w.heap.size, 0, none⟩) (by show w.heap.size < r; omega)).trans k0
  have kk2 := fun w' (hb : Below r w4 w') => (hb.cell (p := ⟨w.heap.size, 2, none⟩) (by show w.heap.size < r; omega)).trans k2
  have kk3 := fun w' (hb : Below r w4 w') => (hb.cell (p := ⟨w.heap.size, 3, none⟩) (by show w.heap.size < r; omega)).trans k3
  have HRB := hidT hrb
  have HR0 := hidT hr
  have HP0 := hidT hp
  have wrp := HGT.out
  have D0 : Below w4.heap.size w4 (w4.alloc (.cells #[] 5)).drew := ((Below.refl _ _).alloc (Nat.le_refl _) _).drew
  have D1 : Below w4.heap.size w4 (w4.alloc (.cells #[] 5)) := (Below.refl _ _).alloc (Nat.le_refl _) _
  have ME : Own (w4.alloc (.cells #[] 5)).drew w4.heap.size 5 (.slice (some ⟨w4.heap.size, 0, none⟩) 0 0) 0 [] := madeB w4 w4.heap.size (Nat.le_refl _) _ _ rfl
  have HME := hidT ME
  clear ME
  have hrsz : r ≤ w4.heap.size := by omega
  have hrlt : r < w4.heap.size := by omega
  have E4 := hidT e4
  have Z4 := hidT z4
  clear hsz4 hrb hr hp k0 k1 k2 k3 d0 d1 d2 d3 y0 y1 y2 y3 fz x4 x3 x2 z3 z2 g0 g1 e4 z4 ho3 ho4 hb3 HE HP hbE hrd3
  go_region_held_law (fun w' => Below r w4 w')
    (first | exact (Below.refl _ _).drew | exact hbF | exact hb6.mono hrsz | exact hb5.mono hrsz | exact D1.mono hrsz | exact D0.mono hrsz)
    (first
      | (refine step_appD 57 (by rfl) (by rfl) (.tmp 54) (.tmp 56) 33 (by rfl) w4.heap.size 5 info5 Try.underlying33 (.slice (some ⟨w4.heap.size, 0, none⟩) 0 0) 0 [] (by rfl) (by exact HME.out) A n c b (by rfl) (by exact HR0.out.below (HRB.out _ (D0.mono hrsz))) (by omega) (by exact D0.size) ?_
         intro v5 w5 ho5 hb5'
         have hb5 : Below w4.heap.size w4 w5 := D0.trans hb5')
      | (refine step_appD 59 (by rfl) (by rfl) (.tmp 57) (.tmp 58) 33 (by rfl) w4.heap.size 5 info5 Try.underlying33 v5 (0 + n) ([] ++ b) (by rfl) (by exact ho5) B m d pc (by rfl) (by exact HP0.out.below (HRB.out _ (hb5.mono hrsz))) (by omega) (by exact hb5.size) ?_
         intro v6 w6 ho6' hb6'
         have ho6 : Own w6 w4.heap.size 5 v6 (n + m) (b ++ pc) := by simpa using ho6'
         obtain ⟨A6, c6, rfl, hrd6⟩ := Own.rd ho6
         have hb6 : Below w4.heap.size w4 w6 := hb5.trans hb6'
         have g6 := (hb6.block _ hrlt).trans E4.out
         obtain ⟨y0, y1, y2, y3⟩ := cells4 g6
         have f0 := no_frozen g6 0
         have f1 := no_frozen g6 1
         have f2 := no_frozen g6 2
         have f3 := no_frozen g6 3
         have hbF : Below r w4 ((((w6.setCell ⟨r, 0, none⟩ (.int .i64 sq)).setCell ⟨r, 1, none⟩ (.int .i64 GT)).setCell ⟨r, 2, none⟩ (.int .i64 GT)).setCell ⟨r, 3, none⟩ (.slice A6 (n + m) c6)) := (set4 g6 _ _ _ _).2.2 _ _ (hb6.mono hrsz) (Nat.le_refl _))
      | fail)
  obtain ⟨hgF, butF, belF⟩ := set4 g6 (.int .i64 sq) (.int .i64 GT) (.int .i64 GT) (.slice A6 (n + m) c6)
  have ho7 := ho6.but hrlt butF
  have z7 := (butF.2 (w.heap.size + 1) (by omega)).trans ((hb6.block _ (by omega)).trans Z4.out)
  have hb07 := HRB.out _ hbF
  clear hbF belF butF g6 y0 y1 y2 y3 f0 f1 f2 f3 kk0 kk2 kk3 hrd6 ho6 ho6' hb6 hb6' hb5 hb5' ho5
  generalize ((((w6.setCell ⟨r, 0, none⟩ (.int .i64 sq)).setCell ⟨r, 1, none⟩ (.int .i64 GT)).setCell ⟨r, 2, none⟩ (.int .i64 GT)).setCell ⟨r, 3, none⟩ (.slice A6 (n + m) c6)) = w7 at hgF ho7 z7 hb07 ⊢
  obtain ⟨k0, k1, k2, k3⟩ := cells4 hgF
  obtain ⟨y0, y1, y2, y3⟩ := cells4 z7
  have fz := no_frozen z7
  go_wp2_with fail
  go_region
  obtain ⟨hg2, hbut, hbel⟩ := set4 z7 (.int .i64 0) (.int .i64 0) (.int .i64 0) (.slice none 0 0)
  have hr5 := (ho7.but (by omega) hbut).same
  have hb5 := hbel _ _ hb07 (Nat.le_succ _)
  clear hbut hbel
  generalize ((((w7.setCell ⟨w.heap.size + 1, 0, none⟩ (.int .i64 0)).setCell ⟨w.heap.size + 1, 1, none⟩ (.int .i64 0)).setCell ⟨w.heap.size + 1, 2, none⟩ (.int .i64 0)).setCell ⟨w.heap.size + 1, 3, none⟩ (.slice none 0 0)) = w8 at hg2 hr5 hb5 ⊢
  obtain ⟨i0, i1, i2, i3⟩ := cells4 (w := w8.drew) hg2
  have HR := hidT hr5
  clear hr5 k0 k1 k2 k3 y0 y1 y2 y3 fz
  go_wp2
  exact bodyPost_ret (v := .tuple #[.agg #[.int .i64 0, .int .i64 0, .int .i64 0, .slice none 0 0], .slice A6 (n + m) c6, .bool true, .int .i64 0]) (by simp [results, Try.results62, go_sem, i0, i1, i2, i3]) rfl ⟨none, 0, 0, _, _, _, rfl, Rd.nil_ _, HR.out.drew, hb5.drew⟩

set_option maxHeartbeats 4000000 in
theorem radd_next_on (sq tt gt : Int) (b : List UInt8) (A : Option Addr) (n c : Nat) (seq : Int) (B : Option Addr) (m d : Nat) (pc : List UInt8) (w : World) (hr : Rd w A n c b) (hp : Rd w B m d pc) (hn : n ≤ 65536) (hm : m ≤ 65536)
    (hgt : gt ≠ 0) (h1 : 1 ≤ tt) (h2 : tt ≤ 32) (h3 : IntKind.i64.wrap (gt + 1) ≠ tt) :
    Calls Try.prog 62 #[.agg #[.int .i64 sq, .int .i64 tt, .int .i64 gt, .slice A n c], .int .i64 seq, .int .i64 gt, .int .i64 tt, .slice B m d] w (AddIs w ⟨⟨sq, tt, IntKind.i64.wrap (gt + 1), b ++ pc⟩, [], false, 0⟩) := by
  have q1 : decide (tt < 1) = false := by simp; omega
  have q2 : decide (32 < tt) = false := by simp; omega
  have q3 : (gt != 0) = true := by simpa using hgt
  have q4 : (gt == 0) = false := by simpa using hgt
  obtain ⟨GT, HGT⟩ : ∃ GT, Hid (IntKind.i64.wrap (gt + 1) = GT) := ⟨_, hidT rfl⟩
  rw [HGT.out] at h3 ⊢
  have q7 : (GT == tt) = false := by simpa using h3
  obtain ⟨g0, g1, hb0⟩ := two_alloc w (.cells #[.int .i64 sq, .int .i64 tt, .int .i64 gt, .slice A n c] 49) (.cells #[.int .i64 0, .int .i64 0, .int .i64 0, .slice none 0 0] 49)
  have hsz : ((w.alloc (.cells #[.int .i64 sq, .int .i64 tt, .int .i64 gt, .slice A n c] 49)).alloc (.cells #[.int .i64 0, .int .i64 0, .int .i64 0, .slice none 0 0] 49)).heap.size = w.heap.size + 2 := by simp only [size_alloc]
  have HE := hidT (madeB ((w.alloc (.cells #[.int .i64 sq, .int .i64 tt, .int .i64 gt, .slice A n c] 49)).alloc (.cells #[.int .i64 0, .int .i64 0, .int .i64 0, .slice none 0 0] 49)) (w.heap.size + 2) (by omega) 5 (w.heap.size + 2) hsz)
  have hbE : Below w.heap.size w (((w.alloc (.cells #[.int .i64 sq, .int .i64 tt, .int .i64 gt, .slice A n c] 49)).alloc (.cells #[.int .i64 0, .int .i64 0, .int .i64 0, .slice none 0 0] 49)).alloc (.cells #[] 5)) := bthen hb0 (nkeep _ _)
  have HP := hidT (hp.below hbE)
  have hzE : w.heap.size + 2 ≤ (((w.alloc (.cells #[.int .i64 sq, .int .i64 tt, .int .i64 gt, .slice A n c] 49)).alloc (.cells #[.int .i64 0, .int .i64 0, .int .i64 0, .slice none 0 0] 49)).alloc (.cells #[] 5)).heap.size := by simp only [size_alloc]; omega
  have x2 := (alloc_old ((w.alloc (.cells #[.int .i64 sq, .int .i64 tt, .int .i64 gt, .slice A n c] 49)).alloc (.cells #[.int .i64 0, .int .i64 0, .int .i64 0, .slice none 0 0] 49)) (.cells #[] 5) w.heap.size (by omega)).trans g0
  have z2 := (alloc_old ((w.alloc (.cells #[.int .i64 sq, .int .i64 tt, .int .i64 gt, .slice A n c] 49)).alloc (.cells #[.int .i64 0, .int .i64 0, .int .i64 0, .slice none 0 0] 49)) (.cells #[] 5) (w.heap.size + 1) (by omega)).trans g1
  obtain ⟨k0, k1, k2, k3⟩ := cells4 g0
  obtain ⟨j0, j1, j2, j3⟩ := cells4 x2
  clear hsz
  go_enter Try.func62, Try.ntmps62
  go_wp2_with (
    at_builtin
    refine wpList_app rfl (.tmp 41) (.tmp 42) 33 rfl (w.heap.size + 2) 5 info5 Try.underlying33 (.slice (some ⟨w.heap.size + 2, 0, none⟩) 0 0) 0 [] rfl HE.out B m d pc rfl HP.out (by omega) hzE ?_
    intro v3 w3 ho3 hb3
    obtain ⟨A3, c3, rfl, hrd3⟩ := Own.rd ho3
    have x3 := (hb3.block w.heap.size (by omega)).trans x2
    have z3 := (hb3.block (w.heap.size + 1) (by omega)).trans z2
    have hl3 := hb3.size
    have hb03 := hbE.trans (hb3.mono (by omega))
    obtain ⟨N3, HN3⟩ : ∃ N3, 0 + m = N3 := ⟨_, rfl⟩
    rw [HN3] at ho3 hrd3 ⊢
    clear HN3 k0 k1 k2 k3 j0 j1 j2 j3
    have x4 := (alloc_old w3 (.cells #[.int .i64 seq, .int .i64 tt, .int .i64 1, .slice A3 N3 c3] 49) w.heap.size (by omega)).trans x3
    have z4 := (alloc_old w3 (.cells #[.int .i64 seq, .int .i64 tt, .int .i64 1, .slice A3 N3 c3] 49) (w.heap.size + 1) (by omega)).trans z3
    have e4 := alloc_at w3 (.cells #[.int .i64 seq, .int .i64 tt, .int .i64 1, .slice A3 N3 c3] 49) _ rfl
    have hb34 := nkeep w3 (.cells #[.int .i64 seq, .int .i64 tt, .int .i64 1, .slice A3 N3 c3] 49)
    have ho4 := ho3.later hb34
    have hb04 := bthen hb03 hb34
    have hsz4 := size_alloc w3 (.cells #[.int .i64 seq, .int .i64 tt, .int .i64 1, .slice A3 N3 c3] 49)
    have fz := no_frozen z4
    obtain ⟨y0, y1, y2, y3⟩ := cells4 z4
    obtain ⟨k0, k1, k2, k3⟩ := cells4 x4)
  obtain ⟨w4, HW4⟩ : ∃ w4, Hid (w3.alloc (.cells #[.int .i64 seq, .int .i64 tt, .int .i64 1, .slice A3 N3 c3] 49) = w4) := ⟨_, hidT rfl⟩
  rw [HW4.out] at x4 z4 e4 ho4 hb04 hsz4 fz y0 y1 y2 y3 k0 k1 k2 k3 hb34 ⊢
  clear HW4
  obtain ⟨d0, d1, d2, d3⟩ := cells4 e4
  obtain ⟨r, HRR⟩ : ∃ r, Hid (w3.heap.size = r) := ⟨_, hidT rfl⟩
  rw [HRR.out] at e4 hsz4 hb34 hl3 d0 d1 d2 d3 ⊢
  have hgr : w.heap.size + 1 < r := by omega
  have hrb : ∀ w', Below r w4 w' → Below w.heap.size w w' := fun w' hb => hb04.trans (hb.mono (by omega))
  have kk0 := fun w' (hb : Below r w4 w') => (hb.cell (p := ⟨w.heap.size, 0, none⟩) (by show w.heap.size < r; omega)).trans k0
  have kk2 := fun w' (hb : Below r w4 w') => (hb.cell (p := ⟨w.heap.size, 2, none⟩) (by show w.heap.size < r; omega)).trans k2
  have kk3 := fun w' (hb : Below r w4 w') => (hb.cell (p := ⟨w.heap.size, 3, none⟩) (by show w.heap.size < r; omega)).trans k3
  have HRB := hidT hrb
  have HR0 := hidT hr
  have HP0 := hidT hp
  have wrp := HGT.out
  have D0 : Below w4.heap.size w4 (w4.alloc (.cells #[] 5)).drew := ((Below.refl _ _).alloc (Nat.le_refl _) _).drew
  have D1 : Below w4.heap.size w4 (w4.alloc (.cells #[] 5)) := (Below.refl _ _).alloc (Nat.le_refl _) _
  have ME : Own (w4.alloc (.cells #[] 5)).drew w4.heap.size 5 (.slice (some ⟨w4.heap.size, 0, none⟩) 0 0) 0 [] := madeB w4 w4.heap.size (Nat.le_refl _) _ _ rfl
  have HME := hidT ME
  clear ME
  have hrsz : r ≤ w4.heap.size := by omega
  have hrlt : r < w4.heap.size := by omega
  have E4 := hidT e4
  have Z4 := hidT z4
  clear hsz4 hrb hr hp k0 k1 k2 k3 d0 d1 d2 d3 y0 y1 y2 y3 fz x4 x3 x2 z3 z2 g0 g1 e4 z4 ho3 ho4 hb3 HE HP hbE hrd3
  go_region_held_law (fun w' => Below r w4 w')
    (first | exact (Below.refl _ _).drew | exact hbF | exact hb6.mono hrsz | exact hb5.mono hrsz | exact D1.mono hrsz | exact D0.mono hrsz)
    (first
      | (refine step_appD 57 (by rfl) (by rfl) (.tmp 54) (.tmp 56) 33 (by rfl) w4.heap.size 5 info5 Try.underlying33 (.slice (some ⟨w4.heap.size, 0, none⟩) 0 0) 0 [] (by rfl) (by exact HME.out) A n c b (by rfl) (by exact HR0.out.below (HRB.out _ (D0.mono hrsz))) (by omega) (by exact D0.size) ?_
         intro v5 w5 ho5 hb5'
         have hb5 : Below w4.heap.size w4 w5 := D0.trans hb5')
      | (refine step_appD 59 (by rfl) (by rfl) (.tmp 57) (.tmp 58) 33 (by rfl) w4.heap.size 5 info5 Try.underlying33 v5 (0 + n) ([] ++ b) (by rfl) (by exact ho5) B m d pc (by rfl) (by exact HP0.out.below (HRB.out _ (hb5.mono hrsz))) (by omega) (by exact hb5.size) ?_
         intro v6 w6 ho6' hb6'
         have ho6 : Own w6 w4.heap.size 5 v6 (n + m) (b ++ pc) := by simpa using ho6'
         obtain ⟨A6, c6, rfl, hrd6⟩ := Own.rd ho6
         have hb6 : Below w4.heap.size w4 w6 := hb5.trans hb6'
         have g6 := (hb6.block _ hrlt).trans E4.out
         obtain ⟨y0, y1, y2, y3⟩ := cells4 g6
         have f0 := no_frozen g6 0
         have f1 := no_frozen g6 1
         have f2 := no_frozen g6 2
         have f3 := no_frozen g6 3
         have hbF : Below r w4 ((((w6.setCell ⟨r, 0, none⟩ (.int .i64 sq)).setCell ⟨r, 1, none⟩ (.int .i64 tt)).setCell ⟨r, 2, none⟩ (.int .i64 GT)).setCell ⟨r, 3, none⟩ (.slice A6 (n + m) c6)) := (set4 g6 _ _ _ _).2.2 _ _ (hb6.mono hrsz) (Nat.le_refl _))
      | fail)
  obtain ⟨hgF, butF, belF⟩ := set4 g6 (.int .i64 sq) (.int .i64 tt) (.int .i64 GT) (.slice A6 (n + m) c6)
  have ho7 := ho6.but hrlt butF
  have z7 := (butF.2 (w.heap.size + 1) (by omega)).trans ((hb6.block _ (by omega)).trans Z4.out)
  have hb07 := HRB.out _ hbF
  clear hbF belF butF g6 y0 y1 y2 y3 f0 f1 f2 f3 kk0 kk2 kk3 hrd6 ho6 ho6' hb6 hb6' hb5 hb5' ho5
  generalize ((((w6.setCell ⟨r, 0, none⟩ (.int .i64 sq)).setCell ⟨r, 1, none⟩ (.int .i64 tt)).setCell ⟨r, 2, none⟩ (.int .i64 GT)).setCell ⟨r, 3, none⟩ (.slice A6 (n + m) c6)) = w7 at hgF ho7 z7 hb07 ⊢
  obtain ⟨k0, k1, k2, k3⟩ := cells4 hgF
  obtain ⟨y0, y1, y2, y3⟩ := cells4 z7
  have fz := no_frozen z7
  go_wp2
  obtain ⟨hg9, hbut9, hbel9⟩ := set4 z7 (.int .i64 sq) (.int .i64 tt) (.int .i64 GT) (.slice A6 (n + m) c6)
  have HR := hidT ((ho7.but (by omega) hbut9).same)
  have HB := hidT (hbel9 _ _ hb07 (Nat.le_succ _))
  generalize ((((w7.setCell ⟨w.heap.size + 1, 0, none⟩ _).setCell ⟨w.heap.size + 1, 1, none⟩ _).setCell ⟨w.heap.size + 1, 2, none⟩ _).setCell ⟨w.heap.size + 1, 3, none⟩ _) = w9 at hg9 HR HB ⊢
  obtain ⟨i0, i1, i2, i3⟩ := cells4 hg9
  exact bodyPost_ret (v := .tuple #[.agg #[.int .i64 sq, .int .i64 tt, .int .i64 GT, .slice A6 (n + m) c6], .slice none 0 0, .bool false, .int .i64 0]) (by simp [results, Try.results62, go_sem, i0, i1, i2, i3]) rfl ⟨_, _, _, _, _, _, rfl, HR.out, Rd.nil_ _, HB.out⟩

theorem radd_any (p : Pt) (A : Option Addr) (n c : Nat) (seq index total : Int) (B : Option Addr) (m d : Nat) (pc : List UInt8) (w : World) (hr : Rd w A n c p.b) (hp : Rd w B m d pc) (hn : n ≤ 65536) (hm : m ≤ 65536) :
    Calls Try.prog 62 #[.agg #[.int .i64 p.seq, .int .i64 p.total, .int .i64 p.got, .slice A n c], .int .i64 seq, .int .i64 index, .int .i64 total, .slice B m d] w (AddIs w (addOf p seq index total pc)) := by
  obtain ⟨sq, tt, gt, b⟩ := p
  dsimp only at hr ⊢
  unfold addOf
  by_cases hf : fits ⟨sq, tt, gt, b⟩ index total = true
  · rw [if_pos hf]
    have hf' := hf
    simp only [fits, Bool.and_eq_true, decide_eq_true_eq, Bool.or_eq_true] at hf'
    obtain ⟨⟨⟨f1, f2⟩, rfl⟩, f4⟩ := hf'
    by_cases h0 : index = 0
    · subst h0
      have e : nextP ⟨sq, tt, 0, b⟩ seq total pc = ⟨seq, total, 1, pc⟩ := rfl
      rw [e]
      dsimp only
      by_cases h1 : 1 = total
      · subst h1
        rw [if_pos rfl]
        exact radd_first_whole sq tt 0 b A n c seq B m d pc w hr hp hn hm rfl
      · rw [if_neg h1]
        exact radd_first_on sq tt 0 b A n c seq total B m d pc w hr hp hn hm rfl (by omega) f2
    · obtain rfl : total = tt := by rcases f4 with h | h; exact absurd h h0; exact h
      have e : nextP ⟨sq, total, index, b⟩ seq total pc = ⟨sq, total, IntKind.i64.wrap (index + 1), b ++ pc⟩ := by unfold nextP; rw [if_neg h0]
      rw [e]
      dsimp only
      by_cases h1 : IntKind.i64.wrap (index + 1) = total
      · rw [if_pos h1]
        exact radd_next_whole sq total index b A n c seq B m d pc w hr hp hn hm h0 f1 f2 h1
      · rw [if_neg h1]
        exact radd_next_on sq total index b A n c seq B m d pc w hr hp hn hm h0 f1 f2 h1
  · rw [if_neg hf]
    by_cases h1 : total < 1
    · exact radd_no1 sq tt gt b A n c seq index total B m d pc w hr hp hn hm h1
    · by_cases h2 : 32 < total
      · exact radd_no2 sq tt gt b A n c seq index total B m d pc w hr hp hn hm (by omega) h2
      · by_cases h3 : index = gt
        · have h4 : ¬ (gt = 0 ∨ total = tt) := by
            intro h
            apply hf
            simp only [fits, Bool.and_eq_true, decide_eq_true_eq, Bool.or_eq_true]
            exact ⟨⟨⟨by omega, by omega⟩, h3⟩, h⟩
          exact radd_no4 sq tt gt b A n c seq index total B m d pc w hr hp hn hm (by omega) (by omega) h3 (fun h => h4 (.inl h)) (fun h => h4 (.inr h))
        · exact radd_no3 sq tt gt b A n c seq index total B m d pc w hr hp hn hm (by omega) (by omega) h3
end Go.Proofs.Ytdchgnmkeefffaa
/- What the document's Cut comes to. -/
namespace Go.Proofs.Ytdchgnmkeefffaa
open Go.RowKit
set_option linter.unusedVariables false

/-- A row of bytes in memory. -/
structure Bw where
  A : Option Addr
  n : Nat
  c : Nat
  b : List UInt8
def Bw.val (r : Bw) : Value := .slice r.A r.n r.c
/-- Rows of bytes. -/
def RdB (w : World) (A : Option Addr) (n c : Nat) (rs : List Bw) : Prop := RdV w A n c (rs.map Bw.val) ∧ ∀ r ∈ rs, Rd w r.A r.n r.c r.b
/-- A call that gives pieces in memory of its own, and turns nothing that was. -/
def GivesP (w : World) (ls : List (List UInt8)) (e : Ending) (w' : World) : Prop := ∃ A n c rs, e = .returned (.slice A n c) ∧ RdB w' A n c rs ∧ rs.map Bw.b = ls ∧ Below w.heap.size w w' ∧ (∀ b o, A = some ⟨b, o, none⟩ → w.heap.size ≤ b) ∧ ∀ r ∈ rs, ∀ b o, r.A = some ⟨b, o, none⟩ → w.heap.size ≤ b
theorem infoS : (Try.prog.info? 33).map (fun i => (i.zero, i.size, i.bytes)) = some (some (.slice none 0 0), 1, 24) := by kernel_rfl
theorem nkeep' (w : World) (o : Obj) : Below w.heap.size w (w.alloc o) := (Below.refl _ _).alloc (Nat.le_refl _) _

theorem RdB.size {w : World} {A : Option Addr} {n c : Nat} {rs : List Bw} (h : RdB w A n c rs) : rs.length = n := by have := h.1.1; simpa using this
theorem RdB.le {w : World} {A : Option Addr} {n c : Nat} {rs : List Bw} (h : RdB w A n c rs) : n ≤ 9223372036854775807 := h.1.le
theorem RdB.below {w w' : World} {A : Option Addr} {n c : Nat} {rs : List Bw} (h : RdB w A n c rs) (hb : Below w.heap.size w w') : RdB w' A n c rs := ⟨h.1.below hb, fun r hr => (h.2 r hr).below hb⟩
theorem RdB.at_ {w : World} {A : Option Addr} {n c : Nat} {rs : List Bw} (h : RdB w A n c rs) {k : Nat} (hk : k < n) : ∃ b o r, A = some ⟨b, o, none⟩ ∧ rs[k]? = some r ∧ Rd w r.A r.n r.c r.b ∧ ∀ w', Below w.heap.size w w' → w'.cell? ⟨b, o + k, none⟩ = some (.slice r.A r.n r.c) := by
  obtain ⟨b, o, u, hA, hu, hc⟩ := h.1.at_ hk
  rw [List.getElem?_map, Option.map_eq_some_iff] at hu
  obtain ⟨r, hr, rfl⟩ := hu
  exact ⟨b, o, r, hA, hr, h.2 r (List.mem_of_getElem? hr), fun w' hb => (hb.cell (World.block_lt_of_cell? _ _ hc)).trans hc⟩
theorem take_snocB {rs : List Bw} {j : Nat} {r : Bw} (h : rs[j]? = some r) : (rs.map Bw.b).take (j + 1) = (rs.map Bw.b).take j ++ [r.b] := by
  rw [List.take_add_one, List.getElem?_map, h]
  rfl


theorem drop_take_snoc {l : List UInt8} {o q : Nat} {x : UInt8} (h : l[o + q]? = some x) : (l.drop o).take q ++ [x] = (l.drop o).take (q + 1) := by
  rw [List.take_add_one, List.getElem?_drop, h]
  rfl
/-- Rows that the call owns, one behind the other. -/
def OwnB (w : World) (base : Nat) (rs : List Bw) : Prop := ∀ r ∈ rs, Own w base 5 (Bw.val r) r.n r.b
theorem OwnB.later {w w' : World} {base : Nat} {rs : List Bw} (h : OwnB w base rs) (hb : Below w.heap.size w w') : OwnB w' base rs := fun r hr => (h r hr).later hb
theorem OwnB.snoc {w : World} {base : Nat} {rs : List Bw} {r : Bw} (h : OwnB w base rs) (hr : Own w base 5 (Bw.val r) r.n r.b) : OwnB w base (rs ++ [r]) := by
  intro x hx
  rcases List.mem_append.1 hx with hx | hx
  · exact h x hx
  · rw [List.mem_singleton.1 hx]; exact hr
theorem OwnB.grown {w w' : World} {base base' k : Nat} {rs : List Bw} {v : Value} {l : List Value} (h : OwnB w base rs) (h' : OwnV w base' 33 v k l) (hg : w.grownBy w' v.ownBlock) : OwnB w' base rs := fun r hr => OwnV.grown (h r hr) h' (by decide) hg


end Go.Proofs.Ytdchgnmkeefffaa
