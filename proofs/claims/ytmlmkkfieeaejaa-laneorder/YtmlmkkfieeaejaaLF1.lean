/- What frag.follows, both Same of messages under way, and slices.Concat come to. -/
import Derived.Test.YtmlmkkfieeaejaaLB0
set_option maxRecDepth 100000
namespace Go.Proofs.Ytmlmkkfieeaejaa
open Go.RowKit
set_option linter.unusedVariables false

/-- A message under way, as a value. -/
def IsPt (w : World) (v : Value) (p : Pt) : Prop := ∃ A n c, v = .agg #[.int .i64 p.seq, .int .i64 p.total, .int .i64 p.got, .slice A n c] ∧ Rd w A n c p.b
theorem IsPt.below {w w' : World} {v : Value} {p : Pt} (h : IsPt w v p) (hb : Below w.heap.size w w') : IsPt w' v p := by
  obtain ⟨A, n, c, rfl, hr⟩ := h
  exact ⟨A, n, c, rfl, hr.below hb⟩
theorem follows_any (p : Pt) (A : Option Addr) (n c : Nat) (index total : Int) (w : World) (t : Bool) (ht : fits p index total = t) :
    Calls Try.prog 67 #[.agg #[.int .i64 p.seq, .int .i64 p.total, .int .i64 p.got, .slice A n c], .int .i64 index, .int .i64 total] w (Says w t) := by
  have HT := hidT ht
  clear ht
  obtain ⟨sq, tt, gt, b⟩ := p
  dsimp only
  have hh := alloc_at w (.cells #[.int .i64 sq, .int .i64 tt, .int .i64 gt, .slice A n c] 25) w.heap.size rfl
  obtain ⟨k0, k1, k2, k3⟩ := cells4 hh
  have hbel : Below w.heap.size w (w.alloc (.cells #[.int .i64 sq, .int .i64 tt, .int .i64 gt, .slice A n c] 25)) := (Below.refl _ _).alloc (Nat.le_refl _) _
  clear hh
  by_cases h1 : total < 1
  · have q1 : decide (total < 1) = true := by simpa using h1
    have HF : Hid (t = false) := by have := HT.out; unfold fits at this; rw [show decide (1 ≤ total) = false from by simpa using h1] at this; exact hidT (by simpa using this.symm)
    go_enter Try.func67, Try.ntmps67
    go_wp2
    go_ret
    rw [HF.out]
    exact ⟨rfl, hbel⟩
  · by_cases h2 : 32 < total
    · have q1 : decide (total < 1) = false := by simpa using h1
      have q2 : decide (32 < total) = true := by simpa using h2
      have HF : Hid (t = false) := by have := HT.out; unfold fits at this; rw [show decide (total ≤ 32) = false from by simpa using h2] at this; exact hidT (by simpa using this.symm)
      go_enter Try.func67, Try.ntmps67
      go_wp2
      go_ret
      rw [HF.out]
      exact ⟨rfl, hbel⟩
    · have q1 : decide (total < 1) = false := by simpa using h1
      have q2 : decide (32 < total) = false := by simpa using h2
      by_cases h3 : index = gt
      · subst h3
        have HF : Hid ((decide (index = 0) || decide (total = tt)) = t) := by
          have := HT.out
          unfold fits at this
          rw [show decide (1 ≤ total) = true from by simp; omega, show decide (total ≤ 32) = true from by simp; omega] at this
          exact hidT (by simpa using this)
        by_cases h4 : index = 0
        · subst h4
          have HF2 : Hid (t = true) := hidT (by have := HF.out; simpa using this.symm)
          clear HF HT
          go_enter Try.func67, Try.ntmps67
          go_wp2
          go_ret
          rw [HF2.out]
          exact ⟨rfl, hbel⟩
        · have q3 : (index == 0) = false := by simpa using h4
          by_cases h5 : total = tt
          · subst h5
            have HF2 : Hid (t = true) := hidT (by have := HF.out; simpa using this.symm)
            clear HF HT
            go_enter Try.func67, Try.ntmps67
            go_wp2
            go_ret
            rw [HF2.out]
            exact ⟨rfl, hbel⟩
          · have HF2 : Hid (t = false) := hidT (by have := HF.out; simpa [h4, h5] using this.symm)
            have q5 : (total == tt) = false := by simpa using h5
            clear HF HT
            go_enter Try.func67, Try.ntmps67
            go_wp2
            go_ret
            rw [HF2.out]
            exact ⟨rfl, hbel⟩
      · have q3 : (index != gt) = true := by simpa using h3
        have q4 : (index == gt) = false := by simpa using h3
        have HF : Hid (t = false) := by have := HT.out; unfold fits at this; rw [show decide (index = gt) = false from by simpa using h3] at this; exact hidT (by simpa using this.symm)
        clear HT
        go_enter Try.func67, Try.ntmps67
        go_wp2
        go_ret
        rw [HF.out]
        exact ⟨rfl, hbel⟩



set_option maxHeartbeats 2000000 in
theorem fsame_any (p q : Pt) (A : Option Addr) (n c : Nat) (B : Option Addr) (m d : Nat) (w : World) (ha : Rd w A n c p.b) (hb : Rd w B m d q.b) (t : Bool) (ht : decide (p = q) = t) :
    Calls Try.prog 38 #[.agg #[.int .i64 p.seq, .int .i64 p.total, .int .i64 p.got, .slice A n c], .agg #[.int .i64 q.seq, .int .i64 q.total, .int .i64 q.got, .slice B m d]] w (Says w t) := by
  have HT := hidT ht
  clear ht
  obtain ⟨s1, t1, g1, l1⟩ := p
  obtain ⟨s2, t2, g2, l2⟩ := q
  dsimp only at ha hb ⊢
  obtain ⟨h0, h1, hbel⟩ := two_alloc w (.cells #[.int .i64 s1, .int .i64 t1, .int .i64 g1, .slice A n c] 25) (.cells #[.int .i64 s2, .int .i64 t2, .int .i64 g2, .slice B m d] 25)
  obtain ⟨k0, k1, k2, k3⟩ := cells4 h0
  obtain ⟨j0, j1, j2, j3⟩ := cells4 h1
  have ra := ha.below hbel
  have rb := hb.below hbel
  have HB := hidT hbel
  clear h0 h1 ha hb hbel
  by_cases h : s1 ≠ s2
  · skip
    have q1 : (s1 == s2) = false := by simpa using h
    have HF : Hid (t = false) := hidT (by have := HT.out; simpa [h] using this.symm)
    clear HT
    go_enter Try.func38, Try.ntmps38
    go_wp2
    go_ret
    rw [HF.out]
    exact ⟨rfl, HB.out⟩
  obtain rfl := Decidable.not_not.1 h
  clear h
  by_cases h : t1 ≠ t2
  · skip
    have q1 : (t1 == t2) = false := by simpa using h
    have HF : Hid (t = false) := hidT (by have := HT.out; simpa [h] using this.symm)
    clear HT
    go_enter Try.func38, Try.ntmps38
    go_wp2
    go_ret
    rw [HF.out]
    exact ⟨rfl, HB.out⟩
  obtain rfl := Decidable.not_not.1 h
  clear h
  by_cases h : g1 ≠ g2
  · skip
    have q1 : (g1 == g2) = false := by simpa using h
    have HF : Hid (t = false) := hidT (by have := HT.out; simpa [h] using this.symm)
    clear HT
    go_enter Try.func38, Try.ntmps38
    go_wp2
    go_ret
    rw [HF.out]
    exact ⟨rfl, HB.out⟩
  obtain rfl := Decidable.not_not.1 h
  clear h
  have HF : Hid (decide (l1 = l2) = t) := hidT (by have := HT.out; simpa using this)
  clear HT
  have hq := bytesEqual_is A n c l1 B m d l2 _ ra rb t HF.out
  clear ra rb
  go_enter Try.func38, Try.ntmps38
  go_wp2_with fail
  with_reducible refine hq.mono ?_
  rintro e w1 ⟨rfl, rfl⟩
  cases t
  all_goals
    go_wp2
    go_ret
    exact ⟨rfl, HB.out⟩

set_option maxHeartbeats 2000000 in
theorem psame_any (p q : Pt) (A : Option Addr) (n c : Nat) (B : Option Addr) (m d : Nat) (w : World) (ha : Rd w A n c p.b) (hb : Rd w B m d q.b) (t : Bool) (ht : decide (p = q) = t) :
    Calls Try.prog 42 #[.agg #[.int .i64 p.seq, .int .i64 p.total, .int .i64 p.got, .slice A n c], .agg #[.int .i64 q.seq, .int .i64 q.total, .int .i64 q.got, .slice B m d]] w (Says w t) := by
  have HT := hidT ht
  clear ht
  obtain ⟨s1, t1, g1, l1⟩ := p
  obtain ⟨s2, t2, g2, l2⟩ := q
  dsimp only at ha hb ⊢
  obtain ⟨h0, h1, hbel⟩ := two_alloc w (.cells #[.int .i64 s1, .int .i64 t1, .int .i64 g1, .slice A n c] 25) (.cells #[.int .i64 s2, .int .i64 t2, .int .i64 g2, .slice B m d] 25)
  obtain ⟨k0, k1, k2, k3⟩ := cells4 h0
  obtain ⟨j0, j1, j2, j3⟩ := cells4 h1
  have ra := ha.below hbel
  have rb := hb.below hbel
  have HB := hidT hbel
  clear h0 h1 ha hb hbel
  by_cases h : s1 ≠ s2
  · skip
    have q1 : (s1 == s2) = false := by simpa using h
    have HF : Hid (t = false) := hidT (by have := HT.out; simpa [h] using this.symm)
    clear HT
    go_enter Try.func42, Try.ntmps42
    go_wp2
    go_ret
    rw [HF.out]
    exact ⟨rfl, HB.out⟩
  obtain rfl := Decidable.not_not.1 h
  clear h
  by_cases h : t1 ≠ t2
  · skip
    have q1 : (t1 == t2) = false := by simpa using h
    have HF : Hid (t = false) := hidT (by have := HT.out; simpa [h] using this.symm)
    clear HT
    go_enter Try.func42, Try.ntmps42
    go_wp2
    go_ret
    rw [HF.out]
    exact ⟨rfl, HB.out⟩
  obtain rfl := Decidable.not_not.1 h
  clear h
  by_cases h : g1 ≠ g2
  · skip
    have q1 : (g1 == g2) = false := by simpa using h
    have HF : Hid (t = false) := hidT (by have := HT.out; simpa [h] using this.symm)
    clear HT
    go_enter Try.func42, Try.ntmps42
    go_wp2
    go_ret
    rw [HF.out]
    exact ⟨rfl, HB.out⟩
  obtain rfl := Decidable.not_not.1 h
  clear h
  have HF : Hid (decide (l1 = l2) = t) := hidT (by have := HT.out; simpa using this)
  clear HT
  have z1 := strs ra _ (Below.refl _ _)
  have z2 := strs rb _ (Below.refl _ _)
  have q := str_beq l1 l2
  rw [HF.out] at q
  clear ra rb HF
  cases t
  all_goals
    go_enter Try.func42, Try.ntmps42
    go_wp2
    go_ret
    exact ⟨rfl, HB.out⟩

/-- A row of the call's own with room, of no element yet. -/
def Room (w : World) (e : Ending) (w' : World) : Prop := ∃ A c, e = .returned (.slice A 0 c) ∧ Own w' w.heap.size 5 (.slice A 0 c) 0 [] ∧ Below w.heap.size w w'

theorem keepC' {w w' : World} {p : Addr} {u : Value} (hb : Below w.heap.size w w') (h : w.cell? p = some u) : w'.cell? p = some u := (hb.cell (World.block_lt_of_cell? _ _ h)).trans h

theorem grow_nil (n : Nat) (w : World) (hn : n ≤ 1048576) :
    Calls Try.prog 70 #[.slice none 0 0, .int .i64 (n : Int)] w (Room w) := by
  by_cases h0 : n = 0
  · subst h0
    go_enter Try.func70, Try.ntmps70
    go_wp2
    go_ret
    exact ⟨none, 0, rfl, World.ownsRow_nil _ _ _ _, Below.refl _ _⟩
  · obtain ⟨i0, hi0, hz0, hz1, hz2⟩ := info_parts info5
    have hrun := Lib.run_append_nil_zeros (P := Try.prog) w 23 3 0 5 i0 (.int .u8 0) .i64 .i64 Try.underlying23 Try.underlying3 hi0 hz0 n (by omega) (by omega) (by omega) (by rw [hz2]; omega)
    have hge := grownCap_ge w n 0 5
    have hle := grownCap_le_maxLen w n 0 5 (by simp only [maxLen]; omega)
    generalize grownCap w n 0 5 = cap at hrun hge hle
    have hown : Own (w.drew.alloc (.cells (Builtin.zeroCells (Value.int .u8 0).cells n ++ Builtin.zeroCells (Value.int .u8 0).cells (cap - n)) 5)) w.heap.size 5 (.slice (some ⟨w.heap.size, 0, none⟩) 0 cap) 0 [] := by
      refine ⟨rfl, .inr ⟨w.heap.size, cap, _, rfl, Nat.le_refl _, heap_alloc_new w.drew _, Nat.zero_le _, hle, ?_, by simp [bs]⟩⟩
      rw [Array.size_append, size_zeroCells, size_zeroCells]
      show n * 1 + (cap - n) * 1 = cap * 1
      omega
    have hb : Below w.heap.size w (w.drew.alloc (.cells (Builtin.zeroCells (Value.int .u8 0).cells n ++ Builtin.zeroCells (Value.int .u8 0).cells (cap - n)) 5)) := (Below.refl _ _).drew.alloc (Nat.le_refl _) _
    generalize w.drew.alloc (.cells (Builtin.zeroCells (Value.int .u8 0).cells n ++ Builtin.zeroCells (Value.int .u8 0).cells (cap - n)) 5) = w1 at hrun hown hb
    go_enter Try.func70, Try.ntmps70
    go_wp2_with (
      at_builtin
      refine Lib.wpList_append_run _ rfl (.tmp 20) (.tmp 21) 23 3 rfl _ _ rfl rfl _ _ hrun ?_)
    go_ret
    exact ⟨_, _, rfl, hown, hb⟩


set_option maxHeartbeats 2000000 in
theorem concat2 (g : Nat) (A : Option Addr) (n c : Nat) (l : List UInt8) (B : Option Addr) (m d : Nat) (b : List UInt8) (w : World)
    (h0 : w.cell? ⟨g, 0, none⟩ = some (.slice A n c)) (h1 : w.cell? ⟨g, 1, none⟩ = some (.slice B m d))
    (hr : Rd w A n c l) (hb : Rd w B m d b) (hn : n ≤ 65536) (hm : m ≤ 65536) :
    Calls Try.prog 68 #[.slice (some ⟨g, 0, none⟩) 2 2] w (Gives w 5 (l ++ b)) := by
  have e1 := hr.1
  have e3 := hb.1
  have hg := grow_nil (n + m) w (by omega)
  have ez : ((n + m : Nat) : Int) = (n : Int) + (m : Int) := by omega
  rw [ez] at hg
  have HL : Hid ((l ++ b).length = n + m) := by rw [List.length_append, e1, e3]; exact hidT rfl
  clear e1 e3 ez
  go_enter Try.func68, Try.ntmps68
  go_wp2
  refine wp_loop_rounds 3 ?_
  rw [rounds_succ]
  go_wp2
  rw [rounds_succ]
  go_wp2
  rw [rounds_succ]
  go_wp2_with fail
  with_reducible refine hg.mono ?_
  rintro e w1 ⟨R, rc, rfl, ho, hb1⟩
  have k0 := keepC' hb1 h0
  have k1 := keepC' hb1 h1
  go_wp2
  refine wp_loop_rounds 3 ?_
  rw [rounds_succ]
  go_wp2_with (
    at_builtin
    refine wpList_app rfl (.tmp 31) (.tmp 32) 23 rfl w.heap.size 5 info5 Try.underlying23 _ 0 [] rfl ho _ n c l rfl (hr.below hb1) (by omega) hb1.size ?_
    intro v2 w2 ho2 hb2)
  have hbw2 := hb1.trans hb2
  rw [Nat.zero_add, List.nil_append] at ho2
  have k0' := keepC' hbw2 h0
  have k1' := keepC' hbw2 h1
  rw [rounds_succ]
  go_wp2_with (
    at_builtin
    refine wpList_app rfl (.tmp 31) (.tmp 32) 23 rfl w.heap.size 5 info5 Try.underlying23 _ n l rfl ho2 _ m d b rfl (hb.below hbw2) (by omega) hbw2.size ?_
    intro v3 w3 ho3 hb3)
  have hbw3 := hbw2.trans hb3
  have m0 := keepC' hbw3 h0
  have m1 := keepC' hbw3 h1
  rw [rounds_succ]
  go_wp2
  go_ret
  exact Own.gives ho3 hbw3
end Go.Proofs.Ytmlmkkfieeaejaa
