/- What net's Spoil comes to. -/
import Derived.Test.YtenefjkgnkelgaaNet4
import Derived.Test.YtenefjkgnkelgaaCrc3
set_option maxRecDepth 100000
namespace Go.Proofs.Ytenefjkgnkelgaa
open Go.RowKit
set_option linter.unusedVariables false

theorem nbytesEqual_is (A : Option Addr) (n c : Nat) (a : List UInt8) (B : Option Addr) (m d : Nat) (b : List UInt8) (w : World) (ha : Rd w A n c a) (hb : Rd w B m d b) (t : Bool) (ht : decide (a = b) = t) :
    Calls Try.prog 28 #[.slice A n c, .slice B m d] w fun e w' => e = .returned (.bool t) ∧ w = w' := by
  have s1 := strs ha w (Below.refl _ _)
  have s2 := strs hb w (Below.refl _ _)
  have q := str_beq a b
  rw [ht] at q
  clear ha hb ht
  cases t
  all_goals
    go_enter Try.func28, Try.ntmps28
    go_wp2
    go_ret
    exact ⟨rfl, rfl⟩

/-- A row with a letter spoilt. -/
def spoilL (ls : List Lt) (k : Nat) (x : Lt) (at_ : Int) (by_ : List UInt8) : List Lt :=
  if x.sp = true ∨ Crc.spoil x.b at_ by_ = x.b then ls else ls.set k ⟨x.to, Crc.spoil x.b at_ by_, true⟩
theorem spoilL_length (ls : List Lt) (k : Nat) (x : Lt) (at_ : Int) (by_ : List UInt8) : (spoilL ls k x at_ by_).length = ls.length := by
  unfold spoilL
  split
  · rfl
  · simp

theorem setBS_done {w : World} {base g j : Nat} {T : TypeId} {us : List Tri} {ls : List Lt} {t : Tri} {x : Lt} {A : Option Addr} {n c : Nat} {bs' : List UInt8} (hbg : base ≤ g) (hg : w.heap[g]? = some (.cells (raw us).toArray T (0, 0))) (hl : AreL w us ls) (ho : Off g us)
    (ht : us[j]? = some t) (hx : ls[j]? = some x) (hr : Rd w A n c bs') (hA : 0 < n → ∀ b o, A = some ⟨b, o, none⟩ → b ≠ g) :
    IsFresh base T (ls.set j ⟨x.to, bs', true⟩) g ((w.setCell ⟨g, j * 3 + 1, none⟩ (.slice A n c)).setCell ⟨g, j * 3 + 2, none⟩ (.bool true)) := by
  have hi := hl.2 j t x ht hx
  have h2 : AreL w (us.set j ⟨t.to, A, n, c, true⟩) (ls.set j ⟨x.to, bs', true⟩) := hl.set j ⟨hi.1, rfl, hr⟩
  have o2 : Off g (us.set j ⟨t.to, A, n, c, true⟩) := ho.set j hA
  refine ⟨hbg, _, ?_, h2.but o2 ((But.setCell w g _ _).trans (But.setCell _ g _ _)), o2⟩
  have e1 := heap_setCell_same w g (j * 3 + 1) _ T (.slice A n c) hg
  rw [List.setIfInBounds_toArray, ← raw_setB ht] at e1
  have e2 := heap_setCell_same _ g (j * 3 + 2) _ T (.bool true) e1
  have hj : j < us.length := by
    rcases Nat.lt_or_ge j us.length with h | h
    · exact h
    · rw [List.getElem?_eq_none h] at ht; cases ht
  have e3 : (us.set j ⟨t.to, A, n, c, t.sp⟩)[j]? = some ⟨t.to, A, n, c, t.sp⟩ := by simp [hj]
  have e4 := raw_setS e3 true
  rw [List.set_set] at e4
  rw [e2, List.setIfInBounds_toArray, ← e4]

set_option maxHeartbeats 1000000 in
theorem nspoil_in (b o n c : Nat) (ls : List Lt) (k : Nat) (x : Lt) (at_ : Int) (B : Option Addr) (m d : Nat) (by_ : List UInt8) (w : World) (h : RdL w (some ⟨b, o, none⟩) n c ls) (hB : Rd w B m d by_) (hs : Small ls) (hk : k < n) (hx : ls[k]? = some x) :
    Calls Try.prog 17 #[.slice (some ⟨b, o, none⟩) n c, .int .i64 (k : Int), .int .i64 at_, .slice B m d] w (FreshC w 29 (spoilL ls k x at_ by_) 0) := by
  have hle := h.le
  have hs1 := h.size
  have q : decide (0 ≤ (k : Int) ∧ (k : Int) < (n : Int)) = true := by simp; omega
  have hh := fun w => has_is (some ⟨b, o, none⟩) n c k w hle
  rw [q] at hh
  clear q
  have hf := fresh1 (some ⟨b, o, none⟩) n c ls (w.alloc (.cells #[.slice (some ⟨b, o, none⟩) n c] 22)) _ (rows1 _ _ _) (h.alloc _) hs
  go_enter Try.func17, Try.ntmps17
  go_wp2_with fail
  with_reducible refine hf.mono ?_
  rintro e w1 ⟨g, N, hN, rfl, hg, hb1⟩
  obtain rfl : n = N := by omega
  have hb0 : Below w.heap.size w w1 := bthen ((Below.refl _ w).alloc (Nat.le_refl _) _) hb1
  have hgm := hg.mono (a := w.heap.size) (by rw [size_alloc]; omega)
  clear hf hN hg hb1
  go_wp2_with fail
  with_reducible refine (hh _).mono ?_
  rintro e w2 ⟨rfl, rfl⟩
  clear hh
  obtain ⟨hg0, us, hgu, hlu, hou⟩ := id hgm
  have hku : k < us.length := by rw [hlu.1]; omega
  obtain ⟨t, ht⟩ : ∃ t, us[k]? = some t := ⟨_, List.getElem?_eq_getElem hku⟩
  have hi := hlu.2 k t x ht hx
  obtain ⟨_, k1, k2⟩ := cellB hgu ht
  have hxs := hi.2.1
  have hgl : g < w1.heap.size := by
    rcases Nat.lt_or_ge g w1.heap.size with hlt | hge
    · exact hlt
    · rw [Array.getElem?_eq_none hge] at hgu; cases hgu
  have t1 : (0 : Int) ≤ (k : Int) := by omega
  have t2 : (k : Int) < (n : Int) := by omega
  have HX := hidT hx
  have HT := hidT ht
  have hxb := hs.2 x (List.mem_of_getElem? hx)
  have hxl : x.b.length = t.n := hi.2.2.1
  clear hx ht
  by_cases hsp : x.sp = true
  · have HE : Hid (spoilL ls k x at_ by_ = ls) := if_pos (.inl hsp)
    rw [hxs, hsp] at k2
    clear hxs hsp
    go_wp2
    go_ret2
    rw [HE.out]
    exact ⟨g, n, hs1, rfl, hgm, hb0⟩
  · have hsp' : x.sp = false := by simpa using hsp
    rw [hxs, hsp'] at k2
    have hS := spoil_any t.A t.n t.c x.b at_ B m d by_ w1 hi.2.2 (hB.below hb0) (by omega)
    obtain ⟨y, hy⟩ : ∃ y, Crc.spoil x.b at_ by_ = y := ⟨_, rfl⟩
    rw [hy] at hS
    have HY := hidT hy
    clear hy hxl
    go_wp2_with fail
    with_reducible refine hS.mono ?_
    rintro e w3 ⟨A3, c3, rfl, ho3, hb3⟩
    have hgu3 := (hb3.block g hgl).trans hgu
    obtain ⟨_, k1', k2'⟩ := cellB hgu3 HT.out
    have hr3 := ho3.same
    have hi3 := hi.2.2.below hb3
    have hE := fun tt htt => nbytesEqual_is A3 y.length c3 y t.A t.n t.c x.b w3 hr3 hi3 tt htt
    have hb03 := bthen hb0 hb3
    have hlu3 := hlu.below hb3
    have hadr : 0 < y.length → ∀ b o, A3 = some ⟨b, o, none⟩ → b ≠ g := fun h0 b o hA => by
      have := addrB ho3 (Nat.le_refl _) b o hA
      omega
    have HD := hidT (setBS_done hg0 hgu3 hlu3 hou HT.out HX.out hr3 hadr)
    have hf1 := frozen_of_row w3 g (k * 3 + 1) _ _ hgu3
    have hf2 := frozen_of_row w3 g (k * 3 + 2) _ _ hgu3
    have HB := hidT ((hb03.setCell (p := ⟨g, k * 3 + 1, none⟩) hg0 (.slice A3 y.length c3)).setCell (p := ⟨g, k * 3 + 2, none⟩) hg0 (.bool true))
    clear hS ho3 hadr hi k1 k2 hxs
    by_cases hyb : y = x.b
    · have hE' := hE true (by simpa using hyb)
      have HE : Hid (spoilL ls k x at_ by_ = ls) := if_pos (.inr (HY.out.trans hyb))
      have hgm3 := hgm.below hb3
      clear hE hyb hsp hsp'
      go_wp2_with fail
      with_reducible refine hE'.mono ?_
      rintro e w4 ⟨rfl, rfl⟩
      clear hE'
      go_wp2
      go_ret2
      rw [HE.out]
      exact ⟨g, n, hs1, rfl, hgm3, hb03⟩
    · have hE' := hE false (by simpa using hyb)
      have HE : Hid (spoilL ls k x at_ by_ = ls.set k ⟨x.to, y, true⟩) := by
        unfold Hid spoilL
        rw [HY.out, if_neg (fun e => e.elim hsp hyb)]
      clear hE hyb hsp hsp'
      go_wp2_with fail
      with_reducible refine hE'.mono ?_
      rintro e w4 ⟨rfl, rfl⟩
      clear hE'
      go_wp2
      go_ret2
      rw [HE.out]
      exact ⟨g, n, by rw [List.length_set]; exact hs1, rfl, HD.out, HB.out⟩
theorem nspoil_out (A : Option Addr) (n c : Nat) (ls : List Lt) (i : Int) (at_ : Int) (B : Option Addr) (m d : Nat) (w : World) (h : RdL w A n c ls) (hs : Small ls) (hi : ¬ (0 ≤ i ∧ i < n)) :
    Calls Try.prog 17 #[.slice A n c, .int .i64 i, .int .i64 at_, .slice B m d] w (FreshC w 29 ls 7) := by
  have hle := h.le
  have q : decide (0 ≤ i ∧ i < (n : Int)) = false := by simpa using hi
  have hh := fun w => has_is A n c i w hle
  rw [q] at hh
  clear q hi
  have hf := fresh1 A n c ls (w.alloc (.cells #[.slice A n c] 22)) _ (rows1 _ _ _) (h.alloc _) hs
  go_enter Try.func17, Try.ntmps17
  go_wp2_with fail
  with_reducible refine hf.mono ?_
  rintro e w1 ⟨g, N, hN, rfl, hg, hb1⟩
  have HN := hidT hN
  clear hN
  have hb0 : Below w.heap.size w w1 := bthen ((Below.refl _ w).alloc (Nat.le_refl _) _) hb1
  clear hf
  go_wp2_with fail
  with_reducible refine (hh _).mono ?_
  rintro e w2 ⟨rfl, rfl⟩
  clear hh
  go_wp2
  go_ret2
  exact ⟨g, N, HN.out, rfl, hg.mono (by simp only [size_alloc]; omega), hb0⟩
end Go.Proofs.Ytenefjkgnkelgaa
