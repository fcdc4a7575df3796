/- What the document's own Put, All, Give, Drop, Dup come to. -/
import Derived.Test.YtenefjkgnkelgaaNetLaw
import Derived.BigRegion
set_option maxRecDepth 100000
namespace Go.Proofs.Ytenefjkgnkelgaa
open Go.RowKit
set_option linter.unusedVariables false

/-- A row. -/
def RowTo (w : World) (ls : List Lt) (e : Ending) (w' : World) : Prop := ∃ A n c, e = .returned (.slice A n c) ∧ RdL w' A n c ls ∧ Below w.heap.size w w'
def RowC (w : World) (ls : List Lt) (code : Int) (e : Ending) (w' : World) : Prop := ∃ A n c, e = .returned (.tuple #[.slice A n c, .int .i64 code]) ∧ RdL w' A n c ls ∧ Below w.heap.size w w'
def RowG (w : World) (x : Lt) (ls : List Lt) (code : Int) (e : Ending) (w' : World) : Prop :=
  ∃ B m d A n c, e = .returned (.tuple #[.agg #[.int .i64 x.to, .slice B m d, .bool x.sp], .slice A n c, .int .i64 code]) ∧ Rd w' B m d x.b ∧ RdL w' A n c ls ∧ Below w.heap.size w w'

theorem made0 (w : World) (base : Nat) (hb : base ≤ w.heap.size) (e : TypeId) : OwnT (w.alloc (.cells #[] e)) base e (.slice (some ⟨w.heap.size, 0, none⟩) 0 0) 0 [] :=
  World.ownsRow_made (base := base) (e := e) (size := 3) w #[] 0 hb (Nat.zero_le _) rfl
theorem AreL.grown {w w' : World} {ts : List Tri} {ls : List Lt} {row : Option Nat} (h : AreL w ts ls) (hg : w.grownBy w' row) (hr : ∀ t ∈ ts, ∀ b, t.A.map (·.block) = some b → row ≠ some b) : AreL w' ts ls :=
  ⟨h.1, fun i t x h1 h2 => ⟨(h.2 i t x h1 h2).1, (h.2 i t x h1 h2).2.1, (h.2 i t x h1 h2).2.2.grown hg (hr t (List.mem_of_getElem? h1))⟩⟩
theorem OwnT.rdl {w : World} {base n : Nat} {e : TypeId} {v : Value} {ts : List Tri} {ls : List Lt} (h : OwnT w base e v n ts) (hl : AreL w ts ls) : ∃ A c, v = .slice A n c ∧ RdL w A n c ls := by
  obtain ⟨A, c, hv, hr⟩ := OwnT.rd h
  exact ⟨A, c, hv, ts, hr, hl⟩

set_option maxHeartbeats 1000000 in
theorem rput_any (A : Option Addr) (n c : Nat) (ls : List Lt) (q : Int) (B : Option Addr) (m d : Nat) (b : List UInt8) (w : World) (h : RdL w A n c ls) (hB : Rd w B m d b) (hn : n ≤ 65536) (hm : m ≤ 65536) :
    Calls Try.prog 22 #[.slice A n c, .int .i64 q, .slice B m d] w (RowTo w (ls ++ [⟨q, b, false⟩])) := by
  obtain ⟨ts, h1, h2⟩ := h
  have hb0 : Below w.heap.size w (w.alloc (.cells #[] 29)) := nkeep_alloc (Below.refl _ _) _
  go_enter Try.func22, Try.ntmps22
  go_wp2_with (first
    | (at_builtin
       refine wpList_appT rfl (.tmp 7) (.tmp 8) 22 rfl w.heap.size 29 (.agg #[.int .i64 0, .slice none 0 0, .bool false]) 40 infoL rfl (by omega) Try.underlying22 (.slice (some ⟨w.heap.size, 0, none⟩) 0 0) 0 [] rfl (made0 w _ (Nat.le_refl _) _) A n c ts rfl (h1.below hb0) (by omega) hb0.size ?_
       intro v1 w1 ho1 hb1 hg1
       have hb01 : Below w.heap.size w w1 := hb0.trans hb1)
    | (at_builtin
       refine wpList_app rfl (.tmp 11) (.tmp 12) 23 rfl w1.heap.size 5 info5 Try.underlying23 (.slice (some ⟨w1.heap.size, 0, none⟩) 0 0) 0 [] rfl ?hole_o B m d b rfl ?hole_r (by omega) ?hole_b ?_
       case hole_o => exact World.ownsRow_made (base := w1.heap.size) (e := 5) (size := 1) w1 #[] 0 (Nat.le_refl _) (Nat.zero_le _) rfl
       case hole_r => exact (hB.below hb01).alloc _
       case hole_b => rw [size_alloc]; omega
       intro v2 w2 ho2 hb2'
       have hb2 : Below w1.heap.size w1 w2 := (nkeep_alloc (Below.refl _ _) _).trans hb2'
       obtain ⟨A2, c2, rfl, hr2⟩ := ho2.rd)
    | (at_builtin
       refine wpList_appT rfl (.tmp 9) (.tmp 15) 22 rfl w.heap.size 29 (.agg #[.int .i64 0, .slice none 0 0, .bool false]) 40 infoL rfl (by omega) Try.underlying22 v1 (0 + n) ([] ++ ts) rfl ((ho1.later hb2).later (nkeep_alloc (Below.refl _ _) _)) (some ⟨w2.heap.size, 0, none⟩) 1 1 [⟨q, A2, 0 + m, c2, false⟩] rfl ?hole_r3 (by omega) ?hole_b3 ?_
       case hole_r3 =>
         refine ⟨rfl, Nat.le_refl _, by simp only [maxLen]; omega, (fun h => by cases h), fun _ => ⟨_, _, rfl, fun i u hu => ?_⟩⟩
         rw [cell_of_row _ w2.heap.size _ _ 29 (0, 0) (alloc_at _ _ _ rfl)]
         simpa [raw] using hu
       case hole_b3 => rw [size_alloc]; have := hb01.size; have := hb2.size; omega
       intro v3 w3 ho3 hb3 hg3))
  go_ret
  rw [List.nil_append] at ho3
  have hb02 := bthen hb01 hb2
  have hbE : Below w.heap.size w w3 := (nkeep_alloc hb02 _).trans hb3
  have hl1 : AreL w3 ts ls := h2.below hbE
  have hr3 : Rd w3 A2 (0 + m) c2 b := by
    refine (Rd.alloc hr2 (.cells #[.int .i64 q, .slice A2 m c2, .bool false] 29)).grown hg3 (fun bb hbb e => ?_)
    have hlt := (World.ownsRow.lt ho1 bb e).2
    cases A2 with
    | none => cases hbb
    | some a =>
      obtain ⟨ab, ao, asp⟩ := a
      simp at hbb
      subst hbb
      rcases ho2.2 with ⟨h5, _⟩ | ⟨g, cap, cur, h5, h6, _⟩
      · cases h5
      · injection h5 with h5
        injection h5 with h5
        injection h5 with h5
        omega
  obtain ⟨A3, c3, rfl, hr⟩ := OwnT.rdl ho3 (hl1.app (AreL.one (t := ⟨q, A2, 0 + m, c2, false⟩) (x := ⟨q, b, false⟩) ⟨rfl, rfl, hr3⟩))
  exact ⟨A3, _, c3, rfl, hr, hbE⟩
end Go.Proofs.Ytenefjkgnkelgaa
