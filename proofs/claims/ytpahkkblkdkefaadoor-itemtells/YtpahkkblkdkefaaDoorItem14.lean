/- What item.takeHead and item.takeTail come to, in one word each. -/
import Derived.Test.YtpahkkblkdkefaaDoorItem13
import Derived.Test.YtpahkkblkdkefaaDoorItemTake
namespace Go.Proofs.YtpahkkblkdkefaaDoor
open Go.RowKit
set_option linter.unusedVariables false

def HeadO (w : World) (o : Option (Int × Int × Int × List UInt8)) (en : Ending) (w' : World) : Prop :=
  match o with
  | some (k, q, e, r) => HeadIs w k q e r 0 en w'
  | none => ∃ kk, kk ≠ 0 ∧ HeadIs w 0 0 0 [] kk en w'
def TailO (w : World) (o : Option (Item.It × List UInt8)) (en : Ending) (w' : World) : Prop :=
  match o with
  | some (x, r) => TailIs w x r 0 en w'
  | none => ∃ x r kk, kk ≠ 0 ∧ TailIs w x r kk en w'

theorem most8 : ¬ Num.most 8 < 0 := by decide
theorem most1 : ¬ Num.most 1 < 0 := by decide

theorem head_any (A : Option Addr) (n c : Nat) (l : List UInt8) (w : World) (hw : Wd w) (h : Rd w A n c l) (hn : n ≤ 65536) :
    Calls Tryd.prog 19 #[.slice A n c] w (HeadO w (Item.headC l)) := by
  by_cases hc : Num.code l 1 = 0
  · unfold Item.headC
    rw [if_pos hc]
    cases ht : Num.takes 8 2 (Num.rest l 1) with
    | none =>
      refine (head_row A n c l w hw h hn hc _ rfl 2 (Num.rowOf_none (m := 2) most8 ht) (by omega)).mono ?_
      intro en w' hh
      exact ⟨2, by omega, hh⟩
    | some p =>
      obtain ⟨a, b, r, rfl⟩ := Item.takes_two ht
      exact head_ok A n c l w hw h hn hc _ rfl a b r (Num.rowOf_some (m := 2) most8 ht)
  · unfold Item.headC
    rw [if_neg hc]
    refine (head_none A n c l w hw h hn hc).mono ?_
    intro en w' hh
    exact ⟨_, hc, hh⟩

theorem tail_take (k q e : Int) (A : Option Addr) (n c : Nat) (r : List UInt8) (w : World) (hw : Wd w) (h : Rd w A n c r) (hn : n ≤ 65536) :
    Calls Tryd.prog 20 #[.agg #[.int .i64 k, .int .i64 q, .int .i64 e, .int .i64 0, .int .i64 0, .int .i64 0, .slice none 0 0, .slice none 0 0], .slice A n c] w (TailO w (Item.tailC k q e r)) := by
  unfold Item.tailC
  by_cases k1 : k = 1
  · subst k1
    rw [if_pos rfl]
    cases ht : Num.takes 1 2 r with
    | none =>
      refine (tt1a q e A n c r w hw h hn 2 [] (Num.rowOf_none (m := 2) most1 ht) (by omega)).mono ?_
      intro en w' hh
      exact ⟨_, _, 2, by omega, hh⟩
    | some p =>
      obtain ⟨a, b, r2, rfl⟩ := Item.takes_two ht
      exact tt1b q e A n c r w hw h hn a b r2 (Num.rowOf_some (m := 2) most1 ht)
  rw [if_neg k1]
  by_cases k2 : k = 2
  · subst k2
    rw [if_pos rfl]
    by_cases hc : Num.code r 1 = 0
    · rw [if_pos hc]
      have hb := tt2b q e A n c r w hw h hn hc _ rfl
      cases ht : Num.takes 1 (Num.rest r 1).length (Num.rest r 1) with
      | none =>
        rw [Num.rowOf_none most1 ht] at hb
        refine hb.mono ?_
        intro en w' hh
        exact ⟨_, _, 2, by omega, hh⟩
      | some p =>
        obtain ⟨a, b⟩ := p
        rw [Num.rowOf_some most1 ht] at hb
        exact hb
    · rw [if_neg hc]
      refine (tt2a q e A n c r w hw h hn hc).mono ?_
      intro en w' hh
      exact ⟨_, _, _, hc, hh⟩
  rw [if_neg k2]
  by_cases k4 : k = 4
  · subst k4
    rw [if_pos rfl]
    have hb := tt4 q e A n c r w hw h hn
    by_cases hc : Num.code r 1 = 0
    · rw [if_pos hc]
      rw [hc] at hb
      exact hb
    · rw [if_neg hc]
      refine hb.mono ?_
      intro en w' hh
      exact ⟨_, _, _, hc, hh⟩
  rw [if_neg k4]
  by_cases k5 : k = 5
  · subst k5
    rw [if_pos rfl]
    have hb := tt5 q e A n c r w hw h hn
    by_cases hc : Num.code r 8 = 0
    · rw [if_pos hc]
      rw [hc] at hb
      exact hb
    · rw [if_neg hc]
      refine hb.mono ?_
      intro en w' hh
      exact ⟨_, _, _, hc, hh⟩
  rw [if_neg k5]
  by_cases k6 : k = 6
  · subst k6
    rw [if_pos rfl]
    have hb := tt6 q e A n c r w hw h hn
    cases ht : Num.takes 8 (r.length / 8) r with
    | none =>
      rw [Num.rowOf_none most8 ht] at hb
      refine hb.mono ?_
      intro en w' hh
      exact ⟨_, _, 2, by omega, hh⟩
    | some p =>
      obtain ⟨a, b⟩ := p
      rw [Num.rowOf_some most8 ht] at hb
      exact hb
  rw [if_neg k6]
  exact tt0 k q e A n c r w hw h hn k1 k2 k4 k5 k6
end Go.Proofs.YtpahkkblkdkefaaDoor
