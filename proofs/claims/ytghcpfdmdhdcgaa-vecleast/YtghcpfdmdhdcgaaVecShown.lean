/- Chapter 7's examples, walked. -/
import Derived.Test.YtghcpfdmdhdcgaaVec4
set_option maxRecDepth 100000
namespace Go.Proofs.Ytghcpfdmdhdcgaa
open Go.RowKit
set_option linter.unusedVariables false

theorem GivesI.open_ {w w' : World} {t : TypeId} {l : List Int} {e : Ending} (h : GivesI w t l e w') (k : Nat) (hk : l.length = k) : ∃ A c, e = .returned (.slice A k c) ∧ RdI w' A k c l ∧ Below w.heap.size w w' := by
  subst hk
  obtain ⟨A, c, rfl, ho, hb⟩ := h
  exact ⟨A, c, rfl, OwnV.same ho, hb⟩
theorem nkeep (w : World) (o : Obj) : Below w.heap.size w (w.alloc o) := (Below.refl _ _).alloc (Nat.le_refl _) o
theorem litI (w : World) (C : Array Value) (l : List Int) (hC : C = (is l).toArray) (n : Nat) (hn : l.length = n) (hl : n ≤ 100) : RdI (w.alloc (.cells C 3)) (some ⟨w.heap.size, 0, none⟩) n n l :=
  RdV.lit w 3 (0, 0) C (is l) hC n (by rw [is_length]; exact hn) (by simp only [maxLen]; omega) w.heap.size rfl
theorem lit2 (w : World) (A : Option Addr) (n c : Nat) (a : List Int) (B : Option Addr) (m d : Nat) (b : List Int) (h : RdI w A n c a) (h' : RdI w B m d b) :
    RdR (w.alloc (.cells #[.slice A n c, .slice B m d] 22)) (some ⟨w.heap.size, 0, none⟩) 2 2 [⟨A, n, c, a⟩, ⟨B, m, d, b⟩] := by
  refine ⟨RdV.lit w 22 (0, 0) _ _ rfl 2 rfl (by simp only [maxLen]; omega) w.heap.size rfl, fun r hr => ?_⟩
  simp only [List.mem_cons, List.not_mem_nil, or_false] at hr
  rcases hr with rfl | rfl
  · exact RdV.alloc h _
  · exact RdV.alloc h' _

set_option maxHeartbeats 4000000 in
theorem shown_any (w : World) : Calls Try.prog 8 #[] w (Yes w) := by
  have ra := RdV.alloc (litI w #[.int .i64 1, .int .i64 5] [1, 5] rfl 2 rfl (by omega)) (.cells #[.int .i64 3, .int .i64 2, .int .i64 4] 3)
  have rb := litI (w.alloc (.cells #[.int .i64 1, .int .i64 5] 3)) #[.int .i64 3, .int .i64 2, .int .i64 4] [3, 2, 4] rfl 3 rfl (by omega)
  have hb := bthen (nkeep w (.cells #[.int .i64 1, .int .i64 5] 3)) (nkeep _ (.cells #[.int .i64 3, .int .i64 2, .int .i64 4] 3))
  rw [World.size_alloc] at rb
  have p := max_any _ 2 2 _ _ 3 3 _ _ ra rb (by omega) (by omega)
  rw [show mx [1, 5] [3, 2, 4] = [3, 5, 4] from by decide] at p
  go_enter Try.func8, Try.ntmps8
  go_wp2_with fail
  with_reducible refine p.mono ?_
  clear p
  intro e w1 hG
  obtain ⟨A1, c1, rfl, r1, hb1⟩ := hG.open_ 3 rfl
  clear hG
  replace ra := RdV.below ra hb1
  replace rb := RdV.below rb hb1
  replace hb := bthen hb hb1
  clear hb1
  have p := rsame_is A1 3 c1 [3, 5, 4] _ 3 3 [3, 5, 4] _ (RdV.alloc r1 (.cells #[.int .i64 3, .int .i64 5, .int .i64 4] 3)) (litI w1 #[.int .i64 3, .int .i64 5, .int .i64 4] [3, 5, 4] rfl 3 rfl (by omega)) true (by decide)
  go_wp2_with fail
  with_reducible refine p.mono ?_
  clear p
  rintro e w2 ⟨rfl, hx⟩
  replace hx := bthen (nkeep w1 _) hx
  replace ra := RdV.below ra hx
  replace rb := RdV.below rb hx
  replace hb := bthen hb hx
  clear hx
  have p := min_any _ 2 2 _ _ 3 3 _ _ ra rb (by omega) (by omega)
  rw [show mn [1, 5] [3, 2, 4] = [1, 2, 0] from by decide] at p
  go_wp2_with fail
  with_reducible refine p.mono ?_
  clear p
  intro e w3 hG
  obtain ⟨A3, c3, rfl, r3, hx⟩ := hG.open_ 3 rfl
  clear hG
  replace ra := RdV.below ra hx
  replace rb := RdV.below rb hx
  replace hb := bthen hb hx
  clear hx
  have p := rsame_is A3 3 c3 [1, 2, 0] _ 3 3 [1, 2, 0] _ (RdV.alloc r3 (.cells #[.int .i64 1, .int .i64 2, .int .i64 0] 3)) (litI w3 #[.int .i64 1, .int .i64 2, .int .i64 0] [1, 2, 0] rfl 3 rfl (by omega)) true (by decide)
  go_wp2_with fail
  with_reducible refine p.mono ?_
  clear p
  rintro e w4 ⟨rfl, hx⟩
  replace hx := bthen (nkeep w3 _) hx
  replace ra := RdV.below ra hx
  replace rb := RdV.below rb hx
  replace hb := bthen hb hx
  clear hx
  have p := least_any _ 2 2 _ 1 _ (lit2 w4 _ _ _ _ _ _ _ _ ra rb)
  rw [show lst (bs' [⟨some ⟨w.heap.size, 0, none⟩, 2, 2, [1, 5]⟩, ⟨some ⟨w.heap.size + 1, 0, none⟩, 3, 3, [3, 2, 4]⟩]) 1 = 2 from rfl] at p
  go_wp2_with fail
  with_reducible refine p.mono ?_
  clear p
  rintro e w5 ⟨rfl, hw⟩
  have hx := nkeep w4 (.cells #[.slice (some ⟨w.heap.size, 0, none⟩) 2 2, .slice (some ⟨w.heap.size + 1, 0, none⟩) 3 3] 22)
  rw [← hw] at hx
  clear hw
  replace ra := RdV.below ra hx
  replace rb := RdV.below rb hx
  replace hb := bthen hb hx
  clear hx
  have p := least_any _ 2 2 _ 2 _ (lit2 w5 _ _ _ _ _ _ _ _ ra rb)
  rw [show lst (bs' [⟨some ⟨w.heap.size, 0, none⟩, 2, 2, [1, 5]⟩, ⟨some ⟨w.heap.size + 1, 0, none⟩, 3, 3, [3, 2, 4]⟩]) 2 = 0 from rfl] at p
  go_wp2_with fail
  with_reducible refine p.mono ?_
  clear p
  rintro e w6 ⟨rfl, hw⟩
  have hx := nkeep w5 (.cells #[.slice (some ⟨w.heap.size, 0, none⟩) 2 2, .slice (some ⟨w.heap.size + 1, 0, none⟩) 3 3] 22)
  rw [← hw] at hx
  clear hw
  replace ra := RdV.below ra hx
  replace rb := RdV.below rb hx
  replace hb := bthen hb hx
  clear hx
  have p := below_any _ 2 2 _ _ 3 3 _ _ ra rb false (by decide)
  go_wp2_with fail
  with_reducible refine p.mono ?_
  clear p
  rintro e w7 ⟨rfl, rfl⟩
  have p := max_any _ 2 2 _ _ 3 3 _ _ ra rb (by omega) (by omega)
  rw [show mx [1, 5] [3, 2, 4] = [3, 5, 4] from by decide] at p
  go_wp2_with fail
  with_reducible refine p.mono ?_
  clear p
  intro e w8 hG
  obtain ⟨A8, c8, rfl, r8, hx⟩ := hG.open_ 3 rfl
  clear hG
  replace ra := RdV.below ra hx
  replace rb := RdV.below rb hx
  replace hb := bthen hb hx
  clear hx
  have p := below_any _ 2 2 _ _ 3 c8 _ _ ra r8 true (by decide)
  go_wp2_with fail
  with_reducible refine p.mono ?_
  clear p
  rintro e w9 ⟨rfl, rfl⟩
  have p := sum_any _ 3 3 _ _ rb
  rw [show sm [3, 2, 4] = 9 from by rw [sm_eq]; exact IntWalk.wrap64_in _ (by decide)] at p
  go_wp2_with fail
  with_reducible refine p.mono ?_
  clear p
  rintro e w10 ⟨rfl, rfl⟩
  have p := least_any none 0 0 [] 0 w10 ⟨RdV.nil_ _, fun r hr => by cases hr⟩
  rw [show lst (bs' []) 0 = 0 from rfl] at p
  go_wp2_with fail
  with_reducible refine p.mono ?_
  clear p
  rintro e w11 ⟨rfl, rfl⟩
  go_wp2
  go_ret
  exact ⟨rfl, hb⟩
end Go.Proofs.Ytghcpfdmdhdcgaa
