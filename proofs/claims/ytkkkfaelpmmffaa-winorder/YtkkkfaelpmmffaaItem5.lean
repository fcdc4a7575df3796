/- What item.May comes to. (Written by wip/gen/item5.py.) -/
import Derived.Test.YtkkkfaelpmmffaaItem3a
import Derived.Test.YtkkkfaelpmmffaaItem3b
import Derived.Test.YtkkkfaelpmmffaaItem3c
import Derived.Test.YtkkkfaelpmmffaaItem4
import Derived.Deep.RegionHeld3
set_option maxRecDepth 100000
namespace Go.Proofs.Ytkkkfaelpmmffaa
open Go.RowKit
set_option linter.unusedVariables false

/-- What the map has at a kind that it knows. -/
def Picks (k : Int) (s pi pt pc pb pl : Nat) (v : Value) : Prop :=
  (k = 1 ∧ v = .func (.func 52) #[] #[.pointer (some ⟨pt, 0, none⟩), .pointer (some ⟨pi, 0, none⟩), .pointer (some ⟨s, 0, none⟩), .pointer (some ⟨pc, 0, none⟩), .pointer (some ⟨pl, 0, none⟩), .pointer (some ⟨pb, 0, none⟩)]) ∨
  (k = 2 ∧ v = .func (.func 53) #[] #[.pointer (some ⟨pt, 0, none⟩), .pointer (some ⟨pi, 0, none⟩), .pointer (some ⟨pc, 0, none⟩), .pointer (some ⟨pl, 0, none⟩), .pointer (some ⟨pb, 0, none⟩)]) ∨
  (k = 3 ∧ v = .func (.func 54) #[] #[.pointer (some ⟨pt, 0, none⟩), .pointer (some ⟨pi, 0, none⟩), .pointer (some ⟨pc, 0, none⟩), .pointer (some ⟨pl, 0, none⟩), .pointer (some ⟨pb, 0, none⟩)]) ∨
  (k = 4 ∧ v = .func (.func 55) #[] #[.pointer (some ⟨pt, 0, none⟩), .pointer (some ⟨pi, 0, none⟩), .pointer (some ⟨pc, 0, none⟩), .pointer (some ⟨pl, 0, none⟩), .pointer (some ⟨pb, 0, none⟩)]) ∨
  (k = 5 ∧ v = .func (.func 56) #[] #[.pointer (some ⟨pt, 0, none⟩), .pointer (some ⟨pi, 0, none⟩), .pointer (some ⟨pc, 0, none⟩), .pointer (some ⟨pl, 0, none⟩), .pointer (some ⟨pb, 0, none⟩)]) ∨
  (k = 6 ∧ v = .func (.func 57) #[] #[.pointer (some ⟨pt, 0, none⟩), .pointer (some ⟨pi, 0, none⟩), .pointer (some ⟨pc, 0, none⟩), .pointer (some ⟨pl, 0, none⟩), .pointer (some ⟨pb, 0, none⟩)])
/-- An item, as the machine holds it. -/
def IsItem (w : World) (v : Value) (x : Item.It) : Prop :=
  ∃ LA ln lc BA bn bc, v = .agg #[.int .i64 x.k, .int .i64 x.q, .int .i64 x.e, .int .i64 x.i, .int .i64 x.t, .int .i64 x.c, .slice LA ln lc, .slice BA bn bc] ∧ RdI w LA ln lc x.l ∧ Rd w BA bn bc x.b
theorem IsItem.below {w w' : World} {v : Value} {x : Item.It} (h : IsItem w v x) (hb : Below w.heap.size w w') : IsItem w' v x := by
  obtain ⟨LA, ln, lc, BA, bn, bc, rfl, h1, h2⟩ := h
  exact ⟨LA, ln, lc, BA, bn, bc, rfl, RdV.below h1 hb, h2.below hb⟩
theorem zero26 (w : World) : Sem.run Try.prog (zeroValue 31) w = .ok .nilFunc w := by kernel_rfl
theorem look_kinds {w : World} {m s pi pt pc pb pl : Nat} (h : w.heap[m]? = some (.map (kinds s pi pt pc pb pl) 6)) (k : Int) :
    ∃ v ok, Sem.run Try.prog (Instr.lookup 62 (.map (some m)) (.int .i64 k) true) w = .ok (.tuple #[v, .bool ok]) w ∧ ((ok = true ∧ Picks k s pi pt pc pb pl v) ∨ (ok = false ∧ k ≠ 1 ∧ k ≠ 2 ∧ k ≠ 3 ∧ k ≠ 4 ∧ k ≠ 5 ∧ k ≠ 6)) := by
  have hrun : ∀ r, Instr.findNow (.int .i64) (.int .i64 k) (kinds s pi pt pc pb pl).toList 0 = some r → Sem.run Try.prog (Instr.lookup 62 (.map (some m)) (.int .i64 k) true) w = .ok (.tuple #[(r.map (·.2)).getD .nilFunc, .bool r.isSome]) w := by
    intro r hr
    unfold Instr.lookup Instr.findKey
    cases r with
    | none => simp only [Sem.run_bind, run_underlying Try.underlying62, run_underlying Try.underlying3, Result.andThen, MapKept.run_getObj_map h, MapKept.run_checkKey (k := .int .i64 k) Try.underlying3 (by simp [MapKept.IsKey]) _ 9999, hr, Sem.run_pure, zero26]; rfl
    | some p => simp only [Sem.run_bind, run_underlying Try.underlying62, run_underlying Try.underlying3, Result.andThen, MapKept.run_getObj_map h, MapKept.run_checkKey (k := .int .i64 k) Try.underlying3 (by simp [MapKept.IsKey]) _ 9999, hr, Sem.run_pure]; rfl
  by_cases k1 : k = 1
  · subst k1
    exact ⟨_, _, hrun (some (0, _)) rfl, .inl ⟨rfl, .inl ⟨rfl, rfl⟩⟩⟩
  by_cases k2 : k = 2
  · subst k2
    exact ⟨_, _, hrun (some (1, _)) rfl, .inl ⟨rfl, .inr (.inl ⟨rfl, rfl⟩)⟩⟩
  by_cases k3 : k = 3
  · subst k3
    exact ⟨_, _, hrun (some (2, _)) rfl, .inl ⟨rfl, .inr (.inr (.inl ⟨rfl, rfl⟩))⟩⟩
  by_cases k4 : k = 4
  · subst k4
    exact ⟨_, _, hrun (some (3, _)) rfl, .inl ⟨rfl, .inr (.inr (.inr (.inl ⟨rfl, rfl⟩)))⟩⟩
  by_cases k5 : k = 5
  · subst k5
    exact ⟨_, _, hrun (some (4, _)) rfl, .inl ⟨rfl, .inr (.inr (.inr (.inr (.inl ⟨rfl, rfl⟩))))⟩⟩
  by_cases k6 : k = 6
  · subst k6
    exact ⟨_, _, hrun (some (5, _)) rfl, .inl ⟨rfl, .inr (.inr (.inr (.inr (.inr (⟨rfl, rfl⟩)))))⟩⟩
  refine ⟨_, _, hrun none ?_, .inr ⟨rfl, k1, k2, k3, k4, k5, k6⟩⟩
  have q1 : (k == 1) = false := by simpa using k1
  have q2 : (k == 2) = false := by simpa using k2
  have q3 : (k == 3) = false := by simpa using k3
  have q4 : (k == 4) = false := by simpa using k4
  have q5 : (k == 5) = false := by simpa using k5
  have q6 : (k == 6) = false := by simpa using k6
  simp only [kinds, Instr.findNow, Instr.sameNow, if_true, q1, q2, q3, q4, q5, q6]

theorem ask_at {x : Item.It} {j : Int} (h : x.k = j) : Item.ask x = if j = 1 then Item.ask1 x else if j = 2 then Item.askN x 1 0 1 64 63 else if j = 3 then Item.askN x 0 0 0 0 0 else if j = 4 then Item.askN x 1 0 0 0 0
  else if j = 5 then Item.askN x 0 4611686018427387904 0 0 0 else if j = 6 then Item.askN x 0 0 2 64 4611686018427387904 else false := by
  subst h; rfl
theorem ask_none {x : Item.It} (k1 : x.k ≠ 1) (k2 : x.k ≠ 2) (k3 : x.k ≠ 3) (k4 : x.k ≠ 4) (k5 : x.k ≠ 5) (k6 : x.k ≠ 6) : Item.ask x = false := by
  simp [Item.ask, k1, k2, k3, k4, k5, k6]

set_option maxHeartbeats 2000000 in
theorem may_any (v : Value) (x : Item.It) (w : World) (h : IsItem w v x) :
    Calls Try.prog 28 #[v] w (BoolIs w (Item.may x)) := by
  obtain ⟨LA, ln, lc, BA, bn, bc, rfl, hl, hb⟩ := h
  obtain ⟨o0, ho0⟩ : ∃ o : Obj, o = .cells #[.int .i64 x.k, .int .i64 x.q, .int .i64 x.e, .int .i64 x.i, .int .i64 x.t, .int .i64 x.c, .slice LA ln lc, .slice BA bn bc] 28 := ⟨_, rfl⟩
  have hg := alloc_at w o0 _ rfl
  have hb0 : Below w.heap.size w (w.alloc o0) := (Below.refl _ _).alloc (Nat.le_refl _) _
  have hl0 := RdV.below hl hb0
  have hbb0 := hb.below hb0
  rw [ho0] at hg hb0 hl0 hbb0
  clear ho0 hl hb o0
  have hA := asks_any x.k x.q x.e x.i x.t x.c x.l x.b LA ln lc BA bn bc _ (RdV.drew hl0) hbb0.drew
  clear hl0 hbb0
  have c0 := cell_at hg 0 rfl
  have c1 := cell_at hg 1 rfl
  have c2 := cell_at hg 2 rfl
  have c3 := cell_at hg 3 rfl
  have c4 := cell_at hg 4 rfl
  have c5 := cell_at hg 5 rfl
  have c6 := cell_at hg 6 rfl
  have c7 := cell_at hg 7 rfl
  go_enter Try.func28, Try.ntmps28
  go_wp2
  go_region_held (fun w' => w'.cell? ⟨w.heap.size, 0, none⟩ = some (.int .i64 x.k) ∧ w'.cell? ⟨w.heap.size, 1, none⟩ = some (.int .i64 x.q) ∧ w'.cell? ⟨w.heap.size, 2, none⟩ = some (.int .i64 x.e) ∧ w'.cell? ⟨w.heap.size, 3, none⟩ = some (.int .i64 x.i) ∧ w'.cell? ⟨w.heap.size, 4, none⟩ = some (.int .i64 x.t) ∧ w'.cell? ⟨w.heap.size, 5, none⟩ = some (.int .i64 x.c) ∧ w'.cell? ⟨w.heap.size, 6, none⟩ = some (.slice LA ln lc) ∧ w'.cell? ⟨w.heap.size, 7, none⟩ = some (.slice BA bn bc) ∧ Below (w.alloc (.cells #[.int .i64 x.k, .int .i64 x.q, .int .i64 x.e, .int .i64 x.i, .int .i64 x.t, .int .i64 x.c, .slice LA ln lc, .slice BA bn bc] 28)).heap.size (w.alloc (.cells #[.int .i64 x.k, .int .i64 x.q, .int .i64 x.e, .int .i64 x.i, .int .i64 x.t, .int .i64 x.c, .slice LA ln lc, .slice BA bn bc] 28)) w')
    (first | exact ⟨c0, c1, c2, c3, c4, c5, c6, c7, (Below.refl _ _).drew⟩ | exact ⟨keepC (undrew hb1) c0, keepC (undrew hb1) c1, keepC (undrew hb1) c2, keepC (undrew hb1) c3, keepC (undrew hb1) c4, keepC (undrew hb1) c5, keepC (undrew hb1) c6, keepC (undrew hb1) c7, undrew hb1⟩)
    (first | (go_at_call 38; ((with_reducible refine hA.mono ?_); rintro e w1 ⟨m, s, pi, pt, pc, pb, pl, rfl, hm, hAs, hb1⟩; obtain ⟨v, ok, hlook, hpick⟩ := look_kinds hm x.k)))
  have d1 := keepC (undrew hb1) c1
  have d2 := keepC (undrew hb1) c2
  have hbw := bthen hb0 (undrew hb1)
  have hAs' : Asks w1 s pi pt pc pb pl x LA ln lc BA bn bc := hAs
  clear c0 c1 c2 c3 c4 c5 c6 c7 hg hA hlook hAs hb0 hm
  have p1 := within_is x.q 1 4611686018427387904 w1
  have p2 := within_is x.e 0 4611686018427387904 w1
  rcases hpick with ⟨rfl, hp⟩ | ⟨rfl, k1, k2, k3, k4, k5, k6⟩
  · go_wp2_with fail
    with_reducible refine p1.mono ?_
    rintro e w0 ⟨rfl, rfl⟩
    clear p1
    cases h1 : Item.win x.q 1 4611686018427387904 with
    | false =>
      go_wp2
      go_ret
      refine ⟨?_, hbw⟩
      rw [show Item.may x = false from by simp [Item.may, h1]]
      first | done | rfl
    | true =>
      go_wp2_with fail
      with_reducible refine p2.mono ?_
      rintro e w0 ⟨rfl, rfl⟩
      clear p2
      cases h2 : Item.win x.e 0 4611686018427387904 with
      | false =>
        go_wp2
        go_ret
        refine ⟨?_, hbw⟩
        rw [show Item.may x = false from by simp [Item.may, h1, h2]]
        first | done | rfl
      | true =>
        rcases hp with ⟨hk, rfl⟩ | ⟨hk, rfl⟩ | ⟨hk, rfl⟩ | ⟨hk, rfl⟩ | ⟨hk, rfl⟩ | ⟨hk, rfl⟩
        · have HM : Hid (Item.may x = Item.ask1 x) := by
            unfold Item.may
            rw [h1, h2, ask_at hk]
            exact hidT rfl
          go_wp2_with fail
          with_reducible refine (ask1_is s pi pt pc pb pl x LA ln lc BA bn bc w1 hAs').mono ?_
          rintro e w2 ⟨rfl, hb2⟩
          go_wp2
          go_ret
          refine ⟨?_, bthen hbw hb2⟩
          rw [HM.out]
          first | done | rfl
        · have HM : Hid (Item.may x = Item.askN x 1 0 1 64 63) := by
            unfold Item.may
            rw [h1, h2, ask_at hk]
            exact hidT rfl
          go_wp2_with fail
          with_reducible refine (ask2_is s pi pt pc pb pl x LA ln lc BA bn bc w1 hAs').mono ?_
          rintro e w2 ⟨rfl, hb2⟩
          go_wp2
          go_ret
          refine ⟨?_, bthen hbw hb2⟩
          rw [HM.out]
          first | done | rfl
        · have HM : Hid (Item.may x = Item.askN x 0 0 0 0 0) := by
            unfold Item.may
            rw [h1, h2, ask_at hk]
            exact hidT rfl
          go_wp2_with fail
          with_reducible refine (ask3_is s pi pt pc pb pl x LA ln lc BA bn bc w1 hAs').mono ?_
          rintro e w2 ⟨rfl, hb2⟩
          go_wp2
          go_ret
          refine ⟨?_, bthen hbw hb2⟩
          rw [HM.out]
          first | done | rfl
        · have HM : Hid (Item.may x = Item.askN x 1 0 0 0 0) := by
            unfold Item.may
            rw [h1, h2, ask_at hk]
            exact hidT rfl
          go_wp2_with fail
          with_reducible refine (ask4_is s pi pt pc pb pl x LA ln lc BA bn bc w1 hAs').mono ?_
          rintro e w2 ⟨rfl, hb2⟩
          go_wp2
          go_ret
          refine ⟨?_, bthen hbw hb2⟩
          rw [HM.out]
          first | done | rfl
        · have HM : Hid (Item.may x = Item.askN x 0 4611686018427387904 0 0 0) := by
            unfold Item.may
            rw [h1, h2, ask_at hk]
            exact hidT rfl
          go_wp2_with fail
          with_reducible refine (ask5_is s pi pt pc pb pl x LA ln lc BA bn bc w1 hAs').mono ?_
          rintro e w2 ⟨rfl, hb2⟩
          go_wp2
          go_ret
          refine ⟨?_, bthen hbw hb2⟩
          rw [HM.out]
          first | done | rfl
        · have HM : Hid (Item.may x = Item.askN x 0 0 2 64 4611686018427387904) := by
            unfold Item.may
            rw [h1, h2, ask_at hk]
            exact hidT rfl
          go_wp2_with fail
          with_reducible refine (ask6_is s pi pt pc pb pl x LA ln lc BA bn bc w1 hAs').mono ?_
          rintro e w2 ⟨rfl, hb2⟩
          go_wp2
          go_ret
          refine ⟨?_, bthen hbw hb2⟩
          rw [HM.out]
          first | done | rfl
  · have HM : Hid (Item.may x = false) := by
      unfold Item.may
      rw [ask_none k1 k2 k3 k4 k5 k6]
      exact hidT (by simp)
    go_wp2
    go_ret
    refine ⟨?_, hbw⟩
    rw [HM.out]
    first | done | rfl
end Go.Proofs.Ytkkkfaelpmmffaa
