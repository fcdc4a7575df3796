/- What the closures that item.asks keeps in its map come to. (Written by wip/gen/item3.py.) -/
import Derived.Test.YtkkkfaelpmmffaaItem3
set_option maxRecDepth 100000
namespace Go.Proofs.Ytkkkfaelpmmffaa
open Go.RowKit
set_option linter.unusedVariables false

set_option maxHeartbeats 1000000 in
theorem ask5_is (s pi pt pc pb pl : Nat) (x : Item.It) (LA : Option Addr) (ln lc : Nat) (BA : Option Addr) (bn bc : Nat) (w : World) (h : Asks w s pi pt pc pb pl x LA ln lc BA bn bc) :
    Calls Try.prog 56 #[.pointer (some ⟨pt, 0, none⟩), .pointer (some ⟨pi, 0, none⟩), .pointer (some ⟨pc, 0, none⟩), .pointer (some ⟨pl, 0, none⟩), .pointer (some ⟨pb, 0, none⟩)] w (BoolIs w (Item.askN x 0 4611686018427387904 0 0 0)) := by
  obtain ⟨ci, ct, cc, cl, cb, rl, rb, fi, ft, fc, fb, fl⟩ := h
  have c1 := total_is 0 0 x.t s w ct
  have c2 := index_is 0 x.i s w ci
  have c3 := count_is 4611686018427387904 x.c s w cc
  have c4 := list_is 0 0 0 s LA ln lc x.l w cl rl
  have c5 : ∀ w1, Below w.heap.size w w1 → _ := fun w1 hb => body_is 0 s BA bn bc x.b w1 (keepC hb cb) rb.1
  unfold Item.askN
  clear rl rb
  go_enter Try.func56, Try.ntmps56
  go_wp2_with fail
  with_reducible refine c1.mono ?_
  rintro e w0 ⟨rfl, rfl⟩
  clear c1
  cases h1 : Item.win x.t 0 0 with
  | false =>
    go_wp2
    go_ret
    refine ⟨?_, Below.refl _ _⟩
    rw [h1]
    first | done | rfl
  | true =>
    go_wp2_with fail
    with_reducible refine c2.mono ?_
    rintro e w0 ⟨rfl, rfl⟩
    clear c2
    cases h2 : Item.win x.i 0 0 with
    | false =>
      go_wp2
      go_ret
      refine ⟨?_, Below.refl _ _⟩
      rw [h1, h2]
      first | done | rfl
    | true =>
      go_wp2_with fail
      with_reducible refine c3.mono ?_
      rintro e w0 ⟨rfl, rfl⟩
      clear c3
      cases h3 : Item.win x.c 0 4611686018427387904 with
      | false =>
        go_wp2
        go_ret
        refine ⟨?_, Below.refl _ _⟩
        rw [h1, h2, h3]
        first | done | rfl
      | true =>
        go_wp2_with fail
        with_reducible refine c4.mono ?_
        rintro e w1 ⟨rfl, hb1⟩
        have fb1 := keepC hb1 fb
        clear c4 fl cl
        cases h4 : Item.list x.l 0 0 0 with
        | false =>
          go_wp2
          go_ret
          refine ⟨?_, hb1⟩
          rw [h1, h2, h3, h4]
          first | done | rfl
        | true =>
          go_wp2_with fail
          with_reducible refine (c5 _ hb1).mono ?_
          rintro e w2 ⟨rfl, rfl⟩
          clear c5
          cases h5 : Item.body x.b 0 with
          | false =>
            go_wp2
            go_ret
            refine ⟨?_, hb1⟩
            rw [h1, h2, h3, h4, h5]
            first | done | rfl
          | true =>
            go_wp2
            go_ret
            refine ⟨?_, hb1⟩
            rw [h1, h2, h3, h4, h5]
            first | done | rfl

set_option maxHeartbeats 1000000 in
theorem ask6_is (s pi pt pc pb pl : Nat) (x : Item.It) (LA : Option Addr) (ln lc : Nat) (BA : Option Addr) (bn bc : Nat) (w : World) (h : Asks w s pi pt pc pb pl x LA ln lc BA bn bc) :
    Calls Try.prog 57 #[.pointer (some ⟨pt, 0, none⟩), .pointer (some ⟨pi, 0, none⟩), .pointer (some ⟨pc, 0, none⟩), .pointer (some ⟨pl, 0, none⟩), .pointer (some ⟨pb, 0, none⟩)] w (BoolIs w (Item.askN x 0 0 2 64 4611686018427387904)) := by
  obtain ⟨ci, ct, cc, cl, cb, rl, rb, fi, ft, fc, fb, fl⟩ := h
  have c1 := total_is 0 0 x.t s w ct
  have c2 := index_is 0 x.i s w ci
  have c3 := count_is 0 x.c s w cc
  have c4 := list_is 2 64 4611686018427387904 s LA ln lc x.l w cl rl
  have c5 : ∀ w1, Below w.heap.size w w1 → _ := fun w1 hb => body_is 0 s BA bn bc x.b w1 (keepC hb cb) rb.1
  unfold Item.askN
  clear rl rb
  go_enter Try.func57, Try.ntmps57
  go_wp2_with fail
  with_reducible refine c1.mono ?_
  rintro e w0 ⟨rfl, rfl⟩
  clear c1
  cases h1 : Item.win x.t 0 0 with
  | false =>
    go_wp2
    go_ret
    refine ⟨?_, Below.refl _ _⟩
    rw [h1]
    first | done | rfl
  | true =>
    go_wp2_with fail
    with_reducible refine c2.mono ?_
    rintro e w0 ⟨rfl, rfl⟩
    clear c2
    cases h2 : Item.win x.i 0 0 with
    | false =>
      go_wp2
      go_ret
      refine ⟨?_, Below.refl _ _⟩
      rw [h1, h2]
      first | done | rfl
    | true =>
      go_wp2_with fail
      with_reducible refine c3.mono ?_
      rintro e w0 ⟨rfl, rfl⟩
      clear c3
      cases h3 : Item.win x.c 0 0 with
      | false =>
        go_wp2
        go_ret
        refine ⟨?_, Below.refl _ _⟩
        rw [h1, h2, h3]
        first | done | rfl
      | true =>
        go_wp2_with fail
        with_reducible refine c4.mono ?_
        rintro e w1 ⟨rfl, hb1⟩
        have fb1 := keepC hb1 fb
        clear c4 fl cl
        cases h4 : Item.list x.l 2 64 4611686018427387904 with
        | false =>
          go_wp2
          go_ret
          refine ⟨?_, hb1⟩
          rw [h1, h2, h3, h4]
          first | done | rfl
        | true =>
          go_wp2_with fail
          with_reducible refine (c5 _ hb1).mono ?_
          rintro e w2 ⟨rfl, rfl⟩
          clear c5
          cases h5 : Item.body x.b 0 with
          | false =>
            go_wp2
            go_ret
            refine ⟨?_, hb1⟩
            rw [h1, h2, h3, h4, h5]
            first | done | rfl
          | true =>
            go_wp2
            go_ret
            refine ⟨?_, hb1⟩
            rw [h1, h2, h3, h4, h5]
            first | done | rfl

end Go.Proofs.Ytkkkfaelpmmffaa
