/- What item.Take comes to. (Written by wip/gen/item15.py.) -/
import Derived.Test.YtahkhideepncfaaDoorIH
set_option maxRecDepth 100000
namespace Go.Proofs.YtahkhideepncfaaDoor
open Go.RowKit
set_option linter.unusedVariables false

def TakeO (w : World) (o : Option Item.It) (en : Ending) (w' : World) : Prop :=
  match o with
  | some x => ∃ v, en = .returned (.tuple #[v, .int .i64 0]) ∧ IsItem w' v x ∧ Below w.heap.size w w'
  | none => en = .returned (.tuple #[.agg zcells, .int .i64 2]) ∧ Below w.heap.size w w'

set_option maxHeartbeats 2000000 in
theorem take_a (A : Option Addr) (n c : Nat) (l : List UInt8) (w : World) (hw : Wd w) (h : Rd w A n c l) (hn : n ≤ 65536) (hd : Item.headC l = none) :
    Calls Tryd.prog 48 #[.slice A n c] w (TakeO w none) := by
  have hb0 : Below w.heap.size w (w.alloc (.cells #[.int .i64 0, .int .i64 0, .int .i64 0, .int .i64 0, .int .i64 0, .int .i64 0, .slice none 0 0, .slice none 0 0] 25)) := (Below.refl _ _).alloc (Nat.le_refl _) _
  have hg0 := alloc_at w (.cells #[.int .i64 0, .int .i64 0, .int .i64 0, .int .i64 0, .int .i64 0, .int .i64 0, .slice none 0 0, .slice none 0 0] 25) _ rfl
  have hgs : w.heap.size < (w.alloc (.cells #[.int .i64 0, .int .i64 0, .int .i64 0, .int .i64 0, .int .i64 0, .int .i64 0, .slice none 0 0, .slice none 0 0] 25)).heap.size := by rw [size_alloc]; omega
  have hh := head_any A n c l _ (hw.below hb0) (h.below hb0) hn
  rw [hd] at hh
  clear hd
  go_enter Tryd.func48, Tryd.ntmps48
  go_wp2_with fail
  with_reducible refine hh.mono ?_
  rintro en w1 ⟨kk, hk, A1, c1, rfl, hr1, hb1⟩
  have q1 : (kk == 0) = false := by simpa using hk
  have q2 : (kk != 0) = true := by simpa using hk
  have hb01 := bthen hb0 hb1
  have g1 := (hb1.block _ hgs).trans hg0
  have g2 := (alloc_old w1 (.cells #[.int .i64 0, .int .i64 0, .int .i64 0, .int .i64 0, .int .i64 0, .int .i64 0, .slice none 0 0, .slice none 0 0] 25) _ (Nat.lt_of_lt_of_le hgs hb1.size)).trans g1
  have hb2 := hb01.alloc hb01.size (.cells #[.int .i64 0, .int .i64 0, .int .i64 0, .int .i64 0, .int .i64 0, .int .i64 0, .slice none 0 0, .slice none 0 0] 25)
  clear hh hk hg0 hgs hb0 hb1 g1
  go_wp2_with (
    refine wpList_stI rfl 25 (.tmp 2) (.tmp 34) rfl w.heap.size zcells rfl rfl _ _ g2 info25 rfl (all8 rfl rfl rfl rfl rfl rfl rfl rfl) ?_
    intro w9 hg9 hbut9 hbel9)
  obtain ⟨y0, y1, y2, y3, y4, y5, y6, y7⟩ := cells8 hg9
  exact bodyPost_ret (v := .tuple #[.agg zcells, .int .i64 2]) (by simp [results, Tryd.results48, go_sem, y0, y1, y2, y3, y4, y5, y6, y7]) rfl ⟨rfl, hbel9 _ _ hb2 (Nat.le_refl _)⟩

set_option maxHeartbeats 2000000 in
theorem take_b (A : Option Addr) (n c : Nat) (l : List UInt8) (w : World) (hw : Wd w) (h : Rd w A n c l) (hn : n ≤ 65536) (k q e : Int) (r : List UInt8) (hd : Item.headC l = some (k, q, e, r)) (ht0 : Item.tailC k q e r = none) :
    Calls Tryd.prog 48 #[.slice A n c] w (TakeO w none) := by
  have hb0 : Below w.heap.size w (w.alloc (.cells #[.int .i64 0, .int .i64 0, .int .i64 0, .int .i64 0, .int .i64 0, .int .i64 0, .slice none 0 0, .slice none 0 0] 25)) := (Below.refl _ _).alloc (Nat.le_refl _) _
  have hg0 := alloc_at w (.cells #[.int .i64 0, .int .i64 0, .int .i64 0, .int .i64 0, .int .i64 0, .int .i64 0, .slice none 0 0, .slice none 0 0] 25) _ rfl
  have hgs : w.heap.size < (w.alloc (.cells #[.int .i64 0, .int .i64 0, .int .i64 0, .int .i64 0, .int .i64 0, .int .i64 0, .slice none 0 0, .slice none 0 0] 25)).heap.size := by rw [size_alloc]; omega
  have hh := head_any A n c l _ (hw.below hb0) (h.below hb0) hn
  rw [hd] at hh
  have hrl : r.length ≤ 65536 := by
    have := Item.headC_len hd
    have := h.1
    omega
  clear hd
  go_enter Tryd.func48, Tryd.ntmps48
  go_wp2_with fail
  with_reducible refine hh.mono ?_
  rintro en w1 ⟨A1, c1, rfl, hr1, hb1⟩
  have hb01 := bthen hb0 hb1
  have g1 := (hb1.block _ hgs).trans hg0
  have hs1 := Nat.lt_of_lt_of_le hgs hb1.size
  have g2 := (alloc_old w1 (.cells #[.int .i64 k, .int .i64 q, .int .i64 e, .int .i64 0, .int .i64 0, .int .i64 0, .slice none 0 0, .slice none 0 0] 25) _ hs1).trans g1
  have hb2 := hb01.alloc hb01.size (.cells #[.int .i64 k, .int .i64 q, .int .i64 e, .int .i64 0, .int .i64 0, .int .i64 0, .slice none 0 0, .slice none 0 0] 25)
  have gi := alloc_at w1 (.cells #[.int .i64 k, .int .i64 q, .int .i64 e, .int .i64 0, .int .i64 0, .int .i64 0, .slice none 0 0, .slice none 0 0] 25) _ rfl
  have hs2 : w.heap.size < (w1.alloc (.cells #[.int .i64 k, .int .i64 q, .int .i64 e, .int .i64 0, .int .i64 0, .int .i64 0, .slice none 0 0, .slice none 0 0] 25)).heap.size := by rw [size_alloc]; omega
  have hs3 : w1.heap.size < (w1.alloc (.cells #[.int .i64 k, .int .i64 q, .int .i64 e, .int .i64 0, .int .i64 0, .int .i64 0, .slice none 0 0, .slice none 0 0] 25)).heap.size := by rw [size_alloc]; omega
  have hne : w.heap.size ≠ w1.heap.size := by omega
  have hle : w.heap.size ≤ w1.heap.size := by omega
  have ht := tail_take k q e A1 r.length c1 r _ (hw.below hb2) (hr1.alloc _) hrl
  rw [ht0] at ht
  clear ht0
  clear hh hg0 hgs hb0 hb1 g1
  go_wp2_with fail
  with_reducible refine ht.mono ?_
  rintro en w2 ⟨x, r', kk, hk, v, A2, c2, rfl, ⟨LA, ln, lc, BA, bn, bc, rfl, rl, rb, al, ab⟩, hr2, hb2'⟩
  have hb3 := bthen hb2 hb2'
  have k1 := (hb2'.block _ hs2).trans g2
  have ki := (hb2'.block _ hs3).trans gi
  clear ht hb2 g2 gi
  have q1 : (kk == 0) = false := by simpa using hk
  have q2 : (kk != 0) = true := by simpa using hk
  clear hk
  go_wp2_with (first
    | (refine wpList_stI rfl 25 (.tmp 4) (.tmp 19) rfl w1.heap.size #[.int .i64 x.k, .int .i64 x.q, .int .i64 x.e, .int .i64 x.i, .int .i64 x.t, .int .i64 x.c, .slice LA ln lc, .slice BA bn bc] rfl rfl _ _ ki info25 rfl (all8 rfl rfl rfl rfl rfl rfl rfl rfl) ?_
       intro w3 hg3 hbut3 hbel3
       have k3 := (hbut3.2 _ hne).trans k1
       have hb4 := hbel3 _ _ hb3 hle)
    | (refine wpList_stI rfl 25 (.tmp 2) (.tmp 34) rfl w.heap.size zcells rfl rfl _ _ k3 info25 rfl (all8 rfl rfl rfl rfl rfl rfl rfl rfl) ?_
       intro w9 hg9 hbut9 hbel9))
  obtain ⟨y0, y1, y2, y3, y4, y5, y6, y7⟩ := cells8 hg9
  exact bodyPost_ret (v := .tuple #[.agg zcells, .int .i64 2]) (by simp [results, Tryd.results48, go_sem, y0, y1, y2, y3, y4, y5, y6, y7]) rfl ⟨rfl, hbel9 _ _ hb4 (Nat.le_refl _)⟩

set_option maxHeartbeats 2000000 in
theorem take_c (A : Option Addr) (n c : Nat) (l : List UInt8) (w : World) (hw : Wd w) (h : Rd w A n c l) (hn : n ≤ 65536) (k q e : Int) (r : List UInt8) (hd : Item.headC l = some (k, q, e, r)) (x : Item.It) (r' : List UInt8) (ht0 : Item.tailC k q e r = some (x, r')) (hr0 : r' ≠ []) :
    Calls Tryd.prog 48 #[.slice A n c] w (TakeO w none) := by
  have hb0 : Below w.heap.size w (w.alloc (.cells #[.int .i64 0, .int .i64 0, .int .i64 0, .int .i64 0, .int .i64 0, .int .i64 0, .slice none 0 0, .slice none 0 0] 25)) := (Below.refl _ _).alloc (Nat.le_refl _) _
  have hg0 := alloc_at w (.cells #[.int .i64 0, .int .i64 0, .int .i64 0, .int .i64 0, .int .i64 0, .int .i64 0, .slice none 0 0, .slice none 0 0] 25) _ rfl
  have hgs : w.heap.size < (w.alloc (.cells #[.int .i64 0, .int .i64 0, .int .i64 0, .int .i64 0, .int .i64 0, .int .i64 0, .slice none 0 0, .slice none 0 0] 25)).heap.size := by rw [size_alloc]; omega
  have hh := head_any A n c l _ (hw.below hb0) (h.below hb0) hn
  rw [hd] at hh
  have hrl : r.length ≤ 65536 := by
    have := Item.headC_len hd
    have := h.1
    omega
  clear hd
  go_enter Tryd.func48, Tryd.ntmps48
  go_wp2_with fail
  with_reducible refine hh.mono ?_
  rintro en w1 ⟨A1, c1, rfl, hr1, hb1⟩
  have hb01 := bthen hb0 hb1
  have g1 := (hb1.block _ hgs).trans hg0
  have hs1 := Nat.lt_of_lt_of_le hgs hb1.size
  have g2 := (alloc_old w1 (.cells #[.int .i64 k, .int .i64 q, .int .i64 e, .int .i64 0, .int .i64 0, .int .i64 0, .slice none 0 0, .slice none 0 0] 25) _ hs1).trans g1
  have hb2 := hb01.alloc hb01.size (.cells #[.int .i64 k, .int .i64 q, .int .i64 e, .int .i64 0, .int .i64 0, .int .i64 0, .slice none 0 0, .slice none 0 0] 25)
  have gi := alloc_at w1 (.cells #[.int .i64 k, .int .i64 q, .int .i64 e, .int .i64 0, .int .i64 0, .int .i64 0, .slice none 0 0, .slice none 0 0] 25) _ rfl
  have hs2 : w.heap.size < (w1.alloc (.cells #[.int .i64 k, .int .i64 q, .int .i64 e, .int .i64 0, .int .i64 0, .int .i64 0, .slice none 0 0, .slice none 0 0] 25)).heap.size := by rw [size_alloc]; omega
  have hs3 : w1.heap.size < (w1.alloc (.cells #[.int .i64 k, .int .i64 q, .int .i64 e, .int .i64 0, .int .i64 0, .int .i64 0, .slice none 0 0, .slice none 0 0] 25)).heap.size := by rw [size_alloc]; omega
  have hne : w.heap.size ≠ w1.heap.size := by omega
  have hle : w.heap.size ≤ w1.heap.size := by omega
  have ht := tail_take k q e A1 r.length c1 r _ (hw.below hb2) (hr1.alloc _) hrl
  rw [ht0] at ht
  clear ht0
  clear hh hg0 hgs hb0 hb1 g1
  go_wp2_with fail
  with_reducible refine ht.mono ?_
  rintro en w2 ⟨v, A2, c2, rfl, ⟨LA, ln, lc, BA, bn, bc, rfl, rl, rb, al, ab⟩, hr2, hb2'⟩
  have hb3 := bthen hb2 hb2'
  have k1 := (hb2'.block _ hs2).trans g2
  have ki := (hb2'.block _ hs3).trans gi
  clear ht hb2 g2 gi
  have hpos : 0 < r'.length := List.length_pos_iff.2 hr0
  have q1 : decide (0 < r'.length) = true := by simpa using hpos
  have q2 : decide ((0 : Int) < (r'.length : Int)) = true := by simpa using hpos
  clear hr0
  go_wp2_with (first
    | (refine wpList_stI rfl 25 (.tmp 4) (.tmp 19) rfl w1.heap.size #[.int .i64 x.k, .int .i64 x.q, .int .i64 x.e, .int .i64 x.i, .int .i64 x.t, .int .i64 x.c, .slice LA ln lc, .slice BA bn bc] rfl rfl _ _ ki info25 rfl (all8 rfl rfl rfl rfl rfl rfl rfl rfl) ?_
       intro w3 hg3 hbut3 hbel3
       have k3 := (hbut3.2 _ hne).trans k1
       have hb4 := hbel3 _ _ hb3 hle)
    | (refine wpList_stI rfl 25 (.tmp 2) (.tmp 34) rfl w.heap.size zcells rfl rfl _ _ k3 info25 rfl (all8 rfl rfl rfl rfl rfl rfl rfl rfl) ?_
       intro w9 hg9 hbut9 hbel9))
  obtain ⟨y0, y1, y2, y3, y4, y5, y6, y7⟩ := cells8 hg9
  exact bodyPost_ret (v := .tuple #[.agg zcells, .int .i64 2]) (by simp [results, Tryd.results48, go_sem, y0, y1, y2, y3, y4, y5, y6, y7]) rfl ⟨rfl, hbel9 _ _ hb4 (Nat.le_refl _)⟩

set_option maxHeartbeats 2000000 in
theorem take_d (A : Option Addr) (n c : Nat) (l : List UInt8) (w : World) (hw : Wd w) (h : Rd w A n c l) (hn : n ≤ 65536) (k q e : Int) (r : List UInt8) (hd : Item.headC l = some (k, q, e, r)) (x : Item.It) (ht0 : Item.tailC k q e r = some (x, [])) (hm0 : Item.may x = false) :
    Calls Tryd.prog 48 #[.slice A n c] w (TakeO w none) := by
  have hb0 : Below w.heap.size w (w.alloc (.cells #[.int .i64 0, .int .i64 0, .int .i64 0, .int .i64 0, .int .i64 0, .int .i64 0, .slice none 0 0, .slice none 0 0] 25)) := (Below.refl _ _).alloc (Nat.le_refl _) _
  have hg0 := alloc_at w (.cells #[.int .i64 0, .int .i64 0, .int .i64 0, .int .i64 0, .int .i64 0, .int .i64 0, .slice none 0 0, .slice none 0 0] 25) _ rfl
  have hgs : w.heap.size < (w.alloc (.cells #[.int .i64 0, .int .i64 0, .int .i64 0, .int .i64 0, .int .i64 0, .int .i64 0, .slice none 0 0, .slice none 0 0] 25)).heap.size := by rw [size_alloc]; omega
  have hh := head_any A n c l _ (hw.below hb0) (h.below hb0) hn
  rw [hd] at hh
  have hrl : r.length ≤ 65536 := by
    have := Item.headC_len hd
    have := h.1
    omega
  clear hd
  go_enter Tryd.func48, Tryd.ntmps48
  go_wp2_with fail
  with_reducible refine hh.mono ?_
  rintro en w1 ⟨A1, c1, rfl, hr1, hb1⟩
  have hb01 := bthen hb0 hb1
  have g1 := (hb1.block _ hgs).trans hg0
  have hs1 := Nat.lt_of_lt_of_le hgs hb1.size
  have g2 := (alloc_old w1 (.cells #[.int .i64 k, .int .i64 q, .int .i64 e, .int .i64 0, .int .i64 0, .int .i64 0, .slice none 0 0, .slice none 0 0] 25) _ hs1).trans g1
  have hb2 := hb01.alloc hb01.size (.cells #[.int .i64 k, .int .i64 q, .int .i64 e, .int .i64 0, .int .i64 0, .int .i64 0, .slice none 0 0, .slice none 0 0] 25)
  have gi := alloc_at w1 (.cells #[.int .i64 k, .int .i64 q, .int .i64 e, .int .i64 0, .int .i64 0, .int .i64 0, .slice none 0 0, .slice none 0 0] 25) _ rfl
  have hs2 : w.heap.size < (w1.alloc (.cells #[.int .i64 k, .int .i64 q, .int .i64 e, .int .i64 0, .int .i64 0, .int .i64 0, .slice none 0 0, .slice none 0 0] 25)).heap.size := by rw [size_alloc]; omega
  have hs3 : w1.heap.size < (w1.alloc (.cells #[.int .i64 k, .int .i64 q, .int .i64 e, .int .i64 0, .int .i64 0, .int .i64 0, .slice none 0 0, .slice none 0 0] 25)).heap.size := by rw [size_alloc]; omega
  have hne : w.heap.size ≠ w1.heap.size := by omega
  have hle : w.heap.size ≤ w1.heap.size := by omega
  have ht := tail_take k q e A1 r.length c1 r _ (hw.below hb2) (hr1.alloc _) hrl
  rw [ht0] at ht
  clear ht0
  clear hh hg0 hgs hb0 hb1 g1
  go_wp2_with fail
  with_reducible refine ht.mono ?_
  rintro en w2 ⟨v, A2, c2, rfl, ⟨LA, ln, lc, BA, bn, bc, rfl, rl, rb, al, ab⟩, hr2, hb2'⟩
  have hb3 := bthen hb2 hb2'
  have k1 := (hb2'.block _ hs2).trans g2
  have ki := (hb2'.block _ hs3).trans gi
  clear ht hb2 g2 gi
  have ol : ∀ w', But w1.heap.size w2 w' → RdI w' LA ln lc x.l := fun w' hb => RdV.but rl (fun b o hA => by have := al b o hA; omega) hb
  have ob : ∀ w', But w1.heap.size w2 w' → Rd w' BA bn bc x.b := fun w' hb => rb.but (fun b o hA => by have := ab b o hA; omega) hb
  go_wp2_with (
    refine wpList_stI rfl 25 (.tmp 4) (.tmp 19) rfl w1.heap.size #[.int .i64 x.k, .int .i64 x.q, .int .i64 x.e, .int .i64 x.i, .int .i64 x.t, .int .i64 x.c, .slice LA ln lc, .slice BA bn bc] rfl rfl _ _ ki info25 rfl (all8 rfl rfl rfl rfl rfl rfl rfl rfl) ?_
    intro w3 hg3 hbut3 hbel3
    have k3 := (hbut3.2 _ hne).trans k1
    have hb4 := hbel3 _ _ hb3 hle
    obtain ⟨z0, z1, z2, z3, z4, z5, z6, z7⟩ := cells8 hg3
    have hl3 := ol w3 hbut3
    have hbb3 := ob w3 hbut3
    have hmay := may_any (.agg #[.int .i64 x.k, .int .i64 x.q, .int .i64 x.e, .int .i64 x.i, .int .i64 x.t, .int .i64 x.c, .slice LA ln lc, .slice BA bn bc]) x w3 ⟨LA, ln, lc, BA, bn, bc, rfl, hl3, hbb3⟩
    rw [hm0] at hmay)
  with_reducible refine hmay.mono ?_
  rintro en w5 ⟨rfl, hb5⟩
  have hs5 := hb4.size
  have hsz3 := hbut3.1
  have hs6 := hb2'.size
  have k5 := (hb5.block _ (by omega)).trans k3
  have hg5 := (hb5.block _ (by omega)).trans hg3
  have hb6 := bthen hb4 hb5
  have hl5 := RdV.below hl3 hb5
  have hbb5 := hbb3.below hb5
  clear z0 z1 z2 z3 z4 z5 z6 z7 hmay k3 hg3
  obtain ⟨z0, z1, z2, z3, z4, z5, z6, z7⟩ := cells8 hg5
  go_wp2_with (first
    | (refine wpList_stI rfl 25 (.tmp 2) (.tmp 34) rfl w.heap.size zcells rfl rfl _ _ k5 info25 rfl (all8 rfl rfl rfl rfl rfl rfl rfl rfl) ?_
       intro w9 hg9 hbut9 hbel9))
  obtain ⟨y0, y1, y2, y3, y4, y5, y6, y7⟩ := cells8 hg9
  exact bodyPost_ret (v := .tuple #[.agg zcells, .int .i64 2]) (by simp [results, Tryd.results48, go_sem, y0, y1, y2, y3, y4, y5, y6, y7]) rfl ⟨rfl, hbel9 _ _ hb6 (Nat.le_refl _)⟩

set_option maxHeartbeats 2000000 in
theorem take_e (A : Option Addr) (n c : Nat) (l : List UInt8) (w : World) (hw : Wd w) (h : Rd w A n c l) (hn : n ≤ 65536) (k q e : Int) (r : List UInt8) (hd : Item.headC l = some (k, q, e, r)) (x : Item.It) (ht0 : Item.tailC k q e r = some (x, [])) (hm0 : Item.may x = true) :
    Calls Tryd.prog 48 #[.slice A n c] w (TakeO w (some x)) := by
  have hb0 : Below w.heap.size w (w.alloc (.cells #[.int .i64 0, .int .i64 0, .int .i64 0, .int .i64 0, .int .i64 0, .int .i64 0, .slice none 0 0, .slice none 0 0] 25)) := (Below.refl _ _).alloc (Nat.le_refl _) _
  have hg0 := alloc_at w (.cells #[.int .i64 0, .int .i64 0, .int .i64 0, .int .i64 0, .int .i64 0, .int .i64 0, .slice none 0 0, .slice none 0 0] 25) _ rfl
  have hgs : w.heap.size < (w.alloc (.cells #[.int .i64 0, .int .i64 0, .int .i64 0, .int .i64 0, .int .i64 0, .int .i64 0, .slice none 0 0, .slice none 0 0] 25)).heap.size := by rw [size_alloc]; omega
  have hh := head_any A n c l _ (hw.below hb0) (h.below hb0) hn
  rw [hd] at hh
  have hrl : r.length ≤ 65536 := by
    have := Item.headC_len hd
    have := h.1
    omega
  clear hd
  go_enter Tryd.func48, Tryd.ntmps48
  go_wp2_with fail
  with_reducible refine hh.mono ?_
  rintro en w1 ⟨A1, c1, rfl, hr1, hb1⟩
  have hb01 := bthen hb0 hb1
  have g1 := (hb1.block _ hgs).trans hg0
  have hs1 := Nat.lt_of_lt_of_le hgs hb1.size
  have g2 := (alloc_old w1 (.cells #[.int .i64 k, .int .i64 q, .int .i64 e, .int .i64 0, .int .i64 0, .int .i64 0, .slice none 0 0, .slice none 0 0] 25) _ hs1).trans g1
  have hb2 := hb01.alloc hb01.size (.cells #[.int .i64 k, .int .i64 q, .int .i64 e, .int .i64 0, .int .i64 0, .int .i64 0, .slice none 0 0, .slice none 0 0] 25)
  have gi := alloc_at w1 (.cells #[.int .i64 k, .int .i64 q, .int .i64 e, .int .i64 0, .int .i64 0, .int .i64 0, .slice none 0 0, .slice none 0 0] 25) _ rfl
  have hs2 : w.heap.size < (w1.alloc (.cells #[.int .i64 k, .int .i64 q, .int .i64 e, .int .i64 0, .int .i64 0, .int .i64 0, .slice none 0 0, .slice none 0 0] 25)).heap.size := by rw [size_alloc]; omega
  have hs3 : w1.heap.size < (w1.alloc (.cells #[.int .i64 k, .int .i64 q, .int .i64 e, .int .i64 0, .int .i64 0, .int .i64 0, .slice none 0 0, .slice none 0 0] 25)).heap.size := by rw [size_alloc]; omega
  have hne : w.heap.size ≠ w1.heap.size := by omega
  have hle : w.heap.size ≤ w1.heap.size := by omega
  have ht := tail_take k q e A1 r.length c1 r _ (hw.below hb2) (hr1.alloc _) hrl
  rw [ht0] at ht
  clear ht0
  clear hh hg0 hgs hb0 hb1 g1
  go_wp2_with fail
  with_reducible refine ht.mono ?_
  rintro en w2 ⟨v, A2, c2, rfl, ⟨LA, ln, lc, BA, bn, bc, rfl, rl, rb, al, ab⟩, hr2, hb2'⟩
  have hb3 := bthen hb2 hb2'
  have k1 := (hb2'.block _ hs2).trans g2
  have ki := (hb2'.block _ hs3).trans gi
  clear ht hb2 g2 gi
  have ol : ∀ w', But w1.heap.size w2 w' → RdI w' LA ln lc x.l := fun w' hb => RdV.but rl (fun b o hA => by have := al b o hA; omega) hb
  have ob : ∀ w', But w1.heap.size w2 w' → Rd w' BA bn bc x.b := fun w' hb => rb.but (fun b o hA => by have := ab b o hA; omega) hb
  go_wp2_with (
    refine wpList_stI rfl 25 (.tmp 4) (.tmp 19) rfl w1.heap.size #[.int .i64 x.k, .int .i64 x.q, .int .i64 x.e, .int .i64 x.i, .int .i64 x.t, .int .i64 x.c, .slice LA ln lc, .slice BA bn bc] rfl rfl _ _ ki info25 rfl (all8 rfl rfl rfl rfl rfl rfl rfl rfl) ?_
    intro w3 hg3 hbut3 hbel3
    have k3 := (hbut3.2 _ hne).trans k1
    have hb4 := hbel3 _ _ hb3 hle
    obtain ⟨z0, z1, z2, z3, z4, z5, z6, z7⟩ := cells8 hg3
    have hl3 := ol w3 hbut3
    have hbb3 := ob w3 hbut3
    have hmay := may_any (.agg #[.int .i64 x.k, .int .i64 x.q, .int .i64 x.e, .int .i64 x.i, .int .i64 x.t, .int .i64 x.c, .slice LA ln lc, .slice BA bn bc]) x w3 ⟨LA, ln, lc, BA, bn, bc, rfl, hl3, hbb3⟩
    rw [hm0] at hmay)
  with_reducible refine hmay.mono ?_
  rintro en w5 ⟨rfl, hb5⟩
  have hs5 := hb4.size
  have hsz3 := hbut3.1
  have hs6 := hb2'.size
  have k5 := (hb5.block _ (by omega)).trans k3
  have hg5 := (hb5.block _ (by omega)).trans hg3
  have hb6 := bthen hb4 hb5
  have hl5 := RdV.below hl3 hb5
  have hbb5 := hbb3.below hb5
  clear z0 z1 z2 z3 z4 z5 z6 z7 hmay k3 hg3
  obtain ⟨z0, z1, z2, z3, z4, z5, z6, z7⟩ := cells8 hg5
  go_wp2_with (first
    | (refine wpList_stI rfl 25 (.tmp 2) (.tmp 35) rfl w.heap.size #[.int .i64 x.k, .int .i64 x.q, .int .i64 x.e, .int .i64 x.i, .int .i64 x.t, .int .i64 x.c, .slice LA ln lc, .slice BA bn bc] rfl rfl _ _ k5 info25 rfl (all8 rfl rfl rfl rfl rfl rfl rfl rfl) ?_
       intro w9 hg9 hbut9 hbel9))
  obtain ⟨y0, y1, y2, y3, y4, y5, y6, y7⟩ := cells8 hg9
  exact bodyPost_ret (v := .tuple #[.agg #[.int .i64 x.k, .int .i64 x.q, .int .i64 x.e, .int .i64 x.i, .int .i64 x.t, .int .i64 x.c, .slice LA ln lc, .slice BA bn bc], .int .i64 0]) (by simp [results, Tryd.results48, go_sem, y0, y1, y2, y3, y4, y5, y6, y7]) rfl ⟨_, rfl, ⟨LA, ln, lc, BA, bn, bc, rfl, RdV.but hl5 (fun b o hA => by have := al b o hA; omega) hbut9, hbb5.but (fun b o hA => by have := ab b o hA; omega) hbut9⟩, hbel9 _ _ hb6 (Nat.le_refl _)⟩

theorem takeI_any (A : Option Addr) (n c : Nat) (l : List UInt8) (w : World) (hw : Wd w) (h : Rd w A n c l) (hn : n ≤ 65536) :
    Calls Tryd.prog 48 #[.slice A n c] w (TakeO w (Item.takeOf l)) := by
  unfold Item.takeOf
  cases hd : Item.headC l with
  | none => exact take_a A n c l w hw h hn hd
  | some p =>
    obtain ⟨k, q, e, r⟩ := p
    dsimp only
    cases ht : Item.tailC k q e r with
    | none => exact take_b A n c l w hw h hn k q e r hd ht
    | some p =>
      obtain ⟨x, r'⟩ := p
      unfold Item.lastC
      dsimp only
      by_cases hr : r' = []
      · subst hr
        cases hm : Item.may x with
        | true =>
          rw [if_pos ⟨rfl, rfl⟩]
          exact take_e A n c l w hw h hn k q e r hd x ht hm
        | false =>
          rw [if_neg (by simp)]
          exact take_d A n c l w hw h hn k q e r hd x ht hm
      · rw [if_neg (by simp [hr])]
        exact take_c A n c l w hw h hn k q e r hd x r' ht hr
end Go.Proofs.YtahkhideepncfaaDoor
