import Derived.Test.YtahkhideepncfaaDoorID
import Derived.Test.YtahkhideepncfaaDoorNA
import Derived.Deep.RegionHeldLaw
set_option maxRecDepth 100000
/- What item.tail comes to. -/
namespace Go.Proofs.YtahkhideepncfaaDoor
open Go.RowKit
set_option linter.unusedVariables false

theorem put_len1 (i : Int) : (Num.put i 1).length ≤ 1 := by
  by_cases h : Num.fits i 1 = true
  · rw [Num.put_length h]; decide
  · rw [Num.put_not (by simpa using h)]; simp
theorem keepA {base : Nat} {w w' : World} (h : Below base w w') (hs : base ≤ w'.heap.size) (o : Obj) : Below base w (w'.alloc o) := h.alloc hs o

set_option maxHeartbeats 2000000 in
theorem tail1 (q e i t c : Int) (l : List Int) (b : List UInt8) (LA : Option Addr) (ln lc : Nat) (BA : Option Addr) (bn bc : Nat) (w : World) (hw : Wd w) (hb : Rd w BA bn bc b) (hbn : bn ≤ 65536) :
    Calls Tryd.prog 76 #[.agg #[.int .i64 1, .int .i64 q, .int .i64 e, .int .i64 i, .int .i64 t, .int .i64 c, .slice LA ln lc, .slice BA bn bc]] w (Gives w 5 (Num.putRow [i, t] 1 ++ b)) := by
  have hg := alloc_at w (.cells #[.int .i64 1, .int .i64 q, .int .i64 e, .int .i64 i, .int .i64 t, .int .i64 c, .slice LA ln lc, .slice BA bn bc] 25) _ rfl
  have hb0 : Below w.heap.size w (w.alloc (.cells #[.int .i64 1, .int .i64 q, .int .i64 e, .int .i64 i, .int .i64 t, .int .i64 c, .slice LA ln lc, .slice BA bn bc] 25)) := (Below.refl _ _).alloc (Nat.le_refl _) _
  have c0 := cell_at hg 0 rfl
  have c3 := cell_at hg 3 rfl
  have c4 := cell_at hg 4 rfl
  have c7 := cell_at hg 7 rfl
  clear hg
  go_enter Tryd.func76, Tryd.ntmps76
  go_wp2
  generalize w.alloc (.cells #[.int .i64 1, .int .i64 q, .int .i64 e, .int .i64 i, .int .i64 t, .int .i64 c, .slice LA ln lc, .slice BA bn bc] 25) = W0 at hb0 c0 c3 c4 c7 ⊢
  have hbb := hb.below hb0
  have hw0 := hw.below hb0
  have KS : ∀ w', Below W0.heap.size W0 w' → w'.cell? ⟨w.heap.size, 3, none⟩ = some (.int .i64 i) ∧ w'.cell? ⟨w.heap.size, 4, none⟩ = some (.int .i64 t) ∧ w'.cell? ⟨w.heap.size, 7, none⟩ = some (.slice BA bn bc) ∧ Below W0.heap.size W0 w' :=
    fun w' h => ⟨keepC h c3, keepC h c4, keepC h c7, h⟩
  have hB1 : Below W0.heap.size W0 (W0.alloc (.cells #[.int .i64 i, .int .i64 t] 3)).drew := ((Below.refl _ _).alloc (Nat.le_refl _) _).drew
  have hput : Calls Tryd.prog 36 #[.slice (some ⟨W0.heap.size, 0, none⟩) 2 2, .int .i64 1] (W0.alloc (.cells #[.int .i64 i, .int .i64 t] 3)).drew (Gives (W0.alloc (.cells #[.int .i64 i, .int .i64 t] 3)).drew 5 (Num.putRow [i, t] 1)) :=
    putRow_any _ _ _ [i, t] 1 _ (hw0.alloc _).drew (RdV.drew (RdV.lit W0 3 (0, 0) _ _ rfl 2 rfl (by decide) _ rfl)) (by omega)
  have hlen : (Num.putRow [i, t] 1).length ≤ 2 := by
    unfold Num.putRow
    split
    · rename_i h; rw [Num.flat_length _ h]; simp
    · simp
  go_region_held_law (fun w' => w'.cell? ⟨w.heap.size, 3, none⟩ = some (.int .i64 i) ∧ w'.cell? ⟨w.heap.size, 4, none⟩ = some (.int .i64 t) ∧ w'.cell? ⟨w.heap.size, 7, none⟩ = some (.slice BA bn bc) ∧ Below W0.heap.size W0 w')
    (first | exact KS _ (Below.refl _ _).drew | exact KS _ hb2' | exact KS _ hb1' | exact KS _ hB1 | assumption)
    (first
      | (go_at_call 36; ((with_reducible refine hput.mono ?_); rintro e w1 ⟨A1, d1, rfl, ho1, hb1⟩; have hb1' : Below W0.heap.size W0 w1 := bthen hB1 hb1))
      | (refine step_app rfl (.tmp 12) (.tmp 14) 23 rfl W0.heap.size 5 info5 Tryd.underlying23 _ (Num.putRow [i, t] 1).length (Num.putRow [i, t] 1) rfl (ho1.mono hB1.size) BA bn bc b rfl (hbb.below hb1') (by omega) hb1'.size ?_
         intro v2 w2 ho2 hb2
         have hb2' : Below W0.heap.size W0 w2 := hb1'.trans hb2))
  all_goals
    go_wp2
    go_ret
    rename_i dst d heq
    obtain rfl : 15 = d := Option.some.inj heq
    exact Own.gives (ho2.mono hb0.size) (bthen hb0 hb2')

set_option maxHeartbeats 2000000 in
theorem tail2 (q e i t c : Int) (l : List Int) (b : List UInt8) (LA : Option Addr) (ln lc : Nat) (BA : Option Addr) (bn bc : Nat) (w : World) (hw : Wd w) (hl : RdI w LA ln lc l) (hln : ln ≤ 65536) :
    Calls Tryd.prog 76 #[.agg #[.int .i64 2, .int .i64 q, .int .i64 e, .int .i64 i, .int .i64 t, .int .i64 c, .slice LA ln lc, .slice BA bn bc]] w (Gives w 5 (Num.put i 1 ++ Num.putRow l 1)) := by
  have hg := alloc_at w (.cells #[.int .i64 2, .int .i64 q, .int .i64 e, .int .i64 i, .int .i64 t, .int .i64 c, .slice LA ln lc, .slice BA bn bc] 25) _ rfl
  have hb0 : Below w.heap.size w (w.alloc (.cells #[.int .i64 2, .int .i64 q, .int .i64 e, .int .i64 i, .int .i64 t, .int .i64 c, .slice LA ln lc, .slice BA bn bc] 25)) := (Below.refl _ _).alloc (Nat.le_refl _) _
  have c0 := cell_at hg 0 rfl
  have c3 := cell_at hg 3 rfl
  have c6 := cell_at hg 6 rfl
  clear hg
  go_enter Tryd.func76, Tryd.ntmps76
  go_wp2
  generalize w.alloc (.cells #[.int .i64 2, .int .i64 q, .int .i64 e, .int .i64 i, .int .i64 t, .int .i64 c, .slice LA ln lc, .slice BA bn bc] 25) = W0 at hb0 c0 c3 c6 ⊢
  have hll := RdV.below hl hb0
  have hw0 := hw.below hb0
  have KS : ∀ w', Below W0.heap.size W0 w' → w'.cell? ⟨w.heap.size, 3, none⟩ = some (.int .i64 i) ∧ w'.cell? ⟨w.heap.size, 6, none⟩ = some (.slice LA ln lc) ∧ Below W0.heap.size W0 w' :=
    fun w' h => ⟨keepC h c3, keepC h c6, h⟩
  have hlen1 : (Num.put i 1).length ≤ 1 := put_len1 i
  have hlen2 : (Num.putRow l 1).length ≤ ln := by
    have := RdI.size hl
    unfold Num.putRow
    split
    · rename_i h; rw [Num.flat_length _ h]; simp; omega
    · simp
  go_region_held_law (fun w' => w'.cell? ⟨w.heap.size, 3, none⟩ = some (.int .i64 i) ∧ w'.cell? ⟨w.heap.size, 6, none⟩ = some (.slice LA ln lc) ∧ Below W0.heap.size W0 w')
    (first | exact KS _ (Below.refl _ _).drew | exact KS _ hb4' | exact KS _ hb3' | exact KS _ hb2' | exact KS _ hb1' | assumption)
    (first
      | (go_at_call 59; ((with_reducible refine (put_any i 1 _ (hw0.below hb1')).mono ?_); rintro e w2 ⟨A2, d2, rfl, ho2, hb2⟩; have hb2' : Below W0.heap.size W0 w2 := bthen hb1' hb2; have hB := hb2; have hr1 := ho1.same.below hb2; have hbL := hb1'.size; have hbM := hb2'.size; have ho2' := ho2.mono hbL))
      | (go_at_call 36; ((with_reducible refine (putRow_any LA ln lc l 1 _ (hw0.below hb1') (RdV.below hll hb1') hln).mono ?_); rintro e w2 ⟨A2, d2, rfl, ho2, hb2⟩; have hb2' : Below W0.heap.size W0 w2 := bthen hb1' hb2; have ho2' := (ho1.mono (Nat.le_refl _)).later hb2; have hr1 := ho2.same; have hbM := hb2'.size))
      | (go_at_call 59; ((with_reducible refine (put_any i 1 _ hw0.drew).mono ?_); rintro e w1 ⟨A1, d1, rfl, ho1, hb1⟩; have hb1' : Below W0.heap.size W0 w1 := undrew hb1))
      | (go_at_call 36; ((with_reducible refine (putRow_any LA ln lc l 1 _ hw0.drew (RdV.drew hll) hln).mono ?_); rintro e w1 ⟨A1, d1, rfl, ho1, hb1⟩; have hb1' : Below W0.heap.size W0 w1 := undrew hb1))
      | (refine step_app rfl (.tmp 20) (.tmp 23) 23 rfl W0.heap.size 5 info5 Tryd.underlying23 _ (Num.put i 1).length (Num.put i 1) rfl ho2' _ (Num.putRow l 1).length _ (Num.putRow l 1) rfl hr1 (by omega) hbM ?_
         intro v3 w3 ho3 hb3
         have hb3' : Below W0.heap.size W0 w3 := hb2'.trans hb3))
  all_goals
    go_wp2
    go_ret
    rename_i dst d heq
    obtain rfl : 24 = d := Option.some.inj heq
    exact Own.gives (ho3.mono hb0.size) (bthen hb0 hb3')

set_option maxHeartbeats 1000000 in
theorem tail3 (q e i t c : Int) (l : List Int) (b : List UInt8) (LA : Option Addr) (ln lc : Nat) (BA : Option Addr) (bn bc : Nat) (w : World) (hw : Wd w) :
    Calls Tryd.prog 76 #[.agg #[.int .i64 3, .int .i64 q, .int .i64 e, .int .i64 i, .int .i64 t, .int .i64 c, .slice LA ln lc, .slice BA bn bc]] w (Gives w 5 ([])) := by
  have hg := alloc_at w (.cells #[.int .i64 3, .int .i64 q, .int .i64 e, .int .i64 i, .int .i64 t, .int .i64 c, .slice LA ln lc, .slice BA bn bc] 25) _ rfl
  have hb0 : Below w.heap.size w (w.alloc (.cells #[.int .i64 3, .int .i64 q, .int .i64 e, .int .i64 i, .int .i64 t, .int .i64 c, .slice LA ln lc, .slice BA bn bc] 25)) := (Below.refl _ _).alloc (Nat.le_refl _) _
  have c0 := cell_at hg 0 rfl
  have c3 := cell_at hg 3 rfl
  clear hg
  go_enter Tryd.func76, Tryd.ntmps76
  go_wp2
  go_ret
  exact ⟨none, 0, rfl, World.ownsRow_nil _ _ _ _, hb0⟩

set_option maxHeartbeats 1000000 in
theorem tail4 (q e i t c : Int) (l : List Int) (b : List UInt8) (LA : Option Addr) (ln lc : Nat) (BA : Option Addr) (bn bc : Nat) (w : World) (hw : Wd w) :
    Calls Tryd.prog 76 #[.agg #[.int .i64 4, .int .i64 q, .int .i64 e, .int .i64 i, .int .i64 t, .int .i64 c, .slice LA ln lc, .slice BA bn bc]] w (Gives w 5 (Num.put i 1)) := by
  have hg := alloc_at w (.cells #[.int .i64 4, .int .i64 q, .int .i64 e, .int .i64 i, .int .i64 t, .int .i64 c, .slice LA ln lc, .slice BA bn bc] 25) _ rfl
  have hb0 : Below w.heap.size w (w.alloc (.cells #[.int .i64 4, .int .i64 q, .int .i64 e, .int .i64 i, .int .i64 t, .int .i64 c, .slice LA ln lc, .slice BA bn bc] 25)) := (Below.refl _ _).alloc (Nat.le_refl _) _
  have c0 := cell_at hg 0 rfl
  have c3 := cell_at hg 3 rfl
  clear hg
  go_enter Tryd.func76, Tryd.ntmps76
  go_wp2_with fail
  with_reducible refine (put_any i 1 _ (hw.below hb0)).mono ?_
  rintro e w1 ⟨A1, d1, rfl, ho1, hb1⟩
  go_wp2
  go_ret
  exact ⟨A1, d1, rfl, ho1.mono hb0.size, bthen hb0 hb1⟩

set_option maxHeartbeats 1000000 in
theorem tail5 (q e i t c : Int) (l : List Int) (b : List UInt8) (LA : Option Addr) (ln lc : Nat) (BA : Option Addr) (bn bc : Nat) (w : World) (hw : Wd w) :
    Calls Tryd.prog 76 #[.agg #[.int .i64 5, .int .i64 q, .int .i64 e, .int .i64 i, .int .i64 t, .int .i64 c, .slice LA ln lc, .slice BA bn bc]] w (Gives w 5 (Num.put c 8)) := by
  have hg := alloc_at w (.cells #[.int .i64 5, .int .i64 q, .int .i64 e, .int .i64 i, .int .i64 t, .int .i64 c, .slice LA ln lc, .slice BA bn bc] 25) _ rfl
  have hb0 : Below w.heap.size w (w.alloc (.cells #[.int .i64 5, .int .i64 q, .int .i64 e, .int .i64 i, .int .i64 t, .int .i64 c, .slice LA ln lc, .slice BA bn bc] 25)) := (Below.refl _ _).alloc (Nat.le_refl _) _
  have c0 := cell_at hg 0 rfl
  have c5 := cell_at hg 5 rfl
  clear hg
  go_enter Tryd.func76, Tryd.ntmps76
  go_wp2_with fail
  with_reducible refine (put_any c 8 _ (hw.below hb0)).mono ?_
  rintro e w1 ⟨A1, d1, rfl, ho1, hb1⟩
  go_wp2
  go_ret
  exact ⟨A1, d1, rfl, ho1.mono hb0.size, bthen hb0 hb1⟩

set_option maxHeartbeats 1000000 in
theorem tail6 (q e i t c : Int) (l : List Int) (b : List UInt8) (LA : Option Addr) (ln lc : Nat) (BA : Option Addr) (bn bc : Nat) (w : World) (hw : Wd w) (hl : RdI w LA ln lc l) (hln : ln ≤ 65536) :
    Calls Tryd.prog 76 #[.agg #[.int .i64 6, .int .i64 q, .int .i64 e, .int .i64 i, .int .i64 t, .int .i64 c, .slice LA ln lc, .slice BA bn bc]] w (Gives w 5 (Num.putRow l 8)) := by
  have hg := alloc_at w (.cells #[.int .i64 6, .int .i64 q, .int .i64 e, .int .i64 i, .int .i64 t, .int .i64 c, .slice LA ln lc, .slice BA bn bc] 25) _ rfl
  have hb0 : Below w.heap.size w (w.alloc (.cells #[.int .i64 6, .int .i64 q, .int .i64 e, .int .i64 i, .int .i64 t, .int .i64 c, .slice LA ln lc, .slice BA bn bc] 25)) := (Below.refl _ _).alloc (Nat.le_refl _) _
  have c0 := cell_at hg 0 rfl
  have c6 := cell_at hg 6 rfl
  clear hg
  go_enter Tryd.func76, Tryd.ntmps76
  go_wp2_with fail
  with_reducible refine (putRow_any LA ln lc l 8 _ (hw.below hb0) (RdV.below hl hb0) hln).mono ?_
  rintro e w1 ⟨A1, d1, rfl, ho1, hb1⟩
  go_wp2
  go_ret
  exact ⟨A1, d1, rfl, ho1.mono hb0.size, bthen hb0 hb1⟩

theorem tail_any (v : Value) (x : Item.It) (w : World) (hw : Wd w) (h : IsItem w v x) (h1 : 1 ≤ x.k) (h6 : x.k ≤ 6) (hl : x.l.length ≤ 65536) (hb : x.b.length ≤ 65536) :
    Calls Tryd.prog 76 #[v] w (Gives w 5 (Item.tail x)) := by
  obtain ⟨k, q, e, i, t, c, l, b⟩ := x
  obtain ⟨LA, ln, lc, BA, bn, bc, rfl, rl, rb⟩ := h
  dsimp only at *
  have el := RdI.size rl
  have eb := rb.1
  rcases (show k = 1 ∨ k = 2 ∨ k = 3 ∨ k = 4 ∨ k = 5 ∨ k = 6 from by omega) with rfl | rfl | rfl | rfl | rfl | rfl
  · exact tail1 q e i t c l b LA ln lc BA bn bc w hw rb (by omega)
  · exact tail2 q e i t c l b LA ln lc BA bn bc w hw rl (by omega)
  · exact tail3 q e i t c l b LA ln lc BA bn bc w hw
  · exact tail4 q e i t c l b LA ln lc BA bn bc w hw
  · exact tail5 q e i t c l b LA ln lc BA bn bc w hw
  · exact tail6 q e i t c l b LA ln lc BA bn bc w hw rl (by omega)
end Go.Proofs.YtahkhideepncfaaDoor
/- What item.Bytes comes to. (Written by wip/gen/item10.py.) -/
namespace Go.Proofs.YtahkhideepncfaaDoor
open Go.RowKit
set_option linter.unusedVariables false

theorem putRow_len (l : List Int) (k : Int) (n : Nat) (h : k.toNat * l.length ≤ n) : (Num.putRow l k).length ≤ n := by
  unfold Num.putRow
  split
  · rename_i h2; rw [Num.flat_length _ h2]; exact h
  · exact Nat.zero_le _
theorem put_len8 (i : Int) : (Num.put i 8).length ≤ 8 := by
  by_cases h : Num.fits i 8 = true
  · rw [Num.put_length h]; decide
  · rw [Num.put_not (by simpa using h)]; simp
theorem ask_kinds {x : Item.It} (h : Item.ask x = true) : 1 ≤ x.k ∧ x.k ≤ 6 := by
  unfold Item.ask at h
  repeat' split at h
  all_goals first | omega | cases h
theorem list_len {l : List Int} {lo hi top : Int} (h : Item.list l lo hi top = true) (hh : hi ≤ 64) : l.length ≤ 64 := by
  simp only [Item.list, Item.win, Bool.and_eq_true, decide_eq_true_eq] at h
  omega
theorem body_len {b : List UInt8} {n : Int} (h : Item.body b n = true) (hn : n ≤ 1024) : b.length ≤ 1024 := by
  simp only [Item.body, decide_eq_true_eq] at h
  omega
theorem askN_len {x : Item.It} {im cm lo hi top : Int} (h : Item.askN x im cm lo hi top = true) (hh : hi ≤ 64) : x.l.length ≤ 64 ∧ x.b.length ≤ 1024 := by
  simp only [Item.askN, Bool.and_eq_true] at h
  exact ⟨list_len h.2.2.2.1 hh, body_len h.2.2.2.2 (by omega)⟩
theorem ask_len {x : Item.It} (h : Item.ask x = true) : x.l.length ≤ 64 ∧ x.b.length ≤ 1024 := by
  unfold Item.ask at h
  repeat' split at h
  · simp only [Item.ask1, Bool.and_eq_true] at h
    exact ⟨list_len h.2.2.2.1 (by omega), body_len h.2.2.2.2 (by omega)⟩
  all_goals first | exact askN_len h (by omega) | cases h
theorem may_ask {x : Item.It} (h : Item.may x = true) : Item.ask x = true := by
  simp only [Item.may, Bool.and_eq_true] at h
  exact h.2.2

set_option maxHeartbeats 4000000 in
theorem bytes_yes (x : Item.It) (LA : Option Addr) (ln lc : Nat) (BA : Option Addr) (bn bc : Nat) (w : World) (hw : Wd w) (hl : RdI w LA ln lc x.l) (hb : Rd w BA bn bc x.b) (hm : Item.may x = true) :
    Calls Tryd.prog 57 #[.agg #[.int .i64 x.k, .int .i64 x.q, .int .i64 x.e, .int .i64 x.i, .int .i64 x.t, .int .i64 x.c, .slice LA ln lc, .slice BA bn bc]] w (Gives w 5 ((Num.put x.k 1 ++ Num.putRow [x.q, x.e] 8) ++ Item.tail x)) := by
  obtain ⟨r, HR⟩ : ∃ r, Hid ((Num.put x.k 1 ++ Num.putRow [x.q, x.e] 8) ++ Item.tail x = r) := ⟨_, hidT rfl⟩
  rw [HR.out]
  obtain ⟨hk1, hk6⟩ := ask_kinds (may_ask hm)
  obtain ⟨hll, hbl⟩ := ask_len (may_ask hm)
  have hg := alloc_at w (.cells #[.int .i64 x.k, .int .i64 x.q, .int .i64 x.e, .int .i64 x.i, .int .i64 x.t, .int .i64 x.c, .slice LA ln lc, .slice BA bn bc] 25) _ rfl
  have hb0 : Below w.heap.size w (w.alloc (.cells #[.int .i64 x.k, .int .i64 x.q, .int .i64 x.e, .int .i64 x.i, .int .i64 x.t, .int .i64 x.c, .slice LA ln lc, .slice BA bn bc] 25)) := (Below.refl _ _).alloc (Nat.le_refl _) _
  have hmay := may_any (.agg #[.int .i64 x.k, .int .i64 x.q, .int .i64 x.e, .int .i64 x.i, .int .i64 x.t, .int .i64 x.c, .slice LA ln lc, .slice BA bn bc]) x _ ⟨LA, ln, lc, BA, bn, bc, rfl, RdV.below hl hb0, hb.below hb0⟩
  rw [hm] at hmay
  have c0 := cell_at hg 0 rfl
  have c1 := cell_at hg 1 rfl
  have c2 := cell_at hg 2 rfl
  have c3 := cell_at hg 3 rfl
  have c4 := cell_at hg 4 rfl
  have c5 := cell_at hg 5 rfl
  have c6 := cell_at hg 6 rfl
  have c7 := cell_at hg 7 rfl
  clear hg
  have HT : Hid ((Item.tail x).length ≤ 1100) := by
    refine hidT ?_
    unfold Item.tail
    have h1 := put_len1 x.i
    have h8 := put_len8 x.c
    have h2 : (Num.putRow [x.i, x.t] 1).length ≤ 2 := putRow_len _ 1 2 (by simp)
    have h3 : (Num.putRow x.l 1).length ≤ 64 := putRow_len _ 1 64 (by simp; omega)
    have h4 : (Num.putRow x.l 8).length ≤ 512 := putRow_len _ 8 512 (by simp; omega)
    repeat' split
    all_goals (try rw [List.length_append])
    all_goals (try rw [List.length_nil])
    all_goals omega
  have hlen1 := put_len1 x.k
  have hlen2 : (Num.putRow [x.q, x.e] 8).length ≤ 16 := putRow_len _ 8 16 (by simp)
  go_enter Tryd.func57, Tryd.ntmps57
  go_wp2_with fail
  with_reducible refine hmay.mono ?_
  rintro e w1 ⟨rfl, hb1⟩
  have d0 := keepC hb1 c0
  have d1 := keepC hb1 c1
  have d2 := keepC hb1 c2
  have d3 := keepC hb1 c3
  have d4 := keepC hb1 c4
  have d5 := keepC hb1 c5
  have d6 := keepC hb1 c6
  have d7 := keepC hb1 c7
  have hb01 := bthen hb0 hb1
  clear c0 c1 c2 c3 c4 c5 c6 c7 hmay hb1 hb0
  go_wp2
  generalize w1 = W0 at hb01 d0 d1 d2 d3 d4 d5 d6 d7 ⊢
  have hw0 := hw.below hb01
  have hit : ∀ w', Below W0.heap.size W0 w' → IsItem w' (.agg #[.int .i64 x.k, .int .i64 x.q, .int .i64 x.e, .int .i64 x.i, .int .i64 x.t, .int .i64 x.c, .slice LA ln lc, .slice BA bn bc]) x := fun w' h => ⟨LA, ln, lc, BA, bn, bc, rfl, RdV.below hl (bthen hb01 h), hb.below (bthen hb01 h)⟩
  clear hl hb hw
  have KS : ∀ w', Below W0.heap.size W0 w' → w'.cell? ⟨w.heap.size, 0, none⟩ = some (.int .i64 x.k) ∧ w'.cell? ⟨w.heap.size, 1, none⟩ = some (.int .i64 x.q) ∧ w'.cell? ⟨w.heap.size, 2, none⟩ = some (.int .i64 x.e) ∧ w'.cell? ⟨w.heap.size, 3, none⟩ = some (.int .i64 x.i) ∧ w'.cell? ⟨w.heap.size, 4, none⟩ = some (.int .i64 x.t) ∧ w'.cell? ⟨w.heap.size, 5, none⟩ = some (.int .i64 x.c) ∧ w'.cell? ⟨w.heap.size, 6, none⟩ = some (.slice LA ln lc) ∧ w'.cell? ⟨w.heap.size, 7, none⟩ = some (.slice BA bn bc) ∧ Below W0.heap.size W0 w' :=
    fun w' h => ⟨keepC h d0, keepC h d1, keepC h d2, keepC h d3, keepC h d4, keepC h d5, keepC h d6, keepC h d7, h⟩
  have KB : ∀ w', (w'.cell? ⟨w.heap.size, 0, none⟩ = some (.int .i64 x.k) ∧ w'.cell? ⟨w.heap.size, 1, none⟩ = some (.int .i64 x.q) ∧ w'.cell? ⟨w.heap.size, 2, none⟩ = some (.int .i64 x.e) ∧ w'.cell? ⟨w.heap.size, 3, none⟩ = some (.int .i64 x.i) ∧ w'.cell? ⟨w.heap.size, 4, none⟩ = some (.int .i64 x.t) ∧ w'.cell? ⟨w.heap.size, 5, none⟩ = some (.int .i64 x.c) ∧ w'.cell? ⟨w.heap.size, 6, none⟩ = some (.slice LA ln lc) ∧ w'.cell? ⟨w.heap.size, 7, none⟩ = some (.slice BA bn bc) ∧ Below W0.heap.size W0 w') → Below W0.heap.size W0 w' := fun w' h => h.2.2.2.2.2.2.2.2
  have KA : ∀ (w' : World) (o : Obj), (w'.cell? ⟨w.heap.size, 0, none⟩ = some (.int .i64 x.k) ∧ w'.cell? ⟨w.heap.size, 1, none⟩ = some (.int .i64 x.q) ∧ w'.cell? ⟨w.heap.size, 2, none⟩ = some (.int .i64 x.e) ∧ w'.cell? ⟨w.heap.size, 3, none⟩ = some (.int .i64 x.i) ∧ w'.cell? ⟨w.heap.size, 4, none⟩ = some (.int .i64 x.t) ∧ w'.cell? ⟨w.heap.size, 5, none⟩ = some (.int .i64 x.c) ∧ w'.cell? ⟨w.heap.size, 6, none⟩ = some (.slice LA ln lc) ∧ w'.cell? ⟨w.heap.size, 7, none⟩ = some (.slice BA bn bc) ∧ Below W0.heap.size W0 w') → (w'.alloc o).cell? ⟨w.heap.size, 0, none⟩ = some (.int .i64 x.k) ∧ (w'.alloc o).cell? ⟨w.heap.size, 1, none⟩ = some (.int .i64 x.q) ∧ (w'.alloc o).cell? ⟨w.heap.size, 2, none⟩ = some (.int .i64 x.e) ∧ (w'.alloc o).cell? ⟨w.heap.size, 3, none⟩ = some (.int .i64 x.i) ∧ (w'.alloc o).cell? ⟨w.heap.size, 4, none⟩ = some (.int .i64 x.t) ∧ (w'.alloc o).cell? ⟨w.heap.size, 5, none⟩ = some (.int .i64 x.c) ∧ (w'.alloc o).cell? ⟨w.heap.size, 6, none⟩ = some (.slice LA ln lc) ∧ (w'.alloc o).cell? ⟨w.heap.size, 7, none⟩ = some (.slice BA bn bc) ∧ Below W0.heap.size W0 (w'.alloc o) := fun w' o h => KS _ ((KB _ h).alloc (KB _ h).size o)
  have KC : ∀ (u v : World), (u.cell? ⟨w.heap.size, 0, none⟩ = some (.int .i64 x.k) ∧ u.cell? ⟨w.heap.size, 1, none⟩ = some (.int .i64 x.q) ∧ u.cell? ⟨w.heap.size, 2, none⟩ = some (.int .i64 x.e) ∧ u.cell? ⟨w.heap.size, 3, none⟩ = some (.int .i64 x.i) ∧ u.cell? ⟨w.heap.size, 4, none⟩ = some (.int .i64 x.t) ∧ u.cell? ⟨w.heap.size, 5, none⟩ = some (.int .i64 x.c) ∧ u.cell? ⟨w.heap.size, 6, none⟩ = some (.slice LA ln lc) ∧ u.cell? ⟨w.heap.size, 7, none⟩ = some (.slice BA bn bc) ∧ Below W0.heap.size W0 u) → Below u.heap.size u v → v.cell? ⟨w.heap.size, 0, none⟩ = some (.int .i64 x.k) ∧ v.cell? ⟨w.heap.size, 1, none⟩ = some (.int .i64 x.q) ∧ v.cell? ⟨w.heap.size, 2, none⟩ = some (.int .i64 x.e) ∧ v.cell? ⟨w.heap.size, 3, none⟩ = some (.int .i64 x.i) ∧ v.cell? ⟨w.heap.size, 4, none⟩ = some (.int .i64 x.t) ∧ v.cell? ⟨w.heap.size, 5, none⟩ = some (.int .i64 x.c) ∧ v.cell? ⟨w.heap.size, 6, none⟩ = some (.slice LA ln lc) ∧ v.cell? ⟨w.heap.size, 7, none⟩ = some (.slice BA bn bc) ∧ Below W0.heap.size W0 v := fun u v h hb => KS _ (bthen (KB _ h) hb)
  have KD : ∀ (u v : World), (u.cell? ⟨w.heap.size, 0, none⟩ = some (.int .i64 x.k) ∧ u.cell? ⟨w.heap.size, 1, none⟩ = some (.int .i64 x.q) ∧ u.cell? ⟨w.heap.size, 2, none⟩ = some (.int .i64 x.e) ∧ u.cell? ⟨w.heap.size, 3, none⟩ = some (.int .i64 x.i) ∧ u.cell? ⟨w.heap.size, 4, none⟩ = some (.int .i64 x.t) ∧ u.cell? ⟨w.heap.size, 5, none⟩ = some (.int .i64 x.c) ∧ u.cell? ⟨w.heap.size, 6, none⟩ = some (.slice LA ln lc) ∧ u.cell? ⟨w.heap.size, 7, none⟩ = some (.slice BA bn bc) ∧ Below W0.heap.size W0 u) → Below u.heap.size u v → w.heap.size ≤ u.heap.size := fun u v h _ => (bthen hb01 (KB _ h)).size
  have LIT : ∀ u : World, RdI (u.alloc (.cells #[.int .i64 x.q, .int .i64 x.e] 3)) (some ⟨u.heap.size, 0, none⟩) 2 2 [x.q, x.e] := fun u => RdV.lit u 3 (0, 0) _ _ rfl 2 rfl (by decide) _ rfl
  have LITD : RdI (W0.alloc (.cells #[.int .i64 x.q, .int .i64 x.e] 3)).drew (some ⟨W0.heap.size, 0, none⟩) 2 2 [x.q, x.e] := RdV.drew (LIT W0)
  have CEL0 : ∀ (u : World) (s1 s2 s3 : Value), (u.alloc (.cells #[s1, s2, s3] 23)).cell? ⟨u.heap.size, 0, none⟩ = some s1 := fun u s1 s2 s3 => cell_at (alloc_at _ _ _ rfl) 0 rfl
  have CEL1 : ∀ (u : World) (s1 s2 s3 : Value), (u.alloc (.cells #[s1, s2, s3] 23)).cell? ⟨u.heap.size, 1, none⟩ = some s2 := fun u s1 s2 s3 => cell_at (alloc_at _ _ _ rfl) 1 rfl
  have CEL2 : ∀ (u : World) (s1 s2 s3 : Value), (u.alloc (.cells #[s1, s2, s3] 23)).cell? ⟨u.heap.size, 2, none⟩ = some s3 := fun u s1 s2 s3 => cell_at (alloc_at _ _ _ rfl) 2 rfl
  go_region_held_law (fun w' => w'.cell? ⟨w.heap.size, 0, none⟩ = some (.int .i64 x.k) ∧ w'.cell? ⟨w.heap.size, 1, none⟩ = some (.int .i64 x.q) ∧ w'.cell? ⟨w.heap.size, 2, none⟩ = some (.int .i64 x.e) ∧ w'.cell? ⟨w.heap.size, 3, none⟩ = some (.int .i64 x.i) ∧ w'.cell? ⟨w.heap.size, 4, none⟩ = some (.int .i64 x.t) ∧ w'.cell? ⟨w.heap.size, 5, none⟩ = some (.int .i64 x.c) ∧ w'.cell? ⟨w.heap.size, 6, none⟩ = some (.slice LA ln lc) ∧ w'.cell? ⟨w.heap.size, 7, none⟩ = some (.slice BA bn bc) ∧ Below W0.heap.size W0 w')
    (first | exact KS _ (Below.refl _ _).drew | exact KC _ _ (by assumption) hz | exact KC _ _ (by assumption) ht | exact KC _ _ (by assumption) hb | exact KC _ _ (by assumption) ha | exact KA _ _ (by assumption) | exact KA W0.drew _ (by assumption) | assumption)
    (first
      | (go_at_call 59; ((with_reducible refine (put_any x.k 1 _ (hw0.below (KB _ (by assumption)))).mono ?_); rintro e wa ⟨Aa, da, rfl, sa, ha⟩))
      | (go_at_call 36; ((with_reducible refine (putRow_any _ _ _ [x.q, x.e] 8 _ (hw0.below (KB _ (by assumption))) (by first | exact (LIT _) | exact (RdV.below (LIT _) ha) | exact (RdV.below (LIT _) ht) | exact (RdV.below (RdV.below (LIT _) ha) ht) | exact (RdV.below (RdV.below (LIT _) ht) ha) | exact LITD | exact (RdV.below LITD ha) | exact (RdV.below LITD ht) | exact (RdV.below (RdV.below LITD ha) ht) | exact (RdV.below (RdV.below LITD ht) ha)) (by omega)).mono ?_); rintro e wb ⟨Ab, db, rfl, sb, hb⟩))
      | (go_at_call 76; ((with_reducible refine (tail_any _ x _ (hw0.below (KB _ (by assumption))) (hit _ (KB _ (by assumption))) hk1 hk6 (by omega) (by omega)).mono ?_); rintro e wt ⟨At, dt, rfl, st, ht⟩))
      | (go_at_call 58; ((with_reducible refine (concat3 _ Aa (Num.put x.k 1).length da (Num.put x.k 1) Ab (Num.putRow [x.q, x.e] 8).length db (Num.putRow [x.q, x.e] 8) At (Item.tail x).length dt (Item.tail x) _ (CEL0 _ _ _ _) (CEL1 _ _ _ _) (CEL2 _ _ _ _)
          (by first | exact (Rd.alloc sa.same _) | exact (Rd.alloc (Rd.below sa.same hb) _) | exact (Rd.alloc (Rd.below sa.same ht) _) | exact (Rd.alloc (Rd.below (Rd.below sa.same hb) ht) _) | exact (Rd.alloc (Rd.below (Rd.below sa.same ht) hb) _) | exact (Rd.alloc (Rd.below (Rd.alloc sa.same _) hb) _) | exact (Rd.alloc (Rd.below (Rd.below (Rd.alloc sa.same _) hb) ht) _) | exact (Rd.alloc (Rd.below (Rd.below (Rd.alloc sa.same _) ht) hb) _) | exact (Rd.alloc (Rd.below (Rd.alloc (Rd.below sa.same ht) _) hb) _)) (by first | exact (Rd.alloc sb.same _) | exact (Rd.alloc (Rd.below sb.same ha) _) | exact (Rd.alloc (Rd.below sb.same ht) _) | exact (Rd.alloc (Rd.below (Rd.below sb.same ha) ht) _) | exact (Rd.alloc (Rd.below (Rd.below sb.same ht) ha) _)) (by first | exact (Rd.alloc st.same _) | exact (Rd.alloc (Rd.below st.same hb) _) | exact (Rd.alloc (Rd.below st.same ha) _) | exact (Rd.alloc (Rd.below (Rd.below st.same hb) ha) _) | exact (Rd.alloc (Rd.below (Rd.below st.same ha) hb) _) | exact (Rd.alloc (Rd.below (Rd.alloc st.same _) hb) _) | exact (Rd.alloc (Rd.below (Rd.below (Rd.alloc st.same _) hb) ha) _) | exact (Rd.alloc (Rd.below (Rd.below (Rd.alloc st.same _) ha) hb) _) | exact (Rd.alloc (Rd.below (Rd.alloc (Rd.below st.same ha) _) hb) _)) (by omega) (by omega) (by have := HT.out; omega)).mono ?_); rw [HR.out]; rintro e wz ⟨Az, dz, rfl, sz, hz⟩; have hzz := KB _ (KC _ _ (by assumption) hz); have hzs := KD _ _ (by assumption) hz)))
  all_goals
    go_wp2
    go_ret
    exact ⟨_, _, rfl, sz.mono hzs, bthen hb01 hzz⟩

theorem bytes_any (v : Value) (x : Item.It) (w : World) (hw : Wd w) (h : IsItem w v x) : Calls Tryd.prog 57 #[v] w (Gives w 5 (Item.bytes x)) := by
  obtain ⟨LA, ln, lc, BA, bn, bc, rfl, hl, hb⟩ := h
  unfold Item.bytes
  cases hm : Item.may x with
  | true =>
    rw [if_pos rfl]
    exact bytes_yes x LA ln lc BA bn bc w hw hl hb hm
  | false =>
    rw [if_neg (by simp)]
    have hg := alloc_at w (.cells #[.int .i64 x.k, .int .i64 x.q, .int .i64 x.e, .int .i64 x.i, .int .i64 x.t, .int .i64 x.c, .slice LA ln lc, .slice BA bn bc] 25) _ rfl
    have hb0 : Below w.heap.size w (w.alloc (.cells #[.int .i64 x.k, .int .i64 x.q, .int .i64 x.e, .int .i64 x.i, .int .i64 x.t, .int .i64 x.c, .slice LA ln lc, .slice BA bn bc] 25)) := (Below.refl _ _).alloc (Nat.le_refl _) _
    have hmay := may_any (.agg #[.int .i64 x.k, .int .i64 x.q, .int .i64 x.e, .int .i64 x.i, .int .i64 x.t, .int .i64 x.c, .slice LA ln lc, .slice BA bn bc]) x _ ⟨LA, ln, lc, BA, bn, bc, rfl, RdV.below hl hb0, hb.below hb0⟩
    rw [hm] at hmay
    have c0 := cell_at hg 0 rfl
    have c1 := cell_at hg 1 rfl
    have c2 := cell_at hg 2 rfl
    have c3 := cell_at hg 3 rfl
    have c4 := cell_at hg 4 rfl
    have c5 := cell_at hg 5 rfl
    have c6 := cell_at hg 6 rfl
    have c7 := cell_at hg 7 rfl
    clear hg
    go_enter Tryd.func57, Tryd.ntmps57
    go_wp2_with fail
    with_reducible refine hmay.mono ?_
    rintro e w1 ⟨rfl, hb1⟩
    go_wp2
    go_ret
    exact ⟨none, 0, rfl, World.ownsRow_nil _ _ _ _, bthen hb0 hb1⟩
end Go.Proofs.YtahkhideepncfaaDoor
