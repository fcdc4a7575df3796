/- What item.tail comes to. -/
import Derived.Test.YtpahkkblkdkefaaDoorItem5
import Derived.Deep.RegionHeldLaw
namespace Go.Proofs.YtpahkkblkdkefaaDoor
open Go.RowKit
set_option linter.unusedVariables false

theorem put_len1 (i : Int) : (Num.put i 1).length ≤ 1 := by
  by_cases h : Num.fits i 1 = true
  · rw [Num.put_length h]; decide
  · rw [Num.put_not (by simpa using h)]; simp
theorem keepA {base : Nat} {w w' : World} (h : Below base w w') (hs : base ≤ w'.heap.size) (o : Obj) : Below base w (w'.alloc o) := h.alloc hs o

set_option maxHeartbeats 2000000 in
theorem tail1 (q e i t c : Int) (l : List Int) (b : List UInt8) (LA : Option Addr) (ln lc : Nat) (BA : Option Addr) (bn bc : Nat) (w : World) (hw : Wd w) (hb : Rd w BA bn bc b) (hbn : bn ≤ 65536) :
    Calls Tryd.prog 32 #[.agg #[.int .i64 1, .int .i64 q, .int .i64 e, .int .i64 i, .int .i64 t, .int .i64 c, .slice LA ln lc, .slice BA bn bc]] w (Gives w 5 (Num.putRow [i, t] 1 ++ b)) := by
  have hg := alloc_at w (.cells #[.int .i64 1, .int .i64 q, .int .i64 e, .int .i64 i, .int .i64 t, .int .i64 c, .slice LA ln lc, .slice BA bn bc] 25) _ rfl
  have hb0 : Below w.heap.size w (w.alloc (.cells #[.int .i64 1, .int .i64 q, .int .i64 e, .int .i64 i, .int .i64 t, .int .i64 c, .slice LA ln lc, .slice BA bn bc] 25)) := (Below.refl _ _).alloc (Nat.le_refl _) _
  have c0 := cell_at hg 0 rfl
  have c3 := cell_at hg 3 rfl
  have c4 := cell_at hg 4 rfl
  have c7 := cell_at hg 7 rfl
  clear hg
  go_enter Tryd.func32, Tryd.ntmps32
  go_wp2
  generalize w.alloc (.cells #[.int .i64 1, .int .i64 q, .int .i64 e, .int .i64 i, .int .i64 t, .int .i64 c, .slice LA ln lc, .slice BA bn bc] 25) = W0 at hb0 c0 c3 c4 c7 ⊢
  have hbb := hb.below hb0
  have hw0 := hw.below hb0
  have KS : ∀ w', Below W0.heap.size W0 w' → w'.cell? ⟨w.heap.size, 3, none⟩ = some (.int .i64 i) ∧ w'.cell? ⟨w.heap.size, 4, none⟩ = some (.int .i64 t) ∧ w'.cell? ⟨w.heap.size, 7, none⟩ = some (.slice BA bn bc) ∧ Below W0.heap.size W0 w' :=
    fun w' h => ⟨keepC h c3, keepC h c4, keepC h c7, h⟩
  have hB1 : Below W0.heap.size W0 (W0.alloc (.cells #[.int .i64 i, .int .i64 t] 3)).drew := ((Below.refl _ _).alloc (Nat.le_refl _) _).drew
  have hput : Calls Tryd.prog 31 #[.slice (some ⟨W0.heap.size, 0, none⟩) 2 2, .int .i64 1] (W0.alloc (.cells #[.int .i64 i, .int .i64 t] 3)).drew (Gives (W0.alloc (.cells #[.int .i64 i, .int .i64 t] 3)).drew 5 (Num.putRow [i, t] 1)) :=
    putRow_any _ _ _ [i, t] 1 _ (hw0.alloc _).drew (RdV.drew (RdV.lit W0 3 (0, 0) _ _ rfl 2 rfl (by decide) _ rfl)) (by omega)
  have hlen : (Num.putRow [i, t] 1).length ≤ 2 := by
    unfold Num.putRow
    split
    · rename_i h; rw [Num.flat_length _ h]; simp
    · simp
  go_region_held_law (fun w' => w'.cell? ⟨w.heap.size, 3, none⟩ = some (.int .i64 i) ∧ w'.cell? ⟨w.heap.size, 4, none⟩ = some (.int .i64 t) ∧ w'.cell? ⟨w.heap.size, 7, none⟩ = some (.slice BA bn bc) ∧ Below W0.heap.size W0 w')
    (first | exact KS _ (Below.refl _ _).drew | exact KS _ hb2' | exact KS _ hb1' | exact KS _ hB1 | assumption)
    (first
      | (go_at_call 31; ((with_reducible refine hput.mono ?_); rintro e w1 ⟨A1, d1, rfl, ho1, hb1⟩; have hb1' : Below W0.heap.size W0 w1 := bthen hB1 hb1))
      | (refine step_app rfl (.tmp 12) (.tmp 14) 23 rfl W0.heap.size 5 info5 Tryd.underlying23 _ (Num.putRow [i, t] 1).length (Num.putRow [i, t] 1) rfl (ho1.mono hB1.size) BA bn bc b rfl (hbb.below hb1') (by omega) hb1'.size ?_
         intro v2 w2 ho2 hb2
         have hb2' : Below W0.heap.size W0 w2 := hb1'.trans hb2))
  all_goals
    go_wp2
    go_ret
    rename_i dst d heq
    obtain rfl : 15 = d := Option.some.inj heq
    exact Own.gives (ho2.mono hb0.size) (bthen hb0 hb2')

set_option maxHeartbeats 2000000 in
theorem tail2 (q e i t c : Int) (l : List Int) (b : List UInt8) (LA : Option Addr) (ln lc : Nat) (BA : Option Addr) (bn bc : Nat) (w : World) (hw : Wd w) (hl : RdI w LA ln lc l) (hln : ln ≤ 65536) :
    Calls Tryd.prog 32 #[.agg #[.int .i64 2, .int .i64 q, .int .i64 e, .int .i64 i, .int .i64 t, .int .i64 c, .slice LA ln lc, .slice BA bn bc]] w (Gives w 5 (Num.put i 1 ++ Num.putRow l 1)) := by
  have hg := alloc_at w (.cells #[.int .i64 2, .int .i64 q, .int .i64 e, .int .i64 i, .int .i64 t, .int .i64 c, .slice LA ln lc, .slice BA bn bc] 25) _ rfl
  have hb0 : Below w.heap.size w (w.alloc (.cells #[.int .i64 2, .int .i64 q, .int .i64 e, .int .i64 i, .int .i64 t, .int .i64 c, .slice LA ln lc, .slice BA bn bc] 25)) := (Below.refl _ _).alloc (Nat.le_refl _) _
  have c0 := cell_at hg 0 rfl
  have c3 := cell_at hg 3 rfl
  have c6 := cell_at hg 6 rfl
  clear hg
  go_enter Tryd.func32, Tryd.ntmps32
  go_wp2
  generalize w.alloc (.cells #[.int .i64 2, .int .i64 q, .int .i64 e, .int .i64 i, .int .i64 t, .int .i64 c, .slice LA ln lc, .slice BA bn bc] 25) = W0 at hb0 c0 c3 c6 ⊢
  have hll := RdV.below hl hb0
  have hw0 := hw.below hb0
  have KS : ∀ w', Below W0.heap.size W0 w' → w'.cell? ⟨w.heap.size, 3, none⟩ = some (.int .i64 i) ∧ w'.cell? ⟨w.heap.size, 6, none⟩ = some (.slice LA ln lc) ∧ Below W0.heap.size W0 w' :=
    fun w' h => ⟨keepC h c3, keepC h c6, h⟩
  have hlen1 : (Num.put i 1).length ≤ 1 := put_len1 i
  have hlen2 : (Num.putRow l 1).length ≤ ln := by
    have := RdI.size hl
    unfold Num.putRow
    split
    · rename_i h; rw [Num.flat_length _ h]; simp; omega
    · simp
  go_region_held_law (fun w' => w'.cell? ⟨w.heap.size, 3, none⟩ = some (.int .i64 i) ∧ w'.cell? ⟨w.heap.size, 6, none⟩ = some (.slice LA ln lc) ∧ Below W0.heap.size W0 w')
    (first | exact KS _ (Below.refl _ _).drew | exact KS _ hb4' | exact KS _ hb3' | exact KS _ hb2' | exact KS _ hb1' | assumption)
    (first
      | (go_at_call 30; ((with_reducible refine (put_any i 1 _ (hw0.below hb1')).mono ?_); rintro e w2 ⟨A2, d2, rfl, ho2, hb2⟩; have hb2' : Below W0.heap.size W0 w2 := bthen hb1' hb2; have hB := hb2; have hr1 := ho1.same.below hb2; have hbL := hb1'.size; have hbM := hb2'.size; have ho2' := ho2.mono hbL))
      | (go_at_call 31; ((with_reducible refine (putRow_any LA ln lc l 1 _ (hw0.below hb1') (RdV.below hll hb1') hln).mono ?_); rintro e w2 ⟨A2, d2, rfl, ho2, hb2⟩; have hb2' : Below W0.heap.size W0 w2 := bthen hb1' hb2; have ho2' := (ho1.mono (Nat.le_refl _)).later hb2; have hr1 := ho2.same; have hbM := hb2'.size))
      | (go_at_call 30; ((with_reducible refine (put_any i 1 _ hw0.drew).mono ?_); rintro e w1 ⟨A1, d1, rfl, ho1, hb1⟩; have hb1' : Below W0.heap.size W0 w1 := undrew hb1))
      | (go_at_call 31; ((with_reducible refine (putRow_any LA ln lc l 1 _ hw0.drew (RdV.drew hll) hln).mono ?_); rintro e w1 ⟨A1, d1, rfl, ho1, hb1⟩; have hb1' : Below W0.heap.size W0 w1 := undrew hb1))
      | (refine step_app rfl (.tmp 20) (.tmp 23) 23 rfl W0.heap.size 5 info5 Tryd.underlying23 _ (Num.put i 1).length (Num.put i 1) rfl ho2' _ (Num.putRow l 1).length _ (Num.putRow l 1) rfl hr1 (by omega) hbM ?_
         intro v3 w3 ho3 hb3
         have hb3' : Below W0.heap.size W0 w3 := hb2'.trans hb3))
  all_goals
    go_wp2
    go_ret
    rename_i dst d heq
    obtain rfl : 24 = d := Option.some.inj heq
    exact Own.gives (ho3.mono hb0.size) (bthen hb0 hb3')

set_option maxHeartbeats 1000000 in
theorem tail3 (q e i t c : Int) (l : List Int) (b : List UInt8) (LA : Option Addr) (ln lc : Nat) (BA : Option Addr) (bn bc : Nat) (w : World) (hw : Wd w) :
    Calls Tryd.prog 32 #[.agg #[.int .i64 3, .int .i64 q, .int .i64 e, .int .i64 i, .int .i64 t, .int .i64 c, .slice LA ln lc, .slice BA bn bc]] w (Gives w 5 ([])) := by
  have hg := alloc_at w (.cells #[.int .i64 3, .int .i64 q, .int .i64 e, .int .i64 i, .int .i64 t, .int .i64 c, .slice LA ln lc, .slice BA bn bc] 25) _ rfl
  have hb0 : Below w.heap.size w (w.alloc (.cells #[.int .i64 3, .int .i64 q, .int .i64 e, .int .i64 i, .int .i64 t, .int .i64 c, .slice LA ln lc, .slice BA bn bc] 25)) := (Below.refl _ _).alloc (Nat.le_refl _) _
  have c0 := cell_at hg 0 rfl
  have c3 := cell_at hg 3 rfl
  clear hg
  go_enter Tryd.func32, Tryd.ntmps32
  go_wp2
  go_ret
  exact ⟨none, 0, rfl, World.ownsRow_nil _ _ _ _, hb0⟩

set_option maxHeartbeats 1000000 in
theorem tail4 (q e i t c : Int) (l : List Int) (b : List UInt8) (LA : Option Addr) (ln lc : Nat) (BA : Option Addr) (bn bc : Nat) (w : World) (hw : Wd w) :
    Calls Tryd.prog 32 #[.agg #[.int .i64 4, .int .i64 q, .int .i64 e, .int .i64 i, .int .i64 t, .int .i64 c, .slice LA ln lc, .slice BA bn bc]] w (Gives w 5 (Num.put i 1)) := by
  have hg := alloc_at w (.cells #[.int .i64 4, .int .i64 q, .int .i64 e, .int .i64 i, .int .i64 t, .int .i64 c, .slice LA ln lc, .slice BA bn bc] 25) _ rfl
  have hb0 : Below w.heap.size w (w.alloc (.cells #[.int .i64 4, .int .i64 q, .int .i64 e, .int .i64 i, .int .i64 t, .int .i64 c, .slice LA ln lc, .slice BA bn bc] 25)) := (Below.refl _ _).alloc (Nat.le_refl _) _
  have c0 := cell_at hg 0 rfl
  have c3 := cell_at hg 3 rfl
  clear hg
  go_enter Tryd.func32, Tryd.ntmps32
  go_wp2_with fail
  with_reducible refine (put_any i 1 _ (hw.below hb0)).mono ?_
  rintro e w1 ⟨A1, d1, rfl, ho1, hb1⟩
  go_wp2
  go_ret
  exact ⟨A1, d1, rfl, ho1.mono hb0.size, bthen hb0 hb1⟩

set_option maxHeartbeats 1000000 in
theorem tail5 (q e i t c : Int) (l : List Int) (b : List UInt8) (LA : Option Addr) (ln lc : Nat) (BA : Option Addr) (bn bc : Nat) (w : World) (hw : Wd w) :
    Calls Tryd.prog 32 #[.agg #[.int .i64 5, .int .i64 q, .int .i64 e, .int .i64 i, .int .i64 t, .int .i64 c, .slice LA ln lc, .slice BA bn bc]] w (Gives w 5 (Num.put c 8)) := by
  have hg := alloc_at w (.cells #[.int .i64 5, .int .i64 q, .int .i64 e, .int .i64 i, .int .i64 t, .int .i64 c, .slice LA ln lc, .slice BA bn bc] 25) _ rfl
  have hb0 : Below w.heap.size w (w.alloc (.cells #[.int .i64 5, .int .i64 q, .int .i64 e, .int .i64 i, .int .i64 t, .int .i64 c, .slice LA ln lc, .slice BA bn bc] 25)) := (Below.refl _ _).alloc (Nat.le_refl _) _
  have c0 := cell_at hg 0 rfl
  have c5 := cell_at hg 5 rfl
  clear hg
  go_enter Tryd.func32, Tryd.ntmps32
  go_wp2_with fail
  with_reducible refine (put_any c 8 _ (hw.below hb0)).mono ?_
  rintro e w1 ⟨A1, d1, rfl, ho1, hb1⟩
  go_wp2
  go_ret
  exact ⟨A1, d1, rfl, ho1.mono hb0.size, bthen hb0 hb1⟩

set_option maxHeartbeats 1000000 in
theorem tail6 (q e i t c : Int) (l : List Int) (b : List UInt8) (LA : Option Addr) (ln lc : Nat) (BA : Option Addr) (bn bc : Nat) (w : World) (hw : Wd w) (hl : RdI w LA ln lc l) (hln : ln ≤ 65536) :
    Calls Tryd.prog 32 #[.agg #[.int .i64 6, .int .i64 q, .int .i64 e, .int .i64 i, .int .i64 t, .int .i64 c, .slice LA ln lc, .slice BA bn bc]] w (Gives w 5 (Num.putRow l 8)) := by
  have hg := alloc_at w (.cells #[.int .i64 6, .int .i64 q, .int .i64 e, .int .i64 i, .int .i64 t, .int .i64 c, .slice LA ln lc, .slice BA bn bc] 25) _ rfl
  have hb0 : Below w.heap.size w (w.alloc (.cells #[.int .i64 6, .int .i64 q, .int .i64 e, .int .i64 i, .int .i64 t, .int .i64 c, .slice LA ln lc, .slice BA bn bc] 25)) := (Below.refl _ _).alloc (Nat.le_refl _) _
  have c0 := cell_at hg 0 rfl
  have c6 := cell_at hg 6 rfl
  clear hg
  go_enter Tryd.func32, Tryd.ntmps32
  go_wp2_with fail
  with_reducible refine (putRow_any LA ln lc l 8 _ (hw.below hb0) (RdV.below hl hb0) hln).mono ?_
  rintro e w1 ⟨A1, d1, rfl, ho1, hb1⟩
  go_wp2
  go_ret
  exact ⟨A1, d1, rfl, ho1.mono hb0.size, bthen hb0 hb1⟩

theorem tail_any (v : Value) (x : Item.It) (w : World) (hw : Wd w) (h : IsItem w v x) (h1 : 1 ≤ x.k) (h6 : x.k ≤ 6) (hl : x.l.length ≤ 65536) (hb : x.b.length ≤ 65536) :
    Calls Tryd.prog 32 #[v] w (Gives w 5 (Item.tail x)) := by
  obtain ⟨k, q, e, i, t, c, l, b⟩ := x
  obtain ⟨LA, ln, lc, BA, bn, bc, rfl, rl, rb⟩ := h
  dsimp only at *
  have el := RdI.size rl
  have eb := rb.1
  rcases (show k = 1 ∨ k = 2 ∨ k = 3 ∨ k = 4 ∨ k = 5 ∨ k = 6 from by omega) with rfl | rfl | rfl | rfl | rfl | rfl
  · exact tail1 q e i t c l b LA ln lc BA bn bc w hw rb (by omega)
  · exact tail2 q e i t c l b LA ln lc BA bn bc w hw rl (by omega)
  · exact tail3 q e i t c l b LA ln lc BA bn bc w hw
  · exact tail4 q e i t c l b LA ln lc BA bn bc w hw
  · exact tail5 q e i t c l b LA ln lc BA bn bc w hw
  · exact tail6 q e i t c l b LA ln lc BA bn bc w hw rl (by omega)
end Go.Proofs.YtpahkkblkdkefaaDoor
