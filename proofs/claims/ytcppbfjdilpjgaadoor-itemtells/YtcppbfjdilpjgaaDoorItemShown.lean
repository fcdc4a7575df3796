/- The document's example of chapter 3: what 'shown' comes to. -/
import Derived.Test.YtcppbfjdilpjgaaDoorIE
import Derived.Test.YtcppbfjdilpjgaaDoorIF
import Derived.Test.YtcppbfjdilpjgaaDoorII
import Derived.Test.YtcppbfjdilpjgaaDoorMA
set_option maxRecDepth 100000
namespace Go.Proofs.YtcppbfjdilpjgaaDoor
open Go.RowKit
set_option linter.unusedVariables false

theorem str_list (l : List UInt8) : (str l).toList = l := by rw [ByteArray.toList_eq]; rfl
theorem tokB : Item.bytes ⟨3, 2, 1, 0, 0, 0, [], []⟩ = [3, 0, 0, 0, 0, 0, 0, 0, 2, 0, 0, 0, 0, 0, 0, 0, 1] := by kernel_rfl
theorem tokM : Item.may ⟨3, 2, 1, 0, 0, 0, [], []⟩ = true := by kernel_rfl
theorem zeroM : Item.may ⟨0, 0, 0, 0, 0, 0, [], []⟩ = false := by kernel_rfl
theorem zeroB : Item.bytes ⟨0, 0, 0, 0, 0, 0, [], []⟩ = [] := by kernel_rfl
theorem tokT : Item.takeOf [3, 0, 0, 0, 0, 0, 0, 0, 2, 0, 0, 0, 0, 0, 0, 0, 1] = some ⟨3, 2, 1, 0, 0, 0, [], []⟩ := by
  rw [← tokB]
  exact Item.take_put tokM
theorem tokN : Item.takeOf ([3, 0, 0, 0, 0, 0, 0, 0, 2, 0, 0, 0, 0, 0, 0, 0, 1] ++ [0]) = none := by kernel_rfl
theorem isNil (w : World) (k q e i t c : Int) : IsItem w (.agg #[.int .i64 k, .int .i64 q, .int .i64 e, .int .i64 i, .int .i64 t, .int .i64 c, .slice none 0 0, .slice none 0 0]) ⟨k, q, e, i, t, c, [], []⟩ := ⟨none, 0, 0, none, 0, 0, rfl, RdV.nil_ _, Rd.nil_ _⟩

set_option maxRecDepth 100000 in
set_option maxHeartbeats 4000000 in
theorem shown_any (w : World) (hw : Wd w) : Calls Tryd.prog 10 #[] w (Yes w) := by
  have hst := str_list [3, 0, 0, 0, 0, 0, 0, 0, 2, 0, 0, 0, 0, 0, 0, 0, 1]
  have hb0 : Below w.heap.size w (w.alloc (.cells #[.int .i64 3, .int .i64 2, .int .i64 1, .int .i64 0, .int .i64 0, .int .i64 0, .slice none 0 0, .slice none 0 0] 25)) := (Below.refl _ _).alloc (Nat.le_refl _) _
  have g0 := alloc_at w (.cells #[.int .i64 3, .int .i64 2, .int .i64 1, .int .i64 0, .int .i64 0, .int .i64 0, .slice none 0 0, .slice none 0 0] 25) _ rfl
  obtain ⟨c0, c1, c2, c3, c4, c5, c6, c7⟩ := cells8 g0
  have hB := bytes_any _ ⟨3, 2, 1, 0, 0, 0, [], []⟩ _ (hw.below hb0) (isNil (w.alloc (.cells #[.int .i64 3, .int .i64 2, .int .i64 1, .int .i64 0, .int .i64 0, .int .i64 0, .slice none 0 0, .slice none 0 0] 25)) 3 2 1 0 0 0)
  rw [tokB] at hB
  clear g0
  go_enter Tryd.func10, Tryd.ntmps10
  go_wp2_with fail
  with_reducible refine hB.mono ?_
  rintro en w1 ⟨A1, n1, rfl, ho1, hb1⟩
  have r1 : Rd w1 A1 17 n1 [3, 0, 0, 0, 0, 0, 0, 0, 2, 0, 0, 0, 0, 0, 0, 0, 1] := ho1.same
  have hb01 := bthen hb0 hb1
  have hT := takeI_any A1 17 n1 _ w1 (hw.below hb01) r1 (by omega)
  rw [tokT] at hT
  clear hB ho1
  go_wp2_with fail
  with_reducible refine hT.mono ?_
  rintro en w2 ⟨v, rfl, ⟨LA, ln, lc, BA, bn, bc, rfl, rl, rb⟩, hb2⟩
  dsimp only at rl rb ⊢
  have hb12 := bthen hb01 hb2
  clear hT
  have gx := alloc_at w2 (.cells #[.int .i64 3, .int .i64 2, .int .i64 1, .int .i64 0, .int .i64 0, .int .i64 0, .slice LA ln lc, .slice BA bn bc] 25) _ rfl
  have hbx : Below w2.heap.size w2 (w2.alloc (.cells #[.int .i64 3, .int .i64 2, .int .i64 1, .int .i64 0, .int .i64 0, .int .i64 0, .slice LA ln lc, .slice BA bn bc] 25)) := (Below.refl _ _).alloc (Nat.le_refl _) _
  have sx := size_alloc w2 (.cells #[.int .i64 3, .int .i64 2, .int .i64 1, .int .i64 0, .int .i64 0, .int .i64 0, .slice LA ln lc, .slice BA bn bc] 25)
  have owx : Own ((w2.alloc (.cells #[.int .i64 3, .int .i64 2, .int .i64 1, .int .i64 0, .int .i64 0, .int .i64 0, .slice LA ln lc, .slice BA bn bc] 25)).alloc (.cells #[] 5)) (w2.heap.size + 1) 5 (.slice (some ⟨w2.heap.size + 1, 0, none⟩) 0 0) 0 [] := by
    have hh := World.ownsRow_made (base := w2.heap.size + 1) (e := 5) (size := 1) (w2.alloc (.cells #[.int .i64 3, .int .i64 2, .int .i64 1, .int .i64 0, .int .i64 0, .int .i64 0, .slice LA ln lc, .slice BA bn bc] 25)) #[] 0 (by rw [sx]; exact Nat.le_refl _) (Nat.zero_le _) rfl
    rw [sx] at hh
    exact hh
  have bxx : Below (w2.heap.size + 1) (w2.alloc (.cells #[.int .i64 3, .int .i64 2, .int .i64 1, .int .i64 0, .int .i64 0, .int .i64 0, .slice LA ln lc, .slice BA bn bc] 25)) ((w2.alloc (.cells #[.int .i64 3, .int .i64 2, .int .i64 1, .int .i64 0, .int .i64 0, .int .i64 0, .slice LA ln lc, .slice BA bn bc] 25)).alloc (.cells #[] 5)) := (Below.refl _ _).alloc (by rw [sx]; exact Nat.le_refl _) _
  go_wp2_with (first
    | (at_builtin
       refine wpList_app rfl (.tmp 16) (.tmp 17) 23 rfl (w2.heap.size + 1) 5 info5 Tryd.underlying23 _ 0 [] rfl owx A1 17 n1 [3, 0, 0, 0, 0, 0, 0, 0, 2, 0, 0, 0, 0, 0, 0, 0, 1] rfl ?rd (by omega) ?hb ?_
       case rd => exact (r1.below hb2).below (((Below.refl _ _).alloc (Nat.le_refl _) _).alloc (by rw [size_alloc]; omega) _)
       case hb => rw [size_alloc, size_alloc]; omega
       intro v3 w3 ho3 hb3
       have bx3 := bxx.trans hb3
       have sx3 := bx3.size)
    | (at_builtin
       refine wpList_app rfl (.tmp 18) (.tmp 19) 23 rfl (w2.heap.size + 1) 5 info5 Tryd.underlying23 _ (0 + 17) ([] ++ [3, 0, 0, 0, 0, 0, 0, 0, 2, 0, 0, 0, 0, 0, 0, 0, 1]) rfl ?own2 _ 1 1 [0] rfl ?rd2 (by omega) ?hb2 ?_
       case own2 => exact ho3.later ((Below.refl _ _).alloc (Nat.le_refl _) _)
       case rd2 => exact Rd.litAt _ _ _ _ _ rfl 1 rfl (by decide) _ rfl
       case hb2 => rw [size_alloc]; omega
       intro v4 w4 ho4 hb4
       have bx4 : Below (w2.heap.size + 1) (w2.alloc (.cells #[.int .i64 3, .int .i64 2, .int .i64 1, .int .i64 0, .int .i64 0, .int .i64 0, .slice LA ln lc, .slice BA bn bc] 25)) w4 := (bx3.alloc (by omega) _).trans hb4
       obtain ⟨A4, n4, rfl, hr4⟩ := ho4.rd))
  have hr4' : Rd w4 A4 18 n4 ([3, 0, 0, 0, 0, 0, 0, 0, 2, 0, 0, 0, 0, 0, 0, 0, 1] ++ [0]) := hr4
  have b4 : Below w2.heap.size w2 w4 := hbx.trans (bx4.mono (Nat.le_succ _))
  have g4 := (bx4.block _ (Nat.lt_succ_self _)).trans gx
  have hb24 := bthen hb12 b4
  have hT2 := takeI_any A4 18 n4 _ w4 (hw.below hb24) hr4' (by omega)
  rw [tokN] at hT2
  clear hr4 ho4 owx bxx bx3 bx4 gx
  with_reducible refine hT2.mono ?_
  rintro en w5 ⟨rfl, hb5⟩
  clear hT2
  have s4 := b4.size
  obtain ⟨x0, x1, x2, x3, x4, x5, x6, x7⟩ := cells8 g4
  have hz : Below w5.heap.size w5 (w5.alloc (.cells #[.int .i64 0, .int .i64 0, .int .i64 0, .int .i64 0, .int .i64 0, .int .i64 0, .slice none 0 0, .slice none 0 0] 25)) := (Below.refl _ _).alloc (Nat.le_refl _) _
  have b5z := bthen hb5 hz
  have b25 := bthen b4 b5z
  have bw : Below w.heap.size w (w5.alloc (.cells #[.int .i64 0, .int .i64 0, .int .i64 0, .int .i64 0, .int .i64 0, .int .i64 0, .slice none 0 0, .slice none 0 0] 25)) := bthen hb12 b25
  have b0 : Below (w.alloc (.cells #[.int .i64 3, .int .i64 2, .int .i64 1, .int .i64 0, .int .i64 0, .int .i64 0, .slice none 0 0, .slice none 0 0] 25)).heap.size (w.alloc (.cells #[.int .i64 3, .int .i64 2, .int .i64 1, .int .i64 0, .int .i64 0, .int .i64 0, .slice none 0 0, .slice none 0 0] 25)) (w5.alloc (.cells #[.int .i64 0, .int .i64 0, .int .i64 0, .int .i64 0, .int .i64 0, .int .i64 0, .slice none 0 0, .slice none 0 0] 25)) := bthen hb1 (bthen hb2 b25)
  have y0 := keepC b5z x0
  have y1 := keepC b5z x1
  have y2 := keepC b5z x2
  have y3 := keepC b5z x3
  have y4 := keepC b5z x4
  have y5 := keepC b5z x5
  have y6 := keepC b5z x6
  have y7 := keepC b5z x7
  have d0 := keepC b0 c0
  have d1 := keepC b0 c1
  have d2 := keepC b0 c2
  have d3 := keepC b0 c3
  have d4 := keepC b0 c4
  have d5 := keepC b0 c5
  have d6 := keepC b0 c6
  have d7 := keepC b0 c7
  have st1 := strs r1 _ (bthen hb2 b25)
  have ix : IsItem _ (.agg #[.int .i64 3, .int .i64 2, .int .i64 1, .int .i64 0, .int .i64 0, .int .i64 0, .slice LA ln lc, .slice BA bn bc]) ⟨3, 2, 1, 0, 0, 0, [], []⟩ := IsItem.below ⟨LA, ln, lc, BA, bn, bc, rfl, rl, rb⟩ b25
  have hS1 := same_is _ _ _ _ _ ix (isNil _ 3 2 1 0 0 0) true (by decide)
  clear x0 x1 x2 x3 x4 x5 x6 x7 c0 c1 c2 c3 c4 c5 c6 c7 r1 rl rb hr4' g4
  go_wp2_with fail
  with_reducible refine hS1.mono ?_
  rintro en w6 ⟨rfl, hb6⟩
  have e0 := keepC hb6 d0
  have e1 := keepC hb6 d1
  have e2 := keepC hb6 d2
  have e3 := keepC hb6 d3
  have e4 := keepC hb6 d4
  have e5 := keepC hb6 d5
  have e6 := keepC hb6 d6
  have e7 := keepC hb6 d7
  have hM1 := may_any _ _ _ (isNil w6 3 2 1 0 0 0)
  rw [tokM] at hM1
  clear hS1 ix
  go_wp2_with fail
  with_reducible refine hM1.mono ?_
  rintro en w7 ⟨rfl, hb7⟩
  have hM2 := may_any _ _ _ (isNil w7 0 0 0 0 0 0)
  rw [zeroM] at hM2
  clear hM1
  go_wp2_with fail
  with_reducible refine hM2.mono ?_
  rintro en w8 ⟨rfl, hb8⟩
  have b68 := bthen hb7 hb8
  have f0 := keepC b68 e0
  have f1 := keepC b68 e1
  have f2 := keepC b68 e2
  have f3 := keepC b68 e3
  have f4 := keepC b68 e4
  have f5 := keepC b68 e5
  have f6 := keepC b68 e6
  have f7 := keepC b68 e7
  have hS2 := same_is _ _ _ _ _ (isNil w8 3 2 1 0 0 0) (isNil w8 0 0 0 0 0 0) false (by decide)
  clear hM2
  go_wp2_with fail
  with_reducible refine hS2.mono ?_
  rintro en w9 ⟨rfl, hb9⟩
  have bw9 := bthen bw (bthen hb6 (bthen b68 hb9))
  have hB2 := bytes_any _ _ _ (hw.below bw9) (isNil w9 0 0 0 0 0 0)
  rw [zeroB] at hB2
  clear hS2
  go_wp2_with fail
  with_reducible refine hB2.mono ?_
  rintro en w10 ⟨A9, n9, rfl, ho9, hb10⟩
  go_wp2
  go_ret
  exact ⟨rfl, bthen bw9 hb10⟩
end Go.Proofs.YtcppbfjdilpjgaaDoor
