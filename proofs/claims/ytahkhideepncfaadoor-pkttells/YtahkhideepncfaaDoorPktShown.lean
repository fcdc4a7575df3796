/- The document's example of chapter 4: what 'shown' comes to. (Written by wip/gen/pktlaws.py.) -/
import Derived.Test.YtahkhideepncfaaDoorPkt7
import Derived.Test.YtahkhideepncfaaDoorPkt12
import Derived.Test.YtahkhideepncfaaDoorCB
import Derived.Deep.RegionHeld3
import Derived.Deep.RegionHeldLaw
import Derived.Deep.RegionWith
import Derived.Lib.SlBytesConst
set_option maxRecDepth 100000
namespace Go.Proofs.YtahkhideepncfaaDoor
open Go.RowKit
set_option linter.unusedVariables false

theorem exM : Pkt.may ⟨3, 1, ⟨0, 0, 0, 0, 0, 0, [], []⟩, 2, 5, 1, 0, []⟩ = true := by kernel_rfl
theorem exB : Pkt.bytes ⟨3, 1, ⟨0, 0, 0, 0, 0, 0, [], []⟩, 2, 5, 1, 0, []⟩ = Crc.sealB [165, 3, 1, 2, 0, 0, 0, 0, 0, 0, 0, 5, 1] := by
  unfold Pkt.bytes
  rw [if_pos exM]
  exact congrArg Crc.sealB (show Pkt.raw ⟨3, 1, ⟨0, 0, 0, 0, 0, 0, [], []⟩, 2, 5, 1, 0, []⟩ = [165, 3, 1, 2, 0, 0, 0, 0, 0, 0, 0, 5, 1] by kernel_rfl)
theorem exZ : Pkt.may Pkt.Pk.zero = false := by kernel_rfl
theorem kc_lit (w : World) (g : Nat) (hg : w.heap.size = g) (C : Array Value) (n c : Nat) : (convert 23 23 (.slice (some ⟨g, 0, none⟩) n c)).run Tryd.prog (w.alloc (.cells C 5)) = .ok (.slice (some ⟨g, 0, none⟩) n c) (w.alloc (.cells C 5 (C.size, C.size + 1))) := by
  subst hg
  exact Lib.run_convert_bytes_const (P := Tryd.prog) w _ _ C n c Tryd.underlying23 Tryd.underlying5
theorem isNilP (w : World) (k f to lo many top : Int) : IsPkt w (.agg #[.int .i64 k, .int .i64 f, .int .i64 0, .int .i64 0, .int .i64 0, .int .i64 0, .int .i64 0, .int .i64 0, .slice none 0 0, .slice none 0 0, .int .i64 to, .int .i64 lo, .int .i64 many, .int .i64 top, .slice none 0 0]) ⟨k, f, Item.It.zero, to, lo, many, top, []⟩ := ⟨none, 0, 0, none, 0, 0, none, 0, 0, rfl, RdV.nil_ _, Rd.nil_ _, RdV.nil_ _⟩

set_option maxHeartbeats 16000000 in
theorem pshown_any (w : World) (hw : Wd w) : Calls Tryd.prog 7 #[] w (Yes w) := by
  obtain ⟨R, HR⟩ : ∃ R, Hid (Crc.sealB [165, 3, 1, 2, 0, 0, 0, 0, 0, 0, 0, 5, 1] = R) := ⟨_, hidT rfl⟩
  have HB : Hid (Pkt.bytes ⟨3, 1, ⟨0, 0, 0, 0, 0, 0, [], []⟩, 2, 5, 1, 0, []⟩ = R) := by rw [exB, HR.out]; exact hidT rfl
  have hrl : R.length ≤ 1104 := by rw [← HB.out]; exact bytes_len_le _
  have hrd := read_bytes exM
  rw [HB.out] at hrd
  obtain ⟨hr1, hr2⟩ := hrd
  have HR1 := hidT hr1
  have HR2 := hidT hr2
  clear hr1 hr2
  have hbw : Below w.heap.size w w := Below.refl _ _
  go_enter Tryd.func7, Tryd.ntmps7
  have aa := alloc_at w (.cells #[.int .i64 0, .int .i64 0, .int .i64 0, .int .i64 0, .int .i64 0, .int .i64 0, .int .i64 0, .int .i64 0, .slice none 0 0, .slice none 0 0, .int .i64 0, .int .i64 0, .int .i64 0, .int .i64 0, .slice none 0 0] 27) _ rfl
  have am : Below w.heap.size w (w.alloc (.cells #[.int .i64 0, .int .i64 0, .int .i64 0, .int .i64 0, .int .i64 0, .int .i64 0, .int .i64 0, .int .i64 0, .slice none 0 0, .slice none 0 0, .int .i64 0, .int .i64 0, .int .i64 0, .int .i64 0, .slice none 0 0] 27)) := (Below.refl _ _).alloc (Nat.le_refl _) _
  go_wp2_with (first
    | (refine wpList_stI rfl 27 (.tmp 1) (.tmp 11) rfl w.heap.size #[.int .i64 3, .int .i64 1, .int .i64 0, .int .i64 0, .int .i64 0, .int .i64 0, .int .i64 0, .int .i64 0, .slice none 0 0, .slice none 0 0, .int .i64 2, .int .i64 5, .int .i64 1, .int .i64 0, .slice none 0 0] rfl rfl _ _ aa info37 rfl (all15 rfl rfl rfl rfl rfl rfl rfl rfl rfl rfl rfl rfl rfl rfl rfl) ?_
       intro ws ag abut abel
       have ab := abel _ _ am (Nat.le_refl _)
       obtain ⟨⟨a0, a1⟩, ⟨a2, a3, a4, a5, a6, a7, a8, a9⟩, ⟨a10, a11, a12, a13, a14⟩⟩ := cells15 ag))
  have bqa := bthen hbw ab
  clear aa am ag abut abel
  have hB := pbytes_any _ ⟨3, 1, ⟨0, 0, 0, 0, 0, 0, [], []⟩, 2, 5, 1, 0, []⟩ ws (hw.below bqa) (isNilP ws 3 1 2 5 1 0)
  rw [HB.out] at hB
  with_reducible refine hB.mono ?_
  rintro en w1 ⟨A1, n1, rfl, o1, hw1⟩
  have bw1 := bthen bqa hw1
  clear hB
  try generalize (Value.agg #[.int .i64 3, .int .i64 1, .int .i64 0, .int .i64 0, .int .i64 0, .int .i64 0, .int .i64 0, .int .i64 0, .slice none 0 0, .slice none 0 0, .int .i64 2, .int .i64 5, .int .i64 1, .int .i64 0, .slice none 0 0]) = ya0
  have a2_0 := keepC hw1 a0
  have a2_1 := keepC hw1 a1
  have a2_2 := keepC hw1 a2
  have a2_3 := keepC hw1 a3
  have a2_4 := keepC hw1 a4
  have a2_5 := keepC hw1 a5
  have a2_6 := keepC hw1 a6
  have a2_7 := keepC hw1 a7
  have a2_8 := keepC hw1 a8
  have a2_9 := keepC hw1 a9
  have a2_10 := keepC hw1 a10
  have a2_11 := keepC hw1 a11
  have a2_12 := keepC hw1 a12
  have a2_13 := keepC hw1 a13
  have a2_14 := keepC hw1 a14
  clear a0 a1 a2 a3 a4 a5 a6 a7 a8 a9 a10 a11 a12 a13 a14
  have r1 := o1.same
  have hT := pread_any A1 R.length n1 R w1 (hw.below bw1) r1 (by omega)
  rw [HR1.out, HR2.out, Option.getD_some] at hT
  go_wp2_with fail
  with_reducible refine hT.mono ?_
  rintro en w2 ⟨v2, rfl, ⟨L2, l2, k2, B2, b2, d2, P2, p2, q2, rfl, rl2, rb2, rp2⟩, hw2⟩
  have bw2 := bthen bw1 hw2
  clear hT
  dsimp only at rl2 rb2 rp2 ⊢
  have a3_0 := keepC hw2 a2_0
  have a3_1 := keepC hw2 a2_1
  have a3_2 := keepC hw2 a2_2
  have a3_3 := keepC hw2 a2_3
  have a3_4 := keepC hw2 a2_4
  have a3_5 := keepC hw2 a2_5
  have a3_6 := keepC hw2 a2_6
  have a3_7 := keepC hw2 a2_7
  have a3_8 := keepC hw2 a2_8
  have a3_9 := keepC hw2 a2_9
  have a3_10 := keepC hw2 a2_10
  have a3_11 := keepC hw2 a2_11
  have a3_12 := keepC hw2 a2_12
  have a3_13 := keepC hw2 a2_13
  have a3_14 := keepC hw2 a2_14
  clear a2_0 a2_1 a2_2 a2_3 a2_4 a2_5 a2_6 a2_7 a2_8 a2_9 a2_10 a2_11 a2_12 a2_13 a2_14
  have ix : IsPkt w2 (.agg #[.int .i64 3, .int .i64 1, .int .i64 0, .int .i64 0, .int .i64 0, .int .i64 0, .int .i64 0, .int .i64 0, .slice L2 l2 k2, .slice B2 b2 d2, .int .i64 2, .int .i64 5, .int .i64 1, .int .i64 0, .slice P2 p2 q2]) ⟨3, 1, ⟨0, 0, 0, 0, 0, 0, [], []⟩, 2, 5, 1, 0, []⟩ := ⟨L2, l2, k2, B2, b2, d2, P2, p2, q2, rfl, rl2, rb2, rp2⟩
  clear rl2 rb2 rp2
  have xa := alloc_at w2 (.cells #[.int .i64 0, .int .i64 0, .int .i64 0, .int .i64 0, .int .i64 0, .int .i64 0, .int .i64 0, .int .i64 0, .slice none 0 0, .slice none 0 0, .int .i64 0, .int .i64 0, .int .i64 0, .int .i64 0, .slice none 0 0] 27) _ rfl
  have xm : Below w2.heap.size w2 (w2.alloc (.cells #[.int .i64 0, .int .i64 0, .int .i64 0, .int .i64 0, .int .i64 0, .int .i64 0, .int .i64 0, .int .i64 0, .slice none 0 0, .slice none 0 0, .int .i64 0, .int .i64 0, .int .i64 0, .int .i64 0, .slice none 0 0] 27)) := (Below.refl _ _).alloc (Nat.le_refl _) _
  go_wp2_with (first
    | (refine wpList_stI rfl 27 (.tmp 3) (.tmp 17) rfl w2.heap.size #[.int .i64 3, .int .i64 1, .int .i64 0, .int .i64 0, .int .i64 0, .int .i64 0, .int .i64 0, .int .i64 0, .slice L2 l2 k2, .slice B2 b2 d2, .int .i64 2, .int .i64 5, .int .i64 1, .int .i64 0, .slice P2 p2 q2] rfl rfl _ _ xa info37 rfl (all15 rfl rfl rfl rfl rfl rfl rfl rfl rfl rfl rfl rfl rfl rfl rfl) ?_
       intro w2s xg xbut xbel
       have xb := xbel _ _ xm (Nat.le_refl _)
       obtain ⟨⟨x0, x1⟩, ⟨x2, x3, x4, x5, x6, x7, x8, x9⟩, ⟨x10, x11, x12, x13, x14⟩⟩ := cells15 xg))
  have bqx := bthen bw2 xb
  have a4_0 := keepC xb a3_0
  have a4_1 := keepC xb a3_1
  have a4_2 := keepC xb a3_2
  have a4_3 := keepC xb a3_3
  have a4_4 := keepC xb a3_4
  have a4_5 := keepC xb a3_5
  have a4_6 := keepC xb a3_6
  have a4_7 := keepC xb a3_7
  have a4_8 := keepC xb a3_8
  have a4_9 := keepC xb a3_9
  have a4_10 := keepC xb a3_10
  have a4_11 := keepC xb a3_11
  have a4_12 := keepC xb a3_12
  have a4_13 := keepC xb a3_13
  have a4_14 := keepC xb a3_14
  clear a3_0 a3_1 a3_2 a3_3 a3_4 a3_5 a3_6 a3_7 a3_8 a3_9 a3_10 a3_11 a3_12 a3_13 a3_14
  clear xa xm xg xbut xbel
  try generalize (Value.agg #[.int .i64 3, .int .i64 1, .int .i64 0, .int .i64 0, .int .i64 0, .int .i64 0, .int .i64 0, .int .i64 0, .slice L2 l2 k2, .slice B2 b2 d2, .int .i64 2, .int .i64 5, .int .i64 1, .int .i64 0, .slice P2 p2 q2]) = yx0
  have hT := pread_any none 0 0 [] w2s (hw.below bqx) (Rd.nil_ _) (by omega)
  rw [show (readOf []).getD Pkt.Pk.zero = ⟨0, 0, ⟨0, 0, 0, 0, 0, 0, [], []⟩, 0, 0, 0, 0, []⟩ from by kernel_rfl, show readCode [] = 2 from by kernel_rfl] at hT
  with_reducible refine hT.mono ?_
  rintro en w3 ⟨v3, rfl, ⟨L3, l3, k3, B3, b3, d3, P3, p3, q3, rfl, rl3, rb3, rp3⟩, hw3⟩
  have bw3 := bthen bqx hw3
  clear hT rl3 rb3 rp3
  dsimp only
  have a5_0 := keepC hw3 a4_0
  have a5_1 := keepC hw3 a4_1
  have a5_2 := keepC hw3 a4_2
  have a5_3 := keepC hw3 a4_3
  have a5_4 := keepC hw3 a4_4
  have a5_5 := keepC hw3 a4_5
  have a5_6 := keepC hw3 a4_6
  have a5_7 := keepC hw3 a4_7
  have a5_8 := keepC hw3 a4_8
  have a5_9 := keepC hw3 a4_9
  have a5_10 := keepC hw3 a4_10
  have a5_11 := keepC hw3 a4_11
  have a5_12 := keepC hw3 a4_12
  have a5_13 := keepC hw3 a4_13
  have a5_14 := keepC hw3 a4_14
  clear a4_0 a4_1 a4_2 a4_3 a4_4 a4_5 a4_6 a4_7 a4_8 a4_9 a4_10 a4_11 a4_12 a4_13 a4_14
  have x5_0 := keepC hw3 x0
  have x5_1 := keepC hw3 x1
  have x5_2 := keepC hw3 x2
  have x5_3 := keepC hw3 x3
  have x5_4 := keepC hw3 x4
  have x5_5 := keepC hw3 x5
  have x5_6 := keepC hw3 x6
  have x5_7 := keepC hw3 x7
  have x5_8 := keepC hw3 x8
  have x5_9 := keepC hw3 x9
  have x5_10 := keepC hw3 x10
  have x5_11 := keepC hw3 x11
  have x5_12 := keepC hw3 x12
  have x5_13 := keepC hw3 x13
  have x5_14 := keepC hw3 x14
  clear x0 x1 x2 x3 x4 x5 x6 x7 x8 x9 x10 x11 x12 x13 x14
  have kct : ∀ u : World, (convert 23 23 (.slice (some ⟨u.heap.size, 0, none⟩) 8 8)).run Tryd.prog (u.alloc (.cells #[.int .u8 97, .int .u8 98, .int .u8 99, .int .u8 100, .int .u8 101, .int .u8 102, .int .u8 103, .int .u8 104] 5)) = .ok (.slice (some ⟨u.heap.size, 0, none⟩) 8 8) (u.alloc (.cells #[.int .u8 97, .int .u8 98, .int .u8 99, .int .u8 100, .int .u8 101, .int .u8 102, .int .u8 103, .int .u8 104] 5 (8, 9))) := fun u => kc_lit _ _ rfl _ _ _
  have ya := alloc_at w3 (.cells #[.int .i64 0, .int .i64 0, .int .i64 0, .int .i64 0, .int .i64 0, .int .i64 0, .int .i64 0, .int .i64 0, .slice none 0 0, .slice none 0 0, .int .i64 0, .int .i64 0, .int .i64 0, .int .i64 0, .slice none 0 0] 27) _ rfl
  have ym : Below w3.heap.size w3 (w3.alloc (.cells #[.int .i64 0, .int .i64 0, .int .i64 0, .int .i64 0, .int .i64 0, .int .i64 0, .int .i64 0, .int .i64 0, .slice none 0 0, .slice none 0 0, .int .i64 0, .int .i64 0, .int .i64 0, .int .i64 0, .slice none 0 0] 27)) := (Below.refl _ _).alloc (Nat.le_refl _) _
  go_wp2_with (first
    | (refine wpList_stI rfl 27 (.tmp 5) (.tmp 21) rfl w3.heap.size #[.int .i64 0, .int .i64 0, .int .i64 0, .int .i64 0, .int .i64 0, .int .i64 0, .int .i64 0, .int .i64 0, .slice L3 l3 k3, .slice B3 b3 d3, .int .i64 0, .int .i64 0, .int .i64 0, .int .i64 0, .slice P3 p3 q3] rfl rfl _ _ ya info37 rfl (all15 rfl rfl rfl rfl rfl rfl rfl rfl rfl rfl rfl rfl rfl rfl rfl) ?_
       intro w3s yg ybut ybel
       have yb := ybel _ _ ym (Nat.le_refl _)))
  have bqy := bthen bw3 yb
  have a6_0 := keepC yb a5_0
  have a6_1 := keepC yb a5_1
  have a6_2 := keepC yb a5_2
  have a6_3 := keepC yb a5_3
  have a6_4 := keepC yb a5_4
  have a6_5 := keepC yb a5_5
  have a6_6 := keepC yb a5_6
  have a6_7 := keepC yb a5_7
  have a6_8 := keepC yb a5_8
  have a6_9 := keepC yb a5_9
  have a6_10 := keepC yb a5_10
  have a6_11 := keepC yb a5_11
  have a6_12 := keepC yb a5_12
  have a6_13 := keepC yb a5_13
  have a6_14 := keepC yb a5_14
  clear a5_0 a5_1 a5_2 a5_3 a5_4 a5_5 a5_6 a5_7 a5_8 a5_9 a5_10 a5_11 a5_12 a5_13 a5_14
  have x6_0 := keepC yb x5_0
  have x6_1 := keepC yb x5_1
  have x6_2 := keepC yb x5_2
  have x6_3 := keepC yb x5_3
  have x6_4 := keepC yb x5_4
  have x6_5 := keepC yb x5_5
  have x6_6 := keepC yb x5_6
  have x6_7 := keepC yb x5_7
  have x6_8 := keepC yb x5_8
  have x6_9 := keepC yb x5_9
  have x6_10 := keepC yb x5_10
  have x6_11 := keepC yb x5_11
  have x6_12 := keepC yb x5_12
  have x6_13 := keepC yb x5_13
  have x6_14 := keepC yb x5_14
  clear x5_0 x5_1 x5_2 x5_3 x5_4 x5_5 x5_6 x5_7 x5_8 x5_9 x5_10 x5_11 x5_12 x5_13 x5_14
  clear ya ym yg ybut ybel
  try generalize (Value.agg #[.int .i64 0, .int .i64 0, .int .i64 0, .int .i64 0, .int .i64 0, .int .i64 0, .int .i64 0, .int .i64 0, .slice L3 l3 k3, .slice B3 b3 d3, .int .i64 0, .int .i64 0, .int .i64 0, .int .i64 0, .slice P3 p3 q3]) = yy0
  have kct : (convert 23 23 (.slice (some ⟨w3s.heap.size, 0, none⟩) 8 8)).run Tryd.prog (w3s.alloc (.cells #[.int .u8 97, .int .u8 98, .int .u8 99, .int .u8 100, .int .u8 101, .int .u8 102, .int .u8 103, .int .u8 104] 5)) = .ok (.slice (some ⟨w3s.heap.size, 0, none⟩) 8 8) (w3s.alloc (.cells #[.int .u8 97, .int .u8 98, .int .u8 99, .int .u8 100, .int .u8 101, .int .u8 102, .int .u8 103, .int .u8 104] 5 (8, 9))) := kc_lit _ _ rfl _ _ _
  have bt : Below w3s.heap.size w3s (w3s.alloc (.cells #[.int .u8 97, .int .u8 98, .int .u8 99, .int .u8 100, .int .u8 101, .int .u8 102, .int .u8 103, .int .u8 104] 5 (8, 9))) := (Below.refl _ _).alloc (Nat.le_refl _) _
  have rt : Rd (w3s.alloc (.cells #[.int .u8 97, .int .u8 98, .int .u8 99, .int .u8 100, .int .u8 101, .int .u8 102, .int .u8 103, .int .u8 104] 5 (8, 9))) (some ⟨w3s.heap.size, 0, none⟩) 8 8 [97, 98, 99, 100, 101, 102, 103, 104] := Rd.litAt _ _ _ _ _ rfl 8 rfl (by decide) _ rfl
  have blt := bthen bqy bt
  have a7_0 := keepC bt a6_0
  have a7_1 := keepC bt a6_1
  have a7_2 := keepC bt a6_2
  have a7_3 := keepC bt a6_3
  have a7_4 := keepC bt a6_4
  have a7_5 := keepC bt a6_5
  have a7_6 := keepC bt a6_6
  have a7_7 := keepC bt a6_7
  have a7_8 := keepC bt a6_8
  have a7_9 := keepC bt a6_9
  have a7_10 := keepC bt a6_10
  have a7_11 := keepC bt a6_11
  have a7_12 := keepC bt a6_12
  have a7_13 := keepC bt a6_13
  have a7_14 := keepC bt a6_14
  clear a6_0 a6_1 a6_2 a6_3 a6_4 a6_5 a6_6 a6_7 a6_8 a6_9 a6_10 a6_11 a6_12 a6_13 a6_14
  have x7_0 := keepC bt x6_0
  have x7_1 := keepC bt x6_1
  have x7_2 := keepC bt x6_2
  have x7_3 := keepC bt x6_3
  have x7_4 := keepC bt x6_4
  have x7_5 := keepC bt x6_5
  have x7_6 := keepC bt x6_6
  have x7_7 := keepC bt x6_7
  have x7_8 := keepC bt x6_8
  have x7_9 := keepC bt x6_9
  have x7_10 := keepC bt x6_10
  have x7_11 := keepC bt x6_11
  have x7_12 := keepC bt x6_12
  have x7_13 := keepC bt x6_13
  have x7_14 := keepC bt x6_14
  clear x6_0 x6_1 x6_2 x6_3 x6_4 x6_5 x6_6 x6_7 x6_8 x6_9 x6_10 x6_11 x6_12 x6_13 x6_14
  have hT := pread_any _ 8 8 [97, 98, 99, 100, 101, 102, 103, 104] _ (hw.below blt) rt (by omega)
  rw [show (readOf [97, 98, 99, 100, 101, 102, 103, 104]).getD Pkt.Pk.zero = ⟨0, 0, ⟨0, 0, 0, 0, 0, 0, [], []⟩, 0, 0, 0, 0, []⟩ from by kernel_rfl, show readCode [97, 98, 99, 100, 101, 102, 103, 104] = 3 from by kernel_rfl] at hT
  with_reducible refine hT.mono ?_
  rintro en w4 ⟨v4, rfl, ⟨L4, l4, k4, B4, b4, d4, P4, p4, q4, rfl, rl4, rb4, rp4⟩, hw4⟩
  have bw4 := bthen blt hw4
  clear hT rl4 rb4 rp4 rt kct
  dsimp only
  have a8_0 := keepC hw4 a7_0
  have a8_1 := keepC hw4 a7_1
  have a8_2 := keepC hw4 a7_2
  have a8_3 := keepC hw4 a7_3
  have a8_4 := keepC hw4 a7_4
  have a8_5 := keepC hw4 a7_5
  have a8_6 := keepC hw4 a7_6
  have a8_7 := keepC hw4 a7_7
  have a8_8 := keepC hw4 a7_8
  have a8_9 := keepC hw4 a7_9
  have a8_10 := keepC hw4 a7_10
  have a8_11 := keepC hw4 a7_11
  have a8_12 := keepC hw4 a7_12
  have a8_13 := keepC hw4 a7_13
  have a8_14 := keepC hw4 a7_14
  clear a7_0 a7_1 a7_2 a7_3 a7_4 a7_5 a7_6 a7_7 a7_8 a7_9 a7_10 a7_11 a7_12 a7_13 a7_14
  have x8_0 := keepC hw4 x7_0
  have x8_1 := keepC hw4 x7_1
  have x8_2 := keepC hw4 x7_2
  have x8_3 := keepC hw4 x7_3
  have x8_4 := keepC hw4 x7_4
  have x8_5 := keepC hw4 x7_5
  have x8_6 := keepC hw4 x7_6
  have x8_7 := keepC hw4 x7_7
  have x8_8 := keepC hw4 x7_8
  have x8_9 := keepC hw4 x7_9
  have x8_10 := keepC hw4 x7_10
  have x8_11 := keepC hw4 x7_11
  have x8_12 := keepC hw4 x7_12
  have x8_13 := keepC hw4 x7_13
  have x8_14 := keepC hw4 x7_14
  clear x7_0 x7_1 x7_2 x7_3 x7_4 x7_5 x7_6 x7_7 x7_8 x7_9 x7_10 x7_11 x7_12 x7_13 x7_14
  have za := alloc_at w4 (.cells #[.int .i64 0, .int .i64 0, .int .i64 0, .int .i64 0, .int .i64 0, .int .i64 0, .int .i64 0, .int .i64 0, .slice none 0 0, .slice none 0 0, .int .i64 0, .int .i64 0, .int .i64 0, .int .i64 0, .slice none 0 0] 27) _ rfl
  have zm : Below w4.heap.size w4 (w4.alloc (.cells #[.int .i64 0, .int .i64 0, .int .i64 0, .int .i64 0, .int .i64 0, .int .i64 0, .int .i64 0, .int .i64 0, .slice none 0 0, .slice none 0 0, .int .i64 0, .int .i64 0, .int .i64 0, .int .i64 0, .slice none 0 0] 27)) := (Below.refl _ _).alloc (Nat.le_refl _) _
  go_wp2_with (first
    | (refine wpList_stI rfl 27 (.tmp 7) (.tmp 27) rfl w4.heap.size #[.int .i64 0, .int .i64 0, .int .i64 0, .int .i64 0, .int .i64 0, .int .i64 0, .int .i64 0, .int .i64 0, .slice L4 l4 k4, .slice B4 b4 d4, .int .i64 0, .int .i64 0, .int .i64 0, .int .i64 0, .slice P4 p4 q4] rfl rfl _ _ za info37 rfl (all15 rfl rfl rfl rfl rfl rfl rfl rfl rfl rfl rfl rfl rfl rfl rfl) ?_
       intro w4s zg zbut zbel
       have zb := zbel _ _ zm (Nat.le_refl _)))
  have bqz := bthen bw4 zb
  have a9_0 := keepC zb a8_0
  have a9_1 := keepC zb a8_1
  have a9_2 := keepC zb a8_2
  have a9_3 := keepC zb a8_3
  have a9_4 := keepC zb a8_4
  have a9_5 := keepC zb a8_5
  have a9_6 := keepC zb a8_6
  have a9_7 := keepC zb a8_7
  have a9_8 := keepC zb a8_8
  have a9_9 := keepC zb a8_9
  have a9_10 := keepC zb a8_10
  have a9_11 := keepC zb a8_11
  have a9_12 := keepC zb a8_12
  have a9_13 := keepC zb a8_13
  have a9_14 := keepC zb a8_14
  clear a8_0 a8_1 a8_2 a8_3 a8_4 a8_5 a8_6 a8_7 a8_8 a8_9 a8_10 a8_11 a8_12 a8_13 a8_14
  have x9_0 := keepC zb x8_0
  have x9_1 := keepC zb x8_1
  have x9_2 := keepC zb x8_2
  have x9_3 := keepC zb x8_3
  have x9_4 := keepC zb x8_4
  have x9_5 := keepC zb x8_5
  have x9_6 := keepC zb x8_6
  have x9_7 := keepC zb x8_7
  have x9_8 := keepC zb x8_8
  have x9_9 := keepC zb x8_9
  have x9_10 := keepC zb x8_10
  have x9_11 := keepC zb x8_11
  have x9_12 := keepC zb x8_12
  have x9_13 := keepC zb x8_13
  have x9_14 := keepC zb x8_14
  clear x8_0 x8_1 x8_2 x8_3 x8_4 x8_5 x8_6 x8_7 x8_8 x8_9 x8_10 x8_11 x8_12 x8_13 x8_14
  clear za zm zg zbut zbel
  try generalize (Value.agg #[.int .i64 0, .int .i64 0, .int .i64 0, .int .i64 0, .int .i64 0, .int .i64 0, .int .i64 0, .int .i64 0, .slice L4 l4 k4, .slice B4 b4 d4, .int .i64 0, .int .i64 0, .int .i64 0, .int .i64 0, .slice P4 p4 q4]) = yz0
  have bu : Below w4s.heap.size w4s (w4s.alloc (.cells #[.int .u8 1, .int .u8 2, .int .u8 3] 5)) := (Below.refl _ _).alloc (Nat.le_refl _) _
  have ru : Rd (w4s.alloc (.cells #[.int .u8 1, .int .u8 2, .int .u8 3] 5)) (some ⟨w4s.heap.size, 0, none⟩) 3 3 [1, 2, 3] := Rd.litAt _ _ _ _ _ rfl 3 rfl (by decide) _ rfl
  have blu := bthen bqz bu
  have a10_0 := keepC bu a9_0
  have a10_1 := keepC bu a9_1
  have a10_2 := keepC bu a9_2
  have a10_3 := keepC bu a9_3
  have a10_4 := keepC bu a9_4
  have a10_5 := keepC bu a9_5
  have a10_6 := keepC bu a9_6
  have a10_7 := keepC bu a9_7
  have a10_8 := keepC bu a9_8
  have a10_9 := keepC bu a9_9
  have a10_10 := keepC bu a9_10
  have a10_11 := keepC bu a9_11
  have a10_12 := keepC bu a9_12
  have a10_13 := keepC bu a9_13
  have a10_14 := keepC bu a9_14
  clear a9_0 a9_1 a9_2 a9_3 a9_4 a9_5 a9_6 a9_7 a9_8 a9_9 a9_10 a9_11 a9_12 a9_13 a9_14
  have x10_0 := keepC bu x9_0
  have x10_1 := keepC bu x9_1
  have x10_2 := keepC bu x9_2
  have x10_3 := keepC bu x9_3
  have x10_4 := keepC bu x9_4
  have x10_5 := keepC bu x9_5
  have x10_6 := keepC bu x9_6
  have x10_7 := keepC bu x9_7
  have x10_8 := keepC bu x9_8
  have x10_9 := keepC bu x9_9
  have x10_10 := keepC bu x9_10
  have x10_11 := keepC bu x9_11
  have x10_12 := keepC bu x9_12
  have x10_13 := keepC bu x9_13
  have x10_14 := keepC bu x9_14
  clear x9_0 x9_1 x9_2 x9_3 x9_4 x9_5 x9_6 x9_7 x9_8 x9_9 x9_10 x9_11 x9_12 x9_13 x9_14
  have hT := rseal_any _ 3 3 [1, 2, 3] _ ru (by omega)
  with_reducible refine hT.mono ?_
  rintro en w5 ⟨A5, n5, rfl, o5, hw5⟩
  have bw5 := bthen blu hw5
  clear hT ru
  have a11_0 := keepC hw5 a10_0
  have a11_1 := keepC hw5 a10_1
  have a11_2 := keepC hw5 a10_2
  have a11_3 := keepC hw5 a10_3
  have a11_4 := keepC hw5 a10_4
  have a11_5 := keepC hw5 a10_5
  have a11_6 := keepC hw5 a10_6
  have a11_7 := keepC hw5 a10_7
  have a11_8 := keepC hw5 a10_8
  have a11_9 := keepC hw5 a10_9
  have a11_10 := keepC hw5 a10_10
  have a11_11 := keepC hw5 a10_11
  have a11_12 := keepC hw5 a10_12
  have a11_13 := keepC hw5 a10_13
  have a11_14 := keepC hw5 a10_14
  clear a10_0 a10_1 a10_2 a10_3 a10_4 a10_5 a10_6 a10_7 a10_8 a10_9 a10_10 a10_11 a10_12 a10_13 a10_14
  have x11_0 := keepC hw5 x10_0
  have x11_1 := keepC hw5 x10_1
  have x11_2 := keepC hw5 x10_2
  have x11_3 := keepC hw5 x10_3
  have x11_4 := keepC hw5 x10_4
  have x11_5 := keepC hw5 x10_5
  have x11_6 := keepC hw5 x10_6
  have x11_7 := keepC hw5 x10_7
  have x11_8 := keepC hw5 x10_8
  have x11_9 := keepC hw5 x10_9
  have x11_10 := keepC hw5 x10_10
  have x11_11 := keepC hw5 x10_11
  have x11_12 := keepC hw5 x10_12
  have x11_13 := keepC hw5 x10_13
  have x11_14 := keepC hw5 x10_14
  clear x10_0 x10_1 x10_2 x10_3 x10_4 x10_5 x10_6 x10_7 x10_8 x10_9 x10_10 x10_11 x10_12 x10_13 x10_14
  have hT := pread_any A5 _ n5 _ w5 (hw.below bw5) o5.same (by decide)
  rw [show (readOf (Crc.sealB [1, 2, 3])).getD Pkt.Pk.zero = ⟨0, 0, ⟨0, 0, 0, 0, 0, 0, [], []⟩, 0, 0, 0, 0, []⟩ from by kernel_rfl, show readCode (Crc.sealB [1, 2, 3]) = 2 from by kernel_rfl] at hT
  go_wp2_with fail
  with_reducible refine hT.mono ?_
  rintro en w6 ⟨v6, rfl, ⟨L6, l6, k6, B6, b6, d6, P6, p6, q6, rfl, rl6, rb6, rp6⟩, hw6⟩
  have bw6 := bthen bw5 hw6
  clear hT rl6 rb6 rp6 o5
  dsimp only
  have a12_0 := keepC hw6 a11_0
  have a12_1 := keepC hw6 a11_1
  have a12_2 := keepC hw6 a11_2
  have a12_3 := keepC hw6 a11_3
  have a12_4 := keepC hw6 a11_4
  have a12_5 := keepC hw6 a11_5
  have a12_6 := keepC hw6 a11_6
  have a12_7 := keepC hw6 a11_7
  have a12_8 := keepC hw6 a11_8
  have a12_9 := keepC hw6 a11_9
  have a12_10 := keepC hw6 a11_10
  have a12_11 := keepC hw6 a11_11
  have a12_12 := keepC hw6 a11_12
  have a12_13 := keepC hw6 a11_13
  have a12_14 := keepC hw6 a11_14
  clear a11_0 a11_1 a11_2 a11_3 a11_4 a11_5 a11_6 a11_7 a11_8 a11_9 a11_10 a11_11 a11_12 a11_13 a11_14
  have x12_0 := keepC hw6 x11_0
  have x12_1 := keepC hw6 x11_1
  have x12_2 := keepC hw6 x11_2
  have x12_3 := keepC hw6 x11_3
  have x12_4 := keepC hw6 x11_4
  have x12_5 := keepC hw6 x11_5
  have x12_6 := keepC hw6 x11_6
  have x12_7 := keepC hw6 x11_7
  have x12_8 := keepC hw6 x11_8
  have x12_9 := keepC hw6 x11_9
  have x12_10 := keepC hw6 x11_10
  have x12_11 := keepC hw6 x11_11
  have x12_12 := keepC hw6 x11_12
  have x12_13 := keepC hw6 x11_13
  have x12_14 := keepC hw6 x11_14
  clear x11_0 x11_1 x11_2 x11_3 x11_4 x11_5 x11_6 x11_7 x11_8 x11_9 x11_10 x11_11 x11_12 x11_13 x11_14
  have t6a := alloc_at w6 (.cells #[.int .i64 0, .int .i64 0, .int .i64 0, .int .i64 0, .int .i64 0, .int .i64 0, .int .i64 0, .int .i64 0, .slice none 0 0, .slice none 0 0, .int .i64 0, .int .i64 0, .int .i64 0, .int .i64 0, .slice none 0 0] 27) _ rfl
  have t6m : Below w6.heap.size w6 (w6.alloc (.cells #[.int .i64 0, .int .i64 0, .int .i64 0, .int .i64 0, .int .i64 0, .int .i64 0, .int .i64 0, .int .i64 0, .slice none 0 0, .slice none 0 0, .int .i64 0, .int .i64 0, .int .i64 0, .int .i64 0, .slice none 0 0] 27)) := (Below.refl _ _).alloc (Nat.le_refl _) _
  go_wp2_with (first
    | (refine wpList_stI rfl 27 (.tmp 9) (.tmp 33) rfl w6.heap.size #[.int .i64 0, .int .i64 0, .int .i64 0, .int .i64 0, .int .i64 0, .int .i64 0, .int .i64 0, .int .i64 0, .slice L6 l6 k6, .slice B6 b6 d6, .int .i64 0, .int .i64 0, .int .i64 0, .int .i64 0, .slice P6 p6 q6] rfl rfl _ _ t6a info37 rfl (all15 rfl rfl rfl rfl rfl rfl rfl rfl rfl rfl rfl rfl rfl rfl rfl) ?_
       intro w6s t6g t6but t6bel
       have t6b := t6bel _ _ t6m (Nat.le_refl _)))
  have bqt6 := bthen bw6 t6b
  have a13_0 := keepC t6b a12_0
  have a13_1 := keepC t6b a12_1
  have a13_2 := keepC t6b a12_2
  have a13_3 := keepC t6b a12_3
  have a13_4 := keepC t6b a12_4
  have a13_5 := keepC t6b a12_5
  have a13_6 := keepC t6b a12_6
  have a13_7 := keepC t6b a12_7
  have a13_8 := keepC t6b a12_8
  have a13_9 := keepC t6b a12_9
  have a13_10 := keepC t6b a12_10
  have a13_11 := keepC t6b a12_11
  have a13_12 := keepC t6b a12_12
  have a13_13 := keepC t6b a12_13
  have a13_14 := keepC t6b a12_14
  clear a12_0 a12_1 a12_2 a12_3 a12_4 a12_5 a12_6 a12_7 a12_8 a12_9 a12_10 a12_11 a12_12 a12_13 a12_14
  have x13_0 := keepC t6b x12_0
  have x13_1 := keepC t6b x12_1
  have x13_2 := keepC t6b x12_2
  have x13_3 := keepC t6b x12_3
  have x13_4 := keepC t6b x12_4
  have x13_5 := keepC t6b x12_5
  have x13_6 := keepC t6b x12_6
  have x13_7 := keepC t6b x12_7
  have x13_8 := keepC t6b x12_8
  have x13_9 := keepC t6b x12_9
  have x13_10 := keepC t6b x12_10
  have x13_11 := keepC t6b x12_11
  have x13_12 := keepC t6b x12_12
  have x13_13 := keepC t6b x12_13
  have x13_14 := keepC t6b x12_14
  clear x12_0 x12_1 x12_2 x12_3 x12_4 x12_5 x12_6 x12_7 x12_8 x12_9 x12_10 x12_11 x12_12 x12_13 x12_14
  clear t6a t6m t6g t6but t6bel
  try generalize (Value.agg #[.int .i64 0, .int .i64 0, .int .i64 0, .int .i64 0, .int .i64 0, .int .i64 0, .int .i64 0, .int .i64 0, .slice L6 l6 k6, .slice B6 b6 d6, .int .i64 0, .int .i64 0, .int .i64 0, .int .i64 0, .slice P6 p6 q6]) = yt0
  have ixw : Hid (IsPkt w6s (.agg #[.int .i64 3, .int .i64 1, .int .i64 0, .int .i64 0, .int .i64 0, .int .i64 0, .int .i64 0, .int .i64 0, .slice L2 l2 k2, .slice B2 b2 d2, .int .i64 2, .int .i64 5, .int .i64 1, .int .i64 0, .slice P2 p2 q2]) ⟨3, 1, ⟨0, 0, 0, 0, 0, 0, [], []⟩, 2, 5, 1, 0, []⟩) := hidT (ix.below (bthen xb (bthen hw3 (bthen yb (bthen bt (bthen hw4 (bthen zb (bthen bu (bthen hw5 (bthen hw6 t6b))))))))))
  have sl := strs (r1.below (bthen hw2 (bthen xb (bthen hw3 (bthen yb (bthen bt (bthen hw4 (bthen zb (bthen bu (bthen hw5 (bthen hw6 t6b)))))))))))
  clear ix r1 o1 hw1 hw2 hw3 hw4 hw5 hw6 xb yb zb t6b bt bu hbw bw1 bw2 bqx bw3 bqy blt bw4 bqz blu bw5 bw6 bqa ab
  have bt6 := bqt6
  clear bqt6
  have e3 : ((str R).toList == (str R).toList) = true := by simp
  generalize w6s = WY at *
  have ca0 : ∀ w', Below WY.heap.size WY w' → w'.cell? ⟨w.heap.size, 0, none⟩ = some (.int .i64 3) := fun w' h => keepC h a13_0
  have ca1 : ∀ w', Below WY.heap.size WY w' → w'.cell? ⟨w.heap.size, 1, none⟩ = some (.int .i64 1) := fun w' h => keepC h a13_1
  have ca2 : ∀ w', Below WY.heap.size WY w' → w'.cell? ⟨w.heap.size, 2, none⟩ = some (.int .i64 0) := fun w' h => keepC h a13_2
  have ca3 : ∀ w', Below WY.heap.size WY w' → w'.cell? ⟨w.heap.size, 3, none⟩ = some (.int .i64 0) := fun w' h => keepC h a13_3
  have ca4 : ∀ w', Below WY.heap.size WY w' → w'.cell? ⟨w.heap.size, 4, none⟩ = some (.int .i64 0) := fun w' h => keepC h a13_4
  have ca5 : ∀ w', Below WY.heap.size WY w' → w'.cell? ⟨w.heap.size, 5, none⟩ = some (.int .i64 0) := fun w' h => keepC h a13_5
  have ca6 : ∀ w', Below WY.heap.size WY w' → w'.cell? ⟨w.heap.size, 6, none⟩ = some (.int .i64 0) := fun w' h => keepC h a13_6
  have ca7 : ∀ w', Below WY.heap.size WY w' → w'.cell? ⟨w.heap.size, 7, none⟩ = some (.int .i64 0) := fun w' h => keepC h a13_7
  have ca8 : ∀ w', Below WY.heap.size WY w' → w'.cell? ⟨w.heap.size, 8, none⟩ = some (.slice none 0 0) := fun w' h => keepC h a13_8
  have ca9 : ∀ w', Below WY.heap.size WY w' → w'.cell? ⟨w.heap.size, 9, none⟩ = some (.slice none 0 0) := fun w' h => keepC h a13_9
  have ca10 : ∀ w', Below WY.heap.size WY w' → w'.cell? ⟨w.heap.size, 10, none⟩ = some (.int .i64 2) := fun w' h => keepC h a13_10
  have ca11 : ∀ w', Below WY.heap.size WY w' → w'.cell? ⟨w.heap.size, 11, none⟩ = some (.int .i64 5) := fun w' h => keepC h a13_11
  have ca12 : ∀ w', Below WY.heap.size WY w' → w'.cell? ⟨w.heap.size, 12, none⟩ = some (.int .i64 1) := fun w' h => keepC h a13_12
  have ca13 : ∀ w', Below WY.heap.size WY w' → w'.cell? ⟨w.heap.size, 13, none⟩ = some (.int .i64 0) := fun w' h => keepC h a13_13
  have ca14 : ∀ w', Below WY.heap.size WY w' → w'.cell? ⟨w.heap.size, 14, none⟩ = some (.slice none 0 0) := fun w' h => keepC h a13_14
  clear a13_0 a13_1 a13_2 a13_3 a13_4 a13_5 a13_6 a13_7 a13_8 a13_9 a13_10 a13_11 a13_12 a13_13 a13_14
  have cx0 : ∀ w', Below WY.heap.size WY w' → w'.cell? ⟨w2.heap.size, 0, none⟩ = some (.int .i64 3) := fun w' h => keepC h x13_0
  have cx1 : ∀ w', Below WY.heap.size WY w' → w'.cell? ⟨w2.heap.size, 1, none⟩ = some (.int .i64 1) := fun w' h => keepC h x13_1
  have cx2 : ∀ w', Below WY.heap.size WY w' → w'.cell? ⟨w2.heap.size, 2, none⟩ = some (.int .i64 0) := fun w' h => keepC h x13_2
  have cx3 : ∀ w', Below WY.heap.size WY w' → w'.cell? ⟨w2.heap.size, 3, none⟩ = some (.int .i64 0) := fun w' h => keepC h x13_3
  have cx4 : ∀ w', Below WY.heap.size WY w' → w'.cell? ⟨w2.heap.size, 4, none⟩ = some (.int .i64 0) := fun w' h => keepC h x13_4
  have cx5 : ∀ w', Below WY.heap.size WY w' → w'.cell? ⟨w2.heap.size, 5, none⟩ = some (.int .i64 0) := fun w' h => keepC h x13_5
  have cx6 : ∀ w', Below WY.heap.size WY w' → w'.cell? ⟨w2.heap.size, 6, none⟩ = some (.int .i64 0) := fun w' h => keepC h x13_6
  have cx7 : ∀ w', Below WY.heap.size WY w' → w'.cell? ⟨w2.heap.size, 7, none⟩ = some (.int .i64 0) := fun w' h => keepC h x13_7
  have cx8 : ∀ w', Below WY.heap.size WY w' → w'.cell? ⟨w2.heap.size, 8, none⟩ = some (.slice L2 l2 k2) := fun w' h => keepC h x13_8
  have cx9 : ∀ w', Below WY.heap.size WY w' → w'.cell? ⟨w2.heap.size, 9, none⟩ = some (.slice B2 b2 d2) := fun w' h => keepC h x13_9
  have cx10 : ∀ w', Below WY.heap.size WY w' → w'.cell? ⟨w2.heap.size, 10, none⟩ = some (.int .i64 2) := fun w' h => keepC h x13_10
  have cx11 : ∀ w', Below WY.heap.size WY w' → w'.cell? ⟨w2.heap.size, 11, none⟩ = some (.int .i64 5) := fun w' h => keepC h x13_11
  have cx12 : ∀ w', Below WY.heap.size WY w' → w'.cell? ⟨w2.heap.size, 12, none⟩ = some (.int .i64 1) := fun w' h => keepC h x13_12
  have cx13 : ∀ w', Below WY.heap.size WY w' → w'.cell? ⟨w2.heap.size, 13, none⟩ = some (.int .i64 0) := fun w' h => keepC h x13_13
  have cx14 : ∀ w', Below WY.heap.size WY w' → w'.cell? ⟨w2.heap.size, 14, none⟩ = some (.slice P2 p2 q2) := fun w' h => keepC h x13_14
  clear x13_0 x13_1 x13_2 x13_3 x13_4 x13_5 x13_6 x13_7 x13_8 x13_9 x13_10 x13_11 x13_12 x13_13 x13_14
  have hwY := hidT (hw.below bt6)
  have KA : Hid (∀ (u : World) (o : Obj), Below WY.heap.size WY u → Below WY.heap.size WY (u.alloc o)) := hidT fun u o h => h.alloc h.size o
  have LIT : Hid (∀ u : World, Rd (u.alloc (.cells #[.int .u8 165, .int .u8 3, .int .u8 1, .int .u8 2, .int .u8 0, .int .u8 0, .int .u8 0, .int .u8 0, .int .u8 0, .int .u8 0, .int .u8 0, .int .u8 5, .int .u8 1] 5 (13, 14))) (some ⟨u.heap.size, 0, none⟩) 13 13 [165, 3, 1, 2, 0, 0, 0, 0, 0, 0, 0, 5, 1]) := hidT fun u => Rd.litAt _ _ _ _ _ rfl 13 rfl (by decide) _ rfl
  have LITD : Hid (Rd (WY.alloc (.cells #[.int .u8 165, .int .u8 3, .int .u8 1, .int .u8 2, .int .u8 0, .int .u8 0, .int .u8 0, .int .u8 0, .int .u8 0, .int .u8 0, .int .u8 0, .int .u8 5, .int .u8 1] 5 (13, 14))).drew (some ⟨WY.heap.size, 0, none⟩) 13 13 [165, 3, 1, 2, 0, 0, 0, 0, 0, 0, 0, 5, 1]) := hidT (LIT.out WY)
  have kc1 : ∀ u : World, (convert 23 23 (.slice (some ⟨u.heap.size, 0, none⟩) 13 13)).run Tryd.prog (u.alloc (.cells #[.int .u8 165, .int .u8 3, .int .u8 1, .int .u8 2, .int .u8 0, .int .u8 0, .int .u8 0, .int .u8 0, .int .u8 0, .int .u8 0, .int .u8 0, .int .u8 5, .int .u8 1] 5)) = .ok (.slice (some ⟨u.heap.size, 0, none⟩) 13 13) (u.alloc (.cells #[.int .u8 165, .int .u8 3, .int .u8 1, .int .u8 2, .int .u8 0, .int .u8 0, .int .u8 0, .int .u8 0, .int .u8 0, .int .u8 0, .int .u8 0, .int .u8 5, .int .u8 1] 5 (13, 14))) := fun u => kc_lit _ _ rfl _ _ _
  have kc2 : (convert 23 23 (.slice (some ⟨WY.heap.size, 0, none⟩) 13 13)).run Tryd.prog (WY.alloc (.cells #[.int .u8 165, .int .u8 3, .int .u8 1, .int .u8 2, .int .u8 0, .int .u8 0, .int .u8 0, .int .u8 0, .int .u8 0, .int .u8 0, .int .u8 0, .int .u8 5, .int .u8 1] 5)).drew = .ok (.slice (some ⟨WY.heap.size, 0, none⟩) 13 13) (WY.alloc (.cells #[.int .u8 165, .int .u8 3, .int .u8 1, .int .u8 2, .int .u8 0, .int .u8 0, .int .u8 0, .int .u8 0, .int .u8 0, .int .u8 0, .int .u8 0, .int .u8 5, .int .u8 1] 5 (13, 14))).drew := kc1 WY.drew
  go_region_held (fun w' => Below WY.heap.size WY w')
    (first | exact (Below.refl _ _).drew | exact bthen (by assumption) t1 | exact bthen (by assumption) t2 | exact bthen (by assumption) t3 | exact bthen (by assumption) t4 | exact bthen (by assumption) t5 | exact KA.out _ _ (by assumption) | exact (KA.out WY _ (Below.refl _ _)).drew | assumption)
    (first
      | (go_at_call 17; ((with_reducible refine (rseal_any _ 13 13 [165, 3, 1, 2, 0, 0, 0, 0, 0, 0, 0, 5, 1] _ (by first | exact LIT.out _ | exact LITD.out) (by omega)).mono ?_); rw [HR.out]; rintro en u1 ⟨A7, n7, rfl, o7, t1⟩; have s7 := strs o7.same; have r7 := Below.refl u1.heap.size u1))
      | (go_at_call 13; ((with_reducible refine (psame_is _ _ ⟨3, 1, ⟨0, 0, 0, 0, 0, 0, [], []⟩, 2, 5, 1, 0, []⟩ ⟨3, 1, ⟨0, 0, 0, 0, 0, 0, [], []⟩, 2, 5, 1, 0, []⟩ _ (ixw.out.below (by assumption)) (isNilP _ 3 1 2 5 1 0) true (by decide)).mono ?_); rintro en u2 ⟨rfl, t2⟩))
      | (go_at_call 11; ((with_reducible refine (pmay_any _ ⟨3, 1, ⟨0, 0, 0, 0, 0, 0, [], []⟩, 2, 5, 1, 0, []⟩ _ (isNilP _ 3 1 2 5 1 0)).mono ?_); rw [exM]; rintro en u3 ⟨rfl, t3⟩))
      | (go_at_call 11; ((with_reducible refine (pmay_any _ Pkt.Pk.zero _ (zero_pkt _)).mono ?_); rw [exZ]; rintro en u4 ⟨rfl, t4⟩))
      | (go_at_call 13; ((with_reducible refine (psame_is _ _ ⟨3, 1, ⟨0, 0, 0, 0, 0, 0, [], []⟩, 2, 5, 1, 0, []⟩ Pkt.Pk.zero _ (isNilP _ 3 1 2 5 1 0) (zero_pkt _) false (by decide)).mono ?_); rintro en u5 ⟨rfl, t5⟩)))
  all_goals
    have hfin := bthen bt6 (by assumption)
    go_wp2
    go_ret
    exact ⟨rfl, hfin⟩
end Go.Proofs.YtahkhideepncfaaDoor
