/- What the document's Bytes comes to, kind by kind. (Written by wip/gen/refitem4.py.) -/
import Derived.Test.YtahkhideepncfaaDoorRD
import Derived.Test.YtahkhideepncfaaDoorNB
import Derived.Test.YtahkhideepncfaaDoorIF
import Derived.Test.YtahkhideepncfaaDoorIG
import Derived.Test.YtahkhideepncfaaDoorBA
set_option maxRecDepth 100000
namespace Go.Proofs.YtahkhideepncfaaDoor
open Go.RowKit
set_option linter.unusedVariables false

set_option maxHeartbeats 4000000 in
set_option maxRecDepth 100000 in
theorem rbytes5 (q e i t c : Int) (LA : Option Addr) (ln lc : Nat) (BA : Option Addr) (bn bc : Nat) (l : List Int) (b : List UInt8) (w : World) (hl : RdI w LA ln lc l) (hb : Rd w BA bn bc b) (hm : Item.may ⟨5, q, e, i, t, c, l, b⟩ = true) :
    Calls Tryd.prog 38 #[.agg #[.int .i64 5, .int .i64 q, .int .i64 e, .int .i64 i, .int .i64 t, .int .i64 c, .slice LA ln lc, .slice BA bn bc]] w (Gives w 5 ((Num.put 5 1 ++ Num.putRow [q, e] 8) ++ (Num.put c 8))) := by
  obtain ⟨hll, hbl⟩ := ask_len (may_ask hm)
  dsimp only at hll hbl
  have el := RdI.size hl
  have eb := hb.1
  obtain ⟨r, HR⟩ : ∃ r, Hid ((Num.put 5 1 ++ Num.putRow [q, e] 8) ++ (Num.put c 8) = r) := ⟨_, hidT rfl⟩
  rw [HR.out]
  have hg := alloc_at w (.cells #[.int .i64 5, .int .i64 q, .int .i64 e, .int .i64 i, .int .i64 t, .int .i64 c, .slice LA ln lc, .slice BA bn bc] 25) _ rfl
  have hb0 : Below w.heap.size w (w.alloc (.cells #[.int .i64 5, .int .i64 q, .int .i64 e, .int .i64 i, .int .i64 t, .int .i64 c, .slice LA ln lc, .slice BA bn bc] 25)) := (Below.refl _ _).alloc (Nat.le_refl _) _
  have hmay := rmay_any (.agg #[.int .i64 5, .int .i64 q, .int .i64 e, .int .i64 i, .int .i64 t, .int .i64 c, .slice LA ln lc, .slice BA bn bc]) ⟨5, q, e, i, t, c, l, b⟩ _ ⟨LA, ln, lc, BA, bn, bc, rfl, RdV.below hl hb0, hb.below hb0⟩
  rw [hm] at hmay
  obtain ⟨c0, c1, c2, c3, c4, c5, c6, c7⟩ := cells8 hg
  clear hg hm
  have hlen2 : (Num.putRow [q, e] 8).length ≤ 16 := putRow_len _ 8 16 (by simp)
  go_enter Tryd.func38, Tryd.ntmps38
  go_wp2_with fail
  with_reducible refine hmay.mono ?_
  rintro en w1 ⟨rfl, hb1⟩
  have d0 := keepC hb1 c0
  have d1 := keepC hb1 c1
  have d2 := keepC hb1 c2
  have d3 := keepC hb1 c3
  have d4 := keepC hb1 c4
  have d5 := keepC hb1 c5
  have d6 := keepC hb1 c6
  have d7 := keepC hb1 c7
  have hb01 := bthen hb0 hb1
  clear c0 c1 c2 c3 c4 c5 c6 c7 hmay hb1 hb0
  go_wp2
  generalize w1 = W0 at hb01 d0 d1 d2 d3 d4 d5 d6 d7 ⊢
  have hl0 := RdV.below hl hb01
  have hbb0 := hb.below hb01
  clear hl hb
  have KS : ∀ w', Below W0.heap.size W0 w' → w'.cell? ⟨w.heap.size, 0, none⟩ = some (.int .i64 5) ∧ w'.cell? ⟨w.heap.size, 1, none⟩ = some (.int .i64 q) ∧ w'.cell? ⟨w.heap.size, 2, none⟩ = some (.int .i64 e) ∧ Below W0.heap.size W0 w' := fun w' h => ⟨keepC h d0, keepC h d1, keepC h d2, h⟩
  have B17 : Below W0.heap.size W0 (W0.alloc (.cells #[.int .i64 q, .int .i64 e] 3)).drew := ((Below.refl _ _).alloc (Nat.le_refl _) _).drew
  have B12 : Below W0.heap.size W0 (W0.alloc (.cells #[.int .u8 (IntKind.u8.wrap 5)] 5)).drew := ((Below.refl _ _).alloc (Nat.le_refl _) _).drew
  have B1217 : Below W0.heap.size W0 ((W0.alloc (.cells #[.int .u8 (IntKind.u8.wrap 5)] 5)).alloc (.cells #[.int .i64 q, .int .i64 e] 3)).drew := (((Below.refl _ _).alloc (Nat.le_refl _) _).alloc (by rw [size_alloc]; omega) _).drew
  have B1712 : Below W0.heap.size W0 ((W0.alloc (.cells #[.int .i64 q, .int .i64 e] 3)).alloc (.cells #[.int .u8 (IntKind.u8.wrap 5)] 5)).drew := (((Below.refl _ _).alloc (Nat.le_refl _) _).alloc (by rw [size_alloc]; omega) _).drew
  have L17 : RdI (W0.alloc (.cells #[.int .i64 q, .int .i64 e] 3)).drew (some ⟨W0.heap.size, 0, none⟩) 2 2 [q, e] := RdV.drew (RdV.lit W0 3 (0, 0) _ _ rfl 2 rfl (by decide) _ rfl)
  have L1217 : RdI ((W0.alloc (.cells #[.int .u8 (IntKind.u8.wrap 5)] 5)).alloc (.cells #[.int .i64 q, .int .i64 e] 3)).drew (some ⟨W0.heap.size + 1, 0, none⟩) 2 2 [q, e] := RdV.drew (RdV.lit (W0.alloc (.cells #[.int .u8 (IntKind.u8.wrap 5)] 5)) 3 (0, 0) _ _ rfl 2 rfl (by decide) _ (size_alloc _ _))
  have L1712 : RdI ((W0.alloc (.cells #[.int .i64 q, .int .i64 e] 3)).alloc (.cells #[.int .u8 (IntKind.u8.wrap 5)] 5)).drew (some ⟨W0.heap.size, 0, none⟩) 2 2 [q, e] := RdV.drew (RdV.alloc (RdV.lit W0 3 (0, 0) _ _ rfl 2 rfl (by decide) _ rfl) _)
  have OW : ∀ u : World, W0.heap.size ≤ u.heap.size → Own (u.alloc (.cells #[.int .u8 (IntKind.u8.wrap 5)] 5)) W0.heap.size 5 (.slice (some ⟨u.heap.size, 0, none⟩) 1 1) 1 (Num.put 5 1) := fun u hu => World.ownsRow_lit (base := W0.heap.size) (e := 5) (size := 1) u #[.int .u8 (IntKind.u8.wrap 5)] 1 hu (by decide) rfl
  have O1217 : Own ((W0.alloc (.cells #[.int .u8 (IntKind.u8.wrap 5)] 5)).alloc (.cells #[.int .i64 q, .int .i64 e] 3)).drew W0.heap.size 5 (.slice (some ⟨W0.heap.size, 0, none⟩) 1 1) 1 (Num.put 5 1) := (OW W0 (Nat.le_refl _)).later (((Below.refl _ _).alloc (Nat.le_refl _) _).drew)
  have O1712 : Own ((W0.alloc (.cells #[.int .i64 q, .int .i64 e] 3)).alloc (.cells #[.int .u8 (IntKind.u8.wrap 5)] 5)).drew W0.heap.size 5 (.slice (some ⟨W0.heap.size + 1, 0, none⟩) 1 1) 1 (Num.put 5 1) := by
    have := (OW (W0.alloc (.cells #[.int .i64 q, .int .i64 e] 3)) (by rw [size_alloc]; omega)).later ((Below.refl _ _).drew)
    rw [size_alloc] at this
    exact this
  have hps : (Num.put 5 1).length = 1 := rfl
  go_region_held_law (fun w' => w'.cell? ⟨w.heap.size, 0, none⟩ = some (.int .i64 5) ∧ w'.cell? ⟨w.heap.size, 1, none⟩ = some (.int .i64 q) ∧ w'.cell? ⟨w.heap.size, 2, none⟩ = some (.int .i64 e) ∧ Below W0.heap.size W0 w')
    (first | exact KS _ (Below.refl _ _).drew | exact KS _ hbz | exact KS _ (hbc.alloc hbc.size _) | exact KS _ hbc | exact KS _ B1217 | exact KS _ B1712 | exact KS _ B17 | exact KS _ B12 | assumption)
    (first
      | (go_at_call 40; ((with_reducible refine (rputRow_any _ _ _ [q, e] 8 _ L17 (by omega)).mono ?_); rintro en wc ⟨Ac, dc, rfl, sc, hc⟩; have hbc := bthen B17 hc; have hrc := sc.same))
      | (go_at_call 40; ((with_reducible refine (rputRow_any _ _ _ [q, e] 8 _ L1217 (by omega)).mono ?_); rintro en wc ⟨Ac, dc, rfl, sc, hc⟩; have hbc := bthen B1217 hc; have hrc := sc.same; have hoc := O1217.later hc))
      | (go_at_call 40; ((with_reducible refine (rputRow_any _ _ _ [q, e] 8 _ L1712 (by omega)).mono ?_); rintro en wc ⟨Ac, dc, rfl, sc, hc⟩; have hbc := bthen B1712 hc; have hrc := sc.same; have hoc := O1712.later hc))
      | (refine step_appD 19 rfl rfl (.tmp 12) (.tmp 18) 23 rfl W0.heap.size 5 info5 Tryd.underlying23 _ 1 (Num.put 5 1) rfl (by first | exact hoc | exact OW _ hbc.size) Ac (Num.putRow [q, e] 8).length dc (Num.putRow [q, e] 8) rfl (by first | exact hrc | exact hrc.alloc _) (by omega) (by first | exact hbc.size | exact (hbc.alloc hbc.size _).size) ?_
         intro vz wz hoz hbz0
         have hbz : Below W0.heap.size W0 wz := (by first | exact hbc.trans hbz0 | exact (hbc.alloc hbc.size _).trans hbz0)))
  all_goals
    clear KS B17 B12 B1217 B1712 L17 L1217 L1712 OW O1217 O1712
    have e0 := keepC hbz d0
    have e1 := keepC hbz d1
    have e2 := keepC hbz d2
    have e3 := keepC hbz d3
    have e4 := keepC hbz d4
    have e5 := keepC hbz d5
    have e6 := keepC hbz d6
    have e7 := keepC hbz d7
    have hbw := bthen hb01 hbz
    have hle := hbz.size
    go_wp2_with fail
    with_reducible refine (rput_any c 8 _).mono ?_
    have hl8 := put_len8 c
    rintro en w4 ⟨A4, d4, rfl, ho4, hb4⟩
    have hbz4 := bthen hbz hb4
    have hoz4 := hoz.later hb4
    have hr4 := ho4.same
    have f0 := keepC hb4 e0
    go_wp2_with (
      at_builtin
      refine wpList_app rfl (.tmp 62) (.tmp 65) 23 rfl W0.heap.size 5 info5 Tryd.underlying23 _ (1 + (Num.putRow [q, e] 8).length) ((Num.put 5 1 ++ Num.putRow [q, e] 8)) rfl hoz4 A4 (Num.put c 8).length d4 (Num.put c 8) rfl hr4 (by omega) hbz4.size ?_
      intro v5 w5 ho5 hb5
      have hb6 : Below W0.heap.size W0 w5 := hbz4.trans hb5
      have g0 := keepC hb6 d0)
    go_ret
    rw [← HR.out]
    exact Own.gives (ho5.mono hb01.size) (bthen hb01 hb6)

set_option maxHeartbeats 4000000 in
set_option maxRecDepth 100000 in
theorem rbytes6 (q e i t c : Int) (LA : Option Addr) (ln lc : Nat) (BA : Option Addr) (bn bc : Nat) (l : List Int) (b : List UInt8) (w : World) (hl : RdI w LA ln lc l) (hb : Rd w BA bn bc b) (hm : Item.may ⟨6, q, e, i, t, c, l, b⟩ = true) :
    Calls Tryd.prog 38 #[.agg #[.int .i64 6, .int .i64 q, .int .i64 e, .int .i64 i, .int .i64 t, .int .i64 c, .slice LA ln lc, .slice BA bn bc]] w (Gives w 5 ((Num.put 6 1 ++ Num.putRow [q, e] 8) ++ (Num.putRow l 8))) := by
  obtain ⟨hll, hbl⟩ := ask_len (may_ask hm)
  dsimp only at hll hbl
  have el := RdI.size hl
  have eb := hb.1
  obtain ⟨r, HR⟩ : ∃ r, Hid ((Num.put 6 1 ++ Num.putRow [q, e] 8) ++ (Num.putRow l 8) = r) := ⟨_, hidT rfl⟩
  rw [HR.out]
  have hg := alloc_at w (.cells #[.int .i64 6, .int .i64 q, .int .i64 e, .int .i64 i, .int .i64 t, .int .i64 c, .slice LA ln lc, .slice BA bn bc] 25) _ rfl
  have hb0 : Below w.heap.size w (w.alloc (.cells #[.int .i64 6, .int .i64 q, .int .i64 e, .int .i64 i, .int .i64 t, .int .i64 c, .slice LA ln lc, .slice BA bn bc] 25)) := (Below.refl _ _).alloc (Nat.le_refl _) _
  have hmay := rmay_any (.agg #[.int .i64 6, .int .i64 q, .int .i64 e, .int .i64 i, .int .i64 t, .int .i64 c, .slice LA ln lc, .slice BA bn bc]) ⟨6, q, e, i, t, c, l, b⟩ _ ⟨LA, ln, lc, BA, bn, bc, rfl, RdV.below hl hb0, hb.below hb0⟩
  rw [hm] at hmay
  obtain ⟨c0, c1, c2, c3, c4, c5, c6, c7⟩ := cells8 hg
  clear hg hm
  have hlen2 : (Num.putRow [q, e] 8).length ≤ 16 := putRow_len _ 8 16 (by simp)
  go_enter Tryd.func38, Tryd.ntmps38
  go_wp2_with fail
  with_reducible refine hmay.mono ?_
  rintro en w1 ⟨rfl, hb1⟩
  have d0 := keepC hb1 c0
  have d1 := keepC hb1 c1
  have d2 := keepC hb1 c2
  have d3 := keepC hb1 c3
  have d4 := keepC hb1 c4
  have d5 := keepC hb1 c5
  have d6 := keepC hb1 c6
  have d7 := keepC hb1 c7
  have hb01 := bthen hb0 hb1
  clear c0 c1 c2 c3 c4 c5 c6 c7 hmay hb1 hb0
  go_wp2
  generalize w1 = W0 at hb01 d0 d1 d2 d3 d4 d5 d6 d7 ⊢
  have hl0 := RdV.below hl hb01
  have hbb0 := hb.below hb01
  clear hl hb
  have KS : ∀ w', Below W0.heap.size W0 w' → w'.cell? ⟨w.heap.size, 0, none⟩ = some (.int .i64 6) ∧ w'.cell? ⟨w.heap.size, 1, none⟩ = some (.int .i64 q) ∧ w'.cell? ⟨w.heap.size, 2, none⟩ = some (.int .i64 e) ∧ Below W0.heap.size W0 w' := fun w' h => ⟨keepC h d0, keepC h d1, keepC h d2, h⟩
  have B17 : Below W0.heap.size W0 (W0.alloc (.cells #[.int .i64 q, .int .i64 e] 3)).drew := ((Below.refl _ _).alloc (Nat.le_refl _) _).drew
  have B12 : Below W0.heap.size W0 (W0.alloc (.cells #[.int .u8 (IntKind.u8.wrap 6)] 5)).drew := ((Below.refl _ _).alloc (Nat.le_refl _) _).drew
  have B1217 : Below W0.heap.size W0 ((W0.alloc (.cells #[.int .u8 (IntKind.u8.wrap 6)] 5)).alloc (.cells #[.int .i64 q, .int .i64 e] 3)).drew := (((Below.refl _ _).alloc (Nat.le_refl _) _).alloc (by rw [size_alloc]; omega) _).drew
  have B1712 : Below W0.heap.size W0 ((W0.alloc (.cells #[.int .i64 q, .int .i64 e] 3)).alloc (.cells #[.int .u8 (IntKind.u8.wrap 6)] 5)).drew := (((Below.refl _ _).alloc (Nat.le_refl _) _).alloc (by rw [size_alloc]; omega) _).drew
  have L17 : RdI (W0.alloc (.cells #[.int .i64 q, .int .i64 e] 3)).drew (some ⟨W0.heap.size, 0, none⟩) 2 2 [q, e] := RdV.drew (RdV.lit W0 3 (0, 0) _ _ rfl 2 rfl (by decide) _ rfl)
  have L1217 : RdI ((W0.alloc (.cells #[.int .u8 (IntKind.u8.wrap 6)] 5)).alloc (.cells #[.int .i64 q, .int .i64 e] 3)).drew (some ⟨W0.heap.size + 1, 0, none⟩) 2 2 [q, e] := RdV.drew (RdV.lit (W0.alloc (.cells #[.int .u8 (IntKind.u8.wrap 6)] 5)) 3 (0, 0) _ _ rfl 2 rfl (by decide) _ (size_alloc _ _))
  have L1712 : RdI ((W0.alloc (.cells #[.int .i64 q, .int .i64 e] 3)).alloc (.cells #[.int .u8 (IntKind.u8.wrap 6)] 5)).drew (some ⟨W0.heap.size, 0, none⟩) 2 2 [q, e] := RdV.drew (RdV.alloc (RdV.lit W0 3 (0, 0) _ _ rfl 2 rfl (by decide) _ rfl) _)
  have OW : ∀ u : World, W0.heap.size ≤ u.heap.size → Own (u.alloc (.cells #[.int .u8 (IntKind.u8.wrap 6)] 5)) W0.heap.size 5 (.slice (some ⟨u.heap.size, 0, none⟩) 1 1) 1 (Num.put 6 1) := fun u hu => World.ownsRow_lit (base := W0.heap.size) (e := 5) (size := 1) u #[.int .u8 (IntKind.u8.wrap 6)] 1 hu (by decide) rfl
  have O1217 : Own ((W0.alloc (.cells #[.int .u8 (IntKind.u8.wrap 6)] 5)).alloc (.cells #[.int .i64 q, .int .i64 e] 3)).drew W0.heap.size 5 (.slice (some ⟨W0.heap.size, 0, none⟩) 1 1) 1 (Num.put 6 1) := (OW W0 (Nat.le_refl _)).later (((Below.refl _ _).alloc (Nat.le_refl _) _).drew)
  have O1712 : Own ((W0.alloc (.cells #[.int .i64 q, .int .i64 e] 3)).alloc (.cells #[.int .u8 (IntKind.u8.wrap 6)] 5)).drew W0.heap.size 5 (.slice (some ⟨W0.heap.size + 1, 0, none⟩) 1 1) 1 (Num.put 6 1) := by
    have := (OW (W0.alloc (.cells #[.int .i64 q, .int .i64 e] 3)) (by rw [size_alloc]; omega)).later ((Below.refl _ _).drew)
    rw [size_alloc] at this
    exact this
  have hps : (Num.put 6 1).length = 1 := rfl
  go_region_held_law (fun w' => w'.cell? ⟨w.heap.size, 0, none⟩ = some (.int .i64 6) ∧ w'.cell? ⟨w.heap.size, 1, none⟩ = some (.int .i64 q) ∧ w'.cell? ⟨w.heap.size, 2, none⟩ = some (.int .i64 e) ∧ Below W0.heap.size W0 w')
    (first | exact KS _ (Below.refl _ _).drew | exact KS _ hbz | exact KS _ (hbc.alloc hbc.size _) | exact KS _ hbc | exact KS _ B1217 | exact KS _ B1712 | exact KS _ B17 | exact KS _ B12 | assumption)
    (first
      | (go_at_call 40; ((with_reducible refine (rputRow_any _ _ _ [q, e] 8 _ L17 (by omega)).mono ?_); rintro en wc ⟨Ac, dc, rfl, sc, hc⟩; have hbc := bthen B17 hc; have hrc := sc.same))
      | (go_at_call 40; ((with_reducible refine (rputRow_any _ _ _ [q, e] 8 _ L1217 (by omega)).mono ?_); rintro en wc ⟨Ac, dc, rfl, sc, hc⟩; have hbc := bthen B1217 hc; have hrc := sc.same; have hoc := O1217.later hc))
      | (go_at_call 40; ((with_reducible refine (rputRow_any _ _ _ [q, e] 8 _ L1712 (by omega)).mono ?_); rintro en wc ⟨Ac, dc, rfl, sc, hc⟩; have hbc := bthen B1712 hc; have hrc := sc.same; have hoc := O1712.later hc))
      | (refine step_appD 19 rfl rfl (.tmp 12) (.tmp 18) 23 rfl W0.heap.size 5 info5 Tryd.underlying23 _ 1 (Num.put 6 1) rfl (by first | exact hoc | exact OW _ hbc.size) Ac (Num.putRow [q, e] 8).length dc (Num.putRow [q, e] 8) rfl (by first | exact hrc | exact hrc.alloc _) (by omega) (by first | exact hbc.size | exact (hbc.alloc hbc.size _).size) ?_
         intro vz wz hoz hbz0
         have hbz : Below W0.heap.size W0 wz := (by first | exact hbc.trans hbz0 | exact (hbc.alloc hbc.size _).trans hbz0)))
  all_goals
    clear KS B17 B12 B1217 B1712 L17 L1217 L1712 OW O1217 O1712
    have e0 := keepC hbz d0
    have e1 := keepC hbz d1
    have e2 := keepC hbz d2
    have e3 := keepC hbz d3
    have e4 := keepC hbz d4
    have e5 := keepC hbz d5
    have e6 := keepC hbz d6
    have e7 := keepC hbz d7
    have hbw := bthen hb01 hbz
    have hle := hbz.size
    go_wp2_with fail
    with_reducible refine (rputRow_any LA ln lc l 8 _ (RdV.below hl0 hbz) (by omega)).mono ?_
    have hl8 : (Num.putRow l 8).length ≤ 512 := putRow_len _ 8 512 (by simp; omega)
    rintro en w4 ⟨A4, d4, rfl, ho4, hb4⟩
    have hbz4 := bthen hbz hb4
    have hoz4 := hoz.later hb4
    have hr4 := ho4.same
    have f0 := keepC hb4 e0
    go_wp2_with (
      at_builtin
      refine wpList_app rfl (.tmp 70) (.tmp 73) 23 rfl W0.heap.size 5 info5 Tryd.underlying23 _ (1 + (Num.putRow [q, e] 8).length) ((Num.put 6 1 ++ Num.putRow [q, e] 8)) rfl hoz4 A4 (Num.putRow l 8).length d4 (Num.putRow l 8) rfl hr4 (by omega) hbz4.size ?_
      intro v5 w5 ho5 hb5
      have hb6 : Below W0.heap.size W0 w5 := hbz4.trans hb5
      have g0 := keepC hb6 d0)
    go_ret
    rw [← HR.out]
    exact Own.gives (ho5.mono hb01.size) (bthen hb01 hb6)

end Go.Proofs.YtahkhideepncfaaDoor
