import Derived.Test.YtahkhideepncfaaDoorRD
import Derived.Test.YtahkhideepncfaaDoorNB
import Derived.Test.YtahkhideepncfaaDoorIF
import Derived.Test.YtahkhideepncfaaDoorIG
import Derived.Test.YtahkhideepncfaaDoorBA
set_option maxRecDepth 100000
/- What the document's Bytes comes to, kind by kind. (Written by wip/gen/refitem4.py.) -/
namespace Go.Proofs.YtahkhideepncfaaDoor
open Go.RowKit
set_option linter.unusedVariables false

set_option maxHeartbeats 4000000 in
set_option maxRecDepth 100000 in
theorem rbytes1 (q e i t c : Int) (LA : Option Addr) (ln lc : Nat) (BA : Option Addr) (bn bc : Nat) (l : List Int) (b : List UInt8) (w : World) (hl : RdI w LA ln lc l) (hb : Rd w BA bn bc b) (hm : Item.may ⟨1, q, e, i, t, c, l, b⟩ = true) :
    Calls Tryd.prog 38 #[.agg #[.int .i64 1, .int .i64 q, .int .i64 e, .int .i64 i, .int .i64 t, .int .i64 c, .slice LA ln lc, .slice BA bn bc]] w (Gives w 5 ((Num.put 1 1 ++ Num.putRow [q, e] 8) ++ (Num.putRow [i, t] 1 ++ b))) := by
  obtain ⟨hll, hbl⟩ := ask_len (may_ask hm)
  dsimp only at hll hbl
  have el := RdI.size hl
  have eb := hb.1
  have hbd : (1 ≤ t ∧ t ≤ 32) ∧ 0 ≤ i ∧ i < t := by
    have h := may_ask hm
    have h2 : Item.ask1 ⟨1, q, e, i, t, c, l, b⟩ = true := h
    rw [ask1_iff] at h2
    exact ⟨⟨h2.1, h2.2.1⟩, h2.2.2.1, h2.2.2.2.1⟩
  obtain ⟨⟨t1, t2⟩, i1, i2⟩ := hbd
  have HB : Hid (#[Value.int .u8 i, Value.int .u8 t] = (bs [UInt8.ofNat i.toNat, UInt8.ofNat t.toNat]).toArray) := hidT (byte2_cellI i t i1 (by omega) (by omega) (by omega))
  have HP : Hid (Num.putRow [i, t] 1 = [UInt8.ofNat i.toNat, UInt8.ofNat t.toNat]) := hidT (put_bytes2 i t i1 (by omega) (by omega) (by omega))
  obtain ⟨r, HR⟩ : ∃ r, Hid ((Num.put 1 1 ++ Num.putRow [q, e] 8) ++ (Num.putRow [i, t] 1 ++ b) = r) := ⟨_, hidT rfl⟩
  rw [HR.out]
  have hg := alloc_at w (.cells #[.int .i64 1, .int .i64 q, .int .i64 e, .int .i64 i, .int .i64 t, .int .i64 c, .slice LA ln lc, .slice BA bn bc] 25) _ rfl
  have hb0 : Below w.heap.size w (w.alloc (.cells #[.int .i64 1, .int .i64 q, .int .i64 e, .int .i64 i, .int .i64 t, .int .i64 c, .slice LA ln lc, .slice BA bn bc] 25)) := (Below.refl _ _).alloc (Nat.le_refl _) _
  have hmay := rmay_any (.agg #[.int .i64 1, .int .i64 q, .int .i64 e, .int .i64 i, .int .i64 t, .int .i64 c, .slice LA ln lc, .slice BA bn bc]) ⟨1, q, e, i, t, c, l, b⟩ _ ⟨LA, ln, lc, BA, bn, bc, rfl, RdV.below hl hb0, hb.below hb0⟩
  rw [hm] at hmay
  obtain ⟨c0, c1, c2, c3, c4, c5, c6, c7⟩ := cells8 hg
  clear hg hm
  have hlen2 : (Num.putRow [q, e] 8).length ≤ 16 := putRow_len _ 8 16 (by simp)
  go_enter Tryd.func38, Tryd.ntmps38
  go_wp2_with fail
  with_reducible refine hmay.mono ?_
  rintro en w1 ⟨rfl, hb1⟩
  have d0 := keepC hb1 c0
  have d1 := keepC hb1 c1
  have d2 := keepC hb1 c2
  have d3 := keepC hb1 c3
  have d4 := keepC hb1 c4
  have d5 := keepC hb1 c5
  have d6 := keepC hb1 c6
  have d7 := keepC hb1 c7
  have hb01 := bthen hb0 hb1
  clear c0 c1 c2 c3 c4 c5 c6 c7 hmay hb1 hb0
  go_wp2
  generalize w1 = W0 at hb01 d0 d1 d2 d3 d4 d5 d6 d7 ⊢
  have hl0 := RdV.below hl hb01
  have hbb0 := hb.below hb01
  clear hl hb
  have KS : ∀ w', Below W0.heap.size W0 w' → w'.cell? ⟨w.heap.size, 0, none⟩ = some (.int .i64 1) ∧ w'.cell? ⟨w.heap.size, 1, none⟩ = some (.int .i64 q) ∧ w'.cell? ⟨w.heap.size, 2, none⟩ = some (.int .i64 e) ∧ Below W0.heap.size W0 w' := fun w' h => ⟨keepC h d0, keepC h d1, keepC h d2, h⟩
  have B17 : Below W0.heap.size W0 (W0.alloc (.cells #[.int .i64 q, .int .i64 e] 3)).drew := ((Below.refl _ _).alloc (Nat.le_refl _) _).drew
  have B12 : Below W0.heap.size W0 (W0.alloc (.cells #[.int .u8 (IntKind.u8.wrap 1)] 5)).drew := ((Below.refl _ _).alloc (Nat.le_refl _) _).drew
  have B1217 : Below W0.heap.size W0 ((W0.alloc (.cells #[.int .u8 (IntKind.u8.wrap 1)] 5)).alloc (.cells #[.int .i64 q, .int .i64 e] 3)).drew := (((Below.refl _ _).alloc (Nat.le_refl _) _).alloc (by rw [size_alloc]; omega) _).drew
  have B1712 : Below W0.heap.size W0 ((W0.alloc (.cells #[.int .i64 q, .int .i64 e] 3)).alloc (.cells #[.int .u8 (IntKind.u8.wrap 1)] 5)).drew := (((Below.refl _ _).alloc (Nat.le_refl _) _).alloc (by rw [size_alloc]; omega) _).drew
  have L17 : RdI (W0.alloc (.cells #[.int .i64 q, .int .i64 e] 3)).drew (some ⟨W0.heap.size, 0, none⟩) 2 2 [q, e] := RdV.drew (RdV.lit W0 3 (0, 0) _ _ rfl 2 rfl (by decide) _ rfl)
  have L1217 : RdI ((W0.alloc (.cells #[.int .u8 (IntKind.u8.wrap 1)] 5)).alloc (.cells #[.int .i64 q, .int .i64 e] 3)).drew (some ⟨W0.heap.size + 1, 0, none⟩) 2 2 [q, e] := RdV.drew (RdV.lit (W0.alloc (.cells #[.int .u8 (IntKind.u8.wrap 1)] 5)) 3 (0, 0) _ _ rfl 2 rfl (by decide) _ (size_alloc _ _))
  have L1712 : RdI ((W0.alloc (.cells #[.int .i64 q, .int .i64 e] 3)).alloc (.cells #[.int .u8 (IntKind.u8.wrap 1)] 5)).drew (some ⟨W0.heap.size, 0, none⟩) 2 2 [q, e] := RdV.drew (RdV.alloc (RdV.lit W0 3 (0, 0) _ _ rfl 2 rfl (by decide) _ rfl) _)
  have OW : ∀ u : World, W0.heap.size ≤ u.heap.size → Own (u.alloc (.cells #[.int .u8 (IntKind.u8.wrap 1)] 5)) W0.heap.size 5 (.slice (some ⟨u.heap.size, 0, none⟩) 1 1) 1 (Num.put 1 1) := fun u hu => World.ownsRow_lit (base := W0.heap.size) (e := 5) (size := 1) u #[.int .u8 (IntKind.u8.wrap 1)] 1 hu (by decide) rfl
  have O1217 : Own ((W0.alloc (.cells #[.int .u8 (IntKind.u8.wrap 1)] 5)).alloc (.cells #[.int .i64 q, .int .i64 e] 3)).drew W0.heap.size 5 (.slice (some ⟨W0.heap.size, 0, none⟩) 1 1) 1 (Num.put 1 1) := (OW W0 (Nat.le_refl _)).later (((Below.refl _ _).alloc (Nat.le_refl _) _).drew)
  have O1712 : Own ((W0.alloc (.cells #[.int .i64 q, .int .i64 e] 3)).alloc (.cells #[.int .u8 (IntKind.u8.wrap 1)] 5)).drew W0.heap.size 5 (.slice (some ⟨W0.heap.size + 1, 0, none⟩) 1 1) 1 (Num.put 1 1) := by
    have := (OW (W0.alloc (.cells #[.int .i64 q, .int .i64 e] 3)) (by rw [size_alloc]; omega)).later ((Below.refl _ _).drew)
    rw [size_alloc] at this
    exact this
  have hps : (Num.put 1 1).length = 1 := rfl
  go_region_held_law (fun w' => w'.cell? ⟨w.heap.size, 0, none⟩ = some (.int .i64 1) ∧ w'.cell? ⟨w.heap.size, 1, none⟩ = some (.int .i64 q) ∧ w'.cell? ⟨w.heap.size, 2, none⟩ = some (.int .i64 e) ∧ Below W0.heap.size W0 w')
    (first | exact KS _ (Below.refl _ _).drew | exact KS _ hbz | exact KS _ (hbc.alloc hbc.size _) | exact KS _ hbc | exact KS _ B1217 | exact KS _ B1712 | exact KS _ B17 | exact KS _ B12 | assumption)
    (first
      | (go_at_call 40; ((with_reducible refine (rputRow_any _ _ _ [q, e] 8 _ L17 (by omega)).mono ?_); rintro en wc ⟨Ac, dc, rfl, sc, hc⟩; have hbc := bthen B17 hc; have hrc := sc.same))
      | (go_at_call 40; ((with_reducible refine (rputRow_any _ _ _ [q, e] 8 _ L1217 (by omega)).mono ?_); rintro en wc ⟨Ac, dc, rfl, sc, hc⟩; have hbc := bthen B1217 hc; have hrc := sc.same; have hoc := O1217.later hc))
      | (go_at_call 40; ((with_reducible refine (rputRow_any _ _ _ [q, e] 8 _ L1712 (by omega)).mono ?_); rintro en wc ⟨Ac, dc, rfl, sc, hc⟩; have hbc := bthen B1712 hc; have hrc := sc.same; have hoc := O1712.later hc))
      | (refine step_appD 19 rfl rfl (.tmp 12) (.tmp 18) 23 rfl W0.heap.size 5 info5 Tryd.underlying23 _ 1 (Num.put 1 1) rfl (by first | exact hoc | exact OW _ hbc.size) Ac (Num.putRow [q, e] 8).length dc (Num.putRow [q, e] 8) rfl (by first | exact hrc | exact hrc.alloc _) (by omega) (by first | exact hbc.size | exact (hbc.alloc hbc.size _).size) ?_
         intro vz wz hoz hbz0
         have hbz : Below W0.heap.size W0 wz := (by first | exact hbc.trans hbz0 | exact (hbc.alloc hbc.size _).trans hbz0)))
  all_goals
    clear KS B17 B12 B1217 B1712 L17 L1217 L1712 OW O1217 O1712
    have e0 := keepC hbz d0
    have e1 := keepC hbz d1
    have e2 := keepC hbz d2
    have e3 := keepC hbz d3
    have e4 := keepC hbz d4
    have e5 := keepC hbz d5
    have e6 := keepC hbz d6
    have e7 := keepC hbz d7
    have hbw := bthen hb01 hbz
    have hle := hbz.size
    go_wp2_with (first
      | (at_builtin
         refine wpList_app rfl (.tmp 23) (.tmp 30) 23 rfl W0.heap.size 5 info5 Tryd.underlying23 _ (1 + (Num.putRow [q, e] 8).length) ((Num.put 1 1 ++ Num.putRow [q, e] 8)) rfl (hoz.later ((Below.refl _ _).alloc (Nat.le_refl _) _)) _ 2 2 ([UInt8.ofNat i.toNat, UInt8.ofNat t.toNat]) rfl (Rd.litAt _ _ _ _ _ HB.out 2 rfl (by decide) _ rfl) (by omega) (Nat.le_trans hle (by rw [size_alloc]; omega)) ?_
         intro v5 w5 ho5 hb5
         have hb6 : Below W0.heap.size W0 w5 := (hbz.alloc hle _).trans hb5
         have g7 := keepC hb6 d7)
      | (at_builtin
         refine wpList_app rfl (.tmp 32) (.tmp 34) 23 rfl W0.heap.size 5 info5 Tryd.underlying23 _ (1 + (Num.putRow [q, e] 8).length + 2) ((Num.put 1 1 ++ Num.putRow [q, e] 8) ++ [UInt8.ofNat i.toNat, UInt8.ofNat t.toNat]) rfl ho5 BA bn bc b rfl (hbb0.below hb6) (by omega) hb6.size ?_
         intro v7 w7 ho7 hb7
         have hb8 : Below W0.heap.size W0 w7 := hb6.trans hb7
         have g0 := keepC hb8 d0))
    go_ret
    rw [← HR.out, HP.out, ← List.append_assoc]
    exact Own.gives (ho7.mono hb01.size) (bthen hb01 hb8)

end Go.Proofs.YtahkhideepncfaaDoor
/- What the document's Bytes comes to, kind by kind. (Written by wip/gen/refitem4.py.) -/
namespace Go.Proofs.YtahkhideepncfaaDoor
open Go.RowKit
set_option linter.unusedVariables false

set_option maxHeartbeats 4000000 in
set_option maxRecDepth 100000 in
theorem rbytes2 (q e i t c : Int) (LA : Option Addr) (ln lc : Nat) (BA : Option Addr) (bn bc : Nat) (l : List Int) (b : List UInt8) (w : World) (hl : RdI w LA ln lc l) (hb : Rd w BA bn bc b) (hm : Item.may ⟨2, q, e, i, t, c, l, b⟩ = true) :
    Calls Tryd.prog 38 #[.agg #[.int .i64 2, .int .i64 q, .int .i64 e, .int .i64 i, .int .i64 t, .int .i64 c, .slice LA ln lc, .slice BA bn bc]] w (Gives w 5 ((Num.put 2 1 ++ Num.putRow [q, e] 8) ++ (Num.put i 1 ++ Num.putRow l 1))) := by
  obtain ⟨hll, hbl⟩ := ask_len (may_ask hm)
  dsimp only at hll hbl
  have el := RdI.size hl
  have eb := hb.1
  have hbd : 0 ≤ i ∧ i ≤ 1 := by
    have h := may_ask hm
    have h2 : Item.askN ⟨2, q, e, i, t, c, l, b⟩ 1 0 1 64 63 = true := h
    rw [askSome_iff] at h2
    exact ⟨h2.2.1, h2.2.2.1⟩
  have HB : Hid (#[Value.int .u8 i] = (bs [UInt8.ofNat i.toNat]).toArray) := hidT (byte_cellI i hbd.1 (by have := hbd.2; omega))
  have HP : Hid (Num.put i 1 = [UInt8.ofNat i.toNat]) := hidT (put_byteI i hbd.1 (by have := hbd.2; omega))
  obtain ⟨r, HR⟩ : ∃ r, Hid ((Num.put 2 1 ++ Num.putRow [q, e] 8) ++ (Num.put i 1 ++ Num.putRow l 1) = r) := ⟨_, hidT rfl⟩
  rw [HR.out]
  have hg := alloc_at w (.cells #[.int .i64 2, .int .i64 q, .int .i64 e, .int .i64 i, .int .i64 t, .int .i64 c, .slice LA ln lc, .slice BA bn bc] 25) _ rfl
  have hb0 : Below w.heap.size w (w.alloc (.cells #[.int .i64 2, .int .i64 q, .int .i64 e, .int .i64 i, .int .i64 t, .int .i64 c, .slice LA ln lc, .slice BA bn bc] 25)) := (Below.refl _ _).alloc (Nat.le_refl _) _
  have hmay := rmay_any (.agg #[.int .i64 2, .int .i64 q, .int .i64 e, .int .i64 i, .int .i64 t, .int .i64 c, .slice LA ln lc, .slice BA bn bc]) ⟨2, q, e, i, t, c, l, b⟩ _ ⟨LA, ln, lc, BA, bn, bc, rfl, RdV.below hl hb0, hb.below hb0⟩
  rw [hm] at hmay
  obtain ⟨c0, c1, c2, c3, c4, c5, c6, c7⟩ := cells8 hg
  clear hg hm
  have hlen2 : (Num.putRow [q, e] 8).length ≤ 16 := putRow_len _ 8 16 (by simp)
  go_enter Tryd.func38, Tryd.ntmps38
  go_wp2_with fail
  with_reducible refine hmay.mono ?_
  rintro en w1 ⟨rfl, hb1⟩
  have d0 := keepC hb1 c0
  have d1 := keepC hb1 c1
  have d2 := keepC hb1 c2
  have d3 := keepC hb1 c3
  have d4 := keepC hb1 c4
  have d5 := keepC hb1 c5
  have d6 := keepC hb1 c6
  have d7 := keepC hb1 c7
  have hb01 := bthen hb0 hb1
  clear c0 c1 c2 c3 c4 c5 c6 c7 hmay hb1 hb0
  go_wp2
  generalize w1 = W0 at hb01 d0 d1 d2 d3 d4 d5 d6 d7 ⊢
  have hl0 := RdV.below hl hb01
  have hbb0 := hb.below hb01
  clear hl hb
  have KS : ∀ w', Below W0.heap.size W0 w' → w'.cell? ⟨w.heap.size, 0, none⟩ = some (.int .i64 2) ∧ w'.cell? ⟨w.heap.size, 1, none⟩ = some (.int .i64 q) ∧ w'.cell? ⟨w.heap.size, 2, none⟩ = some (.int .i64 e) ∧ Below W0.heap.size W0 w' := fun w' h => ⟨keepC h d0, keepC h d1, keepC h d2, h⟩
  have B17 : Below W0.heap.size W0 (W0.alloc (.cells #[.int .i64 q, .int .i64 e] 3)).drew := ((Below.refl _ _).alloc (Nat.le_refl _) _).drew
  have B12 : Below W0.heap.size W0 (W0.alloc (.cells #[.int .u8 (IntKind.u8.wrap 2)] 5)).drew := ((Below.refl _ _).alloc (Nat.le_refl _) _).drew
  have B1217 : Below W0.heap.size W0 ((W0.alloc (.cells #[.int .u8 (IntKind.u8.wrap 2)] 5)).alloc (.cells #[.int .i64 q, .int .i64 e] 3)).drew := (((Below.refl _ _).alloc (Nat.le_refl _) _).alloc (by rw [size_alloc]; omega) _).drew
  have B1712 : Below W0.heap.size W0 ((W0.alloc (.cells #[.int .i64 q, .int .i64 e] 3)).alloc (.cells #[.int .u8 (IntKind.u8.wrap 2)] 5)).drew := (((Below.refl _ _).alloc (Nat.le_refl _) _).alloc (by rw [size_alloc]; omega) _).drew
  have L17 : RdI (W0.alloc (.cells #[.int .i64 q, .int .i64 e] 3)).drew (some ⟨W0.heap.size, 0, none⟩) 2 2 [q, e] := RdV.drew (RdV.lit W0 3 (0, 0) _ _ rfl 2 rfl (by decide) _ rfl)
  have L1217 : RdI ((W0.alloc (.cells #[.int .u8 (IntKind.u8.wrap 2)] 5)).alloc (.cells #[.int .i64 q, .int .i64 e] 3)).drew (some ⟨W0.heap.size + 1, 0, none⟩) 2 2 [q, e] := RdV.drew (RdV.lit (W0.alloc (.cells #[.int .u8 (IntKind.u8.wrap 2)] 5)) 3 (0, 0) _ _ rfl 2 rfl (by decide) _ (size_alloc _ _))
  have L1712 : RdI ((W0.alloc (.cells #[.int .i64 q, .int .i64 e] 3)).alloc (.cells #[.int .u8 (IntKind.u8.wrap 2)] 5)).drew (some ⟨W0.heap.size, 0, none⟩) 2 2 [q, e] := RdV.drew (RdV.alloc (RdV.lit W0 3 (0, 0) _ _ rfl 2 rfl (by decide) _ rfl) _)
  have OW : ∀ u : World, W0.heap.size ≤ u.heap.size → Own (u.alloc (.cells #[.int .u8 (IntKind.u8.wrap 2)] 5)) W0.heap.size 5 (.slice (some ⟨u.heap.size, 0, none⟩) 1 1) 1 (Num.put 2 1) := fun u hu => World.ownsRow_lit (base := W0.heap.size) (e := 5) (size := 1) u #[.int .u8 (IntKind.u8.wrap 2)] 1 hu (by decide) rfl
  have O1217 : Own ((W0.alloc (.cells #[.int .u8 (IntKind.u8.wrap 2)] 5)).alloc (.cells #[.int .i64 q, .int .i64 e] 3)).drew W0.heap.size 5 (.slice (some ⟨W0.heap.size, 0, none⟩) 1 1) 1 (Num.put 2 1) := (OW W0 (Nat.le_refl _)).later (((Below.refl _ _).alloc (Nat.le_refl _) _).drew)
  have O1712 : Own ((W0.alloc (.cells #[.int .i64 q, .int .i64 e] 3)).alloc (.cells #[.int .u8 (IntKind.u8.wrap 2)] 5)).drew W0.heap.size 5 (.slice (some ⟨W0.heap.size + 1, 0, none⟩) 1 1) 1 (Num.put 2 1) := by
    have := (OW (W0.alloc (.cells #[.int .i64 q, .int .i64 e] 3)) (by rw [size_alloc]; omega)).later ((Below.refl _ _).drew)
    rw [size_alloc] at this
    exact this
  have hps : (Num.put 2 1).length = 1 := rfl
  go_region_held_law (fun w' => w'.cell? ⟨w.heap.size, 0, none⟩ = some (.int .i64 2) ∧ w'.cell? ⟨w.heap.size, 1, none⟩ = some (.int .i64 q) ∧ w'.cell? ⟨w.heap.size, 2, none⟩ = some (.int .i64 e) ∧ Below W0.heap.size W0 w')
    (first | exact KS _ (Below.refl _ _).drew | exact KS _ hbz | exact KS _ (hbc.alloc hbc.size _) | exact KS _ hbc | exact KS _ B1217 | exact KS _ B1712 | exact KS _ B17 | exact KS _ B12 | assumption)
    (first
      | (go_at_call 40; ((with_reducible refine (rputRow_any _ _ _ [q, e] 8 _ L17 (by omega)).mono ?_); rintro en wc ⟨Ac, dc, rfl, sc, hc⟩; have hbc := bthen B17 hc; have hrc := sc.same))
      | (go_at_call 40; ((with_reducible refine (rputRow_any _ _ _ [q, e] 8 _ L1217 (by omega)).mono ?_); rintro en wc ⟨Ac, dc, rfl, sc, hc⟩; have hbc := bthen B1217 hc; have hrc := sc.same; have hoc := O1217.later hc))
      | (go_at_call 40; ((with_reducible refine (rputRow_any _ _ _ [q, e] 8 _ L1712 (by omega)).mono ?_); rintro en wc ⟨Ac, dc, rfl, sc, hc⟩; have hbc := bthen B1712 hc; have hrc := sc.same; have hoc := O1712.later hc))
      | (refine step_appD 19 rfl rfl (.tmp 12) (.tmp 18) 23 rfl W0.heap.size 5 info5 Tryd.underlying23 _ 1 (Num.put 2 1) rfl (by first | exact hoc | exact OW _ hbc.size) Ac (Num.putRow [q, e] 8).length dc (Num.putRow [q, e] 8) rfl (by first | exact hrc | exact hrc.alloc _) (by omega) (by first | exact hbc.size | exact (hbc.alloc hbc.size _).size) ?_
         intro vz wz hoz hbz0
         have hbz : Below W0.heap.size W0 wz := (by first | exact hbc.trans hbz0 | exact (hbc.alloc hbc.size _).trans hbz0)))
  all_goals
    clear KS B17 B12 B1217 B1712 L17 L1217 L1712 OW O1217 O1712
    have e0 := keepC hbz d0
    have e1 := keepC hbz d1
    have e2 := keepC hbz d2
    have e3 := keepC hbz d3
    have e4 := keepC hbz d4
    have e5 := keepC hbz d5
    have e6 := keepC hbz d6
    have e7 := keepC hbz d7
    have hbw := bthen hb01 hbz
    have hle := hbz.size
    have hl8 : (Num.putRow l 1).length ≤ 64 := putRow_len _ 1 64 (by simp; omega)
    go_wp2_with (
      at_builtin
      refine wpList_app rfl (.tmp 39) (.tmp 43) 23 rfl W0.heap.size 5 info5 Tryd.underlying23 _ (1 + (Num.putRow [q, e] 8).length) ((Num.put 2 1 ++ Num.putRow [q, e] 8)) rfl (hoz.later ((Below.refl _ _).alloc (Nat.le_refl _) _)) _ 1 1 ([UInt8.ofNat i.toNat]) rfl (Rd.litAt _ _ _ _ _ HB.out 1 rfl (by decide) _ rfl) (by omega) (Nat.le_trans hle (by rw [size_alloc]; omega)) ?_
      intro v5 w5 ho5 hb5
      have hb6 : Below W0.heap.size W0 w5 := (hbz.alloc hle _).trans hb5
      have g6 := keepC hb6 d6)
    with_reducible refine (rputRow_any LA ln lc l 1 _ (RdV.below hl0 hb6) (by omega)).mono ?_
    rintro en w7 ⟨A7, d7', rfl, ho7, hb7⟩
    have hb8 := bthen hb6 hb7
    have ho5' := ho5.later hb7
    have hr7 := ho7.same
    go_wp2_with (
      at_builtin
      refine wpList_app rfl (.tmp 45) (.tmp 48) 23 rfl W0.heap.size 5 info5 Tryd.underlying23 _ (1 + (Num.putRow [q, e] 8).length + 1) ((Num.put 2 1 ++ Num.putRow [q, e] 8) ++ [UInt8.ofNat i.toNat]) rfl ho5' A7 (Num.putRow l 1).length d7' (Num.putRow l 1) rfl hr7 (by omega) hb8.size ?_
      intro v9 w9 ho9 hb9
      have hb10 : Below W0.heap.size W0 w9 := hb8.trans hb9
      have g0 := keepC hb10 d0)
    go_ret
    rw [← HR.out, HP.out, ← List.append_assoc]
    exact Own.gives (ho9.mono hb01.size) (bthen hb01 hb10)

end Go.Proofs.YtahkhideepncfaaDoor
