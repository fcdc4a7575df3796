import Derived.Test.YtahkhideepncfaaDoorRA
import Derived.Test.YtahkhideepncfaaDoorRB
import Derived.Test.YtahkhideepncfaaDoorRC
import Derived.Test.YtahkhideepncfaaDoorNB
import Derived.Test.YtahkhideepncfaaDoorIF
import Derived.Test.YtahkhideepncfaaDoorIG
import Derived.Test.YtahkhideepncfaaDoorBA
set_option maxRecDepth 100000
/- What the document's May comes to. (Written by wip/gen/refitem3.py.) -/
namespace Go.Proofs.YtahkhideepncfaaDoor
open Go.RowKit
set_option linter.unusedVariables false

theorem allIn_nil {l : List Int} {top : Int} (h : l.length = 0) : Item.allIn l top = true := by
  have := List.eq_nil_of_length_eq_zero h
  subst this
  rfl
theorem list_none {l : List Int} {top : Int} : Item.list l 0 0 top = true ↔ l.length = 0 := by
  simp only [Item.list, Bool.and_eq_true, Item.win_iff]
  constructor
  · rintro ⟨h, _⟩; omega
  · intro h; exact ⟨by omega, allIn_nil h⟩
theorem list_some {l : List Int} {lo hi top : Int} : Item.list l lo hi top = true ↔ (Item.allIn l top = true ∧ lo ≤ l.length ∧ (l.length : Int) ≤ hi) := by
  simp only [Item.list, Bool.and_eq_true, Item.win_iff]
  constructor
  · rintro ⟨h, g⟩; exact ⟨g, h⟩
  · rintro ⟨g, h⟩; exact ⟨h, g⟩
theorem body_iff {b : List UInt8} {n : Int} : Item.body b n = true ↔ (b.length : Int) ≤ n := by simp [Item.body]
theorem ask1_iff {x : Item.It} : Item.ask1 x = true ↔ (1 ≤ x.t ∧ x.t ≤ 32 ∧ 0 ≤ x.i ∧ x.i < x.t ∧ x.c = 0 ∧ x.l.length = 0 ∧ x.b.length ≤ 1024) := by
  simp only [Item.ask1, Bool.and_eq_true, Item.win_iff, list_none, body_iff]
  omega
theorem askNone_iff {x : Item.It} {im cm : Int} : Item.askN x im cm 0 0 0 = true ↔ (x.l.length = 0 ∧ x.b.length = 0 ∧ 0 ≤ x.i ∧ x.i ≤ im ∧ x.t = 0 ∧ 0 ≤ x.c ∧ x.c ≤ cm) := by
  simp only [Item.askN, Bool.and_eq_true, Item.win_iff, list_none, body_iff]
  omega
theorem askSome_iff {x : Item.It} {im lo hi top : Int} : Item.askN x im 0 lo hi top = true ↔ (Item.allIn x.l top = true ∧ 0 ≤ x.i ∧ x.i ≤ im ∧ x.t = 0 ∧ x.c = 0 ∧ x.b.length = 0 ∧ lo ≤ x.l.length ∧ (x.l.length : Int) ≤ hi) := by
  simp only [Item.askN, Bool.and_eq_true, Item.win_iff, list_some, body_iff]
  constructor
  · rintro ⟨h1, h2, h3, ⟨h4, h5⟩, h6⟩; exact ⟨h4, by omega, by omega, by omega, by omega, by omega, h5⟩
  · rintro ⟨h1, h2, h3, h4, h5, h6, h7⟩; exact ⟨by omega, by omega, by omega, ⟨h1, h7⟩, by omega⟩
theorem may_in {x : Item.It} (h1 : 1 ≤ x.q) (h2 : x.q ≤ 4611686018427387904) (h3 : 0 ≤ x.e) (h4 : x.e ≤ 4611686018427387904) : Item.may x = Item.ask x := by
  simp [Item.may, Item.win, h1, h2, h3, h4]

theorem rmay_any (v : Value) (x : Item.It) (w : World) (h : IsItem w v x) : Calls Tryd.prog 31 #[v] w (BoolIs w (Item.may x)) := by
  obtain ⟨LA, ln, lc, BA, bn, bc, rfl, hl, hb⟩ := h
  have el := RdI.size hl
  have eb := hb.1
  by_cases hr : x.q < 1 ∨ 4611686018427387904 < x.q ∨ x.e < 0 ∨ 4611686018427387904 < x.e
  · have e : Item.may x = false := by
      cases hm : Item.may x with
      | false => rfl
      | true =>
        simp only [Item.may, Bool.and_eq_true, Item.win_iff] at hm
        omega
    rw [e]
    exact rmay_out x.k x.q x.e x.i x.t x.c LA ln lc BA bn bc w hr
  have h1 : 1 ≤ x.q := by omega
  have h2 : x.q ≤ 4611686018427387904 := by omega
  have h3 : 0 ≤ x.e := by omega
  have h4 : x.e ≤ 4611686018427387904 := by omega
  rw [may_in h1 h2 h3 h4]
  obtain ⟨k, q, e, i, t, c, l, b⟩ := x
  dsimp only at *
  by_cases k1 : k = 1
  · subst k1
    refine rmay1 q e i t c LA ln lc BA bn bc l b w hl hb _ h1 h2 h3 h4 (hidT ?_)
    rw [ask_at rfl, if_pos rfl, ask1_iff]
    dsimp only
    rw [el, eb]
  by_cases k2 : k = 2
  · subst k2
    refine rmay2 q e i t c LA ln lc BA bn bc l b w hl hb _ h1 h2 h3 h4 (hidT ?_)
    show Item.askN _ 1 0 1 64 63 = true ↔ _
    rw [askSome_iff]
    dsimp only
    rw [el, eb]
    constructor
    · rintro ⟨g1, g2, g3, g4, g5, g6, g7, g8⟩; exact ⟨g1, g2, g3, g4, g5, g6, by omega, by omega⟩
    · rintro ⟨g1, g2, g3, g4, g5, g6, g7, g8⟩; exact ⟨g1, g2, g3, g4, g5, g6, by omega, by omega⟩
  by_cases k3 : k = 3
  · subst k3
    refine rmay3 q e i t c LA ln lc BA bn bc l b w hl hb _ h1 h2 h3 h4 (hidT ?_)
    show Item.askN _ 0 0 0 0 0 = true ↔ _
    rw [askNone_iff]
    dsimp only
    omega
  by_cases k4 : k = 4
  · subst k4
    refine rmay4 q e i t c LA ln lc BA bn bc l b w hl hb _ h1 h2 h3 h4 (hidT ?_)
    show Item.askN _ 1 0 0 0 0 = true ↔ _
    rw [askNone_iff]
    dsimp only
    omega
  by_cases k5 : k = 5
  · subst k5
    refine rmay5 q e i t c LA ln lc BA bn bc l b w hl hb _ h1 h2 h3 h4 (hidT ?_)
    show Item.askN _ 0 4611686018427387904 0 0 0 = true ↔ _
    rw [askNone_iff]
    dsimp only
    omega
  by_cases k6 : k = 6
  · subst k6
    refine rmay6 q e i t c LA ln lc BA bn bc l b w hl hb _ h1 h2 h3 h4 (hidT ?_)
    show Item.askN _ 0 0 2 64 4611686018427387904 = true ↔ _
    rw [askSome_iff]
    dsimp only
    rw [el, eb]
    constructor
    · rintro ⟨g1, g2, g3, g4, g5, g6, g7, g8⟩; exact ⟨g1, by omega, g4, g5, g6, by omega, by omega⟩
    · rintro ⟨g1, g2, g4, g5, g6, g7, g8⟩; exact ⟨g1, by omega, by omega, g4, g5, g6, by omega, by omega⟩
  exact rmay0 k q e i t c LA ln lc BA bn bc l b w hl hb _ h1 h2 h3 h4 (hidT (ask_none k1 k2 k3 k4 k5 k6)) k1 k2 k3 k4 k5 k6
end Go.Proofs.YtahkhideepncfaaDoor
/- What the document's Bytes comes to, kind by kind. (Written by wip/gen/refitem4.py.) -/
namespace Go.Proofs.YtahkhideepncfaaDoor
open Go.RowKit
set_option linter.unusedVariables false

theorem byte_cell (m : Nat) : #[Value.int .u8 (IntKind.u8.wrap (m : Int))] = (bs [UInt8.ofNat m]).toArray := by
  have e : IntKind.u8.wrap (m : Int) = ((UInt8.ofNat m).toNat : Int) := by
    rw [UInt8.toNat_ofNat', IntKind.wrap]
    simp [IntKind.bits, IntKind.signed]
  rw [e]
  rfl
theorem put_byte (m : Nat) (h : m ≤ 255) : Num.put (m : Int) 1 = [UInt8.ofNat m] := by
  have hf : Num.fits (m : Int) 1 = true := by
    simp [Num.fits, Num.most]
    omega
  rw [Num.put, if_pos hf]
  simp [Num.be]
theorem byte_cellI (i : Int) (h : 0 ≤ i) (h2 : i ≤ 255) : #[Value.int .u8 i] = (bs [UInt8.ofNat i.toNat]).toArray := by
  have := byte_cell i.toNat
  rw [Int.toNat_of_nonneg h] at this
  rw [← this]
  simp [IntKind.wrap, IntKind.bits, IntKind.signed]
  omega
theorem put_byteI (i : Int) (h : 0 ≤ i) (h2 : i ≤ 255) : Num.put i 1 = [UInt8.ofNat i.toNat] := by
  have := put_byte i.toNat (by omega)
  rwa [Int.toNat_of_nonneg h] at this
theorem byte2_cellI (i t : Int) (h : 0 ≤ i) (hi : i ≤ 255) (h2 : 0 ≤ t) (ht : t ≤ 255) : #[Value.int .u8 i, Value.int .u8 t] = (bs [UInt8.ofNat i.toNat, UInt8.ofNat t.toNat]).toArray := by
  have e1 := byte_cellI i h hi
  have e2 := byte_cellI t h2 ht
  injection e1 with e1
  injection e2 with e2
  injection e1 with e1 _
  injection e2 with e2 _
  rw [e1, e2]
  rfl
theorem put_bytes2 (i t : Int) (h : 0 ≤ i) (hi : i ≤ 255) (h2 : 0 ≤ t) (ht : t ≤ 255) : Num.putRow [i, t] 1 = [UInt8.ofNat i.toNat, UInt8.ofNat t.toNat] := by
  have f1 : Num.fits i 1 = true := by simp [Num.fits, Num.most]; omega
  have f2 : Num.fits t 1 = true := by simp [Num.fits, Num.most]; omega
  unfold Num.putRow
  rw [if_pos (by simp [f1, f2])]
  simp [put_byteI i h hi, put_byteI t h2 ht]
set_option maxHeartbeats 4000000 in
set_option maxRecDepth 100000 in
theorem rbytes3 (q e i t c : Int) (LA : Option Addr) (ln lc : Nat) (BA : Option Addr) (bn bc : Nat) (l : List Int) (b : List UInt8) (w : World) (hl : RdI w LA ln lc l) (hb : Rd w BA bn bc b) (hm : Item.may ⟨3, q, e, i, t, c, l, b⟩ = true) :
    Calls Tryd.prog 38 #[.agg #[.int .i64 3, .int .i64 q, .int .i64 e, .int .i64 i, .int .i64 t, .int .i64 c, .slice LA ln lc, .slice BA bn bc]] w (Gives w 5 ((Num.put 3 1 ++ Num.putRow [q, e] 8))) := by
  obtain ⟨hll, hbl⟩ := ask_len (may_ask hm)
  dsimp only at hll hbl
  have el := RdI.size hl
  have eb := hb.1
  obtain ⟨r, HR⟩ : ∃ r, Hid ((Num.put 3 1 ++ Num.putRow [q, e] 8) = r) := ⟨_, hidT rfl⟩
  rw [HR.out]
  have hg := alloc_at w (.cells #[.int .i64 3, .int .i64 q, .int .i64 e, .int .i64 i, .int .i64 t, .int .i64 c, .slice LA ln lc, .slice BA bn bc] 25) _ rfl
  have hb0 : Below w.heap.size w (w.alloc (.cells #[.int .i64 3, .int .i64 q, .int .i64 e, .int .i64 i, .int .i64 t, .int .i64 c, .slice LA ln lc, .slice BA bn bc] 25)) := (Below.refl _ _).alloc (Nat.le_refl _) _
  have hmay := rmay_any (.agg #[.int .i64 3, .int .i64 q, .int .i64 e, .int .i64 i, .int .i64 t, .int .i64 c, .slice LA ln lc, .slice BA bn bc]) ⟨3, q, e, i, t, c, l, b⟩ _ ⟨LA, ln, lc, BA, bn, bc, rfl, RdV.below hl hb0, hb.below hb0⟩
  rw [hm] at hmay
  obtain ⟨c0, c1, c2, c3, c4, c5, c6, c7⟩ := cells8 hg
  clear hg hm
  have hlen2 : (Num.putRow [q, e] 8).length ≤ 16 := putRow_len _ 8 16 (by simp)
  go_enter Tryd.func38, Tryd.ntmps38
  go_wp2_with fail
  with_reducible refine hmay.mono ?_
  rintro en w1 ⟨rfl, hb1⟩
  have d0 := keepC hb1 c0
  have d1 := keepC hb1 c1
  have d2 := keepC hb1 c2
  have d3 := keepC hb1 c3
  have d4 := keepC hb1 c4
  have d5 := keepC hb1 c5
  have d6 := keepC hb1 c6
  have d7 := keepC hb1 c7
  have hb01 := bthen hb0 hb1
  clear c0 c1 c2 c3 c4 c5 c6 c7 hmay hb1 hb0
  go_wp2
  generalize w1 = W0 at hb01 d0 d1 d2 d3 d4 d5 d6 d7 ⊢
  have hl0 := RdV.below hl hb01
  have hbb0 := hb.below hb01
  clear hl hb
  have KS : ∀ w', Below W0.heap.size W0 w' → w'.cell? ⟨w.heap.size, 0, none⟩ = some (.int .i64 3) ∧ w'.cell? ⟨w.heap.size, 1, none⟩ = some (.int .i64 q) ∧ w'.cell? ⟨w.heap.size, 2, none⟩ = some (.int .i64 e) ∧ Below W0.heap.size W0 w' := fun w' h => ⟨keepC h d0, keepC h d1, keepC h d2, h⟩
  have B17 : Below W0.heap.size W0 (W0.alloc (.cells #[.int .i64 q, .int .i64 e] 3)).drew := ((Below.refl _ _).alloc (Nat.le_refl _) _).drew
  have B12 : Below W0.heap.size W0 (W0.alloc (.cells #[.int .u8 (IntKind.u8.wrap 3)] 5)).drew := ((Below.refl _ _).alloc (Nat.le_refl _) _).drew
  have B1217 : Below W0.heap.size W0 ((W0.alloc (.cells #[.int .u8 (IntKind.u8.wrap 3)] 5)).alloc (.cells #[.int .i64 q, .int .i64 e] 3)).drew := (((Below.refl _ _).alloc (Nat.le_refl _) _).alloc (by rw [size_alloc]; omega) _).drew
  have B1712 : Below W0.heap.size W0 ((W0.alloc (.cells #[.int .i64 q, .int .i64 e] 3)).alloc (.cells #[.int .u8 (IntKind.u8.wrap 3)] 5)).drew := (((Below.refl _ _).alloc (Nat.le_refl _) _).alloc (by rw [size_alloc]; omega) _).drew
  have L17 : RdI (W0.alloc (.cells #[.int .i64 q, .int .i64 e] 3)).drew (some ⟨W0.heap.size, 0, none⟩) 2 2 [q, e] := RdV.drew (RdV.lit W0 3 (0, 0) _ _ rfl 2 rfl (by decide) _ rfl)
  have L1217 : RdI ((W0.alloc (.cells #[.int .u8 (IntKind.u8.wrap 3)] 5)).alloc (.cells #[.int .i64 q, .int .i64 e] 3)).drew (some ⟨W0.heap.size + 1, 0, none⟩) 2 2 [q, e] := RdV.drew (RdV.lit (W0.alloc (.cells #[.int .u8 (IntKind.u8.wrap 3)] 5)) 3 (0, 0) _ _ rfl 2 rfl (by decide) _ (size_alloc _ _))
  have L1712 : RdI ((W0.alloc (.cells #[.int .i64 q, .int .i64 e] 3)).alloc (.cells #[.int .u8 (IntKind.u8.wrap 3)] 5)).drew (some ⟨W0.heap.size, 0, none⟩) 2 2 [q, e] := RdV.drew (RdV.alloc (RdV.lit W0 3 (0, 0) _ _ rfl 2 rfl (by decide) _ rfl) _)
  have OW : ∀ u : World, W0.heap.size ≤ u.heap.size → Own (u.alloc (.cells #[.int .u8 (IntKind.u8.wrap 3)] 5)) W0.heap.size 5 (.slice (some ⟨u.heap.size, 0, none⟩) 1 1) 1 (Num.put 3 1) := fun u hu => World.ownsRow_lit (base := W0.heap.size) (e := 5) (size := 1) u #[.int .u8 (IntKind.u8.wrap 3)] 1 hu (by decide) rfl
  have O1217 : Own ((W0.alloc (.cells #[.int .u8 (IntKind.u8.wrap 3)] 5)).alloc (.cells #[.int .i64 q, .int .i64 e] 3)).drew W0.heap.size 5 (.slice (some ⟨W0.heap.size, 0, none⟩) 1 1) 1 (Num.put 3 1) := (OW W0 (Nat.le_refl _)).later (((Below.refl _ _).alloc (Nat.le_refl _) _).drew)
  have O1712 : Own ((W0.alloc (.cells #[.int .i64 q, .int .i64 e] 3)).alloc (.cells #[.int .u8 (IntKind.u8.wrap 3)] 5)).drew W0.heap.size 5 (.slice (some ⟨W0.heap.size + 1, 0, none⟩) 1 1) 1 (Num.put 3 1) := by
    have := (OW (W0.alloc (.cells #[.int .i64 q, .int .i64 e] 3)) (by rw [size_alloc]; omega)).later ((Below.refl _ _).drew)
    rw [size_alloc] at this
    exact this
  have hps : (Num.put 3 1).length = 1 := rfl
  go_region_held_law (fun w' => w'.cell? ⟨w.heap.size, 0, none⟩ = some (.int .i64 3) ∧ w'.cell? ⟨w.heap.size, 1, none⟩ = some (.int .i64 q) ∧ w'.cell? ⟨w.heap.size, 2, none⟩ = some (.int .i64 e) ∧ Below W0.heap.size W0 w')
    (first | exact KS _ (Below.refl _ _).drew | exact KS _ hbz | exact KS _ (hbc.alloc hbc.size _) | exact KS _ hbc | exact KS _ B1217 | exact KS _ B1712 | exact KS _ B17 | exact KS _ B12 | assumption)
    (first
      | (go_at_call 40; ((with_reducible refine (rputRow_any _ _ _ [q, e] 8 _ L17 (by omega)).mono ?_); rintro en wc ⟨Ac, dc, rfl, sc, hc⟩; have hbc := bthen B17 hc; have hrc := sc.same))
      | (go_at_call 40; ((with_reducible refine (rputRow_any _ _ _ [q, e] 8 _ L1217 (by omega)).mono ?_); rintro en wc ⟨Ac, dc, rfl, sc, hc⟩; have hbc := bthen B1217 hc; have hrc := sc.same; have hoc := O1217.later hc))
      | (go_at_call 40; ((with_reducible refine (rputRow_any _ _ _ [q, e] 8 _ L1712 (by omega)).mono ?_); rintro en wc ⟨Ac, dc, rfl, sc, hc⟩; have hbc := bthen B1712 hc; have hrc := sc.same; have hoc := O1712.later hc))
      | (refine step_appD 19 rfl rfl (.tmp 12) (.tmp 18) 23 rfl W0.heap.size 5 info5 Tryd.underlying23 _ 1 (Num.put 3 1) rfl (by first | exact hoc | exact OW _ hbc.size) Ac (Num.putRow [q, e] 8).length dc (Num.putRow [q, e] 8) rfl (by first | exact hrc | exact hrc.alloc _) (by omega) (by first | exact hbc.size | exact (hbc.alloc hbc.size _).size) ?_
         intro vz wz hoz hbz0
         have hbz : Below W0.heap.size W0 wz := (by first | exact hbc.trans hbz0 | exact (hbc.alloc hbc.size _).trans hbz0)))
  all_goals
    clear KS B17 B12 B1217 B1712 L17 L1217 L1712 OW O1217 O1712
    have e0 := keepC hbz d0
    have e1 := keepC hbz d1
    have e2 := keepC hbz d2
    have e3 := keepC hbz d3
    have e4 := keepC hbz d4
    have e5 := keepC hbz d5
    have e6 := keepC hbz d6
    have e7 := keepC hbz d7
    have hbw := bthen hb01 hbz
    have hle := hbz.size
    go_wp2
    go_ret
    rw [← HR.out]
    exact Own.gives (hoz.mono hb01.size) (bthen hb01 hbz)

set_option maxHeartbeats 4000000 in
set_option maxRecDepth 100000 in
theorem rbytes4 (q e i t c : Int) (LA : Option Addr) (ln lc : Nat) (BA : Option Addr) (bn bc : Nat) (l : List Int) (b : List UInt8) (w : World) (hl : RdI w LA ln lc l) (hb : Rd w BA bn bc b) (hm : Item.may ⟨4, q, e, i, t, c, l, b⟩ = true) :
    Calls Tryd.prog 38 #[.agg #[.int .i64 4, .int .i64 q, .int .i64 e, .int .i64 i, .int .i64 t, .int .i64 c, .slice LA ln lc, .slice BA bn bc]] w (Gives w 5 ((Num.put 4 1 ++ Num.putRow [q, e] 8) ++ (Num.put i 1))) := by
  obtain ⟨hll, hbl⟩ := ask_len (may_ask hm)
  dsimp only at hll hbl
  have el := RdI.size hl
  have eb := hb.1
  have hbd : 0 ≤ i ∧ i ≤ 1 := by
    have h := may_ask hm
    have h2 : Item.askN ⟨4, q, e, i, t, c, l, b⟩ 1 0 0 0 0 = true := h
    rw [askNone_iff] at h2
    exact ⟨h2.2.2.1, h2.2.2.2.1⟩
  have HB : Hid (#[Value.int .u8 i] = (bs [UInt8.ofNat i.toNat]).toArray) := hidT (byte_cellI i hbd.1 (by have := hbd.2; omega))
  have HP : Hid (Num.put i 1 = [UInt8.ofNat i.toNat]) := hidT (put_byteI i hbd.1 (by have := hbd.2; omega))
  obtain ⟨r, HR⟩ : ∃ r, Hid ((Num.put 4 1 ++ Num.putRow [q, e] 8) ++ (Num.put i 1) = r) := ⟨_, hidT rfl⟩
  rw [HR.out]
  have hg := alloc_at w (.cells #[.int .i64 4, .int .i64 q, .int .i64 e, .int .i64 i, .int .i64 t, .int .i64 c, .slice LA ln lc, .slice BA bn bc] 25) _ rfl
  have hb0 : Below w.heap.size w (w.alloc (.cells #[.int .i64 4, .int .i64 q, .int .i64 e, .int .i64 i, .int .i64 t, .int .i64 c, .slice LA ln lc, .slice BA bn bc] 25)) := (Below.refl _ _).alloc (Nat.le_refl _) _
  have hmay := rmay_any (.agg #[.int .i64 4, .int .i64 q, .int .i64 e, .int .i64 i, .int .i64 t, .int .i64 c, .slice LA ln lc, .slice BA bn bc]) ⟨4, q, e, i, t, c, l, b⟩ _ ⟨LA, ln, lc, BA, bn, bc, rfl, RdV.below hl hb0, hb.below hb0⟩
  rw [hm] at hmay
  obtain ⟨c0, c1, c2, c3, c4, c5, c6, c7⟩ := cells8 hg
  clear hg hm
  have hlen2 : (Num.putRow [q, e] 8).length ≤ 16 := putRow_len _ 8 16 (by simp)
  go_enter Tryd.func38, Tryd.ntmps38
  go_wp2_with fail
  with_reducible refine hmay.mono ?_
  rintro en w1 ⟨rfl, hb1⟩
  have d0 := keepC hb1 c0
  have d1 := keepC hb1 c1
  have d2 := keepC hb1 c2
  have d3 := keepC hb1 c3
  have d4 := keepC hb1 c4
  have d5 := keepC hb1 c5
  have d6 := keepC hb1 c6
  have d7 := keepC hb1 c7
  have hb01 := bthen hb0 hb1
  clear c0 c1 c2 c3 c4 c5 c6 c7 hmay hb1 hb0
  go_wp2
  generalize w1 = W0 at hb01 d0 d1 d2 d3 d4 d5 d6 d7 ⊢
  have hl0 := RdV.below hl hb01
  have hbb0 := hb.below hb01
  clear hl hb
  have KS : ∀ w', Below W0.heap.size W0 w' → w'.cell? ⟨w.heap.size, 0, none⟩ = some (.int .i64 4) ∧ w'.cell? ⟨w.heap.size, 1, none⟩ = some (.int .i64 q) ∧ w'.cell? ⟨w.heap.size, 2, none⟩ = some (.int .i64 e) ∧ Below W0.heap.size W0 w' := fun w' h => ⟨keepC h d0, keepC h d1, keepC h d2, h⟩
  have B17 : Below W0.heap.size W0 (W0.alloc (.cells #[.int .i64 q, .int .i64 e] 3)).drew := ((Below.refl _ _).alloc (Nat.le_refl _) _).drew
  have B12 : Below W0.heap.size W0 (W0.alloc (.cells #[.int .u8 (IntKind.u8.wrap 4)] 5)).drew := ((Below.refl _ _).alloc (Nat.le_refl _) _).drew
  have B1217 : Below W0.heap.size W0 ((W0.alloc (.cells #[.int .u8 (IntKind.u8.wrap 4)] 5)).alloc (.cells #[.int .i64 q, .int .i64 e] 3)).drew := (((Below.refl _ _).alloc (Nat.le_refl _) _).alloc (by rw [size_alloc]; omega) _).drew
  have B1712 : Below W0.heap.size W0 ((W0.alloc (.cells #[.int .i64 q, .int .i64 e] 3)).alloc (.cells #[.int .u8 (IntKind.u8.wrap 4)] 5)).drew := (((Below.refl _ _).alloc (Nat.le_refl _) _).alloc (by rw [size_alloc]; omega) _).drew
  have L17 : RdI (W0.alloc (.cells #[.int .i64 q, .int .i64 e] 3)).drew (some ⟨W0.heap.size, 0, none⟩) 2 2 [q, e] := RdV.drew (RdV.lit W0 3 (0, 0) _ _ rfl 2 rfl (by decide) _ rfl)
  have L1217 : RdI ((W0.alloc (.cells #[.int .u8 (IntKind.u8.wrap 4)] 5)).alloc (.cells #[.int .i64 q, .int .i64 e] 3)).drew (some ⟨W0.heap.size + 1, 0, none⟩) 2 2 [q, e] := RdV.drew (RdV.lit (W0.alloc (.cells #[.int .u8 (IntKind.u8.wrap 4)] 5)) 3 (0, 0) _ _ rfl 2 rfl (by decide) _ (size_alloc _ _))
  have L1712 : RdI ((W0.alloc (.cells #[.int .i64 q, .int .i64 e] 3)).alloc (.cells #[.int .u8 (IntKind.u8.wrap 4)] 5)).drew (some ⟨W0.heap.size, 0, none⟩) 2 2 [q, e] := RdV.drew (RdV.alloc (RdV.lit W0 3 (0, 0) _ _ rfl 2 rfl (by decide) _ rfl) _)
  have OW : ∀ u : World, W0.heap.size ≤ u.heap.size → Own (u.alloc (.cells #[.int .u8 (IntKind.u8.wrap 4)] 5)) W0.heap.size 5 (.slice (some ⟨u.heap.size, 0, none⟩) 1 1) 1 (Num.put 4 1) := fun u hu => World.ownsRow_lit (base := W0.heap.size) (e := 5) (size := 1) u #[.int .u8 (IntKind.u8.wrap 4)] 1 hu (by decide) rfl
  have O1217 : Own ((W0.alloc (.cells #[.int .u8 (IntKind.u8.wrap 4)] 5)).alloc (.cells #[.int .i64 q, .int .i64 e] 3)).drew W0.heap.size 5 (.slice (some ⟨W0.heap.size, 0, none⟩) 1 1) 1 (Num.put 4 1) := (OW W0 (Nat.le_refl _)).later (((Below.refl _ _).alloc (Nat.le_refl _) _).drew)
  have O1712 : Own ((W0.alloc (.cells #[.int .i64 q, .int .i64 e] 3)).alloc (.cells #[.int .u8 (IntKind.u8.wrap 4)] 5)).drew W0.heap.size 5 (.slice (some ⟨W0.heap.size + 1, 0, none⟩) 1 1) 1 (Num.put 4 1) := by
    have := (OW (W0.alloc (.cells #[.int .i64 q, .int .i64 e] 3)) (by rw [size_alloc]; omega)).later ((Below.refl _ _).drew)
    rw [size_alloc] at this
    exact this
  have hps : (Num.put 4 1).length = 1 := rfl
  go_region_held_law (fun w' => w'.cell? ⟨w.heap.size, 0, none⟩ = some (.int .i64 4) ∧ w'.cell? ⟨w.heap.size, 1, none⟩ = some (.int .i64 q) ∧ w'.cell? ⟨w.heap.size, 2, none⟩ = some (.int .i64 e) ∧ Below W0.heap.size W0 w')
    (first | exact KS _ (Below.refl _ _).drew | exact KS _ hbz | exact KS _ (hbc.alloc hbc.size _) | exact KS _ hbc | exact KS _ B1217 | exact KS _ B1712 | exact KS _ B17 | exact KS _ B12 | assumption)
    (first
      | (go_at_call 40; ((with_reducible refine (rputRow_any _ _ _ [q, e] 8 _ L17 (by omega)).mono ?_); rintro en wc ⟨Ac, dc, rfl, sc, hc⟩; have hbc := bthen B17 hc; have hrc := sc.same))
      | (go_at_call 40; ((with_reducible refine (rputRow_any _ _ _ [q, e] 8 _ L1217 (by omega)).mono ?_); rintro en wc ⟨Ac, dc, rfl, sc, hc⟩; have hbc := bthen B1217 hc; have hrc := sc.same; have hoc := O1217.later hc))
      | (go_at_call 40; ((with_reducible refine (rputRow_any _ _ _ [q, e] 8 _ L1712 (by omega)).mono ?_); rintro en wc ⟨Ac, dc, rfl, sc, hc⟩; have hbc := bthen B1712 hc; have hrc := sc.same; have hoc := O1712.later hc))
      | (refine step_appD 19 rfl rfl (.tmp 12) (.tmp 18) 23 rfl W0.heap.size 5 info5 Tryd.underlying23 _ 1 (Num.put 4 1) rfl (by first | exact hoc | exact OW _ hbc.size) Ac (Num.putRow [q, e] 8).length dc (Num.putRow [q, e] 8) rfl (by first | exact hrc | exact hrc.alloc _) (by omega) (by first | exact hbc.size | exact (hbc.alloc hbc.size _).size) ?_
         intro vz wz hoz hbz0
         have hbz : Below W0.heap.size W0 wz := (by first | exact hbc.trans hbz0 | exact (hbc.alloc hbc.size _).trans hbz0)))
  all_goals
    clear KS B17 B12 B1217 B1712 L17 L1217 L1712 OW O1217 O1712
    have e0 := keepC hbz d0
    have e1 := keepC hbz d1
    have e2 := keepC hbz d2
    have e3 := keepC hbz d3
    have e4 := keepC hbz d4
    have e5 := keepC hbz d5
    have e6 := keepC hbz d6
    have e7 := keepC hbz d7
    have hbw := bthen hb01 hbz
    have hle := hbz.size
    go_wp2_with (
      at_builtin
      refine wpList_app rfl (.tmp 53) (.tmp 57) 23 rfl W0.heap.size 5 info5 Tryd.underlying23 _ (1 + (Num.putRow [q, e] 8).length) ((Num.put 4 1 ++ Num.putRow [q, e] 8)) rfl (hoz.later ((Below.refl _ _).alloc (Nat.le_refl _) _)) _ 1 1 ([UInt8.ofNat i.toNat]) rfl (Rd.litAt _ _ _ _ _ HB.out 1 rfl (by decide) _ rfl) (by omega) (Nat.le_trans hle (by rw [size_alloc]; omega)) ?_
      intro v5 w5 ho5 hb5
      have hb6 : Below W0.heap.size W0 w5 := (hbz.alloc hle _).trans hb5
      have g0 := keepC hb6 d0)
    go_ret
    rw [← HR.out, HP.out]
    exact Own.gives (ho5.mono hb01.size) (bthen hb01 hb6)

end Go.Proofs.YtahkhideepncfaaDoor
