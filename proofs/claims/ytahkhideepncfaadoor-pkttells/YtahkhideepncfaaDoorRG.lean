import Derived.Test.YtahkhideepncfaaDoorRD
import Derived.Test.YtahkhideepncfaaDoorRE
import Derived.Test.YtahkhideepncfaaDoorRF
import Derived.Test.YtahkhideepncfaaDoorMA
import Derived.Test.YtahkhideepncfaaDoorII
import Derived.Test.YtahkhideepncfaaDoorItem16
import Derived.Test.YtahkhideepncfaaDoorIE
import Derived.Test.YtahkhideepncfaaDoorIF
set_option maxRecDepth 100000
/- What the document's Bytes comes to. -/
namespace Go.Proofs.YtahkhideepncfaaDoor
open Go.RowKit
set_option linter.unusedVariables false

theorem rbytes_any (v : Value) (x : Item.It) (w : World) (h : IsItem w v x) : Calls Tryd.prog 38 #[v] w (Gives w 5 (Item.bytes x)) := by
  obtain ⟨LA, ln, lc, BA, bn, bc, rfl, hl, hb⟩ := h
  unfold Item.bytes
  cases hm : Item.may x with
  | true =>
    rw [if_pos rfl]
    have hk := Item.may_kinds hm
    cases hk with
    | data q e i t b h1 h2 h3 h4 h5 => exact rbytes1 q e i t 0 LA ln lc BA bn bc [] b w hl hb hm
    | order q e i l h1 h2 h3 h4 h5 => exact rbytes2 q e i 0 0 LA ln lc BA bn bc l [] w hl hb hm
    | token q e =>
      have hh := rbytes3 q e 0 0 0 LA ln lc BA bn bc [] [] w hl hb hm
      have e1 : Item.tail ⟨3, q, e, 0, 0, 0, [], []⟩ = [] := rfl
      rw [e1, List.append_nil]
      exact hh
    | flush q e i h1 h2 => exact rbytes4 q e i 0 0 LA ln lc BA bn bc [] [] w hl hb hm
    | ack q e c h1 h2 => exact rbytes5 q e 0 0 c LA ln lc BA bn bc [] [] w hl hb hm
    | install q e l h1 h2 h3 => exact rbytes6 q e 0 0 0 LA ln lc BA bn bc l [] w hl hb hm
  | false =>
    rw [if_neg (by simp)]
    have hg := alloc_at w (.cells #[.int .i64 x.k, .int .i64 x.q, .int .i64 x.e, .int .i64 x.i, .int .i64 x.t, .int .i64 x.c, .slice LA ln lc, .slice BA bn bc] 25) _ rfl
    have hb0 : Below w.heap.size w (w.alloc (.cells #[.int .i64 x.k, .int .i64 x.q, .int .i64 x.e, .int .i64 x.i, .int .i64 x.t, .int .i64 x.c, .slice LA ln lc, .slice BA bn bc] 25)) := (Below.refl _ _).alloc (Nat.le_refl _) _
    have hmay := rmay_any (.agg #[.int .i64 x.k, .int .i64 x.q, .int .i64 x.e, .int .i64 x.i, .int .i64 x.t, .int .i64 x.c, .slice LA ln lc, .slice BA bn bc]) x _ ⟨LA, ln, lc, BA, bn, bc, rfl, RdV.below hl hb0, hb.below hb0⟩
    rw [hm] at hmay
    obtain ⟨c0, c1, c2, c3, c4, c5, c6, c7⟩ := cells8 hg
    clear hg
    go_enter Tryd.func38, Tryd.ntmps38
    go_wp2_with fail
    with_reducible refine hmay.mono ?_
    rintro e w1 ⟨rfl, hb1⟩
    go_wp2
    go_ret
    exact ⟨none, 0, rfl, World.ownsRow_nil _ _ _ _, bthen hb0 hb1⟩
end Go.Proofs.YtahkhideepncfaaDoor
/- What the document's Take comes to: bytes without a head. -/
namespace Go.Proofs.YtahkhideepncfaaDoor
open Go.RowKit
set_option linter.unusedVariables false

set_option maxRecDepth 100000 in
set_option maxHeartbeats 2000000 in
theorem rtakeI_short (A : Option Addr) (n c : Nat) (l : List UInt8) (w : World) (h : Rd w A n c l) (hn : n < 17) :
    Calls Tryd.prog 23 #[.slice A n c] w (TakeF w none) := by
  have q1 : decide ((n : Int) < 17) = true := by simp; omega
  go_enter Tryd.func23, Tryd.ntmps23
  go_wp2
  exact bodyPost_ret (v := .tuple #[.agg zcells, .int .i64 2]) (by simp [results, Tryd.results23, go_sem]) rfl ⟨rfl, (Below.refl _ _).alloc (Nat.le_refl _) _⟩

set_option maxRecDepth 100000 in
set_option maxHeartbeats 2000000 in
theorem rtakeI_row (b o n c : Nat) (l : List UInt8) (w : World) (h : Rd w (some ⟨b, o, none⟩) n c l) (hn : 17 ≤ n) (hn2 : n ≤ 65536) (k : Int) (hk : Num.rowOf ((l.drop 1).take 16) 2 8 = ([], [], k)) (hk0 : k ≠ 0) :
    Calls Tryd.prog 23 #[.slice (some ⟨b, o, none⟩) n c] w (TakeF w none) := by
  have hb0 : Below w.heap.size w (w.alloc (.cells #[.int .i64 0, .int .i64 0, .int .i64 0, .int .i64 0, .int .i64 0, .int .i64 0, .slice none 0 0, .slice none 0 0] 25)) := (Below.refl _ _).alloc (Nat.le_refl _) _
  have hg0 := alloc_at w (.cells #[.int .i64 0, .int .i64 0, .int .i64 0, .int .i64 0, .int .i64 0, .int .i64 0, .slice none 0 0, .slice none 0 0] 25) _ rfl
  have hgs : w.heap.size < (w.alloc (.cells #[.int .i64 0, .int .i64 0, .int .i64 0, .int .i64 0, .int .i64 0, .int .i64 0, .slice none 0 0, .slice none 0 0] 25)).heap.size := by rw [size_alloc]; omega
  have hcap := h.2.1
  have q1 : decide ((n : Int) < 17) = false := by simp; omega
  have hd := ((h.below hb0).drop (k := 1) (by omega)).take (k := 16) (by omega)
  have hr := rtakeRow_any _ _ _ _ 2 8 _ hd (by omega)
  rw [hk] at hr
  have q2 : (k != 0) = true := by simpa using hk0
  have q3 : (k == 0) = false := by simpa using hk0
  have hc1 : c ≠ 1 := by omega
  clear hk hk0
  go_enter Tryd.func23, Tryd.ntmps23
  go_wp2_with fail
  with_reducible refine hr.mono ?_
  rintro en w1 ⟨A1, c1, B1, d1, rfl, hi1, ho1, hb1⟩
  have hg1 := (hb1.block _ hgs).trans hg0
  have hb01 := bthen hb0 hb1
  clear hr hg0 hgs hb0 hb1 hi1 ho1
  go_wp2_with (
    refine wpList_stI rfl 25 (.tmp 2) (.tmp 32) rfl w.heap.size zcells rfl rfl _ _ hg1 info25 rfl (all8 rfl rfl rfl rfl rfl rfl rfl rfl) ?_
    intro w9 hg9 hbut9 hbel9)
  obtain ⟨y0, y1, y2, y3, y4, y5, y6, y7⟩ := cells8 hg9
  exact bodyPost_ret (v := .tuple #[.agg zcells, .int .i64 2]) (by simp [results, Tryd.results23, go_sem, y0, y1, y2, y3, y4, y5, y6, y7]) rfl ⟨rfl, hbel9 _ _ hb01 (Nat.le_refl _)⟩
end Go.Proofs.YtahkhideepncfaaDoor
/- The document's example of chapter 3: what 'shown' comes to. -/
namespace Go.Proofs.YtahkhideepncfaaDoor
open Go.RowKit
set_option linter.unusedVariables false

theorem str_list (l : List UInt8) : (str l).toList = l := by rw [ByteArray.toList_eq]; rfl
theorem tokB : Item.bytes ⟨3, 2, 1, 0, 0, 0, [], []⟩ = [3, 0, 0, 0, 0, 0, 0, 0, 2, 0, 0, 0, 0, 0, 0, 0, 1] := by kernel_rfl
theorem tokM : Item.may ⟨3, 2, 1, 0, 0, 0, [], []⟩ = true := by kernel_rfl
theorem zeroM : Item.may ⟨0, 0, 0, 0, 0, 0, [], []⟩ = false := by kernel_rfl
theorem zeroB : Item.bytes ⟨0, 0, 0, 0, 0, 0, [], []⟩ = [] := by kernel_rfl
theorem tokT : Item.takeOf [3, 0, 0, 0, 0, 0, 0, 0, 2, 0, 0, 0, 0, 0, 0, 0, 1] = some ⟨3, 2, 1, 0, 0, 0, [], []⟩ := by
  rw [← tokB]
  exact Item.take_put tokM
theorem tokN : Item.takeOf ([3, 0, 0, 0, 0, 0, 0, 0, 2, 0, 0, 0, 0, 0, 0, 0, 1] ++ [0]) = none := by kernel_rfl
theorem isNil (w : World) (k q e i t c : Int) : IsItem w (.agg #[.int .i64 k, .int .i64 q, .int .i64 e, .int .i64 i, .int .i64 t, .int .i64 c, .slice none 0 0, .slice none 0 0]) ⟨k, q, e, i, t, c, [], []⟩ := ⟨none, 0, 0, none, 0, 0, rfl, RdV.nil_ _, Rd.nil_ _⟩

end Go.Proofs.YtahkhideepncfaaDoor
