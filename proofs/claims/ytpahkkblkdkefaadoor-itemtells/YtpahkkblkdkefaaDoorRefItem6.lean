/- What the document's Take comes to: bytes without a head. -/
import Derived.Test.YtpahkkblkdkefaaDoorRefItem5
import Derived.Test.YtpahkkblkdkefaaDoorItem15
import Derived.Test.YtpahkkblkdkefaaDoorItemRef
namespace Go.Proofs.YtpahkkblkdkefaaDoor
open Go.RowKit
set_option linter.unusedVariables false

set_option maxRecDepth 100000 in
set_option maxHeartbeats 2000000 in
theorem rtakeI_short (A : Option Addr) (n c : Nat) (l : List UInt8) (w : World) (h : Rd w A n c l) (hn : n < 17) :
    Calls Tryd.prog 12 #[.slice A n c] w (TakeO w none) := by
  have q1 : decide ((n : Int) < 17) = true := by simp; omega
  go_enter Tryd.func12, Tryd.ntmps12
  go_wp2
  exact bodyPost_ret (v := .tuple #[.agg zcells, .int .i64 2]) (by simp [results, Tryd.results12, go_sem]) rfl ⟨rfl, (Below.refl _ _).alloc (Nat.le_refl _) _⟩

set_option maxRecDepth 100000 in
set_option maxHeartbeats 2000000 in
theorem rtakeI_row (b o n c : Nat) (l : List UInt8) (w : World) (h : Rd w (some ⟨b, o, none⟩) n c l) (hn : 17 ≤ n) (hn2 : n ≤ 65536) (k : Int) (hk : Num.rowOf ((l.drop 1).take 16) 2 8 = ([], [], k)) (hk0 : k ≠ 0) :
    Calls Tryd.prog 12 #[.slice (some ⟨b, o, none⟩) n c] w (TakeO w none) := by
  have hb0 : Below w.heap.size w (w.alloc (.cells #[.int .i64 0, .int .i64 0, .int .i64 0, .int .i64 0, .int .i64 0, .int .i64 0, .slice none 0 0, .slice none 0 0] 25)) := (Below.refl _ _).alloc (Nat.le_refl _) _
  have hg0 := alloc_at w (.cells #[.int .i64 0, .int .i64 0, .int .i64 0, .int .i64 0, .int .i64 0, .int .i64 0, .slice none 0 0, .slice none 0 0] 25) _ rfl
  have hgs : w.heap.size < (w.alloc (.cells #[.int .i64 0, .int .i64 0, .int .i64 0, .int .i64 0, .int .i64 0, .int .i64 0, .slice none 0 0, .slice none 0 0] 25)).heap.size := by rw [size_alloc]; omega
  have hcap := h.2.1
  have q1 : decide ((n : Int) < 17) = false := by simp; omega
  have hd := ((h.below hb0).drop (k := 1) (by omega)).take (k := 16) (by omega)
  have hr := rtakeRow_any _ _ _ _ 2 8 _ hd (by omega)
  rw [hk] at hr
  have q2 : (k != 0) = true := by simpa using hk0
  have q3 : (k == 0) = false := by simpa using hk0
  have hc1 : c ≠ 1 := by omega
  clear hk hk0
  go_enter Tryd.func12, Tryd.ntmps12
  go_wp2_with fail
  with_reducible refine hr.mono ?_
  rintro en w1 ⟨A1, c1, B1, d1, rfl, hi1, ho1, hb1⟩
  have hg1 := (hb1.block _ hgs).trans hg0
  have hb01 := bthen hb0 hb1
  clear hr hg0 hgs hb0 hb1 hi1 ho1
  go_wp2_with (
    refine wpList_stI rfl 25 (.tmp 2) (.tmp 32) rfl w.heap.size zcells rfl rfl _ _ hg1 info25 rfl (all8 rfl rfl rfl rfl rfl rfl rfl rfl) ?_
    intro w9 hg9 hbut9 hbel9)
  obtain ⟨y0, y1, y2, y3, y4, y5, y6, y7⟩ := cells8 hg9
  exact bodyPost_ret (v := .tuple #[.agg zcells, .int .i64 2]) (by simp [results, Tryd.results12, go_sem, y0, y1, y2, y3, y4, y5, y6, y7]) rfl ⟨rfl, hbel9 _ _ hb01 (Nat.le_refl _)⟩
end Go.Proofs.YtpahkkblkdkefaaDoor
