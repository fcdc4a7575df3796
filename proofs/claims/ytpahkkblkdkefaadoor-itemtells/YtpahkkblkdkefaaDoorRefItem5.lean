/- What the document's Bytes comes to. -/
import Derived.Test.YtpahkkblkdkefaaDoorRefItem4a
import Derived.Test.YtpahkkblkdkefaaDoorRefItem4b
import Derived.Test.YtpahkkblkdkefaaDoorRefItem4c
import Derived.Test.YtpahkkblkdkefaaDoorRefItem4d
import Derived.Test.YtpahkkblkdkefaaDoorItemPut
namespace Go.Proofs.YtpahkkblkdkefaaDoor
open Go.RowKit
set_option linter.unusedVariables false

theorem rbytes_any (v : Value) (x : Item.It) (w : World) (h : IsItem w v x) : Calls Tryd.prog 18 #[v] w (Gives w 5 (Item.bytes x)) := by
  obtain ⟨LA, ln, lc, BA, bn, bc, rfl, hl, hb⟩ := h
  unfold Item.bytes
  cases hm : Item.may x with
  | true =>
    rw [if_pos rfl]
    have hk := Item.may_kinds hm
    cases hk with
    | data q e i t b h1 h2 h3 h4 h5 => exact rbytes1 q e i t 0 LA ln lc BA bn bc [] b w hl hb hm
    | order q e i l h1 h2 h3 h4 h5 => exact rbytes2 q e i 0 0 LA ln lc BA bn bc l [] w hl hb hm
    | token q e =>
      have hh := rbytes3 q e 0 0 0 LA ln lc BA bn bc [] [] w hl hb hm
      have e1 : Item.tail ⟨3, q, e, 0, 0, 0, [], []⟩ = [] := rfl
      rw [e1, List.append_nil]
      exact hh
    | flush q e i h1 h2 => exact rbytes4 q e i 0 0 LA ln lc BA bn bc [] [] w hl hb hm
    | ack q e c h1 h2 => exact rbytes5 q e 0 0 c LA ln lc BA bn bc [] [] w hl hb hm
    | install q e l h1 h2 h3 => exact rbytes6 q e 0 0 0 LA ln lc BA bn bc l [] w hl hb hm
  | false =>
    rw [if_neg (by simp)]
    have hg := alloc_at w (.cells #[.int .i64 x.k, .int .i64 x.q, .int .i64 x.e, .int .i64 x.i, .int .i64 x.t, .int .i64 x.c, .slice LA ln lc, .slice BA bn bc] 25) _ rfl
    have hb0 : Below w.heap.size w (w.alloc (.cells #[.int .i64 x.k, .int .i64 x.q, .int .i64 x.e, .int .i64 x.i, .int .i64 x.t, .int .i64 x.c, .slice LA ln lc, .slice BA bn bc] 25)) := (Below.refl _ _).alloc (Nat.le_refl _) _
    have hmay := rmay_any (.agg #[.int .i64 x.k, .int .i64 x.q, .int .i64 x.e, .int .i64 x.i, .int .i64 x.t, .int .i64 x.c, .slice LA ln lc, .slice BA bn bc]) x _ ⟨LA, ln, lc, BA, bn, bc, rfl, RdV.below hl hb0, hb.below hb0⟩
    rw [hm] at hmay
    obtain ⟨c0, c1, c2, c3, c4, c5, c6, c7⟩ := cells8 hg
    clear hg
    go_enter Tryd.func18, Tryd.ntmps18
    go_wp2_with fail
    with_reducible refine hmay.mono ?_
    rintro e w1 ⟨rfl, hb1⟩
    go_wp2
    go_ret
    exact ⟨none, 0, rfl, World.ownsRow_nil _ _ _ _, bthen hb0 hb1⟩
end Go.Proofs.YtpahkkblkdkefaaDoor
