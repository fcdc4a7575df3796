/- What the document's own Take comes to. -/
import Derived.Test.YtkkkfaelpmmffaaRWin1
set_option maxRecDepth 100000
namespace Go.Proofs.Ytkkkfaelpmmffaa
open Go.RowKit
set_option linter.unusedVariables false

/-- What the document's Take tells. -/
def RTakeIs (w : World) (o : Option Item.It) (k : Keep.Kp) (e : Ending) (w' : World) : Prop := ∃ v u, e = .returned (.tuple #[v, u, .bool o.isSome]) ∧ IsItem w' v (o.getD Item.It.zero) ∧ IsKeep w' u k ∧ Below w.heap.size w w'
set_option maxHeartbeats 8000000 in
theorem rwtake_none (A : Option Addr) (n c : Nat) (k : Keep.Kp) (hp : Win.peek k = none) (w : World) (hX : RdX w A n c k.l) (hr : Win.right k = true) :
    Calls Try.prog 22 #[.agg #[.int .i64 k.next, .slice A n c]] w (RTakeIs w (Win.peek k) (Win.take k)) := by
  have hn := hX.le
  have hlen := hX.size
  obtain ⟨t0, t1, t2, hb⟩ := three_alloc w (.cells #[.int .i64 k.next, .slice A n c] 24) (.cells zcells 28) (.cells kz 24)
  obtain ⟨i0, i1⟩ := cells2 t0
  obtain ⟨W, hW⟩ : ∃ W, ((w.alloc (.cells #[.int .i64 k.next, .slice A n c] 24)).alloc (.cells zcells 28)).alloc (.cells kz 24) = W := ⟨_, rfl⟩
  have hws : W.heap.size = w.heap.size + 3 := by rw [← hW, size_alloc, size_alloc, size_alloc]
  rw [hW] at t0 t1 t2 hb i0 i1
  have hri := (Win.right_iff.1 hr).2.2
  have hc := rwpeek_any (.agg #[.int .i64 k.next, .slice A n c]) k w W ⟨A, n, c, rfl, hX⟩ hb hri
  have hoth := Win.others_next hri
  obtain ⟨g, hg⟩ : ∃ g, w.heap.size = g := ⟨_, rfl⟩
  rw [hg] at i0 i1 t0 t1 t2 hws
  have HW := hidT hW
  have HWS := hidT hws
  have HC := hidT hc
  have T0 := hidT t0
  have T1 := hidT t1
  have T2 := hidT t2
  have HB := hidT hb
  have HX := hidT hX
  have HG := hidT hg
  have HR := hidT hr
  have HLEN := hidT hlen
  have HOTH := hidT hoth
  clear t0 t1 t2 hb hW hc hri hr hX hws hlen hoth
  rw [hp] at HC
  have htk := (Win.peek_none hp).1
  rw [hp, htk]
  clear hp htk
  go_enter Try.func22, Try.ntmps22
  go_wp2_with fail
  rw [HW.out]
  clear hg
  with_reducible refine HC.out.mono ?_
  rintro e w5 ⟨v5, rfl, hF5, hb5⟩
  obtain ⟨LA5, ln5, lc5, BA5, bn5, bc5, ev5, hl5, hbd5⟩ := id hF5
  have ev5' : v5 = .agg #[.int .i64 0, .int .i64 0, .int .i64 0, .int .i64 0, .int .i64 0, .int .i64 0, .slice LA5 ln5 lc5, .slice BA5 bn5 bc5] := ev5
  clear ev5 hl5 hbd5 i0 i1
  subst ev5'
  obtain ⟨W6, hW6⟩ : ∃ W6, w5.alloc (.cells #[.int .i64 0, .int .i64 0, .int .i64 0, .int .i64 0, .int .i64 0, .int .i64 0, .slice LA5 ln5 lc5, .slice BA5 bn5 bc5] 28) = W6 := ⟨_, rfl⟩
  have n6 := nkeep w5 (.cells #[.int .i64 0, .int .i64 0, .int .i64 0, .int .i64 0, .int .i64 0, .int .i64 0, .slice LA5 ln5 lc5, .slice BA5 bn5 bc5] 28)
  have y6 := alloc_at w5 (.cells #[.int .i64 0, .int .i64 0, .int .i64 0, .int .i64 0, .int .i64 0, .int .i64 0, .slice LA5 ln5 lc5, .slice BA5 bn5 bc5] 28) _ rfl
  rw [hW6] at n6 y6
  have hb6 := bthen hb5 n6
  obtain ⟨i0, i1⟩ := cells2 (keepH T0.out hb6)
  obtain ⟨h, hh⟩ : ∃ h, w5.heap.size = h := ⟨_, rfl⟩
  rw [hh] at y6
  have HB6 := hidT hb6
  have HW6 := hidT hW6
  have HWH := hidT (show W.heap.size ≤ h by rw [← hh]; exact hb5.size)
  have Y6 := hidT y6
  have HF5 := hidT hF5
  rw [← HW6.out] at i0 i1
  clear hW6 n6 hb6 hb5 y6 hF5
  have Z1 := hidT (keepH T1.out HB6.out)
  have Z2 := hidT (keepH T2.out HB6.out)
  go_upto_region 3 with fail
  rw [HW6.out]
  rw [HW6.out] at i0 i1
  clear hh
  have z1 := Z1.out
  have z2 := Z2.out
  obtain ⟨X1, X2, eX, g1, g2, bt1, bt2, bel⟩ := set82 (p := g + 1) (q := g + 1 + 1) z1 z2 (by omega) (.int .i64 0) (.int .i64 0) (.int .i64 0) (.int .i64 0) (.int .i64 0) (.int .i64 0) (.slice none 0 0) (.slice none 0 0) (.int .i64 k.next) (.slice A n c)
  have EX := hidT eX
  have G1 := hidT g1
  have G2 := hidT g2
  have BEL := hidT (bel _ _ (bthen HB.out HB6.out) (show w.heap.size ≤ g + 1 by have := HG.out; omega) (show w.heap.size ≤ g + 1 + 1 by have := HG.out; omega))
  clear eX g1 g2 bt1 bt2 bel
  obtain ⟨a0, a1⟩ := cells2 z2
  obtain ⟨b0, b1, b2, b3, b4, b5, b6, b7⟩ := cells8 z1
  have fa0 := no_frozen z2 0
  have fa1 := no_frozen z2 1
  have fb0 := no_frozen z1 0
  have fb1 := no_frozen z1 1
  have fb2 := no_frozen z1 2
  have fb3 := no_frozen z1 3
  have fb4 := no_frozen z1 4
  have fb5 := no_frozen z1 5
  have fb6 := no_frozen z1 6
  have fb7 := no_frozen z1 7
  have hne : ¬ h = g + 1 := by have := HWH.out; have := HWS.out; omega
  have hne2 : ¬ h = g + 1 + 1 := by have := HWH.out; have := HWS.out; omega
  clear z1 z2
  go_region
  rw [EX.out]
  obtain ⟨e0, e1, e2, e3, e4, e5, e6, e7⟩ := cells8 G1.out
  obtain ⟨d0, d1⟩ := cells2 G2.out
  clear a0 a1 b0 b1 b2 b3 b4 b5 b6 b7 fa0 fa1 fb0 fb1 fb2 fb3 fb4 fb5 fb6 fb7
  go_wp2_with fail
  exact bodyPost_ret (v := .tuple #[.agg zcells, .agg #[.int .i64 k.next, .slice A n c], .bool false]) (by simp [results, Try.results22, go_sem, e0, e1, e2, e3, e4, e5, e6, e7, d0, d1]) rfl
    ⟨_, _, rfl, IsItem.zero _, ⟨A, n, c, rfl, HX.out.below BEL.out⟩, BEL.out⟩
set_option maxHeartbeats 8000000 in
theorem rwtake_some (A : Option Addr) (n c : Nat) (k : Keep.Kp) (x : Item.It) (hp : Win.peek k = some x) (hS : k.l.length ≤ 65536) (w : World) (hX : RdX w A n c k.l) (hr : Win.right k = true) :
    Calls Try.prog 22 #[.agg #[.int .i64 k.next, .slice A n c]] w (RTakeIs w (Win.peek k) (Win.take k)) := by
  have hn := hX.le
  have hlen := hX.size
  obtain ⟨t0, t1, t2, hb⟩ := three_alloc w (.cells #[.int .i64 k.next, .slice A n c] 24) (.cells zcells 28) (.cells kz 24)
  obtain ⟨i0, i1⟩ := cells2 t0
  obtain ⟨W, hW⟩ : ∃ W, ((w.alloc (.cells #[.int .i64 k.next, .slice A n c] 24)).alloc (.cells zcells 28)).alloc (.cells kz 24) = W := ⟨_, rfl⟩
  have hws : W.heap.size = w.heap.size + 3 := by rw [← hW, size_alloc, size_alloc, size_alloc]
  rw [hW] at t0 t1 t2 hb i0 i1
  have hri := (Win.right_iff.1 hr).2.2
  have hc := rwpeek_any (.agg #[.int .i64 k.next, .slice A n c]) k w W ⟨A, n, c, rfl, hX⟩ hb hri
  have hoth := Win.others_next hri
  obtain ⟨g, hg⟩ : ∃ g, w.heap.size = g := ⟨_, rfl⟩
  rw [hg] at i0 i1 t0 t1 t2 hws
  have HW := hidT hW
  have HWS := hidT hws
  have HC := hidT hc
  have T0 := hidT t0
  have T1 := hidT t1
  have T2 := hidT t2
  have HB := hidT hb
  have HX := hidT hX
  have HG := hidT hg
  have HR := hidT hr
  have HLEN := hidT hlen
  have HOTH := hidT hoth
  clear t0 t1 t2 hb hW hc hri hr hX hws hlen hoth
  rw [hp] at HC
  obtain ⟨r, el, eq, htk⟩ := Win.peek_some hp
  rw [htk] at HOTH
  rw [hp, htk]
  have hnx : 1 ≤ k.next ∧ k.next ≤ 4611686018427387905 := (Win.right_iff.1 HR.out).1.2
  have hn6 : n ≤ 65536 := by rw [← HLEN.out]; exact hS
  clear hp htk el eq hS
  go_enter Try.func22, Try.ntmps22
  go_wp2_with fail
  rw [HW.out]
  clear hg
  with_reducible refine HC.out.mono ?_
  rintro e w5 ⟨v5, rfl, hF5, hb5⟩
  obtain ⟨LA5, ln5, lc5, BA5, bn5, bc5, ev5, hl5, hbd5⟩ := id hF5
  have ev5' : v5 = .agg #[.int .i64 x.k, .int .i64 x.q, .int .i64 x.e, .int .i64 x.i, .int .i64 x.t, .int .i64 x.c, .slice LA5 ln5 lc5, .slice BA5 bn5 bc5] := ev5
  clear ev5 hl5 hbd5 i0 i1
  subst ev5'
  obtain ⟨W6, hW6⟩ : ∃ W6, w5.alloc (.cells #[.int .i64 x.k, .int .i64 x.q, .int .i64 x.e, .int .i64 x.i, .int .i64 x.t, .int .i64 x.c, .slice LA5 ln5 lc5, .slice BA5 bn5 bc5] 28) = W6 := ⟨_, rfl⟩
  have n6 := nkeep w5 (.cells #[.int .i64 x.k, .int .i64 x.q, .int .i64 x.e, .int .i64 x.i, .int .i64 x.t, .int .i64 x.c, .slice LA5 ln5 lc5, .slice BA5 bn5 bc5] 28)
  have y6 := alloc_at w5 (.cells #[.int .i64 x.k, .int .i64 x.q, .int .i64 x.e, .int .i64 x.i, .int .i64 x.t, .int .i64 x.c, .slice LA5 ln5 lc5, .slice BA5 bn5 bc5] 28) _ rfl
  rw [hW6] at n6 y6
  have hb6 := bthen hb5 n6
  obtain ⟨i0, i1⟩ := cells2 (keepH T0.out hb6)
  obtain ⟨h, hh⟩ : ∃ h, w5.heap.size = h := ⟨_, rfl⟩
  rw [hh] at y6
  have HB6 := hidT hb6
  have HW6 := hidT hW6
  have HWH := hidT (show W.heap.size ≤ h by rw [← hh]; exact hb5.size)
  have Y6 := hidT y6
  have HF5 := hidT hF5
  rw [← HW6.out] at i0 i1
  clear hW6 n6 hb6 hb5 y6 hF5
  go_wp2_with fail
  rw [HW6.out]
  clear hh i0 i1
  go_loopw [7, 8] (fun vl i wr => ∃ (j m : Nat) (B : Option Addr) (d : Nat) (us : List (Array Value)), j ≤ n ∧ i = .int .i64 j ∧ vl = .slice B m d ∧ m ≤ j ∧ Hid (OwnK 8 wr W6.heap.size 28 (.slice B m d) m us) ∧ Hid (AreI w us ((k.l.take j).filter (fun y => decide (y.q ≠ k.next)))) ∧ Hid (Below W6.heap.size W6 wr)) (fun _ i _ => n - (intOf i).toNat)
  case atStart => exact ⟨0, 0, none, 0, [], Nat.zero_le _, rfl, rfl, Nat.le_refl _, hidT (OwnK.nil_ _ _ _ _), hidT (by simp; exact AreI.nil_ _), hidT (Below.refl _ _)⟩
  case round =>
    obtain ⟨j, m, B, d, us, hj, rfl, rfl, hmj, HO, HA, HBr⟩ := hrel
    obtain ⟨i0, i1⟩ := cells2 (keepH T0.out (bthen HB6.out HBr.out))
    by_cases hjn : j < n
    · obtain ⟨b, o, y, LA, ln, lc, BA, bn, bc, rfl, hx, hi, hcs⟩ := HX.out.told hjn
      obtain ⟨c0, c1, c2, c3, c4, c5, c6, c7⟩ := hcs _ (bthen HB.out (bthen HB6.out HBr.out))
      have x1 : (0 : Int) ≤ (j : Int) := by omega
      have x2 : (j : Int) < (n : Int) := by omega
      have HF := hidT (show (k.l.take (j + 1)).filter (fun y => decide (y.q ≠ k.next)) = (k.l.take j).filter (fun y => decide (y.q ≠ k.next)) ++ (if y.q ≠ k.next then [y] else []) by
        rw [List.take_add_one, hx, List.filter_append]
        congr 1
        by_cases h : y.q = k.next <;> simp [h])
      have HI := hidT hi
      clear hcs hi hx
      by_cases hq : y.q = k.next
      · have q1 : (y.q != k.next) = false := by simpa using hq
        have hf := HF.out
        rw [if_neg (by simpa using hq), List.append_nil] at hf
        have HFF := hidT hf
        clear hq hf
        go_wp2_with fail
        go_quiet (fail)
        go_wp2
        exact ⟨⟨j + 1, m, B, d, us, by omega, by go_num, rfl, by omega, hidT (HO.out.later (drawn_below _ _)), hidT (by rw [HFF.out]; exact HA.out), hidT (bthen HBr.out (drawn_below _ _))⟩, by simp [intOf]; omega⟩
      · have q1 : (y.q != k.next) = true := by simpa using hq
        have hf := HF.out
        rw [if_pos hq] at hf
        have HFF := hidT hf
        clear hq hf
        go_wp2_with fail
        go_quiet (fail)
        have BX := hidT (drawn_below wr nq)
        have HO' := hidT (HO.out.later BX.out)
        have HBX := hidT (bthen HBr.out BX.out)
        have d0 : (wr.drewN nq).cell? ⟨g, 0, none⟩ = some (.int .i64 k.next) := i0
        have d1 : (wr.drewN nq).cell? ⟨g, 1, none⟩ = some (.slice (some ⟨b, o, none⟩) n c) := i1
        have f0 : (wr.drewN nq).cell? ⟨b, o + j * 8, none⟩ = some (.int .i64 y.k) := c0
        have f1 : (wr.drewN nq).cell? ⟨b, o + j * 8 + 1, none⟩ = some (.int .i64 y.q) := c1
        have f2 : (wr.drewN nq).cell? ⟨b, o + j * 8 + 2, none⟩ = some (.int .i64 y.e) := c2
        have f3 : (wr.drewN nq).cell? ⟨b, o + j * 8 + 3, none⟩ = some (.int .i64 y.i) := c3
        have f4 : (wr.drewN nq).cell? ⟨b, o + j * 8 + 4, none⟩ = some (.int .i64 y.t) := c4
        have f5 : (wr.drewN nq).cell? ⟨b, o + j * 8 + 5, none⟩ = some (.int .i64 y.c) := c5
        have f6 : (wr.drewN nq).cell? ⟨b, o + j * 8 + 6, none⟩ = some (.slice LA ln lc) := c6
        have f7 : (wr.drewN nq).cell? ⟨b, o + j * 8 + 7, none⟩ = some (.slice BA bn bc) := c7
        clear i0 i1 c0 c1 c2 c3 c4 c5 c6 c7 HO
        generalize wr.drewN nq = wq at *
        have HRD := hidT (RdK.lit (k := 8) wq 28 (0, 0) #[.int .i64 y.k, .int .i64 y.q, .int .i64 y.e, .int .i64 y.i, .int .i64 y.t, .int .i64 y.c, .slice LA ln lc, .slice BA bn bc] [#[.int .i64 y.k, .int .i64 y.q, .int .i64 y.e, .int .i64 y.i, .int .i64 y.t, .int .i64 y.c, .slice LA ln lc, .slice BA bn bc]] (AllK.one rfl (by simp [Value.oneCell'])) (by simp [flat]) 1 rfl (by simp only [maxLen]; omega) wq.heap.size rfl)
        have HN := hidT (nkeep wq (.cells #[.int .i64 y.k, .int .i64 y.q, .int .i64 y.e, .int .i64 y.i, .int .i64 y.t, .int .i64 y.c, .slice LA ln lc, .slice BA bn bc] 28))
        have HSZ := hidT (Nat.le_trans HBX.out.size HN.out.size)
        go_wp2_with (
          at_builtin
          refine wpList_appK 8 (by omega) rfl (.tmp 34) (.tmp 40) 22 rfl W6.heap.size 28 _ 96 info8 rfl (by omega) Try.underlying22 (.slice B m d) m us rfl (HO'.out.later HN.out) (some ⟨wq.heap.size, 0, none⟩) 1 1 [#[.int .i64 y.k, .int .i64 y.q, .int .i64 y.e, .int .i64 y.i, .int .i64 y.t, .int .i64 y.c, .slice LA ln lc, .slice BA bn bc]] rfl HRD.out (by omega) HSZ.out ?_
          intro v9 w9 hO9 hb9 hg9)
        obtain ⟨A9, c9, rfl, _⟩ := OwnK.rd hO9
        refine ⟨⟨j + 1, m + 1, A9, c9, us ++ [#[.int .i64 y.k, .int .i64 y.q, .int .i64 y.e, .int .i64 y.i, .int .i64 y.t, .int .i64 y.c, .slice LA ln lc, .slice BA bn bc]], by omega, by go_num, rfl, by omega, hidT hO9, hidT ?_, hidT ((bthen HBX.out HN.out).trans hb9)⟩, by simp [intOf]; omega⟩
        rw [HFF.out]
        exact HA.out.app (AreI.one HI.out)
    · obtain rfl : n = j := by omega
      have hA := HA.out
      rw [List.take_of_length_le (by rw [HLEN.out]; exact Nat.le_refl _), HOTH.out] at hA
      have HAA := hidT hA
      clear hA
      have hbr := bthen HB6.out HBr.out
      have Z1 := hidT (keepH T1.out hbr)
      have Z2 := hidT (keepH T2.out hbr)
      obtain ⟨m0, m1, m2, m3, m4, m5, m6, m7⟩ := cells8 (keepH Y6.out HBr.out)
      obtain ⟨n1, n2⟩ := hnx
      have s1 : IntKind.i64.wrap (k.next + 1) = k.next + 1 := IntWalk.i64_in _ (by omega)
      have s1' : wrap64 (k.next + 1) = k.next + 1 := IntWalk.wrap64_in _ (by omega)
      have HBR := hidT hbr
      have hw6 : h < W6.heap.size := blk_lt Y6.out
      have HW6' := hidT hw6
      clear hbr hw6
      go_upto_region 10 with fail
      have z1 := Z1.out
      have z2 := Z2.out
      obtain ⟨X1, X2, eX, g1, g2, bt1, bt2, bel⟩ := set82 (p := g + 1) (q := g + 1 + 1) z1 z2 (by omega) (.int .i64 x.k) (.int .i64 x.q) (.int .i64 x.e) (.int .i64 x.i) (.int .i64 x.t) (.int .i64 x.c) (.slice LA5 ln5 lc5) (.slice BA5 bn5 bc5) (.int .i64 (k.next + 1)) (.slice B m d)
      have EX := hidT eX
      have G1 := hidT g1
      have G2 := hidT g2
      have BEL := hidT (bel _ _ (bthen HB.out HBR.out) (show w.heap.size ≤ g + 1 by have := HG.out; omega) (show w.heap.size ≤ g + 1 + 1 by have := HG.out; omega))
      have HRK := hidT (((HO.out.but (show g + 1 < W6.heap.size by have := HWH.out; have := HWS.out; have := HW6'.out; omega) bt1).but (show g + 1 + 1 < W6.heap.size by have := HWH.out; have := HWS.out; have := HW6'.out; omega) bt2).same)
      have HFI := hidT (HF5.out.below BEL.out)
      clear eX g1 g2 bt1 bt2 bel
      obtain ⟨a0, a1⟩ := cells2 z2
      obtain ⟨b0, b1, b2, b3, b4, b5, b6, b7⟩ := cells8 z1
      have fa0 := no_frozen z2 0
      have fa1 := no_frozen z2 1
      have fb0 := no_frozen z1 0
      have fb1 := no_frozen z1 1
      have fb2 := no_frozen z1 2
      have fb3 := no_frozen z1 3
      have fb4 := no_frozen z1 4
      have fb5 := no_frozen z1 5
      have fb6 := no_frozen z1 6
      have fb7 := no_frozen z1 7
      have hne : ¬ h = g + 1 := by have := HWH.out; have := HWS.out; omega
      have hne2 : ¬ h = g + 1 + 1 := by have := HWH.out; have := HWS.out; omega
      clear z1 z2
      go_region
      rw [EX.out]
      obtain ⟨e0, e1, e2, e3, e4, e5, e6, e7⟩ := cells8 G1.out
      obtain ⟨d0, d1⟩ := cells2 G2.out
      clear a0 a1 b0 b1 b2 b3 b4 b5 b6 b7 fa0 fa1 fb0 fb1 fb2 fb3 fb4 fb5 fb6 fb7
      go_wp2_with fail
      exact bodyPost_ret (v := .tuple #[.agg #[.int .i64 x.k, .int .i64 x.q, .int .i64 x.e, .int .i64 x.i, .int .i64 x.t, .int .i64 x.c, .slice LA5 ln5 lc5, .slice BA5 bn5 bc5], .agg #[.int .i64 (k.next + 1), .slice B m d], .bool true]) (by simp [results, Try.results22, go_sem, e0, e1, e2, e3, e4, e5, e6, e7, d0, d1]) rfl
        ⟨_, _, rfl, HFI.out, ⟨B, m, d, rfl, us, HRK.out, HAA.out.below BEL.out⟩, BEL.out⟩
theorem rwtake_any (v : Value) (k : Keep.Kp) (w : World) (h : IsKeep w v k) (hr : Win.right k = true) (hS : k.l.length ≤ 65536) : Calls Try.prog 22 #[v] w (RTakeIs w (Win.peek k) (Win.take k)) := by
  obtain ⟨A, n, c, rfl, hX⟩ := h
  rcases Option.eq_none_or_eq_some (Win.peek k) with hp | ⟨x, hp⟩
  · exact rwtake_none A n c k hp w hX hr
  · exact rwtake_some A n c k x hp hS w hX hr
end Go.Proofs.Ytkkkfaelpmmffaa
