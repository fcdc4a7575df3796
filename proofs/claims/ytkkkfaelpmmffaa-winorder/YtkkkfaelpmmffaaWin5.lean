/- What win's Take comes to. -/
import Derived.Test.YtkkkfaelpmmffaaWin4
import Derived.RegionTactic
import Derived.BigRegion
import Derived.Deep.Cut
set_option maxRecDepth 100000
namespace Go.Proofs.Ytkkkfaelpmmffaa
open Go.RowKit
set_option linter.unusedVariables false

/-- What Take tells. -/
def TakeIs (w : World) (o : Option Item.It) (k : Keep.Kp) (e : Ending) (w' : World) : Prop := ∃ v u, e = .returned (.tuple #[v, u, .bool o.isSome]) ∧ FrI w' w.heap.size v (o.getD Item.It.zero) ∧ FrK w' w.heap.size u k ∧ Below w.heap.size w w'
/-- An empty slice, with room. -/
theorem RdK.recap {k : Nat} {w : World} {A : Option Addr} (h : RdK k w A 0 0 []) {a : Addr} {d : Nat} (hd : d ≤ maxLen) : RdK k w (some a) 0 d [] := ⟨AllK.nil_ k, rfl, Nat.zero_le _, hd, (fun h => by cases h), fun h => absurd h (by omega)⟩
theorem RowsX.one {w : World} {A : Option Addr} {n c : Nat} {rs : List (Array Value)} (h : RdK 8 w A n c rs) : RowsX w [.slice A n c] [rs] := by
  refine ⟨rfl, fun i v p h1 h2 => ?_⟩
  cases i with
  | zero =>
    simp only [List.getElem?_cons_zero, Option.some.injEq] at h1 h2
    subst h1; subst h2
    exact ⟨A, n, c, rfl, h⟩
  | succ i => simp at h1
theorem RowsX.cons {w : World} {A : Option Addr} {n c : Nat} {rs : List (Array Value)} {vs : List Value} {ps : List (List (Array Value))} (h : RdK 8 w A n c rs) (ht : RowsX w vs ps) : RowsX w (.slice A n c :: vs) (rs :: ps) := by
  refine ⟨by simp [ht.1], fun i v p h1 h2 => ?_⟩
  cases i with
  | zero =>
    simp only [List.getElem?_cons_zero, Option.some.injEq] at h1 h2
    subst h1; subst h2
    exact ⟨A, n, c, rfl, h⟩
  | succ i =>
    simp only [List.getElem?_cons_succ] at h1 h2
    exact ht.2 i v p h1 h2
/-- Two structs, of eight cells and of two, are stored, and the draw counted. -/
theorem set82 {X : World} {p q : Nat} {b0 b1 b2 b3 b4 b5 b6 b7 c0 c1 : Value} {t t' : TypeId} (h : X.heap[p]? = some (.cells #[b0, b1, b2, b3, b4, b5, b6, b7] t (0, 0))) (h2 : X.heap[q]? = some (.cells #[c0, c1] t' (0, 0))) (hpq : p ≠ q) (a0 a1 a2 a3 a4 a5 a6 a7 d0 d1 : Value) :
    ∃ Y Z, ((((((((((X.setCell ⟨p, 0, none⟩ a0).setCell ⟨p, 1, none⟩ a1).setCell ⟨p, 2, none⟩ a2).setCell ⟨p, 3, none⟩ a3).setCell ⟨p, 4, none⟩ a4).setCell ⟨p, 5, none⟩ a5).setCell ⟨p, 6, none⟩ a6).setCell ⟨p, 7, none⟩ a7).setCell ⟨q, 0, none⟩ d0).setCell ⟨q, 1, none⟩ d1).drew = Z ∧
      Z.heap[p]? = some (.cells #[a0, a1, a2, a3, a4, a5, a6, a7] t (0, 0)) ∧ Z.heap[q]? = some (.cells #[d0, d1] t' (0, 0)) ∧ But p X Y ∧ But q Y Z ∧ (∀ base w0, Below base w0 X → base ≤ p → base ≤ q → Below base w0 Z) := by
  obtain ⟨s1, s2, s3⟩ := set8 h a0 a1 a2 a3 a4 a5 a6 a7
  generalize (((((((X.setCell ⟨p, 0, none⟩ a0).setCell ⟨p, 1, none⟩ a1).setCell ⟨p, 2, none⟩ a2).setCell ⟨p, 3, none⟩ a3).setCell ⟨p, 4, none⟩ a4).setCell ⟨p, 5, none⟩ a5).setCell ⟨p, 6, none⟩ a6).setCell ⟨p, 7, none⟩ a7 = Y at *
  have s1' : Y.heap[p]? = some (.cells #[a0, a1, a2, a3, a4, a5, a6, a7] t (0, 0)) := s1
  have s2' : But p X Y := s2
  have bt := (But.setCell Y q 0 d0).trans (But.setCell _ q 1 d1)
  have x0 : Y.heap[q]? = some (.cells #[c0, c1] t' (0, 0)) := (s2'.2 q (fun e => hpq e.symm)).trans h2
  have x1 := heap_setCell_same _ q 1 _ _ d1 (heap_setCell_same _ q 0 _ _ d0 x0)
  have hb : ∀ base w0, Below base w0 X → base ≤ p → base ≤ q → Below base w0 ((Y.setCell ⟨q, 0, none⟩ d0).setCell ⟨q, 1, none⟩ d1) := fun base w0 hb hp hq => by
    have s3' : Below base w0 Y := ⟨(s3 base w0 hb hp).os, (s3 base w0 hb hp).tape, (s3 base w0 hb hp).output, (s3 base w0 hb hp).size, (s3 base w0 hb hp).block⟩
    exact (s3'.setCell (p := ⟨q, 0, none⟩) hq d0).setCell (p := ⟨q, 1, none⟩) hq d1
  generalize (Y.setCell ⟨q, 0, none⟩ d0).setCell ⟨q, 1, none⟩ d1 = Z at *
  exact ⟨Y, Z.drew, rfl, (bt.2 p hpq).trans s1', x1, s2', bt, fun base w0 h1 h2 h3 => (hb base w0 h1 h2 h3).drew⟩
set_option maxHeartbeats 8000000 in
theorem wtake_none (A : Option Addr) (n c : Nat) (k : Keep.Kp) (hp : Win.peek k = none) (w : World) (hX : RdX w A n c k.l) (hr : Win.right k = true) (hS : SmallL k.l) :
    Calls Try.prog 21 #[.agg #[.int .i64 k.next, .slice A n c]] w (TakeIs w (Win.peek k) (Win.take k)) := by
  have hn := hX.le
  obtain ⟨t0, t1, t2, hb⟩ := three_alloc w (.cells #[.int .i64 k.next, .slice A n c] 24) (.cells zcells 28) (.cells kz 24)
  obtain ⟨i0, i1⟩ := cells2 t0
  obtain ⟨W, hW⟩ : ∃ W, ((w.alloc (.cells #[.int .i64 k.next, .slice A n c] 24)).alloc (.cells zcells 28)).alloc (.cells kz 24) = W := ⟨_, rfl⟩
  have hws : W.heap.size = w.heap.size + 3 := by rw [← hW, size_alloc, size_alloc, size_alloc]
  rw [hW] at t0 t1 t2 hb i0 i1
  have hri := (Win.right_iff.1 hr).2.2
  have hc := wpeek_any (.agg #[.int .i64 k.next, .slice A n c]) k W ⟨A, n, c, rfl, hX.below hb⟩ hri hS
  obtain ⟨rs, hrs, hI⟩ := hX
  obtain ⟨g, hg⟩ : ∃ g, w.heap.size = g := ⟨_, rfl⟩
  rw [hg] at i0 i1 t0 t1 t2 hws
  have HW := hidT hW
  have HWS := hidT hws
  have HC := hidT hc
  have T0 := hidT t0
  have T1 := hidT t1
  have T2 := hidT t2
  have HB := hidT hb
  have HRS := hidT hrs
  have HI := hidT hI
  have HSM := hidT hS
  have HG := hidT hg
  have HR := hidT hr
  clear t0 t1 t2 hb hS hW hc hri hr hrs hI hws
  rw [hp] at HC
  have htk := (Win.peek_none hp).1
  rw [hp, htk]
  clear hp htk
  go_enter Try.func21, Try.ntmps21
  go_wp2_with fail
  rw [HW.out]
  clear hg
  with_reducible refine HC.out.mono ?_
  rintro e w5 ⟨v5, rfl, hF5, hb5⟩
  obtain ⟨LA5, ln5, lc5, BA5, bn5, bc5, ev5, hl5, hbd5, hla5, hba5⟩ := id hF5
  have ev5' : v5 = .agg #[.int .i64 0, .int .i64 0, .int .i64 0, .int .i64 0, .int .i64 0, .int .i64 0, .slice LA5 ln5 lc5, .slice BA5 bn5 bc5] := ev5
  clear ev5 hl5 hbd5 hla5 hba5 i0 i1
  subst ev5'
  obtain ⟨W6, hW6⟩ : ∃ W6, w5.alloc (.cells #[.int .i64 0, .int .i64 0, .int .i64 0, .int .i64 0, .int .i64 0, .int .i64 0, .slice LA5 ln5 lc5, .slice BA5 bn5 bc5] 28) = W6 := ⟨_, rfl⟩
  have n6 := nkeep w5 (.cells #[.int .i64 0, .int .i64 0, .int .i64 0, .int .i64 0, .int .i64 0, .int .i64 0, .slice LA5 ln5 lc5, .slice BA5 bn5 bc5] 28)
  have s6 := size_alloc w5 (.cells #[.int .i64 0, .int .i64 0, .int .i64 0, .int .i64 0, .int .i64 0, .int .i64 0, .slice LA5 ln5 lc5, .slice BA5 bn5 bc5] 28)
  rw [hW6] at n6 s6
  have hb6 := bthen hb5 n6
  obtain ⟨i0, i1⟩ := cells2 (keepH T0.out hb6)
  obtain ⟨h, hh⟩ : ∃ h, w5.heap.size = h := ⟨_, rfl⟩
  rw [hh] at s6
  have HB6 := hidT hb6
  have HW6 := hidT hW6
  have S6 := hidT s6
  have n7 := nkeep W6 (.cells #[.slice A n c] 22)
  have hb7 := bthen hb6 n7
  have hbw7 := bthen HB.out hb7
  have hl := laid_any (some ⟨h + 1, 0, none⟩) 1 1 [.slice A n c] [rs] k.l _ (RdV.lit W6 22 (0, 0) #[.slice A n c] [.slice A n c] rfl 1 rfl (by decide) (h + 1) s6) (RowsX.one (HRS.out.below hbw7)) (by simpa using HI.out.below hbw7) HSM.out
  obtain ⟨W7, hW7⟩ : ∃ W7, W6.alloc (.cells #[.slice A n c] 22) = W7 := ⟨_, rfl⟩
  rw [hW7] at hl hb7
  have HW7 := hidT hW7
  have HL := hidT hl
  have HB7 := hidT hb7
  rw [← HW6.out] at i0 i1
  clear hW7 hW6 n6 n7 s6 hb6 hb7 hbw7 hl hF5 hb5
  go_wp2_with fail
  rw [HW6.out, HW7.out]
  clear hh i0 i1
  with_reducible refine HL.out.mono ?_
  rintro e w8 ⟨B, m, d, us, rfl, hk8, ha8, hf8, hb8⟩
  have hb78 := bthen HB7.out hb8
  have y0 := keepH T0.out hb78
  have f1 := no_frozen y0 1
  obtain ⟨u0, u1⟩ := cells2 y0
  have z0 : (w8.setCell ⟨g, 1, none⟩ (.slice B m d)).heap[g]? = some (.cells #[.int .i64 k.next, .slice B m d] 24 (0, 0)) := heap_setCell_same w8 g 1 _ _ _ y0
  have zb : But g w8 (w8.setCell ⟨g, 1, none⟩ (.slice B m d)) := But.setCell w8 g 1 _
  have z1 := (zb.2 (g + 1) (by omega)).trans (keepH T1.out hb78)
  have z2 := (zb.2 (g + 2) (by omega)).trans (keepH T2.out hb78)
  have zB := (bthen HB.out hb78).setCell (p := ⟨g, 1, none⟩) (show w.heap.size ≤ g by have := HG.out; omega) (.slice B m d)
  have hws := HWS.out
  have hs7 := HB7.out.size
  have zk : FrK (w8.setCell ⟨g, 1, none⟩ (.slice B m d)) (g + 3) (.agg #[.int .i64 k.next, .slice B m d]) k := by
    have hfk : FrK w8 W7.heap.size (.agg #[.int .i64 k.next, .slice B m d]) k := ⟨B, m, d, us, rfl, hk8, ha8, hf8⟩
    exact (FrK.but hfk (by omega) zb).mono (by omega)
  have Z0 := hidT z0
  have Z1 := hidT z1
  have Z2 := hidT z2
  have ZB := hidT zB
  have ZK := hidT zk
  clear z0 z1 z2 zB zk zb y0 hb78 hk8 ha8 hf8 hb8 hws hs7
  go_upto_region 4 with fail
  clear u0 u1 f1
  generalize w8.setCell ⟨g, 1, none⟩ (.slice B m d) = X at *
  obtain ⟨u0, u1⟩ := cells2 Z0.out
  have z1 := Z1.out
  have z2 := Z2.out
  obtain ⟨X1, X2, eX, g1, g2, bt1, bt2, bel⟩ := set82 (p := g + 1) (q := g + 1 + 1) z1 z2 (by omega) (.int .i64 0) (.int .i64 0) (.int .i64 0) (.int .i64 0) (.int .i64 0) (.int .i64 0) (.slice none 0 0) (.slice none 0 0) (.int .i64 k.next) (.slice B m d)
  have EX := hidT eX
  have G1 := hidT g1
  have G2 := hidT g2
  have HF := hidT (((ZK.out.but (by omega) bt1).but (by omega) bt2).mono (show w.heap.size ≤ g + 3 by have := HG.out; omega))
  have BEL := hidT (bel _ _ ZB.out (show w.heap.size ≤ g + 1 by have := HG.out; omega) (show w.heap.size ≤ g + 1 + 1 by have := HG.out; omega))
  clear eX g1 g2 bt1 bt2 bel
  obtain ⟨a0, a1⟩ := cells2 z2
  obtain ⟨b0, b1, b2, b3, b4, b5, b6, b7⟩ := cells8 z1
  have fa0 := no_frozen z2 0
  have fa1 := no_frozen z2 1
  have fb0 := no_frozen z1 0
  have fb1 := no_frozen z1 1
  have fb2 := no_frozen z1 2
  have fb3 := no_frozen z1 3
  have fb4 := no_frozen z1 4
  have fb5 := no_frozen z1 5
  have fb6 := no_frozen z1 6
  have fb7 := no_frozen z1 7
  clear z1 z2
  go_region
  rw [EX.out]
  obtain ⟨e0, e1, e2, e3, e4, e5, e6, e7⟩ := cells8 G1.out
  obtain ⟨d0, d1⟩ := cells2 G2.out
  clear a0 a1 b0 b1 b2 b3 b4 b5 b6 b7 fa0 fa1 fb0 fb1 fb2 fb3 fb4 fb5 fb6 fb7 u0 u1
  go_wp2_with fail
  exact bodyPost_ret (v := .tuple #[.agg zcells, .agg #[.int .i64 k.next, .slice B m d], .bool false]) (by simp [results, Try.results21, go_sem, e0, e1, e2, e3, e4, e5, e6, e7, d0, d1]) rfl
    ⟨_, _, rfl, FrI.zero _ _, HF.out, BEL.out⟩
set_option maxHeartbeats 8000000 in
theorem wtake_some (A : Option Addr) (n c : Nat) (k : Keep.Kp) (x : Item.It) (hp : Win.peek k = some x) (w : World) (hX : RdX w A n c k.l) (hr : Win.right k = true) (hS : SmallL k.l) :
    Calls Try.prog 21 #[.agg #[.int .i64 k.next, .slice A n c]] w (TakeIs w (Win.peek k) (Win.take k)) := by
  have hn := hX.le
  obtain ⟨t0, t1, t2, hb⟩ := three_alloc w (.cells #[.int .i64 k.next, .slice A n c] 24) (.cells zcells 28) (.cells kz 24)
  obtain ⟨i0, i1⟩ := cells2 t0
  obtain ⟨W, hW⟩ : ∃ W, ((w.alloc (.cells #[.int .i64 k.next, .slice A n c] 24)).alloc (.cells zcells 28)).alloc (.cells kz 24) = W := ⟨_, rfl⟩
  have hws : W.heap.size = w.heap.size + 3 := by rw [← hW, size_alloc, size_alloc, size_alloc]
  rw [hW] at t0 t1 t2 hb i0 i1
  have hri := (Win.right_iff.1 hr).2.2
  have hc := wpeek_any (.agg #[.int .i64 k.next, .slice A n c]) k W ⟨A, n, c, rfl, hX.below hb⟩ hri hS
  obtain ⟨rs, hrs, hI⟩ := hX
  obtain ⟨g, hg⟩ : ∃ g, w.heap.size = g := ⟨_, rfl⟩
  rw [hg] at i0 i1 t0 t1 t2 hws
  have HW := hidT hW
  have HWS := hidT hws
  have HC := hidT hc
  have T0 := hidT t0
  have T1 := hidT t1
  have T2 := hidT t2
  have HB := hidT hb
  have HRS := hidT hrs
  have HI := hidT hI
  have HSM := hidT hS
  have HG := hidT hg
  have HR := hidT hr
  clear t0 t1 t2 hb hS hW hc hri hr hrs hI hws
  rw [hp] at HC
  obtain ⟨r, el, eq, htk⟩ := Win.peek_some hp
  rw [hp, htk]
  have hn0 : 0 < n := by rw [← HRS.out.size, HI.out.1, el]; simp
  have hpl := fun (w' : World) (hb' : Below w.heap.size w w') => place_next A n c k w' ⟨rs, HRS.out.below hb', HI.out.below hb'⟩ (Win.right_iff.1 HR.out).2.2
  rw [hp] at hpl
  have HPL := hidT hpl
  have HEL := hidT el
  have HEQ := hidT eq
  have hcap := HRS.out.cap
  have hcm := HRS.out.cmax
  obtain ⟨b, o, rfl⟩ := HRS.out.addr hn0
  clear hp htk hpl el eq
  go_enter Try.func21, Try.ntmps21
  go_wp2_with fail
  rw [HW.out]
  clear hg
  with_reducible refine HC.out.mono ?_
  rintro e w5 ⟨v5, rfl, hF5, hb5⟩
  obtain ⟨LA5, ln5, lc5, BA5, bn5, bc5, ev5, hl5, hbd5, hla5, hba5⟩ := id hF5
  have ev5' : v5 = .agg #[.int .i64 x.k, .int .i64 x.q, .int .i64 x.e, .int .i64 x.i, .int .i64 x.t, .int .i64 x.c, .slice LA5 ln5 lc5, .slice BA5 bn5 bc5] := ev5
  clear ev5 hl5 hbd5 hla5 hba5 i0 i1
  subst ev5'
  obtain ⟨W6, hW6⟩ : ∃ W6, w5.alloc (.cells #[.int .i64 x.k, .int .i64 x.q, .int .i64 x.e, .int .i64 x.i, .int .i64 x.t, .int .i64 x.c, .slice LA5 ln5 lc5, .slice BA5 bn5 bc5] 28) = W6 := ⟨_, rfl⟩
  have n6 := nkeep w5 (.cells #[.int .i64 x.k, .int .i64 x.q, .int .i64 x.e, .int .i64 x.i, .int .i64 x.t, .int .i64 x.c, .slice LA5 ln5 lc5, .slice BA5 bn5 bc5] 28)
  have y6 := alloc_at w5 (.cells #[.int .i64 x.k, .int .i64 x.q, .int .i64 x.e, .int .i64 x.i, .int .i64 x.t, .int .i64 x.c, .slice LA5 ln5 lc5, .slice BA5 bn5 bc5] 28) _ rfl
  rw [hW6] at n6 y6
  have hb6 := bthen hb5 n6
  obtain ⟨i0, i1⟩ := cells2 (keepH T0.out hb6)
  obtain ⟨h, hh⟩ : ∃ h, w5.heap.size = h := ⟨_, rfl⟩
  rw [hh] at y6
  have HB6 := hidT hb6
  have HW6 := hidT hW6
  have HWH := hidT (show W.heap.size ≤ h by rw [← hh]; exact hb5.size)
  have Y6 := hidT y6
  have HF6 := hidT (hF5.below n6)
  rw [← HW6.out] at i0 i1
  clear hW6 n6 hb6 hF5 hb5 y6
  go_wp2_with fail
  rw [HW6.out]
  clear hh i0 i1
  with_reducible refine (HPL.out W6 (bthen HB.out HB6.out)).mono ?_
  rintro e w7 ⟨rfl, hb7⟩
  have hb67 := bthen HB6.out hb7
  obtain ⟨i0, i1⟩ := cells2 (keepH T0.out hb67)
  have HB7 := hidT hb67
  have Y7 := hidT (keepH Y6.out hb7)
  have HF7 := hidT (HF6.out.below hb7)
  clear hb67 hb7 Y6 HF6 HB6 HPL
  have x1 : (1 : Int) ≤ (n : Int) := by omega
  have hw1 : IntKind.i64.wrap 1 = 1 := by decide
  obtain ⟨Q, hQ⟩ : ∃ Q : Option Addr, (if c = 1 then some ⟨b, o, none⟩ else some ⟨b, o + 8, none⟩) = Q := ⟨_, rfl⟩
  have x2 : (n : Int) ≤ (c : Int) := by omega
  have hrd : RdK 8 w Q (n - 1) (c - 1) (rs.drop 1) := by
    rw [← hQ]
    by_cases hc1 : c = 1
    · rw [if_pos hc1]
      have hn1 : n = 1 := by omega
      subst hc1
      subst hn1
      rw [List.drop_of_length_le (by rw [HRS.out.size]; exact Nat.le_refl _)]
      exact RdK.empty 8 w _
    · rw [if_neg hc1]
      exact HRS.out.drop (m := 1) (by omega)
  have hir : AreI w (rs.drop 1) r := by
    have := HI.out.drop 1
    rw [HEL.out] at this
    exact this
  have hbw7 := bthen HB.out HB7.out
  have n8 : Below w7.heap.size w7 (w7.alloc (.cells #[.slice (some ⟨b, o, none⟩) 0 c, .slice Q (n - 1) (c - 1)] 22)).drew := (nkeep w7 _).drew
  have hl := laid_any (some ⟨w7.heap.size, 0, none⟩) 2 2 [.slice (some ⟨b, o, none⟩) 0 c, .slice Q (n - 1) (c - 1)] [[], rs.drop 1] r (w7.alloc (.cells #[.slice (some ⟨b, o, none⟩) 0 c, .slice Q (n - 1) (c - 1)] 22)).drew
    (RdV.drew (RdV.lit w7 22 (0, 0) #[.slice (some ⟨b, o, none⟩) 0 c, .slice Q (n - 1) (c - 1)] [.slice (some ⟨b, o, none⟩) 0 c, .slice Q (n - 1) (c - 1)] rfl 2 rfl (by decide) w7.heap.size rfl))
    (RowsX.cons (RdK.recap (RdK.empty 8 _ none) HRS.out.2.2.2.1) (RowsX.one (hrd.below (bthen hbw7 n8)))) (by simpa using hir.below (bthen hbw7 n8))
    ⟨by have := HSM.out.1; rw [HEL.out, List.length_cons] at this; omega, fun y hy => HSM.out.2 y (by rw [HEL.out]; exact List.mem_cons_of_mem _ hy)⟩
  have HL := hidT hl
  have N8 := hidT n8
  clear hl n8 hbw7 hir hrd
  go_upto_region 6 with fail
  go_region_law
    (first
      | (go_simp; go_at_call 33; ((with_reducible refine HL.out.mono ?_); rintro e8 w8 ⟨B, m, d, us, rfl, hk8, ha8, hf8, hb8⟩; have hb78 := bthen HB7.out (bthen N8.out hb8); have y0 := keepH T0.out hb78; have f1 := no_frozen y0 1; obtain ⟨u0, u1⟩ := cells2 y0))
      | fail)
  all_goals
    have z0 : (w8.setCell ⟨g, 1, none⟩ (.slice B m d)).heap[g]? = some (.cells #[.int .i64 k.next, .slice B m d] 24 (0, 0)) := heap_setCell_same w8 g 1 _ _ _ y0
    have zb : But g w8 (w8.setCell ⟨g, 1, none⟩ (.slice B m d)) := But.setCell w8 g 1 _
    have z1 := (zb.2 (g + 1) (by omega)).trans (keepH T1.out hb78)
    have z2 := (zb.2 (g + 2) (by omega)).trans (keepH T2.out hb78)
    have z7 := (zb.2 h (by have := HWH.out; have := HWS.out; omega)).trans (keepH Y7.out (bthen N8.out hb8))
    have zB := (bthen HB.out hb78).setCell (p := ⟨g, 1, none⟩) (show w.heap.size ≤ g by have := HG.out; omega) (.slice B m d)
    have hws := HWS.out
    have hs7 := HB7.out.size
    have hs8 := N8.out.size
    have zf : FrI (w8.setCell ⟨g, 1, none⟩ (.slice B m d)) (g + 3) (.agg #[.int .i64 x.k, .int .i64 x.q, .int .i64 x.e, .int .i64 x.i, .int .i64 x.t, .int .i64 x.c, .slice LA5 ln5 lc5, .slice BA5 bn5 bc5]) x := ((HF7.out.below (bthen N8.out hb8)).mono (show g + 3 ≤ W.heap.size by omega)).but (by omega) zb
    have zk : FrK (w8.setCell ⟨g, 1, none⟩ (.slice B m d)) (g + 3) (.agg #[.int .i64 (k.next + 1), .slice B m d]) ⟨k.next + 1, r⟩ := by
      have hfk : FrK w8 (w7.alloc (.cells #[.slice (some ⟨b, o, none⟩) 0 c, .slice Q (n - 1) (c - 1)] 22)).drew.heap.size (.agg #[.int .i64 (k.next + 1), .slice B m d]) ⟨k.next + 1, r⟩ := ⟨B, m, d, us, rfl, hk8, ha8, hf8⟩
      exact (hfk.mono (show g + 3 ≤ _ by omega)).but (by omega) zb
    have Z0 := hidT z0
    have Z1 := hidT z1
    have Z2 := hidT z2
    have Z7 := hidT z7
    have ZB := hidT zB
    have ZK := hidT zk
    have ZF := hidT zf
    clear z0 z1 z2 z7 zB zk zf zb y0 hb78 hk8 ha8 hf8 hb8 hws hs7 hs8 u0 u1 f1 i0 i1
    generalize w8.setCell ⟨g, 1, none⟩ (.slice B m d) = X at *
    have hnx : 1 ≤ k.next ∧ k.next ≤ 4611686018427387905 := (Win.right_iff.1 HR.out).1.2
    obtain ⟨n1, n2⟩ := hnx
    have s1 : IntKind.i64.wrap (k.next + 1) = k.next + 1 := IntWalk.i64_in _ (by omega)
    have s1' : wrap64 (k.next + 1) = k.next + 1 := IntWalk.wrap64_in _ (by omega)
    have f0 := no_frozen Z0.out 0
    obtain ⟨u0, u1⟩ := cells2 Z0.out
    have v0 : (X.setCell ⟨g, 0, none⟩ (.int .i64 (k.next + 1))).heap[g]? = some (.cells #[.int .i64 (k.next + 1), .slice B m d] 24 (0, 0)) := heap_setCell_same X g 0 _ _ _ Z0.out
    have vb : But g X (X.setCell ⟨g, 0, none⟩ (.int .i64 (k.next + 1))) := But.setCell X g 0 _
    have V0 := hidT v0
    have V1 := hidT ((vb.2 (g + 1) (by omega)).trans Z1.out)
    have V2 := hidT ((vb.2 (g + 2) (by omega)).trans Z2.out)
    have V7 := hidT ((vb.2 h (by have := HWH.out; have := HWS.out; omega)).trans Z7.out)
    have VB := hidT (ZB.out.setCell (p := ⟨g, 0, none⟩) (show w.heap.size ≤ g by have := HG.out; omega) (.int .i64 (k.next + 1)))
    have VK := hidT (ZK.out.but (by omega) vb)
    have VF := hidT (ZF.out.but (by omega) vb)
    clear v0 vb
    go_upto_region 8 with fail
    clear u0 u1 f0
    generalize X.setCell ⟨g, 0, none⟩ (.int .i64 (k.next + 1)) = Y at *
    obtain ⟨u0, u1⟩ := cells2 V0.out
    obtain ⟨m0, m1, m2, m3, m4, m5, m6, m7⟩ := cells8 V7.out
    have z1 := V1.out
    have z2 := V2.out
    obtain ⟨X1, X2, eX, g1, g2, bt1, bt2, bel⟩ := set82 (p := g + 1) (q := g + 1 + 1) z1 z2 (by omega) (.int .i64 x.k) (.int .i64 x.q) (.int .i64 x.e) (.int .i64 x.i) (.int .i64 x.t) (.int .i64 x.c) (.slice LA5 ln5 lc5) (.slice BA5 bn5 bc5) (.int .i64 (k.next + 1)) (.slice B m d)
    have EX := hidT eX
    have G1 := hidT g1
    have G2 := hidT g2
    have hgw : w.heap.size ≤ g + 3 := by have := HG.out; omega
    have HF := hidT (((VK.out.but (by omega) bt1).but (by omega) bt2).mono hgw)
    have HFI := hidT (((VF.out.but (by omega) bt1).but (by omega) bt2).mono hgw)
    have BEL := hidT (bel _ _ VB.out (show w.heap.size ≤ g + 1 by have := HG.out; omega) (show w.heap.size ≤ g + 1 + 1 by have := HG.out; omega))
    clear eX g1 g2 bt1 bt2 bel hgw
    obtain ⟨a0, a1⟩ := cells2 z2
    obtain ⟨b0, b1, b2, b3, b4, b5, b6, b7⟩ := cells8 z1
    have fa0 := no_frozen z2 0
    have fa1 := no_frozen z2 1
    have fb0 := no_frozen z1 0
    have fb1 := no_frozen z1 1
    have fb2 := no_frozen z1 2
    have fb3 := no_frozen z1 3
    have fb4 := no_frozen z1 4
    have fb5 := no_frozen z1 5
    have fb6 := no_frozen z1 6
    have fb7 := no_frozen z1 7
    have hne : ¬ h = g + 1 := by have := HWH.out; have := HWS.out; omega
    have hne2 : ¬ h = g + 1 + 1 := by have := HWH.out; have := HWS.out; omega
    clear z1 z2
    go_region
    rw [EX.out]
    obtain ⟨e0, e1, e2, e3, e4, e5, e6, e7⟩ := cells8 G1.out
    obtain ⟨d0, d1⟩ := cells2 G2.out
    clear a0 a1 b0 b1 b2 b3 b4 b5 b6 b7 fa0 fa1 fb0 fb1 fb2 fb3 fb4 fb5 fb6 fb7 u0 u1 m0 m1 m2 m3 m4 m5 m6 m7
    go_wp2_with fail
    exact bodyPost_ret (v := .tuple #[.agg #[.int .i64 x.k, .int .i64 x.q, .int .i64 x.e, .int .i64 x.i, .int .i64 x.t, .int .i64 x.c, .slice LA5 ln5 lc5, .slice BA5 bn5 bc5], .agg #[.int .i64 (k.next + 1), .slice B m d], .bool true]) (by simp [results, Try.results21, go_sem, e0, e1, e2, e3, e4, e5, e6, e7, d0, d1]) rfl
      ⟨_, _, rfl, HFI.out, HF.out, BEL.out⟩
theorem wtake_any (v : Value) (k : Keep.Kp) (w : World) (h : IsKeep w v k) (hr : Win.right k = true) (hS : SmallL k.l) : Calls Try.prog 21 #[v] w (TakeIs w (Win.peek k) (Win.take k)) := by
  obtain ⟨A, n, c, rfl, hX⟩ := h
  rcases Option.eq_none_or_eq_some (Win.peek k) with hp | ⟨x, hp⟩
  · exact wtake_none A n c k hp w hX hr hS
  · exact wtake_some A n c k x hp w hX hr hS
end Go.Proofs.Ytkkkfaelpmmffaa
