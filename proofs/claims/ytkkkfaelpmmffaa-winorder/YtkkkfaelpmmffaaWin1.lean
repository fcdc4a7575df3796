/- What win's within, own and place come to. -/
import Derived.Test.YtkkkfaelpmmffaaKG1
import Derived.Test.YtkkkfaelpmmffaaWinMath
import Derived.WalkMore
import Derived.ScopeJumps
import Derived.Deep.QuietTactic
set_option maxRecDepth 100000
namespace Go.Proofs.Ytkkkfaelpmmffaa
open Go.RowKit
set_option linter.unusedVariables false

theorem wwithin_any (n a b : Int) (w : World) : Calls Try.prog 27 #[.int .i64 n, .int .i64 a, .int .i64 b] w (fun e w' => e = .returned (.bool (decide (a ≤ n) && decide (n ≤ b))) ∧ w' = w) := by
  by_cases h1 : a ≤ n
  · by_cases h2 : n ≤ b
    · have q1 : decide (a ≤ n) = true := by simpa using h1
      have q2 : decide (n ≤ b) = true := by simpa using h2
      go_enter Try.func27, Try.ntmps27
      go_wp2
      go_ret
      first | exact ⟨rfl, rfl⟩ | exact ⟨by rw [q1, q2]; rfl, rfl⟩
    · have q1 : decide (a ≤ n) = true := by simpa using h1
      have q2 : decide (n ≤ b) = false := by simpa using h2
      go_enter Try.func27, Try.ntmps27
      go_wp2
      go_ret
      first | exact ⟨rfl, rfl⟩ | exact ⟨by rw [q1, q2]; rfl, rfl⟩
  · have q1 : decide (a ≤ n) = false := by simpa using h1
    go_enter Try.func27, Try.ntmps27
    go_wp2
    go_ret
    first | exact ⟨rfl, rfl⟩ | exact ⟨by rw [q1]; rfl, rfl⟩
theorem wwithin_is (n a b : Int) (w : World) (t : Bool) (ht : (decide (a ≤ n) && decide (n ≤ b)) = t) : Calls Try.prog 27 #[.int .i64 n, .int .i64 a, .int .i64 b] w (fun e w' => e = .returned (.bool t) ∧ w' = w) := by
  rw [← ht]
  exact wwithin_any n a b w
set_option maxHeartbeats 2000000 in
theorem wown_any (v : Value) (x : Item.It) (w : World) (h : IsItem w v x) (hL : x.l.length ≤ 65536) (hB : x.b.length ≤ 65536) :
    Calls Try.prog 35 #[v] w (OwnIs w x) := by
  obtain ⟨LA, ln, lc, BA, bn, bc, rfl, hl, hb⟩ := h
  have hln := RdI.size hl
  have hbn := hb.1
  obtain ⟨t1, t2, t3⟩ := two_alloc w (.cells #[.int .i64 x.k, .int .i64 x.q, .int .i64 x.e, .int .i64 x.i, .int .i64 x.t, .int .i64 x.c, .slice LA ln lc, .slice BA bn bc] 28) (.cells zcells 28)
  obtain ⟨W, hW⟩ : ∃ W, (w.alloc (.cells #[.int .i64 x.k, .int .i64 x.q, .int .i64 x.e, .int .i64 x.i, .int .i64 x.t, .int .i64 x.c, .slice LA ln lc, .slice BA bn bc] 28)).alloc (.cells zcells 28) = W := ⟨_, rfl⟩
  have HS : Hid (W.heap.size = w.heap.size + 2) := by rw [← hW, size_alloc, size_alloc]; rfl
  rw [hW] at t1 t2 t3
  have HW := hidT hW
  clear hW
  have H5 : Hid (∀ w', Below W.heap.size W w' → Calls Try.prog 43 #[.slice LA ln lc] w' (fun e w2 => ∃ B d, e = .returned (.slice B ln d) ∧ OwnV w2 w'.heap.size 3 (.slice B ln d) ln (is x.l) ∧ Below w'.heap.size w' w2)) :=
    hidT fun w' hb' => cloneI_any LA ln lc x.l w' (RdV.below hl (bthen t3 hb')) (by omega)
  have H6 : Hid (∀ w', Below W.heap.size W w' → Calls Try.prog 44 #[.slice BA bn bc] w' (Gives w' 5 x.b)) :=
    hidT fun w' hb' => clone_any BA bn bc x.b w' (hb.below (bthen t3 hb')) (by omega)
  have k6 := fun w' (hb' : Below W.heap.size W w') => (cells8 (keepH t1 hb')).2.2.2.2.2.2.1
  have k7 := fun w' (hb' : Below W.heap.size W w') => (cells8 (keepH t1 hb')).2.2.2.2.2.2.2
  obtain ⟨g, hg⟩ : ∃ g, w.heap.size = g := ⟨_, rfl⟩
  rw [hg] at t1 t2
  have T1 := hidT t1
  have T2 := hidT t2
  have T3 := hidT t3
  have HG := hidT hg
  clear t1 t2 t3 hl hb hL hB hln hbn
  go_enter Try.func35, Try.ntmps35
  go_wp2_with fail
  rw [HW.out]
  rw [hg] at k6 k7
  clear hg
  have c6 := k6 W (Below.refl _ _)
  have c7 := k7 W (Below.refl _ _)
  clear k6 k7
  have hgW : g ≤ W.heap.size := by have := HS.out; have := HG.out; omega
  go_region_law
    (first
      | (go_simp; go_at_call 43; ((with_reducible refine (H5.out _ (Below.refl _ _).drew).mono ?_); rintro e5 w5 ⟨A5, c5, rfl, ho5, hb5'⟩; have hb5 : Below W.heap.size W w5 := undrew hb5'; have y5 := keepH T1.out hb5; obtain ⟨i0, i1, i2, i3, i4, i5, i6, i7⟩ := cells8 y5))
      | (go_simp; go_at_call 44; ((with_reducible refine (H6.out _ hb5).mono ?_); rintro e6 w6 ⟨A6, c6, rfl, ho6, hb6'⟩; have hb6 : Below W.heap.size W w6 := bthen hb5 hb6'; have y6 := keepH T1.out hb6; have f6 := no_frozen y6 6; have f7 := no_frozen y6 7; obtain ⟨j0, j1, j2, j3, j4, j5, j6, j7⟩ := cells8 y6))
      | fail)
  all_goals
    have z1 : (w6.setCell ⟨g, 6, none⟩ (.slice A5 ln c5)).heap[g]? = some (.cells #[.int .i64 x.k, .int .i64 x.q, .int .i64 x.e, .int .i64 x.i, .int .i64 x.t, .int .i64 x.c, .slice A5 ln c5, .slice BA bn bc] 28 (0, 0)) := heap_setCell_same w6 g 6 _ _ _ y6
    have z2 : ((w6.setCell ⟨g, 6, none⟩ (.slice A5 ln c5)).setCell ⟨g, 7, none⟩ (.slice A6 x.b.length c6)).heap[g]? = some (.cells #[.int .i64 x.k, .int .i64 x.q, .int .i64 x.e, .int .i64 x.i, .int .i64 x.t, .int .i64 x.c, .slice A5 ln c5, .slice A6 x.b.length c6] 28 (0, 0)) := heap_setCell_same _ g 7 _ _ _ z1
    have zb : But g w6 ((w6.setCell ⟨g, 6, none⟩ (.slice A5 ln c5)).setCell ⟨g, 7, none⟩ (.slice A6 x.b.length c6)) := (But.setCell w6 g 6 _).trans (But.setCell _ g 7 _)
    have z3 := (zb.2 (g + 1) (by omega)).trans (keepH T2.out hb6)
    have hbX : Below w.heap.size w ((w6.setCell ⟨g, 6, none⟩ (.slice A5 ln c5)).setCell ⟨g, 7, none⟩ (.slice A6 x.b.length c6)) := by
      have e := HG.out
      exact ((bthen T3.out hb6).setCell (p := ⟨g, 6, none⟩) (by show w.heap.size ≤ g; omega) _).setCell (p := ⟨g, 7, none⟩) (by show w.heap.size ≤ g; omega) _
    have hW5 := hb5.size
    have hW6 := hb6.size
    have hS := HS.out
    have hgg := HG.out
    have hws : W.heap.size ≤ w5.heap.size := hb5.size
    have r5 : RdI w6 A5 ln c5 x.l := RdV.below (OwnV.same ho5) hb6'
    have a5 : ∀ b o, A5 = some ⟨b, o, none⟩ → w.heap.size + 2 ≤ b := addrV ho5 (by rw [← hS]; exact Nat.le_refl _)
    have a6 : ∀ b o, A6 = some ⟨b, o, none⟩ → w.heap.size + 2 ≤ b := addrB ho6 (by omega)
    have r6 := ho6.same
    have R5 := hidT (RdV.but r5 (fun b o e => by have := a5 b o e; omega) zb)
    have R6 := hidT (r6.but (fun b o e => by have := a6 b o e; omega) zb)
    have AA5 := hidT a5
    have AA6 := hidT a6
    clear z1 zb c7 hb5 hb6 hb5' hb6' ho5 ho6 r5 r6 a5 a6 y5 y6 f6 f7 i0 i1 i2 i3 i4 i5 i6 i7 j0 j1 j2 j3 j4 j5 j6 j7 hW5 hW6 hws
    generalize (w6.setCell ⟨g, 6, none⟩ (.slice A5 ln c5)).setCell ⟨g, 7, none⟩ (.slice A6 x.b.length c6) = X at *
    obtain ⟨i0, i1, i2, i3, i4, i5, i6, i7⟩ := cells8 z2
    clear hS hgg
    go_wp2_with (
      refine wpList_stI rfl 28 _ _ rfl (g + 1) #[.int .i64 x.k, .int .i64 x.q, .int .i64 x.e, .int .i64 x.i, .int .i64 x.t, .int .i64 x.c, .slice A5 ln c5, .slice A6 x.b.length c6] rfl rfl _ _ z3 size8 rfl (by simp [Value.oneCell']) ?_
      intro w7 hg7 hbut hbel)
    obtain ⟨e0, e1, e2, e3, e4, e5, e6, e7⟩ := cells8 hg7
    have hgg := HG.out
    exact bodyPost_ret (v := .agg #[.int .i64 x.k, .int .i64 x.q, .int .i64 x.e, .int .i64 x.i, .int .i64 x.t, .int .i64 x.c, .slice A5 ln c5, .slice A6 x.b.length c6]) (by simp [results, Try.results35, go_sem, e0, e1, e2, e3, e4, e5, e6, e7]) rfl
      ⟨_, rfl, ⟨A5, ln, c5, A6, x.b.length, c6, rfl, RdV.but R5.out (fun b o e => by have := AA5.out b o e; omega) hbut, R6.out.but (fun b o e => by have := AA6.out b o e; omega) hbut, fun b o e => by have := AA5.out b o e; omega, fun b o e => by have := AA6.out b o e; omega⟩, hbel _ _ hbX (by omega)⟩
theorem place_any (A : Option Addr) (n c : Nat) (xs : List Item.It) (s : Int) (w : World) (h : RdX w A n c xs) :
    Calls Try.prog 32 #[.slice A n c, .int .i64 s] w (fun e w' => e = .returned (.tuple #[.int .i64 (Win.at_ xs s : Nat), .bool (Win.hit xs s)]) ∧ Below w.heap.size w w') := by
  have hle := h.le
  have HLEN := hidT h.size
  have H := hidT h
  clear h
  obtain ⟨at_, HAT⟩ : ∃ at_, Hid (Win.at_ xs s = at_) := ⟨_, rfl⟩
  obtain ⟨t, HT⟩ : ∃ t, Hid (Win.hit xs s = t) := ⟨_, rfl⟩
  rw [HAT.out, HT.out]
  go_enter Try.func32, Try.ntmps32
  go_wp2
  refine wp_scope_jumps 0 (fun a' w' => w = w' ∧ ∃ (j : Nat) (u2 u3 u4 u5 u7 u8 u9 u10 u11 u12 u13 u14 u15 u16 u17 u18 u19 u20 u21 u22 u23 u24 u25 u26 u27 u28 : Value), a' = { tmps := #[.slice A n c, .int .i64 s, u2, u3, u4, u5, .int .i64 (j : Int), u7, u8, u9, u10, u11, u12, u13, u14, u15, u16, u17, u18, u19, u20, u21, u22, u23, u24, u25, u26, u27, u28], defers := [] } ∧ j ≤ n ∧ Hid (∀ i y, i < j → xs[i]? = some y → (fun y : Item.It => decide (s ≤ y.q)) y = false)) (fun a' _ => n - (intOf (a'.tmps.getD 6 undef)).toNat) rfl ?_ ?_
  · go_wp2
    go_step3
    have HNJ : ∀ i y, i < 0 → xs[i]? = some y → (fun y : Item.It => decide (s ≤ y.q)) y = false := fun i y hi => absurd hi (by omega)
    by_cases hjn : 0 < n
    · obtain ⟨b, o, x, LA, ln, lc, BA, bn, bc, rfl, hx, hi, hcs⟩ := H.out.told hjn
      obtain ⟨c0, c1, c2, c3, c4, c5, c6, c7⟩ := hcs w (Below.refl _ _)
      simp only [Nat.zero_mul, Nat.add_zero] at c0 c1 c2 c3 c4 c5 c6 c7
      have x1 : (0 : Int) ≤ (0 : Int) := by omega
      have x2 : (0 : Int) < (n : Int) := by omega
      have x3 : ((0 : Int) == (n : Int)) = false := by simp; omega
      have HX := hidT hx
      clear hi hcs hx
      by_cases hq : s ≤ x.q
      · have q1 : decide (x.q < s) = false := by simpa using hq
        have e1 : at_ = 0 := by rw [← HAT.out]; exact idx_at HNJ HX.out (by simpa using hq)
        have e2 : t = decide (x.q = s) := by
          rw [← HT.out]
          unfold Win.hit
          rw [show Win.at_ xs s = 0 from by rw [HAT.out, e1], HX.out]
        subst e1
        have HQ := hidT hq
        clear hq
        by_cases hs : x.q = s
        · have q2 : (x.q == s) = true := by simpa using hs
          have e3 : t = true := by rw [e2]; simpa using hs
          subst e3
          clear e2 hs
          go_wp2_with fail
          go_quiet (fail)
          go_wp2
          simp only [Exit.jump]
          go_ret2
          exact ⟨rfl, drawn_below _ _⟩
        · have q2 : (x.q == s) = false := by simpa using hs
          have e3 : t = false := by rw [e2]; simpa using hs
          subst e3
          clear e2 hs
          go_wp2_with fail
          go_quiet (fail)
          go_wp2
          simp only [Exit.jump]
          go_ret2
          exact ⟨rfl, drawn_below _ _⟩
      · have q1 : decide (x.q < s) = true := by simp; omega
        have HQ := hidT (show decide (s ≤ x.q) = false by simpa using hq)
        clear hq
        go_wp2
        go_step3
        refine ⟨rfl, rfl, 0 + 1, _, _, _, _, _, _, _, _, _, _, _, _, _, _, _, _, _, _, _, _, _, _, _, _, _, _, rfl, by omega, hidT (fun i y hi hy => ?_)⟩
        · by_cases hij : i = 0
          · subst hij
            rw [HX.out] at hy
            injection hy with hy
            subst hy
            exact HQ.out
          · exact HNJ i y (by omega) hy
    · obtain rfl : n = 0 := by omega
      have x3 : ((0 : Int) == (0 : Int)) = true := by simp
      have e1 : at_ = 0 := by rw [← HAT.out, ← HLEN.out]; exact idx_none (fun i y hi hy => HNJ i y (by rw [HLEN.out] at hi; exact hi) hy)
      have e2 : t = false := by
        rw [← HT.out]
        unfold Win.hit
        rw [show Win.at_ xs s = 0 from by rw [HAT.out, e1], List.getElem?_eq_none (by rw [HLEN.out]; exact Nat.le_refl _)]
      subst e1 e2
      go_wp2
      simp only [Exit.jump]
      go_ret2
      exact ⟨rfl, Below.refl _ _⟩
  · rintro a' w' ⟨rfl, j, u2, u3, u4, u5, u7, u8, u9, u10, u11, u12, u13, u14, u15, u16, u17, u18, u19, u20, u21, u22, u23, u24, u25, u26, u27, u28, rfl, hj, HN⟩
    have HNJ := HN.out
    clear HN
    by_cases hjn : j < n
    · obtain ⟨b, o, x, LA, ln, lc, BA, bn, bc, rfl, hx, hi, hcs⟩ := H.out.told hjn
      obtain ⟨c0, c1, c2, c3, c4, c5, c6, c7⟩ := hcs w (Below.refl _ _)
      have x1 : (0 : Int) ≤ (j : Int) := by omega
      have x2 : (j : Int) < (n : Int) := by omega
      have x3 : ((j : Int) == (n : Int)) = false := by simp; omega
      have HX := hidT hx
      clear hi hcs hx
      by_cases hq : s ≤ x.q
      · have q1 : decide (x.q < s) = false := by simpa using hq
        have e1 : at_ = j := by rw [← HAT.out]; exact idx_at HNJ HX.out (by simpa using hq)
        have e2 : t = decide (x.q = s) := by
          rw [← HT.out]
          unfold Win.hit
          rw [show Win.at_ xs s = j from by rw [HAT.out, e1], HX.out]
        subst e1
        have HQ := hidT hq
        clear hq
        by_cases hs : x.q = s
        · have q2 : (x.q == s) = true := by simpa using hs
          have e3 : t = true := by rw [e2]; simpa using hs
          subst e3
          clear e2 hs
          go_wp2_with fail
          go_quiet (fail)
          go_wp2
          simp only [Exit.jump]
          go_ret2
          exact ⟨rfl, drawn_below _ _⟩
        · have q2 : (x.q == s) = false := by simpa using hs
          have e3 : t = false := by rw [e2]; simpa using hs
          subst e3
          clear e2 hs
          go_wp2_with fail
          go_quiet (fail)
          go_wp2
          simp only [Exit.jump]
          go_ret2
          exact ⟨rfl, drawn_below _ _⟩
      · have q1 : decide (x.q < s) = true := by simp; omega
        have HQ := hidT (show decide (s ≤ x.q) = false by simpa using hq)
        clear hq
        go_wp2
        go_step3
        refine ⟨rfl, ⟨rfl, j + 1, _, _, _, _, _, _, _, _, _, _, _, _, _, _, _, _, _, _, _, _, _, _, _, _, _, _, rfl, by omega, hidT (fun i y hi hy => ?_)⟩, ?_⟩
        · by_cases hij : i = j
          · subst hij
            rw [HX.out] at hy
            injection hy with hy
            subst hy
            exact HQ.out
          · exact HNJ i y (by omega) hy
        · simp [intOf]; omega
    · obtain rfl : n = j := by omega
      have x3 : ((n : Int) == (n : Int)) = true := by simp
      have e1 : at_ = n := by rw [← HAT.out, ← HLEN.out]; exact idx_none (fun i y hi hy => HNJ i y (by rw [HLEN.out] at hi; exact hi) hy)
      have e2 : t = false := by
        rw [← HT.out]
        unfold Win.hit
        rw [show Win.at_ xs s = n from by rw [HAT.out, e1], List.getElem?_eq_none (by rw [HLEN.out]; exact Nat.le_refl _)]
      subst e1 e2
      go_wp2
      simp only [Exit.jump]
      go_ret2
      exact ⟨rfl, Below.refl _ _⟩
end Go.Proofs.Ytkkkfaelpmmffaa
