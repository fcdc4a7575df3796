import Derived.Test.YtdchgnmkeefffaaLCX
set_option maxRecDepth 100000
/- What place comes to, by whether an entry is a message, and by its number. -/
namespace Go.Proofs.Ytdchgnmkeefffaa
open Go.RowKit
set_option linter.unusedVariables false

set_option maxHeartbeats 1000000 in
theorem placeB_any (A : Option Addr) (n c : Nat) {S : Nat → Prop} (xs : List Lane.En) (t : Bool) (w : World) (h : RdE S w A n c xs) :
    Calls Try.prog 72 #[.slice A n c, .func (.func 73) #[] #[], .bool t] w (IntIs w (xs.findIdx (fun y : Lane.En => Lane.isMsg y == t) : Nat)) := by
  have hle := h.le
  have hlen := h.size
  obtain ⟨v, HV⟩ : ∃ v : Nat, Hid (xs.findIdx (fun y : Lane.En => Lane.isMsg y == t) = v) := ⟨_, rfl⟩
  rw [HV.out]
  have H := hidT h
  clear h
  go_enter Try.func72, Try.ntmps72
  go_wp2
  go_loopw [11] (fun i wr => ∃ j : Nat, j ≤ n ∧ i = .int .i64 j ∧ Hid (∀ i y, i < j → xs[i]? = some y → (fun y : Lane.En => Lane.isMsg y == t) y = false) ∧ Hid (Below w.heap.size w wr)) (fun i _ => n - (intOf i).toNat)
  case atStart => exact ⟨0, Nat.zero_le _, rfl, hidT (fun i y hi => absurd hi (by omega)), hidT (Below.refl _ _)⟩
  case round =>
    obtain ⟨j, hj, rfl, HN, HB⟩ := hrel
    by_cases hjn : j < n
    · obtain ⟨b, o, x, BA, bn, bc, LA, ln, lc, rfl, hx, _, _, _, _, hcs⟩ := H.out.told hjn
      obtain ⟨c0, c1, c2, c3, c4⟩ := hcs wr HB.out
      have y4 := alloc_at wr (.cells #[.int .i64 x.k, .int .i64 x.q, .slice BA bn bc, .slice LA ln lc, .bool x.h] 59) _ rfl
      have n4 := nkeep wr (.cells #[.int .i64 x.k, .int .i64 x.q, .slice BA bn bc, .slice LA ln lc, .bool x.h] 59)
      obtain ⟨f0, f1, f2, f3, f4⟩ := cells5 y4
      have x1 : (0 : Int) ≤ (j : Int) := by omega
      have x2 : (j : Int) < (n : Int) := by omega
      have HX := hidT hx
      have N4 := hidT n4
      clear hcs hx y4 n4
      cases hp : (fun y : Lane.En => Lane.isMsg y == t) x with
      | true =>
        have hv := HV.out
        rw [idx_at HN.out HX.out hp] at hv
        have HVV := hidT hv
        obtain ⟨u, hu⟩ : ∃ u, Lane.isMsg x = u := ⟨_, rfl⟩
        have q : (u == t) = true := by rw [← hu]; exact hp
        have hcl := isMessage_any x BA bn bc LA ln lc (wr.alloc (.cells #[.int .i64 x.k, .int .i64 x.q, .slice BA bn bc, .slice LA ln lc, .bool x.h] 59)) u hu
        clear hu
        clear hv hp
        go_wp2_with fail
        with_reducible refine hcl.mono ?_
        rintro e w5 ⟨rfl, hb5⟩
        go_wp2
        go_ret
        exact ⟨by rw [← HVV.out]; rfl, bthen HB.out (bthen N4.out hb5)⟩
      | false =>
        obtain ⟨u, hu⟩ : ∃ u, Lane.isMsg x = u := ⟨_, rfl⟩
        have q : (u == t) = false := by rw [← hu]; exact hp
        have hcl := isMessage_any x BA bn bc LA ln lc (wr.alloc (.cells #[.int .i64 x.k, .int .i64 x.q, .slice BA bn bc, .slice LA ln lc, .bool x.h] 59)) u hu
        clear hu
        have HPX := hidT hp
        clear hp
        go_wp2_with fail
        with_reducible refine hcl.mono ?_
        rintro e w5 ⟨rfl, hb5⟩
        have HB5 := hidT (bthen HB.out (bthen N4.out hb5))
        clear hb5 c0 c1 c2 c3 c4 f0 f1 f2 f3 f4 hcl
        go_wp2
        refine ⟨⟨j + 1, by omega, by go_num, hidT (fun i y hi hy => ?_), HB5⟩, by simp [intOf]; omega⟩
        by_cases hij : i = j
        · subst hij
          rw [HX.out] at hy
          injection hy with hy
          subst hy
          exact HPX.out
        · exact HN.out i y (by omega) hy
    · obtain rfl : n = j := by omega
      have hv := HV.out
      rw [idx_none (fun i y hi hy => HN.out i y (by omega) hy), hlen] at hv
      have HVV := hidT hv
      clear hv
      go_wp2
      go_ret
      exact ⟨by rw [← HVV.out]; rfl, HB.out⟩

set_option maxHeartbeats 1000000 in
theorem placeI_any (A : Option Addr) (n c : Nat) {S : Nat → Prop} (xs : List Lane.En) (s : Int) (w : World) (h : RdE S w A n c xs) :
    Calls Try.prog 68 #[.slice A n c, .func (.func 66) #[] #[], .int .i64 s] w (IntIs w (xs.findIdx (fun y : Lane.En => decide (y.q = s)) : Nat)) := by
  have hle := h.le
  have hlen := h.size
  obtain ⟨v, HV⟩ : ∃ v : Nat, Hid (xs.findIdx (fun y : Lane.En => decide (y.q = s)) = v) := ⟨_, rfl⟩
  rw [HV.out]
  have H := hidT h
  clear h
  go_enter Try.func68, Try.ntmps68
  go_wp2
  go_loopw [11] (fun i wr => ∃ j : Nat, j ≤ n ∧ i = .int .i64 j ∧ Hid (∀ i y, i < j → xs[i]? = some y → (fun y : Lane.En => decide (y.q = s)) y = false) ∧ Hid (Below w.heap.size w wr)) (fun i _ => n - (intOf i).toNat)
  case atStart => exact ⟨0, Nat.zero_le _, rfl, hidT (fun i y hi => absurd hi (by omega)), hidT (Below.refl _ _)⟩
  case round =>
    obtain ⟨j, hj, rfl, HN, HB⟩ := hrel
    by_cases hjn : j < n
    · obtain ⟨b, o, x, BA, bn, bc, LA, ln, lc, rfl, hx, _, _, _, _, hcs⟩ := H.out.told hjn
      obtain ⟨c0, c1, c2, c3, c4⟩ := hcs wr HB.out
      have y4 := alloc_at wr (.cells #[.int .i64 x.k, .int .i64 x.q, .slice BA bn bc, .slice LA ln lc, .bool x.h] 59) _ rfl
      have n4 := nkeep wr (.cells #[.int .i64 x.k, .int .i64 x.q, .slice BA bn bc, .slice LA ln lc, .bool x.h] 59)
      obtain ⟨f0, f1, f2, f3, f4⟩ := cells5 y4
      have x1 : (0 : Int) ≤ (j : Int) := by omega
      have x2 : (j : Int) < (n : Int) := by omega
      have HX := hidT hx
      have N4 := hidT n4
      clear hcs hx y4 n4
      cases hp : (fun y : Lane.En => decide (y.q = s)) x with
      | true =>
        have hv := HV.out
        rw [idx_at HN.out HX.out hp] at hv
        have HVV := hidT hv
        have q : (x.q == s) = true := by simpa using hp
        have hcl := number_any x BA bn bc LA ln lc (wr.alloc (.cells #[.int .i64 x.k, .int .i64 x.q, .slice BA bn bc, .slice LA ln lc, .bool x.h] 59))
        clear hv hp
        go_wp2_with fail
        with_reducible refine hcl.mono ?_
        rintro e w5 ⟨rfl, hb5⟩
        go_wp2
        go_ret
        exact ⟨by rw [← HVV.out]; rfl, bthen HB.out (bthen N4.out hb5)⟩
      | false =>
        have q : (x.q == s) = false := by simpa using hp
        have hcl := number_any x BA bn bc LA ln lc (wr.alloc (.cells #[.int .i64 x.k, .int .i64 x.q, .slice BA bn bc, .slice LA ln lc, .bool x.h] 59))
        have HPX := hidT hp
        clear hp
        go_wp2_with fail
        with_reducible refine hcl.mono ?_
        rintro e w5 ⟨rfl, hb5⟩
        have HB5 := hidT (bthen HB.out (bthen N4.out hb5))
        clear hb5 c0 c1 c2 c3 c4 f0 f1 f2 f3 f4 hcl
        go_wp2
        refine ⟨⟨j + 1, by omega, by go_num, hidT (fun i y hi hy => ?_), HB5⟩, by simp [intOf]; omega⟩
        by_cases hij : i = j
        · subst hij
          rw [HX.out] at hy
          injection hy with hy
          subst hy
          exact HPX.out
        · exact HN.out i y (by omega) hy
    · obtain rfl : n = j := by omega
      have hv := HV.out
      rw [idx_none (fun i y hi hy => HN.out i y (by omega) hy), hlen] at hv
      have HVV := hidT hv
      clear hv
      go_wp2
      go_ret
      exact ⟨by rw [← HVV.out]; rfl, HB.out⟩
end Go.Proofs.Ytdchgnmkeefffaa
/- What told, First, Message and Control come to. -/
namespace Go.Proofs.Ytdchgnmkeefffaa
open Go.RowKit
set_option linter.unusedVariables false

/-- An entry, or none, of the call's own, and whether there is one. -/
def GetE (w : World) (o : Option Lane.En) (e : Ending) (w' : World) : Prop := ∃ v, e = .returned (.tuple #[v, .bool o.isSome]) ∧ IsEn (Hi w.heap.size) w' v (o.getD Lane.En.zero) ∧ Below w.heap.size w w'
theorem GetE.of {w w0 w' : World} {o : Option Lane.En} {e : Ending} (h : GetE w o e w') (hb : Below w0.heap.size w0 w) : GetE w0 o e w' := by
  obtain ⟨v, h1, h2, h3⟩ := h
  exact ⟨v, h1, h2.hi hb.size, bthen hb h3⟩
set_option maxHeartbeats 2000000 in
theorem told_any {S : Nat → Prop} (A : Option Addr) (n c : Nat) (xs : List Lane.En) (k : Nat) (w : World) (h : RdE S w A n c xs) (hs : ∀ x ∈ xs, SmallE x) (hk : k ≤ n) :
    Calls Try.prog 71 #[.slice A n c, .int .i64 (k : Int)] w (GetE w xs[k]?) := by
  have hle := h.le
  have hlen := h.size
  have y0 := alloc_at w (.cells ez 59) _ rfl
  have hb0 := nkeep w (.cells ez 59)
  obtain ⟨W, hW⟩ : ∃ W, w.alloc (.cells ez 59) = W := ⟨_, rfl⟩
  rw [hW] at y0 hb0
  obtain ⟨g, hg⟩ : ∃ g, w.heap.size = g := ⟨_, rfl⟩
  rw [hg] at y0
  have HG := hidT hg
  have HW := hidT hW
  have Y0 := hidT y0
  have HB0 := hidT hb0
  have HSW : Hid (W.heap.size = w.heap.size + 1) := by rw [← HW.out, size_alloc]; exact hidT rfl
  have H := hidT h
  have HSM := hidT hs
  clear y0 hb0 h hs hW
  by_cases hkn : k = n
  · subst hkn
    have q1 : ((k : Int) == (k : Int)) = true := by simp
    have HN := hidT (show xs[k]? = none from List.getElem?_eq_none (by omega))
    have y0 := Y0.out
    rw [← HW.out] at y0
    go_enter Try.func71, Try.ntmps71
    go_wp2_with (
      refine wpList_stI rfl 59 _ _ rfl g ez rfl rfl _ _ y0 sizeE rfl (by kernel_rfl) ?_
      intro w7 hg7 hbut hbel)
    obtain ⟨e0, e1, e2, e3, e4⟩ := cells5 hg7
    have hgg := HG.out
    have hb := HB0.out
    rw [← HW.out] at hb
    exact bodyPost_ret (v := .tuple #[.agg ez, .bool false]) (by simp [results, Try.results71, go_sem, e0, e1, e2, e3, e4]) rfl
      (by rw [HN.out]; exact ⟨_, rfl, IsEn.zero _ _, hbel _ _ hb (by omega)⟩)
  · obtain ⟨b, o, x, BA, bn, bc, LA, ln, lc, rfl, hx, hrb, hrl, hwb, hwl, hcs⟩ := H.out.told (i := k) (by omega)
    have q1 : ((k : Int) == (n : Int)) = false := by simp; omega
    have q2 : (k == n) = false := by simpa using hkn
    have x1 : (0 : Int) ≤ (k : Int) := by omega
    have x2 : (k : Int) < (n : Int) := by omega
    obtain ⟨c0, c1, c2, c3, c4⟩ := hcs W HB0.out
    rw [← HW.out] at c0 c1 c2 c3 c4
    have HX := hidT hx
    have HO : Hid (Calls Try.prog 70 #[.agg #[.int .i64 x.k, .int .i64 x.q, .slice BA bn bc, .slice LA ln lc, .bool x.h]] W (OwnIs W x)) := hidT (own_any (S := S) _ x W (IsEn.below ⟨BA, bn, bc, LA, ln, lc, rfl, hrb, hrl, hwb, hwl⟩ HB0.out) (HSM.out x (List.mem_of_getElem? hx)))
    clear hcs hx hrb hrl hwb hwl hkn
    go_enter Try.func71, Try.ntmps71
    go_wp2_with fail
    rw [HW.out]
    clear hg c0 c1 c2 c3 c4
    with_reducible refine HO.out.mono ?_
    rintro e w5 ⟨v5, rfl, hi5, hb5⟩
    obtain ⟨r5, rfl, hs5, ha5⟩ := hi5.cells
    have y5 := keepH Y0.out hb5
    have HB5 := hidT (bthen HB0.out hb5)
    have HI5 := hidT hi5
    clear hi5 hb5
    go_wp2_with (
      refine wpList_stI rfl 59 _ _ rfl g r5 rfl rfl _ _ y5 (by rw [hs5]; exact sizeE) (by rw [hs5]; rfl) ha5 ?_
      intro w7 hg7 hbut hbel)
    have hgg := HG.out
    have hsw := HSW.out
    obtain ⟨BA', bn', bc', LA', ln', lc', ev, hb', hl', hwb', hwl'⟩ := id HI5.out
    injection ev with ev
    subst ev
    obtain ⟨e0, e1, e2, e3, e4⟩ := cells5 hg7
    have hi7 := ((HI5.out.keptS (KeptS.hi hbut (by omega))).hi (lo' := w.heap.size) (by omega))
    exact bodyPost_ret (v := .tuple #[.agg #[.int .i64 x.k, .int .i64 x.q, .slice BA' bn' bc', .slice LA' ln' lc', .bool x.h], .bool true]) (by simp [results, Try.results71, go_sem, e0, e1, e2, e3, e4]) rfl
      (by rw [HX.out]; exact ⟨_, rfl, hi7, hbel _ _ HB5.out (by omega)⟩)

set_option maxHeartbeats 2000000 in
theorem message_any {S : Nat → Prop} (v : Value) (l : Lane.Ln) (w : World) (h : IsLane S w v l) (hS : SmallL l) : Calls Try.prog 55 #[v] w (GetE w (Lane.message l)) := by
  obtain ⟨A, n, c, B, m, d, rfl, hE, hB, hW⟩ := h
  obtain ⟨t0, t1, hb⟩ := two_alloc w (.cells #[.slice A n c, .int .i64 l.p.seq, .int .i64 l.p.total, .int .i64 l.p.got, .slice B m d] 51) (.cells ez 59)
  obtain ⟨W, hWW⟩ : ∃ W, (w.alloc (.cells #[.slice A n c, .int .i64 l.p.seq, .int .i64 l.p.total, .int .i64 l.p.got, .slice B m d] 51)).alloc (.cells ez 59) = W := ⟨_, rfl⟩
  have HS : Hid (W.heap.size = w.heap.size + 2) := by rw [← hWW, size_alloc, size_alloc]; exact hidT rfl
  rw [hWW] at t0 t1 hb
  have hlen := hE.size
  have hpl : (fun y : Lane.En => Lane.isMsg y == true) = Lane.isMsg := by funext y; cases Lane.isMsg y <;> rfl
  have he : Lane.message l = l.es[l.es.findIdx fun y : Lane.En => Lane.isMsg y == true]? := by rw [hpl]; exact find_idx _ _
  rw [he]
  have hle := idx_le l.es (fun y : Lane.En => Lane.isMsg y == true)
  have HP : Hid (∀ w', Below W.heap.size W w' → Calls Try.prog 72 #[.slice A n c, .func (.func 73) #[] #[], .bool true] w' (IntIs w' (l.es.findIdx (fun y : Lane.En => Lane.isMsg y == true) : Nat))) :=
    hidT fun w' hb' => placeB_any A n c l.es true w' (hE.below (bthen hb hb'))
  generalize (l.es.findIdx fun y : Lane.En => Lane.isMsg y == true) = k at HP hle ⊢
  have HO : Hid (∀ w', Below W.heap.size W w' → Calls Try.prog 71 #[.slice A n c, .int .i64 (k : Int)] w' (GetE w' l.es[k]?)) := hidT fun w' hb' => told_any A n c l.es k w' (hE.below (bthen hb hb')) hS.2.1 (by omega)
  generalize l.es[k]? = o at HO ⊢
  obtain ⟨g, hg⟩ : ∃ g, w.heap.size = g := ⟨_, rfl⟩
  rw [hg] at t0 t1
  have HG := hidT hg
  have HW := hidT hWW
  have T1 := hidT t1
  have HB := hidT hb
  obtain ⟨c0, c1, c2, c3, c4⟩ := cells5 t0
  have kk : ∀ w', Below W.heap.size W w' → w'.cell? ⟨g, 0, none⟩ = some (.slice A n c) := fun w' hb' => (cells5 (keepH t0 hb')).1
  clear he hpl hle hlen t0 t1 hb hE hB hWW hS
  go_enter Try.func55, Try.ntmps55
  go_wp2_with fail
  rw [HW.out]
  clear hg c1 c2 c3 c4
  go_region_law
    (first
      | (go_simp; go_at_call 72; ((with_reducible refine (HP.out _ (Below.refl _ _).drew).mono ?_); rintro e4 w4 ⟨rfl, hb4'⟩; have hb4 : Below W.heap.size W w4 := undrew hb4'; have j0 := kk w4 hb4))
      | (go_simp; go_at_call 71; ((with_reducible refine (HO.out _ hb4).mono ?_); rintro e5 w5 ⟨v5, rfl, hi5, hb5'⟩; have hb5 : Below W.heap.size W w5 := bthen hb4 hb5'; obtain ⟨r5, rfl, hs5, ha5⟩ := hi5.cells; obtain ⟨w7, hrun7, hg7H, hbutH, hbelH⟩ := st8 (keepH T1.out hb5) r5 (by rw [hs5]; rfl) ha5))
      | fail)
  all_goals
    have hg7 := hg7H.out
    have hbut := hbutH.out
    have hbel := hbelH.out
    have HB5 := hidT (bthen HB.out hb5)
    have HI5 := hidT (hi5.hi (lo' := W.heap.size) hb4.size)
    clear hg7H hbutH hbelH hrun7 hi5 hb5 hb5' hb4 hb4' kk c0 j0
    try go_wp2
    have hgg := HG.out
    have hsw := HS.out
    obtain ⟨BA', bn', bc', LA', ln', lc', ev, hb', hl', hwb', hwl'⟩ := id HI5.out
    injection ev with ev
    subst ev
    obtain ⟨e0, e1, e2, e3, e4⟩ := cells5 hg7
    have hi7 := ((HI5.out.keptS (KeptS.hi hbut (by omega))).hi (lo' := w.heap.size) (by omega))
    exact bodyPost_ret (v := .tuple #[.agg #[.int .i64 (o.getD Lane.En.zero).k, .int .i64 (o.getD Lane.En.zero).q, .slice BA' bn' bc', .slice LA' ln' lc', .bool (o.getD Lane.En.zero).h], .bool o.isSome]) (by simp [results, Try.results55, go_sem, e0, e1, e2, e3, e4]) rfl
      ⟨_, rfl, hi7, hbel _ _ HB5.out (by omega)⟩

set_option maxHeartbeats 2000000 in
theorem control_any {S : Nat → Prop} (v : Value) (l : Lane.Ln) (w : World) (h : IsLane S w v l) (hS : SmallL l) : Calls Try.prog 57 #[v] w (GetE w (Lane.control l)) := by
  obtain ⟨A, n, c, B, m, d, rfl, hE, hB, hW⟩ := h
  obtain ⟨t0, t1, hb⟩ := two_alloc w (.cells #[.slice A n c, .int .i64 l.p.seq, .int .i64 l.p.total, .int .i64 l.p.got, .slice B m d] 51) (.cells ez 59)
  obtain ⟨W, hWW⟩ : ∃ W, (w.alloc (.cells #[.slice A n c, .int .i64 l.p.seq, .int .i64 l.p.total, .int .i64 l.p.got, .slice B m d] 51)).alloc (.cells ez 59) = W := ⟨_, rfl⟩
  have HS : Hid (W.heap.size = w.heap.size + 2) := by rw [← hWW, size_alloc, size_alloc]; exact hidT rfl
  rw [hWW] at t0 t1 hb
  have hlen := hE.size
  have hpl : (fun y : Lane.En => Lane.isMsg y == false) = (fun e => !Lane.isMsg e) := by funext y; cases Lane.isMsg y <;> rfl
  have he : Lane.control l = l.es[l.es.findIdx fun y : Lane.En => Lane.isMsg y == false]? := by rw [hpl]; exact find_idx _ _
  rw [he]
  have hle := idx_le l.es (fun y : Lane.En => Lane.isMsg y == false)
  have HP : Hid (∀ w', Below W.heap.size W w' → Calls Try.prog 72 #[.slice A n c, .func (.func 73) #[] #[], .bool false] w' (IntIs w' (l.es.findIdx (fun y : Lane.En => Lane.isMsg y == false) : Nat))) :=
    hidT fun w' hb' => placeB_any A n c l.es false w' (hE.below (bthen hb hb'))
  generalize (l.es.findIdx fun y : Lane.En => Lane.isMsg y == false) = k at HP hle ⊢
  have HO : Hid (∀ w', Below W.heap.size W w' → Calls Try.prog 71 #[.slice A n c, .int .i64 (k : Int)] w' (GetE w' l.es[k]?)) := hidT fun w' hb' => told_any A n c l.es k w' (hE.below (bthen hb hb')) hS.2.1 (by omega)
  generalize l.es[k]? = o at HO ⊢
  obtain ⟨g, hg⟩ : ∃ g, w.heap.size = g := ⟨_, rfl⟩
  rw [hg] at t0 t1
  have HG := hidT hg
  have HW := hidT hWW
  have T1 := hidT t1
  have HB := hidT hb
  obtain ⟨c0, c1, c2, c3, c4⟩ := cells5 t0
  have kk : ∀ w', Below W.heap.size W w' → w'.cell? ⟨g, 0, none⟩ = some (.slice A n c) := fun w' hb' => (cells5 (keepH t0 hb')).1
  clear he hpl hle hlen t0 t1 hb hE hB hWW hS
  go_enter Try.func57, Try.ntmps57
  go_wp2_with fail
  rw [HW.out]
  clear hg c1 c2 c3 c4
  go_region_law
    (first
      | (go_simp; go_at_call 72; ((with_reducible refine (HP.out _ (Below.refl _ _).drew).mono ?_); rintro e4 w4 ⟨rfl, hb4'⟩; have hb4 : Below W.heap.size W w4 := undrew hb4'; have j0 := kk w4 hb4))
      | (go_simp; go_at_call 71; ((with_reducible refine (HO.out _ hb4).mono ?_); rintro e5 w5 ⟨v5, rfl, hi5, hb5'⟩; have hb5 : Below W.heap.size W w5 := bthen hb4 hb5'; obtain ⟨r5, rfl, hs5, ha5⟩ := hi5.cells; obtain ⟨w7, hrun7, hg7H, hbutH, hbelH⟩ := st8 (keepH T1.out hb5) r5 (by rw [hs5]; rfl) ha5))
      | fail)
  all_goals
    have hg7 := hg7H.out
    have hbut := hbutH.out
    have hbel := hbelH.out
    have HB5 := hidT (bthen HB.out hb5)
    have HI5 := hidT (hi5.hi (lo' := W.heap.size) hb4.size)
    clear hg7H hbutH hbelH hrun7 hi5 hb5 hb5' hb4 hb4' kk c0 j0
    try go_wp2
    have hgg := HG.out
    have hsw := HS.out
    obtain ⟨BA', bn', bc', LA', ln', lc', ev, hb', hl', hwb', hwl'⟩ := id HI5.out
    injection ev with ev
    subst ev
    obtain ⟨e0, e1, e2, e3, e4⟩ := cells5 hg7
    have hi7 := ((HI5.out.keptS (KeptS.hi hbut (by omega))).hi (lo' := w.heap.size) (by omega))
    exact bodyPost_ret (v := .tuple #[.agg #[.int .i64 (o.getD Lane.En.zero).k, .int .i64 (o.getD Lane.En.zero).q, .slice BA' bn' bc', .slice LA' ln' lc', .bool (o.getD Lane.En.zero).h], .bool o.isSome]) (by simp [results, Try.results57, go_sem, e0, e1, e2, e3, e4]) rfl
      ⟨_, rfl, hi7, hbel _ _ HB5.out (by omega)⟩
end Go.Proofs.Ytdchgnmkeefffaa
