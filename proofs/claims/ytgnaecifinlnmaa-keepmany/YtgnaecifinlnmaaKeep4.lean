/- Rows of items told cell by cell; what slices.IndexFunc and keep's place come to, with the two closures of keep. -/
import Derived.Test.YtgnaecifinlnmaaKeep3
set_option maxRecDepth 100000
namespace Go.Proofs.Ytgnaecifinlnmaa
open Go.RowKit
set_option linter.unusedVariables false

/-- One item of a row, cell by cell. -/
theorem RdX.told {w : World} {A : Option Addr} {n c : Nat} {xs : List Item.It} (h : RdX w A n c xs) {i : Nat} (hi : i < n) : ∃ b o x LA ln lc BA bn bc, A = some ⟨b, o, none⟩ ∧ xs[i]? = some x ∧
    IsItem w (.agg #[.int .i64 x.k, .int .i64 x.q, .int .i64 x.e, .int .i64 x.i, .int .i64 x.t, .int .i64 x.c, .slice LA ln lc, .slice BA bn bc]) x ∧ ∀ wr, Below w.heap.size w wr → (wr.cell? ⟨b, o + i * 8, none⟩ = some (.int .i64 x.k) ∧ wr.cell? ⟨b, o + i * 8 + 1, none⟩ = some (.int .i64 x.q) ∧ wr.cell? ⟨b, o + i * 8 + 2, none⟩ = some (.int .i64 x.e) ∧ wr.cell? ⟨b, o + i * 8 + 3, none⟩ = some (.int .i64 x.i) ∧ wr.cell? ⟨b, o + i * 8 + 4, none⟩ = some (.int .i64 x.t) ∧
      wr.cell? ⟨b, o + i * 8 + 5, none⟩ = some (.int .i64 x.c) ∧ wr.cell? ⟨b, o + i * 8 + 6, none⟩ = some (.slice LA ln lc) ∧ wr.cell? ⟨b, o + i * 8 + 7, none⟩ = some (.slice BA bn bc)) := by
  obtain ⟨b, o, r, x, hA, hx, hs, _, hI, hc⟩ := h.at_ hi
  obtain ⟨LA, ln, lc, BA, bn, bc, e, hl, hb⟩ := id hI
  injection e with e
  subst e
  refine ⟨b, o, x, LA, ln, lc, BA, bn, bc, hA, hx, hI, fun wr hbel => ?_⟩
  have hk : ∀ p u, w.cell? p = some u → wr.cell? p = some u := fun p u hu => (hbel.cell (World.block_lt_of_cell? w p hu)).trans hu
  exact ⟨hk _ _ (hc 0 _ rfl), hk _ _ (hc 1 _ rfl), hk _ _ (hc 2 _ rfl), hk _ _ (hc 3 _ rfl), hk _ _ (hc 4 _ rfl), hk _ _ (hc 5 _ rfl), hk _ _ (hc 6 _ rfl), hk _ _ (hc 7 _ rfl)⟩

theorem idx_at {xs : List Item.It} {p : Item.It → Bool} {j : Nat} {x : Item.It} (h : ∀ i y, i < j → xs[i]? = some y → p y = false) (hx : xs[j]? = some x) (hp : p x = true) : xs.findIdx p = j := by
  obtain ⟨hj, e⟩ := List.getElem?_eq_some_iff.1 hx
  rw [List.findIdx_eq hj]
  refine ⟨by rw [e]; exact hp, fun i hi => h i _ hi (List.getElem?_eq_getElem (by omega))⟩
theorem idx_none {xs : List Item.It} {p : Item.It → Bool} (h : ∀ i y, i < xs.length → xs[i]? = some y → p y = false) : xs.findIdx p = xs.length := by
  rw [List.findIdx_eq_length]
  intro x hx
  obtain ⟨i, hi⟩ := List.getElem?_of_mem hx
  exact h i x (List.getElem?_eq_some_iff.1 hi).1 hi
theorem idx_le (xs : List Item.It) (p : Item.It → Bool) : xs.findIdx p ≤ xs.length := List.findIdx_le_length

set_option maxHeartbeats 1000000 in
theorem get_fn (v : Value) (x : Item.It) (q : Nat) (s : Int) (w : World) (h : IsItem w v x) (hq : w.cell? ⟨q, 0, none⟩ = some (.int .i64 s)) : Calls Try.prog 36 #[v, .pointer (some ⟨q, 0, none⟩)] w (BoolIs w ((fun y : Item.It => decide (y.q = s)) x)) := by
  obtain ⟨LA, ln, lc, BA, bn, bc, rfl, hl, hb⟩ := h
  have hb0 := nkeep w (.cells #[.int .i64 x.k, .int .i64 x.q, .int .i64 x.e, .int .i64 x.i, .int .i64 x.t, .int .i64 x.c, .slice LA ln lc, .slice BA bn bc] 28)
  have y0 := alloc_at w (.cells #[.int .i64 x.k, .int .i64 x.q, .int .i64 x.e, .int .i64 x.i, .int .i64 x.t, .int .i64 x.c, .slice LA ln lc, .slice BA bn bc] 28) _ rfl
  obtain ⟨e0, e1, e2, e3, e4, e5, e6, e7⟩ := cells8 y0
  have hq1 := (hb0.cell (World.block_lt_of_cell? w _ hq)).trans hq
  clear y0
  by_cases ht : x.q = s
  · have t1 : (x.q == s) = true := by simp [ht]
    have HT := hidT ht
    clear ht
    go_enter Try.func36, Try.ntmps36
    go_wp2
    go_ret
    first | exact ⟨rfl, hb0⟩ | exact ⟨by have ht := HT.out; simpa using ht, hb0⟩ | exact ⟨by simp [HT.out], hb0⟩
  · have t1 : (x.q == s) = false := by simp [ht]
    have HT := hidT ht
    clear ht
    go_enter Try.func36, Try.ntmps36
    go_wp2
    go_ret
    first | exact ⟨rfl, hb0⟩ | exact ⟨by have ht := HT.out; simpa using ht, hb0⟩ | exact ⟨by simp [HT.out], hb0⟩

set_option maxHeartbeats 1000000 in
theorem get_idx (A : Option Addr) (n c : Nat) (xs : List Item.It) (q : Nat) (s : Int) (w : World) (h : RdX w A n c xs) (hq : w.cell? ⟨q, 0, none⟩ = some (.int .i64 s)) :
    Calls Try.prog 47 #[.slice A n c, .func (.func 36) #[] #[.pointer (some ⟨q, 0, none⟩)]] w (fun e w' => e = .returned (.int .i64 (if xs.findIdx (fun y : Item.It => decide (y.q = s)) < n then (xs.findIdx (fun y : Item.It => decide (y.q = s)) : Int) else -1)) ∧ Below w.heap.size w w') := by
  have hle := h.le
  have hlen := h.size
  obtain ⟨v, HV⟩ : ∃ v : Int, Hid ((if xs.findIdx (fun y : Item.It => decide (y.q = s)) < n then (xs.findIdx (fun y : Item.It => decide (y.q = s)) : Int) else -1) = v) := ⟨_, rfl⟩
  rw [HV.out]
  have HQ := hidT hq
  have H := hidT h
  clear hq h
  go_enter Try.func47, Try.ntmps47
  go_wp2
  go_loopw [8] (fun i wr => ∃ j : Nat, j ≤ n ∧ i = .int .i64 j ∧ Hid (∀ i y, i < j → xs[i]? = some y → (fun y : Item.It => decide (y.q = s)) y = false) ∧ Hid (Below w.heap.size w wr)) (fun i _ => n - (intOf i).toNat)
  case atStart => exact ⟨0, Nat.zero_le _, rfl, hidT (fun i y hi => absurd hi (by omega)), hidT (Below.refl _ _)⟩
  case round =>
    obtain ⟨j, hj, rfl, HN, HB⟩ := hrel
    by_cases hjn : j < n
    · obtain ⟨b, o, x, LA, ln, lc, BA, bn, bc, rfl, hx, hi, hcs⟩ := H.out.told hjn
      obtain ⟨c0, c1, c2, c3, c4, c5, c6, c7⟩ := hcs wr HB.out
      have hcl := get_fn _ x q s wr (hi.below HB.out) ((HB.out.cell (World.block_lt_of_cell? _ _ HQ.out)).trans HQ.out)
      have x1 : (0 : Int) ≤ (j : Int) := by omega
      have x2 : (j : Int) < (n : Int) := by omega
      have HX := hidT hx
      clear hcs hi hx
      cases hp : (fun y : Item.It => decide (y.q = s)) x with
      | true =>
        rw [hp] at hcl
        have hv := HV.out
        rw [idx_at HN.out HX.out hp, if_pos hjn] at hv
        have HVV := hidT hv
        clear hv hp
        go_wp2_with fail
        with_reducible refine hcl.mono ?_
        rintro e w5 ⟨rfl, hb5⟩
        go_wp2
        go_ret
        exact ⟨by rw [← HVV.out]; rfl, bthen HB.out hb5⟩
      | false =>
        rw [hp] at hcl
        have HPX := hidT hp
        clear hp
        go_wp2_with fail
        with_reducible refine hcl.mono ?_
        rintro e w5 ⟨rfl, hb5⟩
        have HB5 := hidT (bthen HB.out hb5)
        clear hb5 c0 c1 c2 c3 c4 c5 c6 c7 hcl
        go_wp2
        refine ⟨⟨j + 1, by omega, by go_num, hidT (fun i y hi hy => ?_), HB5⟩, by simp [intOf]; omega⟩
        by_cases hij : i = j
        · subst hij
          rw [HX.out] at hy
          injection hy with hy
          subst hy
          exact HPX.out
        · exact HN.out i y (by omega) hy
    · obtain rfl : n = j := by omega
      have hv := HV.out
      rw [idx_none (fun i y hi hy => HN.out i y (by omega) hy), if_neg (by omega)] at hv
      have HVV := hidT hv
      clear hv
      go_wp2
      go_ret
      exact ⟨by rw [← HVV.out]; rfl, HB.out⟩

theorem get_place (A : Option Addr) (n c : Nat) (xs : List Item.It) (q : Nat) (s : Int) (w : World) (h : RdX w A n c xs) (hq : w.cell? ⟨q, 0, none⟩ = some (.int .i64 s)) :
    Calls Try.prog 35 #[.slice A n c, .func (.func 36) #[] #[.pointer (some ⟨q, 0, none⟩)]] w (fun e w' => e = .returned (.int .i64 (xs.findIdx (fun y : Item.It => decide (y.q = s)) : Nat)) ∧ Below w.heap.size w w') := by
  have hc := get_idx A n c xs q s w h hq
  have hle := idx_le xs (fun y : Item.It => decide (y.q = s))
  have hlen := h.size
  have hn := h.le
  generalize xs.findIdx (fun y : Item.It => decide (y.q = s)) = m at hc hle ⊢
  by_cases hm : m < n
  · rw [if_pos hm] at hc
    have q1 : decide ((0 : Int) ≤ (m : Int)) = true := by simp
    clear h hq
    go_enter Try.func35, Try.ntmps35
    go_wp2_with fail
    with_reducible refine hc.mono ?_
    rintro e w5 ⟨rfl, hb5⟩
    go_wp2
    go_ret
    exact ⟨rfl, hb5⟩
  · rw [if_neg hm] at hc
    obtain rfl : m = n := by omega
    clear h hq
    go_enter Try.func35, Try.ntmps35
    go_wp2_with fail
    with_reducible refine hc.mono ?_
    rintro e w5 ⟨rfl, hb5⟩
    go_wp2
    go_ret
    exact ⟨rfl, hb5⟩

set_option maxHeartbeats 1000000 in
theorem behind_fn (v : Value) (x : Item.It) (q : Nat) (s : Int) (w : World) (h : IsItem w v x) (hq : w.cell? ⟨q, 0, none⟩ = some (.int .i64 s)) : Calls Try.prog 48 #[v, .pointer (some ⟨q, 0, none⟩)] w (BoolIs w ((fun y : Item.It => decide (s < y.q)) x)) := by
  obtain ⟨LA, ln, lc, BA, bn, bc, rfl, hl, hb⟩ := h
  have hb0 := nkeep w (.cells #[.int .i64 x.k, .int .i64 x.q, .int .i64 x.e, .int .i64 x.i, .int .i64 x.t, .int .i64 x.c, .slice LA ln lc, .slice BA bn bc] 28)
  have y0 := alloc_at w (.cells #[.int .i64 x.k, .int .i64 x.q, .int .i64 x.e, .int .i64 x.i, .int .i64 x.t, .int .i64 x.c, .slice LA ln lc, .slice BA bn bc] 28) _ rfl
  obtain ⟨e0, e1, e2, e3, e4, e5, e6, e7⟩ := cells8 y0
  have hq1 := (hb0.cell (World.block_lt_of_cell? w _ hq)).trans hq
  clear y0
  by_cases ht : s < x.q
  · have t1 : decide (s < x.q) = true := by simp [ht]
    have HT := hidT ht
    clear ht
    go_enter Try.func48, Try.ntmps48
    go_wp2
    go_ret
    first | exact ⟨rfl, hb0⟩ | exact ⟨by have ht := HT.out; simpa using ht, hb0⟩ | exact ⟨by simp [HT.out], hb0⟩
  · have t1 : decide (s < x.q) = false := by simp [ht]
    have HT := hidT ht
    clear ht
    go_enter Try.func48, Try.ntmps48
    go_wp2
    go_ret
    first | exact ⟨rfl, hb0⟩ | exact ⟨by have ht := HT.out; simpa using ht, hb0⟩ | exact ⟨by simp [HT.out], hb0⟩

set_option maxHeartbeats 1000000 in
theorem behind_idx (A : Option Addr) (n c : Nat) (xs : List Item.It) (q : Nat) (s : Int) (w : World) (h : RdX w A n c xs) (hq : w.cell? ⟨q, 0, none⟩ = some (.int .i64 s)) :
    Calls Try.prog 47 #[.slice A n c, .func (.func 48) #[] #[.pointer (some ⟨q, 0, none⟩)]] w (fun e w' => e = .returned (.int .i64 (if xs.findIdx (fun y : Item.It => decide (s < y.q)) < n then (xs.findIdx (fun y : Item.It => decide (s < y.q)) : Int) else -1)) ∧ Below w.heap.size w w') := by
  have hle := h.le
  have hlen := h.size
  obtain ⟨v, HV⟩ : ∃ v : Int, Hid ((if xs.findIdx (fun y : Item.It => decide (s < y.q)) < n then (xs.findIdx (fun y : Item.It => decide (s < y.q)) : Int) else -1) = v) := ⟨_, rfl⟩
  rw [HV.out]
  have HQ := hidT hq
  have H := hidT h
  clear hq h
  go_enter Try.func47, Try.ntmps47
  go_wp2
  go_loopw [8] (fun i wr => ∃ j : Nat, j ≤ n ∧ i = .int .i64 j ∧ Hid (∀ i y, i < j → xs[i]? = some y → (fun y : Item.It => decide (s < y.q)) y = false) ∧ Hid (Below w.heap.size w wr)) (fun i _ => n - (intOf i).toNat)
  case atStart => exact ⟨0, Nat.zero_le _, rfl, hidT (fun i y hi => absurd hi (by omega)), hidT (Below.refl _ _)⟩
  case round =>
    obtain ⟨j, hj, rfl, HN, HB⟩ := hrel
    by_cases hjn : j < n
    · obtain ⟨b, o, x, LA, ln, lc, BA, bn, bc, rfl, hx, hi, hcs⟩ := H.out.told hjn
      obtain ⟨c0, c1, c2, c3, c4, c5, c6, c7⟩ := hcs wr HB.out
      have hcl := behind_fn _ x q s wr (hi.below HB.out) ((HB.out.cell (World.block_lt_of_cell? _ _ HQ.out)).trans HQ.out)
      have x1 : (0 : Int) ≤ (j : Int) := by omega
      have x2 : (j : Int) < (n : Int) := by omega
      have HX := hidT hx
      clear hcs hi hx
      cases hp : (fun y : Item.It => decide (s < y.q)) x with
      | true =>
        rw [hp] at hcl
        have hv := HV.out
        rw [idx_at HN.out HX.out hp, if_pos hjn] at hv
        have HVV := hidT hv
        clear hv hp
        go_wp2_with fail
        with_reducible refine hcl.mono ?_
        rintro e w5 ⟨rfl, hb5⟩
        go_wp2
        go_ret
        exact ⟨by rw [← HVV.out]; rfl, bthen HB.out hb5⟩
      | false =>
        rw [hp] at hcl
        have HPX := hidT hp
        clear hp
        go_wp2_with fail
        with_reducible refine hcl.mono ?_
        rintro e w5 ⟨rfl, hb5⟩
        have HB5 := hidT (bthen HB.out hb5)
        clear hb5 c0 c1 c2 c3 c4 c5 c6 c7 hcl
        go_wp2
        refine ⟨⟨j + 1, by omega, by go_num, hidT (fun i y hi hy => ?_), HB5⟩, by simp [intOf]; omega⟩
        by_cases hij : i = j
        · subst hij
          rw [HX.out] at hy
          injection hy with hy
          subst hy
          exact HPX.out
        · exact HN.out i y (by omega) hy
    · obtain rfl : n = j := by omega
      have hv := HV.out
      rw [idx_none (fun i y hi hy => HN.out i y (by omega) hy), if_neg (by omega)] at hv
      have HVV := hidT hv
      clear hv
      go_wp2
      go_ret
      exact ⟨by rw [← HVV.out]; rfl, HB.out⟩

theorem behind_place (A : Option Addr) (n c : Nat) (xs : List Item.It) (q : Nat) (s : Int) (w : World) (h : RdX w A n c xs) (hq : w.cell? ⟨q, 0, none⟩ = some (.int .i64 s)) :
    Calls Try.prog 35 #[.slice A n c, .func (.func 48) #[] #[.pointer (some ⟨q, 0, none⟩)]] w (fun e w' => e = .returned (.int .i64 (xs.findIdx (fun y : Item.It => decide (s < y.q)) : Nat)) ∧ Below w.heap.size w w') := by
  have hc := behind_idx A n c xs q s w h hq
  have hle := idx_le xs (fun y : Item.It => decide (s < y.q))
  have hlen := h.size
  have hn := h.le
  generalize xs.findIdx (fun y : Item.It => decide (s < y.q)) = m at hc hle ⊢
  by_cases hm : m < n
  · rw [if_pos hm] at hc
    have q1 : decide ((0 : Int) ≤ (m : Int)) = true := by simp
    clear h hq
    go_enter Try.func35, Try.ntmps35
    go_wp2_with fail
    with_reducible refine hc.mono ?_
    rintro e w5 ⟨rfl, hb5⟩
    go_wp2
    go_ret
    exact ⟨rfl, hb5⟩
  · rw [if_neg hm] at hc
    obtain rfl : m = n := by omega
    clear h hq
    go_enter Try.func35, Try.ntmps35
    go_wp2_with fail
    with_reducible refine hc.mono ?_
    rintro e w5 ⟨rfl, hb5⟩
    go_wp2
    go_ret
    exact ⟨rfl, hb5⟩
end Go.Proofs.Ytgnaecifinlnmaa
