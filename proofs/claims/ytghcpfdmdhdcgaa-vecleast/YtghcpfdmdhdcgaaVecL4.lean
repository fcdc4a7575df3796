/- VecLeast, walked. -/
import Derived.Test.YtghcpfdmdhdcgaaVecShown
set_option maxRecDepth 100000
namespace Go.Proofs.Ytghcpfdmdhdcgaa
open Go.RowKit
set_option linter.unusedVariables false

/-- One row of a row of rows that the call owns is put in place of another. -/
theorem rdr_set {w : World} {base : Nat} {g k cap : Nat} {rs : List Rw} {r : Rw} (h : OwnV w base 22 (.slice (some ⟨g, 0, none⟩) k cap) k (rs.map Rw.val)) (j : Nat)
    (hrs : ∀ q ∈ rs, RdI (w.setCell ⟨g, j, none⟩ r.val) q.A q.n q.c q.b) (hr : RdI (w.setCell ⟨g, j, none⟩ r.val) r.A r.n r.c r.b) : RdR (w.setCell ⟨g, j, none⟩ r.val) (some ⟨g, 0, none⟩) k cap (rs.set j r) := by
  refine ⟨?_, fun q hq => ?_⟩
  · rw [List.map_set]
    exact OwnV.same (World.ownsRow.stored h j _).1
  · rcases List.mem_or_eq_of_mem_set hq with h | rfl
    · exact hrs q h
    · exact hr
theorem rows_set (rs : List Rw) (j : Nat) (r : Rw) : bs' (rs.set j r) = (bs' rs).set j r.b := by simp [bs', List.map_set]
theorem vals_one (rs : List Rw) : ∀ u ∈ rs.map Rw.val, u.oneCell' = true := by
  intro u hu
  simp only [List.mem_map] at hu
  obtain ⟨r, _, rfl⟩ := hu
  rfl

theorem GivesI.openO {w w' : World} {t : TypeId} {l : List Int} {e : Ending} (h : GivesI w t l e w') (k : Nat) (hk : l.length = k) : ∃ A c, e = .returned (.slice A k c) ∧ OwnV w' w.heap.size t (.slice A k c) k (is l) ∧ Below w.heap.size w w' := by
  subst hk
  exact h
/-- A row of the call's own stays while a cell of an elder block is turned. -/
theorem own_set {w : World} {base n g i : Nat} {e : TypeId} {v x : Value} {l : List Value} (h : OwnV w base e v n l) (hg : g < base) : OwnV (w.setCell ⟨g, i, none⟩ x) base e v n l := by
  refine ⟨h.1, ?_⟩
  rcases h.2 with h2 | ⟨g', cap, cur, hv, hb, hh, r⟩
  · exact .inl h2
  · refine .inr ⟨g', cap, cur, hv, hb, ?_, r⟩
    rw [heap_setCell_other _ _ _ _ (by show g' ≠ g; omega)]
    exact hh

set_option maxHeartbeats 4000000 in
theorem leastL_any (L : Option Addr) (k e0 : Nat) (rs : List Rw) (A : Option Addr) (n c : Nat) (a : List Int) (x y : Nat) (hx256 : x < 256) (hy256 : y < 256) (w : World) (rl : RdR w L k e0 rs) (ra : RdI w A n c a) :
    Calls Try.prog 6 #[.agg #[.slice L k e0, .slice A n c, .int .u8 (x : Int), .int .u8 (y : Int)]] w (Yes w) := by
  obtain ⟨t, ht⟩ : ∃ t, fewOf (bs' rs) = t := ⟨_, rfl⟩
  have HT := hidT ht
  clear ht
  go_enter Try.func6, Try.ntmps6
  go_wp2_with fail
  with_reducible refine (shown_any _).mono ?_
  rintro e w1 ⟨rfl, hx⟩
  have hb := bthen (nkeep w _) hx
  clear hx
  replace ra := RdV.below ra hb
  replace rl := RdR.below rl hb
  have p := few_any _ _ _ _ _ rl t HT.out
  go_wp2_with fail
  with_reducible refine p.mono ?_
  clear p
  rintro e w2 ⟨rfl, rfl⟩
  cases t
  · go_wp2
    go_ret
    exact ⟨rfl, hb⟩
  have hk50 : k ≤ 50 := by have := (fewOf_iff HT.out).1; have := RdR.sizeB rl; omega
  by_cases hk : k < 1
  · have q : decide (k < 1) = true := by simpa using hk
    have q' : decide ((k : Int) < 1) = true := by simp; omega
    go_wp2
    go_ret
    exact ⟨rfl, hb⟩
  have q : decide (k < 1) = false := by simpa using hk
  have q' : decide ((k : Int) < 1) = false := by simp; omega
  by_cases hn : 50 < n
  · have q : decide (50 < n) = true := by simpa using hn
    have q' : decide ((50 : Int) < (n : Int)) = true := by simp; omega
    go_wp2
    go_ret
    exact ⟨rfl, hb⟩
  have q1 : decide (50 < n) = false := by simpa using hn
  have q1' : decide ((50 : Int) < (n : Int)) = false := by simp; omega
  obtain ⟨P, hP60, qp⟩ : ∃ P : Nat, P < 60 ∧ (x : Int) % 60 = (P : Int) := ⟨x % 60, by omega, by omega⟩
  obtain ⟨z, HZ⟩ : ∃ z, Hid (lst (bs' rs) (P : Int) = z) := ⟨_, hidT rfl⟩
  have p := least_any _ _ _ _ (P : Int) _ rl
  rw [HZ.out] at p
  go_wp2_with fail
  with_reducible refine p.mono ?_
  clear p
  rintro e w3 ⟨rfl, rfl⟩
  go_wp2
  clear qp q q' q1 q1'
  go_loopw [10, 11] (fun s i w' => ∃ (j : Nat) (is_ : Bool), j ≤ k ∧ i = .int .i64 (j : Int) ∧ s = .bool is_ ∧ Hid (is_ = ((bs' rs).take j).any fun r => decide (atI r (P : Int) = z)) ∧ w3 = w') (fun _ i _ => k - (intOf i).toNat)
  case atStart => exact ⟨0, false, Nat.zero_le _, rfl, rfl, hidT rfl, rfl⟩
  case round =>
    obtain ⟨j, is_, hj, rfl, rfl, HI, rfl⟩ := hrel
    by_cases hjk : j < k
    · obtain ⟨bb, o, r, rfl, hr, hbr, hR, hcr⟩ := rl.at_ hjk
      have hrl := RdI.size hR
      have hrn := RdV.le hR
      have HBR := hidT hbr
      have HRL := hidT hrl
      have p := sum_any none 0 0 [] w3 (RdV.nil_ _)
      rw [show sm [] = 0 from rfl] at p
      clear hr hbr hrl
      obtain ⟨v, HV⟩ : ∃ v, Hid (at0 r.b P = v) := ⟨_, hidT rfl⟩
      have hvz : z ≤ v := by
        have := lst_le (P : Int) (List.mem_of_getElem? HBR.out)
        rw [HZ.out, atI_nat, HV.out] at this
        exact this
      have HN : Hid ((is_ || decide (v = z)) = ((bs' rs).take (j + 1)).any fun r => decide (atI r (P : Int) = z)) := hidT (by
        rw [List.take_add_one, HBR.out, Option.toList_some, List.any_append, ← HI.out]
        simp [atI_nat, HV.out])
      have t1 : decide (v < z) = false := by simp; omega
      clear hvz
      by_cases hPr : P < r.n
      · obtain ⟨b2, o2, v', hA2, hv2, hc2⟩ := RdI.at_ hR hPr
        obtain rfl : v' = v := by rw [← HV.out, at0_of hv2]
        clear hv2
        have t2 : decide ((P : Int) < (r.n : Int)) = true := by simp; omega
        have t2' : decide (P < r.n) = true := by simpa using hPr
        obtain ⟨rA, rn, rc, rb⟩ := r
        dsimp only at *
        subst hA2
        go_wp2_with fail
        with_reducible refine p.mono ?_
        rintro e w5 ⟨rfl, rfl⟩
        cases is_
        · by_cases hvz : v' = z
          · subst hvz
            go_wp2
            exact ⟨⟨j + 1, true, by omega, by go_num, rfl, hidT (by rw [← HN.out]; simp), trivial⟩, by simp [intOf]; omega⟩
          · have t3 : (v' == z) = false := by simpa using hvz
            go_wp2
            exact ⟨⟨j + 1, false, by omega, by go_num, rfl, hidT (by rw [← HN.out]; simpa using hvz), trivial⟩, by simp [intOf]; omega⟩
        · go_wp2
          exact ⟨⟨j + 1, true, by omega, by go_num, rfl, hidT (by rw [← HN.out]; simp), trivial⟩, by simp [intOf]; omega⟩
      · obtain rfl : v = 0 := by rw [← HV.out, at0_beyond (by rw [HRL.out]; omega)]
        have t2 : decide ((P : Int) < (r.n : Int)) = false := by simp; omega
        have t2' : decide (P < r.n) = false := by simpa using hPr
        go_wp2_with fail
        with_reducible refine p.mono ?_
        rintro e w5 ⟨rfl, rfl⟩
        cases is_
        · by_cases hvz : 0 = z
          · subst hvz
            go_wp2
            exact ⟨⟨j + 1, true, by omega, by go_num, rfl, hidT (by rw [← HN.out]; simp), trivial⟩, by simp [intOf]; omega⟩
          · have t3 : ((0 : Int) == z) = false := by simpa using hvz
            have t4 : (z == (0 : Int)) = false := by simpa using fun h => hvz h.symm
            go_wp2
            exact ⟨⟨j + 1, false, by omega, by go_num, rfl, hidT (by rw [← HN.out]; simpa using hvz), trivial⟩, by simp [intOf]; omega⟩
        · go_wp2
          exact ⟨⟨j + 1, true, by omega, by go_num, rfl, hidT (by rw [← HN.out]; simp), trivial⟩, by simp [intOf]; omega⟩
    · obtain rfl : j = k := by omega
      obtain rfl : is_ = true := by
        rw [HI.out, List.take_of_length_le (by rw [RdR.sizeB rl]; omega), List.any_eq_true]
        obtain ⟨r, hr, e⟩ := lst_mem (bs' rs) (P : Int) (by intro h; have := congrArg List.length h; rw [RdR.sizeB rl, List.length_nil] at this; omega)
        exact ⟨r, hr, by simp [e, HZ.out]⟩
      have ho0 : OwnV (w3.alloc (.cells #[] 22)) w3.heap.size 22 (.slice (some ⟨w3.heap.size, 0, none⟩) 0 0) 0 [] := World.ownsRow_lit w3 #[] 0 (Nat.le_refl _) (by simp only [maxLen]; omega) rfl
      have hs0 := (nkeep w3 (.cells #[] 22)).size
      have rl0 := RdV.alloc rl.1 (.cells #[] 22)
      go_wp2_with (refine wpList_appV rfl (.tmp 74) (.tmp 75) 23 rfl w3.heap.size 22 (.slice none 0 0) 24 infoR rfl (by omega) Try.underlying23 _ 0 [] rfl ho0 L j e0 (rs.map Rw.val) rfl rl0 (vals_one rs) (by omega) hs0 ?_)
      intro v4 w4 ho4 hb4 _
      have ho4' : OwnV w4 w3.heap.size 22 v4 j (rs.map Rw.val) := by simpa using ho4
      have hx := (nkeep w3 (.cells #[] 22)).trans hb4
      clear ho4 hb4 ho0 hs0 rl0
      obtain ⟨g, cap, rfl, hg1, hg2, hcap, hmax⟩ := OwnV.form ho4' (by omega)
      have rl4 := RdR.below rl hx
      have ra4 := RdV.below ra hx
      have hb04 := bthen hb hx
      obtain ⟨J, hJ, qj⟩ : ∃ J : Nat, J < j ∧ (y : Int) % (j : Int) = (J : Int) := ⟨y % j, Nat.mod_lt _ (by omega), by omega⟩
      obtain ⟨bb, o, r, rfl, hr, hbr, hR, hcr⟩ := rl4.at_ hJ
      have hr50 : r.n ≤ 50 := by
        have := (fewOf_iff HT.out).2 _ (List.mem_of_getElem? hbr)
        rw [RdI.size hR] at this
        exact this
      have hj1 : (1 : Int) ≤ (j : Int) := by omega
      have hj0 : ¬ (j : Int) = 0 := by omega
      have hj0' : ¬ j = 0 := by omega
      obtain ⟨N, HN⟩ : ∃ N, Hid ((mx r.b a).length = N) := ⟨_, hidT rfl⟩
      have p := max_any _ _ _ _ _ _ _ _ _ hR ra4 (by omega) (by omega)
      have HR := hidT hr
      have HBR := hidT hbr
      clear hr hbr
      have hbz : lst (bs' rs) (P : Int) ≤ lst (bs' (rs.set J ⟨none, 0, 0, mx r.b a⟩)) (P : Int) := by
        rw [rows_set]
        exact lst_set _ _ _ HBR.out _
      rw [HZ.out] at hbz
      go_wp2_with fail
      with_reducible refine p.mono ?_
      clear p
      intro e w5 hG
      obtain ⟨A5, c5, rfl, ho5, hb5⟩ := hG.openO N HN.out
      clear hG
      have ho6 := OwnV.later ho4' hb5
      have hu : (rs.map Rw.val)[J]? = some r.val := by rw [List.getElem?_map, HR.out]; rfl
      have hcx := OwnV.cell ho6 hu
      have hfx := OwnV.frozen ho6 J
      have hb35 := (bthen hx hb5).setCell (p := ⟨g, J, none⟩) hg1 (.slice A5 N c5)
      have rm := rdr_set (r := ⟨A5, N, c5, mx r.b a⟩) ho6 J (fun q hq => RdV.below (rl.2 q hq) hb35) (OwnV.same (own_set ho5 hg2))
      have hb6 := bthen hb hb35
      have p := least_any _ _ _ _ (P : Int) _ rm
      rw [rows_set] at p
      rw [rows_set] at hbz
      dsimp only [Rw.val] at p hcx
      dsimp only at hbz
      generalize lst ((bs' rs).set J (mx r.b a)) (P : Int) = z2 at p hbz
      have t1 : decide (z ≤ z2) = true := by simpa using hbz
      clear hu rm hb35 ho5 ho6 hbz
      go_wp2_with fail
      with_reducible refine p.mono ?_
      clear p
      rintro e w7 ⟨rfl, rfl⟩
      go_wp2
      go_ret
      exact ⟨rfl, hb6⟩
end Go.Proofs.Ytghcpfdmdhdcgaa
