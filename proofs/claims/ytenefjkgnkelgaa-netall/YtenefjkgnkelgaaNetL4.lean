/- The law NetAll, walked. -/
import Derived.Test.YtenefjkgnkelgaaNetLaw
set_option maxRecDepth 100000
namespace Go.Proofs.Ytenefjkgnkelgaa
open Go.RowKit
set_option linter.unusedVariables false

/-- How many letters go where one of the first ones does. -/
def cnt (ls : List Lt) (k : Nat) : Nat := (ls.filter fun x => (ls.take k).any fun y => y.to == x.to).length
theorem filter_or {α : Type} (l : List α) (p q r : α → Bool) (h : ∀ x, r x = (p x || q x)) (hd : ∀ x ∈ l, ¬ (p x = true ∧ q x = true)) : (l.filter r).length = (l.filter p).length + (l.filter q).length := by
  induction l with
  | nil => rfl
  | cons x l ih =>
    have hx := hd x (List.mem_cons_self ..)
    have ih' := ih (fun y hy => hd y (List.mem_cons_of_mem _ hy))
    simp only [List.filter_cons, h x]
    cases hp : p x <;> cases hq : q x <;> simp_all <;> omega
theorem cnt_new {ls : List Lt} {k : Nat} {x : Lt} (hx : ls[k]? = some x) (hs : ((ls.take k).any fun y => y.to == x.to) = false) : cnt ls (k + 1) = cnt ls k + (toL x.to ls).length := by
  unfold cnt toL
  refine filter_or ls _ _ _ (fun y => ?_) (fun y _ hy => ?_)
  · rw [take_snocL hx, List.any_append]
    simp [Bool.beq_comm]
  · have e : y.to = x.to := by simpa using hy.2
    rw [e, hs] at hy
    exact absurd hy.1 (by simp)
theorem cnt_old {ls : List Lt} {k : Nat} {x : Lt} (hx : ls[k]? = some x) (hs : ((ls.take k).any fun y => y.to == x.to) = true) : cnt ls (k + 1) = cnt ls k := by
  unfold cnt
  congr 2
  funext y
  rw [take_snocL hx, List.any_append]
  simp only [List.any_cons, List.any_nil, Bool.or_false]
  by_cases e : x.to = y.to
  · rw [← e, hs]; simp
  · have : (x.to == y.to) = false := by simpa using e
    rw [this, Bool.or_false]
theorem cnt_all (ls : List Lt) : cnt ls ls.length = ls.length := by
  unfold cnt
  rw [List.take_length, List.filter_eq_self.2]
  intro x hx
  exact List.any_eq_true.2 ⟨x, hx, by simp⟩
theorem cnt_le (ls : List Lt) (k : Nat) : cnt ls k ≤ ls.length := List.length_filter_le _ _
theorem any_snoc {ls : List Lt} {j : Nat} {y : Lt} (hy : ls[j]? = some y) (q : Int) : ((ls.take (j + 1)).any fun z => z.to == q) = (((ls.take j).any fun z => z.to == q) || (y.to == q)) := by
  rw [take_snocL hy, List.any_append]
  simp
theorem toL_put_same (ls : List Lt) (q : Int) : (toL q (ls ++ [⟨q, [], false⟩])).length = (toL q ls).length + 1 := by
  unfold toL
  rw [List.filter_append]
  simp
theorem toL_put_other (ls : List Lt) {q r : Int} (h : q ≠ r) : (toL r (ls ++ [⟨q, [], false⟩])).length = (toL r ls).length := by
  unfold toL
  rw [List.filter_append]
  simp [h]

set_option maxRecDepth 100000 in
set_option maxHeartbeats 4000000 in
theorem nall_in (A : Option Addr) (n c : Nat) (ls : List Lt) (q : Int) (w : World) (h : RdL w A n c ls) (hf : few ls 60 = true) (hq0 : -9223372036854775808 ≤ q) (hq1 : q ≤ 9223372036854775807) :
    Calls Try.prog 6 #[.slice A n c, .int .i64 q] w (Yes w) := by
  have hs := small_of_few hf (by omega)
  have hn := h.size
  have hn60 : ls.length ≤ 60 := ((few_iff _ _).1 hf).1
  have hn6 : n ≤ 60 := by omega
  have HN := hidT hn
  have HS := hidT hs
  have H := hidT h
  clear hn hn60
  go_enter Try.func6, Try.ntmps6
  go_wp2_with fail
  with_reducible refine (nshown_any _).mono ?_
  rintro e w1 ⟨rfl, hb1⟩
  have h1 := h.below hb1
  go_wp2_with fail
  with_reducible refine (few60 _ _ _ ls _ h1 true hf).mono ?_
  rintro e w2 ⟨rfl, rfl⟩
  clear h1
  go_wp2
  go_loopw [6, 7] (fun v i wr => ∃ (k m : Nat), k ≤ n ∧ i = .int .i64 k ∧ v = .int .i64 m ∧ Hid (cnt ls k = m) ∧ Below w.heap.size w wr) (fun _ i _ => n - (intOf i).toNat)
  case atStart => exact ⟨0, 0, Nat.zero_le _, rfl, rfl, by unfold Hid cnt; simp, hb1⟩
  case round =>
    obtain ⟨k, m, hk, rfl, rfl, HM, hbel⟩ := hrel
    by_cases hkn : k < n
    · obtain ⟨b, o, rfl⟩ := h.addr (by omega)
      obtain ⟨t, x, hx, ht, c1, c2, c3⟩ := (h.below hbel).at_ hkn
      have hto := ht.1
      rw [hto] at c1
      have q1 : (0 : Int) ≤ (k : Int) := by omega
      have q2 : (k : Int) < (n : Int) := by omega
      have hmn : m ≤ n := by rw [← HM.out, ← HN.out]; exact cnt_le _ _
      have HX := hidT hx
      clear hx ht hto c2 c3
      obtain ⟨W0, rfl⟩ : ∃ W0, W0 = wr := ⟨_, rfl⟩
      go_wp2
      go_loopw [8, 9] (fun v i wx => ∃ (j : Nat) (s : Bool), j ≤ k ∧ i = .int .i64 j ∧ v = .bool s ∧ Hid (((ls.take j).any fun y => y.to == x.to) = s) ∧ ∃ kk, wx = W0.drewN kk) (fun _ i _ => k - (intOf i).toNat)
      case atStart => exact ⟨0, false, Nat.zero_le _, rfl, rfl, rfl, 0, rfl⟩
      case round =>
        obtain ⟨j, s, hj, rfl, rfl, HA, kk, rfl⟩ := hrel
        by_cases hjk : j < k
        · obtain ⟨t2, y, hy, ht2, d1, d2, d3⟩ := (h.below hbel).at_ (k := j) (by omega)
          have hto2 := ht2.1
          rw [hto2] at d1
          have HA2 : Hid (((ls.take (j + 1)).any fun y => y.to == x.to) = (s || (y.to == x.to))) := by unfold Hid; rw [any_snoc hy, HA.out]
          have r1 : (0 : Int) ≤ (j : Int) := by omega
          have r2 : (j : Int) < (n : Int) := by omega
          clear hy ht2 hto2 d2 d3
          cases s
          · by_cases hyx : y.to = x.to
            · have e : (y.to == x.to) = true := by simpa using hyx
              rw [e] at HA2
              go_wp2
              go_quiet (fail)
              go_wp2
              exact ⟨⟨j + 1, true, by omega, by go_num, rfl, HA2, _, rfl⟩, by simp [intOf]; omega⟩
            · have e : (y.to == x.to) = false := by simpa using hyx
              rw [e] at HA2
              go_wp2
              go_quiet (fail)
              go_wp2
              exact ⟨⟨j + 1, false, by omega, by go_num, rfl, HA2, _, rfl⟩, by simp [intOf]; omega⟩
          · go_wp2
            go_quiet (fail)
            go_wp2
            exact ⟨⟨j + 1, true, by omega, by go_num, rfl, HA2, _, rfl⟩, by simp [intOf]; omega⟩
        · obtain rfl : k = j := by omega
          have hbk : Below w.heap.size w (W0.drewN kk) := bthen hbel (drawn_below _ _)
          cases s
          · have HC := hidT (cnt_new HX.out HA.out)
            have ha := all_any (some ⟨b, o, none⟩) n c ls x.to (W0.drewN kk) (h.below hbk) hs
            have htl : (toL x.to ls).length ≤ n := by rw [← HN.out]; exact toL_length _ _
            go_wp2_with fail
            with_reducible refine ha.mono ?_
            rintro e w3 ⟨g, N, hN, rfl, hf3, hb3⟩
            have hb03 := bthen hbk hb3
            have HC2 : Hid (cnt ls (k + 1) = m + N) := by unfold Hid; rw [HC.out, HM.out, hN]
            have hNn : N ≤ n := by omega
            clear ha hf3 hN htl HC
            go_wp2
            exact ⟨⟨k + 1, m + N, by omega, by go_num, by go_num, HC2, hb03⟩, by simp [intOf]; omega⟩
          · have HC : Hid (cnt ls (k + 1) = m) := by unfold Hid; rw [cnt_old HX.out HA.out, HM.out]
            go_wp2
            exact ⟨⟨k + 1, m, by omega, by go_num, rfl, HC, hbk⟩, by simp [intOf]; omega⟩
    · obtain rfl : n = k := by omega
      obtain rfl : n = m := by have := cnt_all ls; rw [HN.out, HM.out] at this; omega
      have hp := put_any A n c ls q none 0 0 [] wr (h.below hbel) (Rd.nil_ _) hs (by have := HN.out; omega) (by simp)
      go_wp2_with fail
      with_reducible refine hp.mono ?_
      rintro e w3 ⟨g, N, hN, rfl, hf3, hb3⟩
      have hN1 : N = n + 1 := by rw [List.length_append] at hN; have := HN.out; simp at hN; omega
      have hr3 := hf3.rd hN (by omega)
      have hb03 := bthen hbel hb3
      have hsm : Small (ls ++ [⟨q, [], false⟩]) := hs.snoc (by have := HN.out; omega) (by simp)
      have HN1 := hidT hN1
      clear hp hf3 hN hN1
      have ha1 := all_any _ _ _ _ q w3 hr3 hsm
      go_wp2_with fail
      with_reducible refine ha1.mono ?_
      rintro e w4 ⟨g4, N4, hN4, rfl, hf4, hb4⟩
      have hb04 := bthen hb03 hb4
      have ha2 := all_any _ _ _ _ q w4 (h.below hb04) hs
      rw [toL_put_same] at hN4
      clear ha1 hf4
      go_wp2_with fail
      with_reducible refine ha2.mono ?_
      rintro e w5 ⟨g5, N5, hN5, rfl, hf5, hb5⟩
      have hb05 := bthen hb04 hb5
      have z1 : ((N4 : Int) == (N5 : Int) + 1) = true := by simp; omega
      have z2 : ((N4 : Int) != (N5 : Int) + 1) = false := by simp; omega
      have z3 : N5 ≤ 60 := by have := toL_length q ls; have := HN.out; omega
      clear ha2 hf5 hN4 hN5
      go_wp2_with fail
      obtain ⟨r, hr⟩ : ∃ r, wrap64 (q - 1) = r := ⟨_, rfl⟩
      have hqr : q ≠ r := by
        rw [← hr]
        unfold wrap64
        omega
      rw [hr]
      have HR := hidT hr
      clear hr
      have ha3 := all_any _ _ _ _ r w5 (hr3.below (bthen hb4 hb5)) hsm
      with_reducible refine ha3.mono ?_
      rintro e w6 ⟨g6, N6, hN6, rfl, hf6, hb6⟩
      rw [toL_put_other ls hqr] at hN6
      have hb06 := bthen hb05 hb6
      have ha4 := all_any _ _ _ _ r w6 (h.below hb06) hs
      clear ha3 hf6
      go_wp2_with fail
      rw [HR.out]
      with_reducible refine ha4.mono ?_
      rintro e w7 ⟨g7, N7, hN7, rfl, hf7, hb7⟩
      obtain rfl : N6 = N7 := by omega
      have hb07 := bthen hb06 hb7
      have hr7 := hr3.below (bthen hb4 (bthen hb5 (bthen hb6 hb7)))
      clear ha4 hf7 hN6 hN7 hr3
      go_wp2
      go_loopw [10, 11] (fun v i wx => ∃ (j p : Nat) (b' o' c' : Nat), j ≤ n + 1 ∧ i = .int .i64 j ∧ Hid (p + j = n + 1) ∧ v = .slice (some ⟨b', o', none⟩) p c' ∧ RdL wx (some ⟨b', o', none⟩) p c' ((ls ++ [(⟨q, [], false⟩ : Lt)]).drop j) ∧ Below w.heap.size w wx) (fun _ i _ => n + 1 - (intOf i).toNat)
      case atStart => exact ⟨0, N, g, 0, N, Nat.zero_le _, rfl, HN1, rfl, hr7, hb07⟩
      case round =>
        clear hr7 hb07 hb06 hb05 hb04 hb03 hb3 hb4 hb5 hb6 hb7 hbel
        obtain ⟨j, p, b', o', c', hj, rfl, HP, rfl, hr, hbel⟩ := hrel
        by_cases hjn : j ≤ n
        · have hd := drop_in b' o' p c' _ 0 wr hr (hsm.drop j) (by have := HP.out; omega)
          rw [List.take_zero, List.nil_append, List.drop_drop, show ((0 : Nat) : Int) = 0 from rfl, Nat.zero_add] at hd
          clear hr
          have z4 : decide ((j : Int) ≤ (n : Int)) = true := by simp; omega
          go_wp2_with fail
          with_reducible refine hd.mono ?_
          rintro e w8 ⟨g8, N8, hN8, rfl, hf8, hb8⟩
          have HP8 : Hid (N8 + (j + 1) = n + 1) := by
            rw [List.length_drop, List.length_append] at hN8
            have := HN.out
            simp at hN8
            unfold Hid
            omega
          have HR8 := hidT (hf8.rd hN8 (by have := HP8.out; omega))
          have hb08 := bthen hbel hb8
          clear hd hN8 hf8
          go_wp2
          exact ⟨⟨j + 1, N8, g8, 0, N8, by omega, by go_num, HP8, rfl, HR8.out, hb08⟩, by simp [intOf]; omega⟩
        · have z4 : decide ((j : Int) ≤ (n : Int)) = false := by simp; omega
          obtain rfl : 0 = p := by have := HP.out; omega
          have hd := drop_out (some ⟨b', o', none⟩) 0 c' _ 0 wr hr (hsm.drop j) (by omega)
          clear hr
          go_wp2_with fail
          with_reducible refine hd.mono ?_
          rintro e w8 ⟨g8, N8, hN8, rfl, hf8, hb8⟩
          have hb08 := bthen hbel hb8
          clear hd hN8 hf8
          go_wp2
          go_ret
          exact ⟨rfl, hb08⟩

set_option maxRecDepth 100000 in
set_option maxHeartbeats 1000000 in
theorem nall_any (A : Option Addr) (n c : Nat) (ls : List Lt) (q : Int) (w : World) (h : RdL w A n c ls) (hq0 : -9223372036854775808 ≤ q) (hq1 : q ≤ 9223372036854775807) :
    Calls Try.prog 6 #[.slice A n c, .int .i64 q] w (Yes w) := by
  by_cases hf : few ls 60 = true
  · exact nall_in A n c ls q w h hf hq0 hq1
  · have hf' : few ls 60 = false := by simpa using hf
    go_enter Try.func6, Try.ntmps6
    go_wp2_with fail
    with_reducible refine (nshown_any _).mono ?_
    rintro e w1 ⟨rfl, hb1⟩
    have h1 := h.below hb1
    go_wp2_with fail
    with_reducible refine (few60 _ _ _ ls _ h1 false hf').mono ?_
    rintro e w2 ⟨rfl, rfl⟩
    go_wp2
    go_ret
    exact ⟨rfl, hb1⟩
end Go.Proofs.Ytenefjkgnkelgaa
