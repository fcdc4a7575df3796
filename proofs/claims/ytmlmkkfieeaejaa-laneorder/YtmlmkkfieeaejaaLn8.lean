/- What slices.Delete of one entry of a row comes to. -/
import Derived.Test.YtmlmkkfieeaejaaLn1
import Derived.Lib.SliceRun
import Derived.Lib.SlicesDelete
set_option maxRecDepth 100000
namespace Go.Proofs.Ytmlmkkfieeaejaa
open Go.RowKit
set_option linter.unusedVariables false

theorem setCells_row (g off : Nat) (t : TypeId) (vs : List Value) (cur : Array Value) (w : World) (hg : w.heap[g]? = some (.cells cur t (0, 0))) (hl : off + vs.length ≤ cur.size) (h1 : ∀ v ∈ vs, v.oneCell' = true) :
    w.setCells g off vs = w.setRow g (cur.toList.take off ++ vs ++ cur.toList.drop (off + vs.length)).toArray := by
  have hc : ∀ j, j < vs.length → w.cell? ⟨g, off + j, none⟩ = some (cur[off + j]!) := fun j hj => by
    rw [cell_of_row _ g _ _ t (0, 0) hg, getElem!_pos cur (off + j) (by omega), Array.getElem?_eq_getElem (by omega)]
  have a := run_storeCells_cells (P := Try.prog) g off vs 0 w (by simpa using fun j hj => by rw [hc j hj]; rfl) (by simpa using fun j hj => no_frozen hg (off + j)) h1
  have b := run_storeCells_off (P := Try.prog) g off t vs 0 cur w hg (by omega) h1
  rw [a] at b
  simp only [Nat.add_zero] at b
  injection b
theorem OwnK.there {k : Nat} {w : World} {base g n cap : Nat} {e : TypeId} {us : List (Array Value)} (h : OwnK k w base e (.slice (some ⟨g, 0, none⟩) n cap) n us) : ∃ cur : Array Value, base ≤ g ∧ w.heap[g]? = some (.cells cur e (0, 0)) ∧ n ≤ cap ∧ cap ≤ maxLen ∧ cur.size = cap * k ∧ cur.toList.take (n * k) = flat us := by
  rcases h.2.2.2 with ⟨h0, _⟩ | ⟨g', cap', cur, hv, hb, hh, hn, hm, hs, ht⟩
  · cases h0
  · injection hv with hv1 hv2 hv3
    injection hv1 with hv1
    injection hv1 with hv1
    subst hv1
    subst hv3
    exact ⟨cur, hb, hh, hn, hm, hs, ht⟩
theorem flat_erase {k : Nat} {us : List (Array Value)} (i : Nat) : flat (us.eraseIdx i) = flat (us.take i) ++ flat (us.drop (i + 1)) := by
  rw [List.eraseIdx_eq_take_drop_succ, flat_append]

theorem take_app {α : Type} (a b c : List α) (m k : Nat) (ha : a.length = m) (hb : b.length = k) : (a ++ b ++ c).take (m + k) = a ++ b := by
  rw [List.take_left' (by simp [ha, hb])]
set_option maxHeartbeats 4000000 in
theorem delete_any (g n cap : Nat) (us : List (Array Value)) (w : World) (base : Nat) (h : OwnK 5 w base 33 (.slice (some ⟨g, 0, none⟩) n cap) n us) (i : Nat) (hi : i < n) (z : Int) (hz : z = ((i + 1 : Nat) : Int)) :
    Calls Try.prog 56 #[.slice (some ⟨g, 0, none⟩) n cap, .int .i64 (i : Int), .int .i64 z] w (fun e w' => e = .returned (.slice (some ⟨g, 0, none⟩) (n - 1) cap) ∧ OwnK 5 w' base 33 (.slice (some ⟨g, 0, none⟩) (n - 1) cap) (n - 1) (us.eraseIdx i) ∧ But g w w' ∧ (∀ base' w0, Below base' w0 w → base' ≤ g → Below base' w0 w')) := by
  obtain ⟨cur, hb, hh, hcap, hmax, hs, ht⟩ := h.there
  have hall := h.1
  have hlen := h.2.1
  obtain ⟨i0, hi0, hz5⟩ : ∃ i0, Try.prog.info? 33 = some i0 ∧ i0.size = 5 := by
    have := sizeE
    cases hq : Try.prog.info? 33 with
    | none => simp [hq] at this
    | some i => exact ⟨i, rfl, by simpa [hq] using this⟩
  have hnews : (flat (us.drop (i + 1))).length = (n - (i + 1)) * 5 := by rw [flat_length (hall.drop _), List.length_drop, hlen]
  have hcl : cur.toList.length = cap * 5 := by rw [Array.length_toList]; exact hs
  have hfi : cur.toList.take (i * 5) = flat (us.take i) := by
    rw [flat_take hall, ← ht, List.take_take, Nat.min_eq_left (by omega)]
  have hfd : flat (us.drop (i + 1)) = (flat us).drop ((i + 1) * 5) := flat_drop hall _
  -- the world behind the append
  have hone : ∀ u ∈ flat (us.drop (i + 1)), u.oneCell' = true := flat_cells (hall.drop _)
  have hmul : i * 5 + (n - (i + 1)) * 5 = (n - 1) * 5 := by omega
  have hrow1 := setCells_row g (i * 5) 33 (flat (us.drop (i + 1))) cur w.drew hh (by rw [hnews, hs]; omega) hone
  obtain ⟨W1, hW1⟩ : ∃ W1, W1 = w.drew.setCells g (0 + i * 5) (flat (us.drop (i + 1))) := ⟨_, rfl⟩
  rw [Nat.zero_add, hrow1] at hW1
  obtain ⟨cur1, hc1⟩ : ∃ cur1, (cur.toList.take (i * 5) ++ flat (us.drop (i + 1)) ++ cur.toList.drop (i * 5 + (flat (us.drop (i + 1))).length)).toArray = cur1 := ⟨_, rfl⟩
  rw [hc1] at hW1 hrow1
  have hh1 : W1.heap[g]? = some (.cells cur1 33 (0, 0)) := by rw [hW1]; exact row_setRow w.drew g cur1 cur _ _ hh
  have hs1 : cur1.size = cap * 5 := by
    rw [← hc1, List.size_toArray, List.length_append, List.length_append, List.length_take, List.length_drop, hnews, hcl]
    omega
  have ht1 : cur1.toList.take ((n - 1) * 5) = flat (us.eraseIdx i) := by
    rw [← hc1, flat_erase (k := 5), ← hfi]
    rw [show (n - 1) * 5 = i * 5 + (n - (i + 1)) * 5 by omega]
    exact take_app _ _ _ _ _ (by rw [List.length_take, hcl]; omega) hnews
  have hb1 : But g w W1 := by rw [hW1]; exact But.setRow w.drew g cur1
  have hB1 : ∀ base' w0, Below base' w0 w → base' ≤ g → Below base' w0 W1 := fun b w0 h1 h2 => by rw [hW1]; exact below_setRow h1.drew h2 cur1
  -- the world behind the clear
  have hrun2 := run_storeCells_off (P := Try.prog) g ((n - 1) * 5) 33 ez.toList 0 cur1 W1 hh1 (by rw [hs1]; show (n - 1) * 5 + 0 + 5 ≤ cap * 5; omega) (by decide)
  obtain ⟨cur2, hc2⟩ : ∃ cur2, (cur1.toList.take ((n - 1) * 5 + 0) ++ ez.toList ++ cur1.toList.drop ((n - 1) * 5 + 0 + ez.toList.length)).toArray = cur2 := ⟨_, rfl⟩
  rw [hc2] at hrun2
  obtain ⟨W2, hW2⟩ : ∃ W2, W2 = W1.setRow g cur2 := ⟨_, rfl⟩
  rw [← hW2] at hrun2
  have hcl1 : cur1.toList.length = cap * 5 := by rw [Array.length_toList]; exact hs1
  have hs2 : cur2.size = cap * 5 := by
    rw [← hc2, List.size_toArray, List.length_append, List.length_append, List.length_take, List.length_drop, hcl1]
    show min ((n - 1) * 5 + 0) (cap * 5) + 5 + (cap * 5 - ((n - 1) * 5 + 0 + 5)) = cap * 5
    omega
  have ht2 : cur2.toList.take ((n - 1) * 5) = flat (us.eraseIdx i) := by
    rw [← ht1, ← hc2]
    show List.take ((n - 1) * 5) (List.take ((n - 1) * 5 + 0) cur1.toList ++ ez.toList ++ _) = _
    rw [List.append_assoc, List.take_left' (by rw [List.length_take, hcl1]; omega)]
    rfl
  have hh2 : W2.heap[g]? = some (.cells cur2 33 (0, 0)) := by rw [hW2]; exact row_setRow W1 g cur2 cur1 _ _ hh1
  have hER : AllK 5 (us.eraseIdx i) := fun q hq => hall q (List.mem_of_mem_eraseIdx hq)
  have hEL : (us.eraseIdx i).length = n - 1 := by rw [List.length_eraseIdx_of_lt (by omega), hlen]
  have hO2 : OwnK 5 W2 base 33 (.slice (some ⟨g, 0, none⟩) (n - 1) cap) (n - 1) (us.eraseIdx i) :=
    ⟨hER, hEL, by rw [flat_length hER, hEL], .inr ⟨g, cap, cur2, rfl, hb, hh2, by omega, hmax, hs2, ht2⟩⟩
  have hb2 : But g w W2 := hb1.trans (by rw [hW2]; exact But.setRow W1 g cur2)
  have hB2 : ∀ base' w0, Below base' w0 w → base' ≤ g → Below base' w0 W2 := fun b w0 h1 h2 => by rw [hW2]; exact below_setRow (hB1 b w0 h1 h2) h2 cur2
  have hclear : ∀ ty, (Builtin.clear_ #[22] ty #[.slice (some ⟨g, (n - 1) * 5, none⟩) 1 (cap - (n - 1))]).run Try.prog W1 = .ok (.tuple #[]) W2 := fun ty => by
    have hzc : (Builtin.zeroCells (Value.agg ez).cells 1).toList = ez.toList := by kernel_rfl
    simp [Builtin.clear_, run_underlying Try.underlying22, hzc, hrun2]
  obtain ⟨A, hA, hsrc⟩ : ∃ A : Addr, (if cap = i + 1 then (some ⟨g, 0, none⟩ : Option Addr) else some ⟨g, (i + 1) * 5, none⟩) = some A ∧ Hid (∀ t u, (flat (us.drop (i + 1)))[t]? = some u → w.drew.cell? (A.add t) = some u) := by
    by_cases hc : cap = i + 1
    · refine ⟨⟨g, 0, none⟩, by simp [hc], hidT fun t u hu => ?_⟩
      have : (flat (us.drop (i + 1))).length = 0 := by rw [hnews]; omega
      rw [List.length_eq_zero_iff.1 this] at hu
      simp at hu
    · refine ⟨⟨g, (i + 1) * 5, none⟩, by simp [hc], hidT fun t u hu => ?_⟩
      rw [hfd, List.getElem?_drop, ← ht, List.getElem?_take] at hu
      split at hu
      · rw [add_eq, cell_of_row _ g _ _ 33 (0, 0) (show w.drew.heap[g]? = _ from hh)]
        simpa using hu
      · cases hu
  have HS3 : Hid (∀ t, t < (flat (us.drop (i + 1))).length → (w.drew.cell? ⟨g, 0 + i * 5 + t, none⟩).isSome = true ∧ w.drew.frozen? ⟨g, 0 + i * 5 + t, none⟩ = false) := hidT fun t ht' => by
    rw [hnews] at ht'
    refine ⟨?_, no_frozen (show w.drew.heap[g]? = _ from hh) _⟩
    rw [cell_of_row _ g _ _ 33 (0, 0) (show w.drew.heap[g]? = _ from hh), Array.getElem?_eq_getElem (by omega)]
    rfl
  have hlo : (if cap = n - 1 then (some ⟨g, 0, none⟩ : Option Addr) else some ⟨g, (n - 1) * 5, none⟩) = some ⟨g, (n - 1) * 5, none⟩ := by rw [if_neg (by omega)]
  have HW1 : Hid (W1 = w.drew.setCells g (0 + i * 5) (flat (us.drop (i + 1)))) := hidT (by rw [Nat.zero_add, hrow1]; exact hW1)
  have HNL := hidT hnews
  have HONE := hidT hone
  have HO2 := hidT hO2
  have HB2 := hidT hb2
  have HBB := hidT hB2
  have hcmax : cap ≤ 9223372036854775807 := by unfold maxLen at hmax; exact hmax
  obtain ⟨J, hJ⟩ : ∃ J, i + 1 = J := ⟨_, rfl⟩
  rw [hJ] at hz hA
  have hsum : i + (n - J) = n - 1 := by omega
  obtain ⟨N, hN⟩ : ∃ N, n - 1 = N := ⟨_, rfl⟩
  have HJ := hidT hJ
  have hJn : J ≤ n := by omega
  have hic : i ≤ cap := by omega
  have hJc : J ≤ cap := by omega
  have hiJ : i ≤ J := by omega
  have hne : ¬ i = J := by omega
  have hne2 : (i == J) = false := by simpa using hne
  have hne3 : ((i : Int) == (J : Int)) = false := by simp; omega
  rw [hN] at hsum hlo hclear
  have hNn : N ≤ n := by omega
  have hNc : N ≤ cap := by omega
  have hone1 : n - N = 1 := by omega
  have HFN : Hid (n - 1 = N) := hidT hN
  rw [hN] at HO2
  obtain ⟨news, hnw⟩ : ∃ news, flat (us.drop (i + 1)) = news := ⟨_, rfl⟩
  rw [hnw] at hsrc HS3 HW1 HNL HONE
  rw [hJ] at HNL
  subst hz
  clear hall hlen hnews hcl hfi hfd hone hmul hrow1 hW1 hc1 hh1 hs1 ht1 hb1 hB1 hc2 hrun2 hcl1 hs2 ht2 hh2 hER hEL hO2 hb2 hB2 hmax hs ht hJ hN hh h hb hW2 hnw
  rw [HFN.out]
  go_enter Try.func56, Try.ntmps56
  go_wp2_with fail
  go_region_law (refine step_append_room rfl (.tmp 22) (.tmp 25) 22 rfl 33 i0 5 Try.underlying22 hi0 hz5 g 0 i cap (by simp [Act.eval, Act.put]) A (n - J) (cap - J) news (by simp [Act.eval, Act.put]) HNL.out hsrc.out HONE.out (by omega) HS3.out ?_; rw [← HW1.out])
  all_goals
    go_wp2
    go_ret
    exact ⟨rfl, HO2.out, HB2.out, HBB.out⟩
end Go.Proofs.Ytmlmkkfieeaejaa
