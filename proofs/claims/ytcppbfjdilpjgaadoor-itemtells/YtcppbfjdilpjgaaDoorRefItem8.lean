/- What the document's Take comes to. -/
import Derived.Test.YtcppbfjdilpjgaaDoorSA
import Derived.Test.YtcppbfjdilpjgaaDoorSB
import Derived.Test.YtcppbfjdilpjgaaDoorSC
import Derived.Test.YtcppbfjdilpjgaaDoorSD
set_option maxRecDepth 100000
namespace Go.Proofs.YtcppbfjdilpjgaaDoor
open Go.RowKit
set_option linter.unusedVariables false

theorem rtakeI_any (A : Option Addr) (n c : Nat) (l : List UInt8) (w : World) (h : Rd w A n c l) (hn2 : n ≤ 65536) :
    Calls Tryd.prog 13 #[.slice A n c] w (TakeO w (Item.takeOf l)) := by
  rw [← Item.refOf_eq]
  have hl := h.1
  have hnc := h.2.1
  unfold Item.refOf
  by_cases hn : n < 17
  · rw [if_pos (by omega)]
    exact rtakeI_short A n c l w h hn
  rw [if_neg (by omega)]
  obtain ⟨b, o, rfl, _⟩ := h.at_ (by omega)
  cases ht : Num.takes 8 2 ((l.drop 1).take 16) with
  | none => exact rtakeI_row b o n c l w h (by omega) hn2 2 (Num.rowOf_none (m := 2) most8 ht) (by omega)
  | some p =>
    obtain ⟨q, e, rr, rfl⟩ := Item.takes_two ht
    have hk := Num.rowOf_some (m := 2) most8 ht
    dsimp only
    have hRl : (l.drop 17).length = n - 17 := by rw [List.length_drop, hl]
    generalize hR : l.drop 17 = R at hRl ⊢
    generalize hK : Item.at_ l 0 = k
    unfold Item.refC
    by_cases k1 : k = 1
    · subst k1
      rw [if_pos rfl]
      by_cases h2 : 2 ≤ R.length
      · rw [if_pos h2]
        by_cases hc : c = 19
        · exact rt1l_eq b o n c l w h (by omega) hn2 hc (by omega) q e rr hk hK _ _ R hR rfl rfl
        · exact rt1l_in b o n c l w h (by omega) hn2 (by omega) q e rr hk hK (by omega) (by omega) _ _ R hR rfl rfl
      · rw [if_neg h2]
        by_cases hc : c = 17
        · exact rt1s_eq b o n c l w h (by omega) hn2 hc q e rr hk hK R hR
        · exact rt1s_in b o n c l w h (by omega) hn2 (by omega) q e rr hk hK (by omega) R hR
    rw [if_neg k1]
    by_cases k2 : k = 2
    · subst k2
      rw [if_pos rfl]
      by_cases h2 : 1 ≤ R.length
      · rw [if_pos h2]
        by_cases hc : c = 18
        · exact rt2l_eq b o n c l w h (by omega) hn2 hc (by omega) q e rr hk hK _ _ R hR rfl (hidT rfl)
        · exact rt2l_in b o n c l w h (by omega) hn2 (by omega) q e rr hk hK (by omega) (by omega) _ _ R hR rfl (hidT rfl)
      · rw [if_neg h2]
        by_cases hc : c = 17
        · exact rt2s_eq b o n c l w h (by omega) hn2 hc q e rr hk hK R hR
        · exact rt2s_in b o n c l w h (by omega) hn2 (by omega) q e rr hk hK (by omega) R hR
    rw [if_neg k2]
    by_cases k4 : k = 4
    · subst k4
      rw [if_pos rfl]
      by_cases h2 : 1 ≤ R.length
      · rw [if_pos h2]
        exact rt4l b o n c l w h (by omega) hn2 (by omega) q e rr hk hK (by omega) _ R hR rfl
      · rw [if_neg h2]
        by_cases hc : c = 17
        · exact rt4s_eq b o n c l w h (by omega) hn2 hc q e rr hk hK R hR
        · exact rt4s_in b o n c l w h (by omega) hn2 (by omega) q e rr hk hK (by omega) R hR
    rw [if_neg k4]
    by_cases k5 : k = 5
    · subst k5
      rw [if_pos rfl]
      by_cases hc : c = 17
      · exact rt5_eq b o n c l w h (by omega) hn2 hc q e rr hk hK _ R hR (hidT rfl)
      · exact rt5_in b o n c l w h (by omega) hn2 (by omega) q e rr hk hK _ R hR (hidT rfl)
    rw [if_neg k5]
    by_cases k6 : k = 6
    · subst k6
      rw [if_pos rfl]
      by_cases hc : c = 17
      · exact rt6_eq b o n c l w h (by omega) hn2 hc q e rr hk hK _ R hR (hidT rfl)
      · exact rt6_in b o n c l w h (by omega) hn2 (by omega) q e rr hk hK _ R hR (hidT rfl)
    rw [if_neg k6]
    by_cases hc : c = 17
    · exact rt0_eq b o n c l w h (by omega) hn2 hc k q e rr hk hK k1 k2 k4 k5 k6 R hR
    · exact rt0_in b o n c l w h (by omega) hn2 (by omega) k q e rr hk hK k1 k2 k4 k5 k6 R hR
end Go.Proofs.YtcppbfjdilpjgaaDoor
