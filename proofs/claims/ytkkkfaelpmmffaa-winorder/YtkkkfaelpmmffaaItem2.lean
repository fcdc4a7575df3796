/- What slices.IndexFunc, slices.ContainsFunc and the closure 'list' of item.asks come to. -/
import Derived.Test.YtkkkfaelpmmffaaItem1
set_option maxRecDepth 100000
namespace Go.Proofs.Ytkkkfaelpmmffaa
open Go.RowKit
set_option linter.unusedVariables false

theorem allIn_succ {l : List Int} {top x : Int} {j : Nat} (hx : l[j]? = some x) (h : Item.allIn (l.take j) top = true) (hw : Item.win x 0 top = true) : Item.allIn (l.take (j + 1)) top = true := by
  unfold Item.allIn at *
  rw [List.take_add_one, List.all_append, h, hx]
  simpa using hw
theorem allIn_not {l : List Int} {top x : Int} {j : Nat} (hx : l[j]? = some x) (hw : Item.win x 0 top = false) : Item.allIn l top = false := by
  unfold Item.allIn
  rw [List.all_eq_false]
  exact ⟨x, List.mem_of_getElem? hx, by simp [hw]⟩

theorem indexFunc_is (A : Option Addr) (n c : Nat) (l : List Int) (top : Int) (s : Nat) (w : World) (h : RdI w A n c l) (hs : w.cell? ⟨s, 0, none⟩ = some (.int .i64 top)) :
    Calls Try.prog 59 #[.slice A n c, .func (.func 50) #[] #[.pointer (some ⟨s, 0, none⟩)]] w fun e w' => ∃ r : Int, e = .returned (.int .i64 r) ∧ w = w' ∧ decide (0 ≤ r) = !Item.allIn l top := by
  have hn := RdV.le h
  have hl := RdI.size h
  have HL := hidT hl
  clear hl
  go_enter Try.func59, Try.ntmps59
  go_wp2
  go_loop [8] (fun i => ∃ j : Nat, j ≤ n ∧ i = .int .i64 j ∧ Item.allIn (l.take j) top = true) (fun i => n - (intOf i).toNat)
  case atStart => exact ⟨0, Nat.zero_le _, rfl, rfl⟩
  case round =>
    obtain ⟨j, hj, rfl, ha⟩ := hrel
    have HA := hidT ha
    clear ha
    by_cases hjn : j < n
    · obtain ⟨b, o, x, rfl, hx, hc⟩ := RdI.at_ h hjn
      have HX := hidT hx
      clear hx
      cases hw : Item.win x 0 top with
      | true =>
        have HW := hidT hw
        have hu := unfit_is x top s w hs
        rw [hw] at hu
        clear hw
        go_wp2_with fail
        with_reducible refine hu.mono ?_
        rintro e w1 ⟨rfl, rfl⟩
        go_wp2
        go_round
        case rel => exact ⟨j + 1, by omega, by go_num, allIn_succ HX.out HA.out HW.out⟩
        case measure => simp [intOf]; omega
      | false =>
        have HW := hidT hw
        have hu := unfit_is x top s w hs
        rw [hw] at hu
        clear hw
        go_wp2_with fail
        with_reducible refine hu.mono ?_
        rintro e w1 ⟨rfl, rfl⟩
        go_wp2
        go_ret
        refine ⟨_, rfl, rfl, ?_⟩
        rw [allIn_not HX.out HW.out]
        simp
    · obtain rfl : j = n := by omega
      go_wp2
      go_ret
      refine ⟨_, rfl, rfl, ?_⟩
      have ha := HA.out
      rw [List.take_of_length_le (by rw [HL.out]; omega)] at ha
      rw [ha]
      rfl

theorem containsFunc_is (A : Option Addr) (n c : Nat) (l : List Int) (top : Int) (s : Nat) (w : World) (h : RdI w A n c l) (hs : w.cell? ⟨s, 0, none⟩ = some (.int .i64 top)) :
    Calls Try.prog 51 #[.slice A n c, .func (.func 50) #[] #[.pointer (some ⟨s, 0, none⟩)]] w (JustIs w (!Item.allIn l top)) := by
  go_enter Try.func51, Try.ntmps51
  go_wp2_with fail
  with_reducible refine (indexFunc_is A n c l top s w h hs).mono ?_
  rintro e w1 ⟨r, rfl, rfl, hr⟩
  by_cases h0 : 0 ≤ r
  · have q : decide (0 ≤ r) = true := by simpa using h0
    rw [q] at hr
    rw [← hr]
    go_wp2
    go_ret
    exact ⟨rfl, rfl⟩
  · have q : decide (0 ≤ r) = false := by simpa using h0
    rw [q] at hr
    rw [← hr]
    go_wp2
    go_ret
    exact ⟨rfl, rfl⟩

theorem list_is (lo hi top : Int) (s : Nat) (A : Option Addr) (n c : Nat) (l : List Int) (w : World) (hs : w.cell? ⟨s, 6, none⟩ = some (.slice A n c)) (h : RdI w A n c l) :
    Calls Try.prog 49 #[.int .i64 lo, .int .i64 hi, .int .i64 top, .pointer (some ⟨s, 0, none⟩)] w (BoolIs w (Item.list l lo hi top)) := by
  have hl := RdI.size h
  have hlt := World.block_lt_of_cell? _ _ hs
  have hs1 : (w.alloc (.cells #[.int .i64 top] 3)).cell? ⟨s, 6, none⟩ = some (.slice A n c) := by
    rw [World.cell?_alloc_past _ _ _ hlt]; exact hs
  have ht1 : (w.alloc (.cells #[.int .i64 top] 3)).cell? ⟨w.heap.size, 0, none⟩ = some (.int .i64 top) := by
    rw [World.cell?_alloc_at _ _ _ _ rfl]; rfl
  have hb1 : Below w.heap.size w (w.alloc (.cells #[.int .i64 top] 3)) := (Below.refl _ _).alloc (Nat.le_refl _) _
  have h1 : RdI (w.alloc (.cells #[.int .i64 top] 3)) A n c l := RdV.below h hb1
  have hw := within_is n lo hi (w.alloc (.cells #[.int .i64 top] 3))
  have hcf := containsFunc_is A n c l top w.heap.size _ h1 ht1
  unfold Item.list
  rw [hl]
  clear hlt hl
  cases hq : Item.win n lo hi with
  | false =>
    rw [hq] at hw
    go_enter Try.func49, Try.ntmps49
    go_wp2_with fail
    with_reducible refine hw.mono ?_
    rintro e w1 ⟨rfl, rfl⟩
    go_wp2
    go_ret
    exact ⟨rfl, hb1⟩
  | true =>
    rw [hq] at hw
    rw [Bool.true_and]
    cases hp : Item.allIn l top
    all_goals
      rw [hp] at hcf
      go_enter Try.func49, Try.ntmps49
      go_wp2_with fail
      with_reducible refine hw.mono ?_
      rintro e w1 ⟨rfl, rfl⟩
      go_wp2_with fail
      with_reducible refine hcf.mono ?_
      rintro e w1 ⟨rfl, rfl⟩
      go_wp2
      go_ret
      exact ⟨rfl, hb1⟩
end Go.Proofs.Ytkkkfaelpmmffaa
