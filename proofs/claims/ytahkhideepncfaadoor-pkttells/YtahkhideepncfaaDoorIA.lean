import Derived.Test.YtahkhideepncfaaDoorMA
import Derived.Test.YtahkhideepncfaaDoorNA
set_option maxRecDepth 100000
/- What item.within, the closures of item.asks and slices.ContainsFunc come to. -/
namespace Go.Proofs.YtahkhideepncfaaDoor
open Go.RowKit
set_option linter.unusedVariables false

def BoolIs (w : World) (b : Bool) (e : Ending) (w' : World) : Prop := e = .returned (.bool b) ∧ Below w.heap.size w w'
/-- A bool, and nothing turned or made. -/
def JustIs (w : World) (b : Bool) (e : Ending) (w' : World) : Prop := e = .returned (.bool b) ∧ w = w'

theorem within_is (n a b : Int) (w : World) :
    Calls Tryd.prog 52 #[.int .i64 n, .int .i64 a, .int .i64 b] w (JustIs w (Item.win n a b)) := by
  by_cases h1 : a ≤ n
  · by_cases h2 : n ≤ b
    · have q1 : decide (a ≤ n) = true := by simpa using h1
      have q2 : decide (n ≤ b) = true := by simpa using h2
      have e : Item.win n a b = true := by simp [Item.win, h1, h2]
      rw [e]
      go_enter Tryd.func52, Tryd.ntmps52
      go_wp2
      go_ret
      exact ⟨rfl, rfl⟩
    · have q1 : decide (a ≤ n) = true := by simpa using h1
      have q2 : decide (n ≤ b) = false := by simpa using h2
      have e : Item.win n a b = false := by simp [Item.win, h1, h2]
      rw [e]
      go_enter Tryd.func52, Tryd.ntmps52
      go_wp2
      go_ret
      exact ⟨rfl, rfl⟩
  · have q1 : decide (a ≤ n) = false := by simpa using h1
    have e : Item.win n a b = false := by simp [Item.win, h1]
    rw [e]
    go_enter Tryd.func52, Tryd.ntmps52
    go_wp2
    go_ret
    exact ⟨rfl, rfl⟩

theorem index_is (n i : Int) (s : Nat) (w : World) (hc : w.cell? ⟨s, 3, none⟩ = some (.int .i64 i)) :
    Calls Tryd.prog 64 #[.int .i64 n, .pointer (some ⟨s, 0, none⟩)] w (JustIs w (Item.win i 0 n)) := by
  go_enter Tryd.func64, Tryd.ntmps64
  go_wp2_with fail
  with_reducible refine (within_is i 0 n _).mono ?_
  rintro e w1 ⟨rfl, rfl⟩
  go_wp2
  go_ret
  exact ⟨rfl, rfl⟩

theorem total_is (a b t : Int) (s : Nat) (w : World) (hc : w.cell? ⟨s, 4, none⟩ = some (.int .i64 t)) :
    Calls Tryd.prog 65 #[.int .i64 a, .int .i64 b, .pointer (some ⟨s, 0, none⟩)] w (JustIs w (Item.win t a b)) := by
  go_enter Tryd.func65, Tryd.ntmps65
  go_wp2_with fail
  with_reducible refine (within_is t a b _).mono ?_
  rintro e w1 ⟨rfl, rfl⟩
  go_wp2
  go_ret
  exact ⟨rfl, rfl⟩

theorem count_is (n c : Int) (s : Nat) (w : World) (hc : w.cell? ⟨s, 5, none⟩ = some (.int .i64 c)) :
    Calls Tryd.prog 66 #[.int .i64 n, .pointer (some ⟨s, 0, none⟩)] w (JustIs w (Item.win c 0 n)) := by
  go_enter Tryd.func66, Tryd.ntmps66
  go_wp2_with fail
  with_reducible refine (within_is c 0 n _).mono ?_
  rintro e w1 ⟨rfl, rfl⟩
  go_wp2
  go_ret
  exact ⟨rfl, rfl⟩

theorem body_is (n : Int) (s : Nat) (A : Option Addr) (m d : Nat) (b : List UInt8) (w : World) (hc : w.cell? ⟨s, 7, none⟩ = some (.slice A m d)) (hl : b.length = m) :
    Calls Tryd.prog 67 #[.int .i64 n, .pointer (some ⟨s, 0, none⟩)] w (JustIs w (Item.body b n)) := by
  subst hl
  unfold Item.body
  by_cases h : (b.length : Int) ≤ n
  · have q : decide ((b.length : Int) ≤ n) = true := by simpa using h
    rw [q]
    go_enter Tryd.func67, Tryd.ntmps67
    go_wp2
    go_ret
    exact ⟨rfl, rfl⟩
  · have q : decide ((b.length : Int) ≤ n) = false := by simpa using h
    rw [q]
    go_enter Tryd.func67, Tryd.ntmps67
    go_wp2
    go_ret
    exact ⟨rfl, rfl⟩

theorem unfit_is (n top : Int) (s : Nat) (w : World) (hc : w.cell? ⟨s, 0, none⟩ = some (.int .i64 top)) :
    Calls Tryd.prog 69 #[.int .i64 n, .pointer (some ⟨s, 0, none⟩)] w (JustIs w (!Item.win n 0 top)) := by
  go_enter Tryd.func69, Tryd.ntmps69
  go_wp2_with fail
  with_reducible refine (within_is n 0 top _).mono ?_
  rintro e w1 ⟨rfl, rfl⟩
  go_wp2
  go_ret
  exact ⟨rfl, rfl⟩
end Go.Proofs.YtahkhideepncfaaDoor
/- What slices.IndexFunc, slices.ContainsFunc and the closure 'list' of item.asks come to. -/
namespace Go.Proofs.YtahkhideepncfaaDoor
open Go.RowKit
set_option linter.unusedVariables false

theorem allIn_succ {l : List Int} {top x : Int} {j : Nat} (hx : l[j]? = some x) (h : Item.allIn (l.take j) top = true) (hw : Item.win x 0 top = true) : Item.allIn (l.take (j + 1)) top = true := by
  unfold Item.allIn at *
  rw [List.take_add_one, List.all_append, h, hx]
  simpa using hw
theorem allIn_not {l : List Int} {top x : Int} {j : Nat} (hx : l[j]? = some x) (hw : Item.win x 0 top = false) : Item.allIn l top = false := by
  unfold Item.allIn
  rw [List.all_eq_false]
  exact ⟨x, List.mem_of_getElem? hx, by simp [hw]⟩

theorem indexFunc_is (A : Option Addr) (n c : Nat) (l : List Int) (top : Int) (s : Nat) (w : World) (h : RdI w A n c l) (hs : w.cell? ⟨s, 0, none⟩ = some (.int .i64 top)) :
    Calls Tryd.prog 53 #[.slice A n c, .func (.func 69) #[] #[.pointer (some ⟨s, 0, none⟩)]] w fun e w' => ∃ r : Int, e = .returned (.int .i64 r) ∧ w = w' ∧ decide (0 ≤ r) = !Item.allIn l top := by
  have hn := RdV.le h
  have hl := RdI.size h
  have HL := hidT hl
  clear hl
  go_enter Tryd.func53, Tryd.ntmps53
  go_wp2
  go_loop [8] (fun i => ∃ j : Nat, j ≤ n ∧ i = .int .i64 j ∧ Item.allIn (l.take j) top = true) (fun i => n - (intOf i).toNat)
  case atStart => exact ⟨0, Nat.zero_le _, rfl, rfl⟩
  case round =>
    obtain ⟨j, hj, rfl, ha⟩ := hrel
    have HA := hidT ha
    clear ha
    by_cases hjn : j < n
    · obtain ⟨b, o, x, rfl, hx, hc⟩ := RdI.at_ h hjn
      have HX := hidT hx
      clear hx
      cases hw : Item.win x 0 top with
      | true =>
        have HW := hidT hw
        have hu := unfit_is x top s w hs
        rw [hw] at hu
        clear hw
        go_wp2_with fail
        with_reducible refine hu.mono ?_
        rintro e w1 ⟨rfl, rfl⟩
        go_wp2
        go_round
        case rel => exact ⟨j + 1, by omega, by go_num, allIn_succ HX.out HA.out HW.out⟩
        case measure => simp [intOf]; omega
      | false =>
        have HW := hidT hw
        have hu := unfit_is x top s w hs
        rw [hw] at hu
        clear hw
        go_wp2_with fail
        with_reducible refine hu.mono ?_
        rintro e w1 ⟨rfl, rfl⟩
        go_wp2
        go_ret
        refine ⟨_, rfl, rfl, ?_⟩
        rw [allIn_not HX.out HW.out]
        simp
    · obtain rfl : j = n := by omega
      go_wp2
      go_ret
      refine ⟨_, rfl, rfl, ?_⟩
      have ha := HA.out
      rw [List.take_of_length_le (by rw [HL.out]; omega)] at ha
      rw [ha]
      rfl

theorem containsFunc_is (A : Option Addr) (n c : Nat) (l : List Int) (top : Int) (s : Nat) (w : World) (h : RdI w A n c l) (hs : w.cell? ⟨s, 0, none⟩ = some (.int .i64 top)) :
    Calls Tryd.prog 29 #[.slice A n c, .func (.func 69) #[] #[.pointer (some ⟨s, 0, none⟩)]] w (JustIs w (!Item.allIn l top)) := by
  go_enter Tryd.func29, Tryd.ntmps29
  go_wp2_with fail
  with_reducible refine (indexFunc_is A n c l top s w h hs).mono ?_
  rintro e w1 ⟨r, rfl, rfl, hr⟩
  by_cases h0 : 0 ≤ r
  · have q : decide (0 ≤ r) = true := by simpa using h0
    rw [q] at hr
    rw [← hr]
    go_wp2
    go_ret
    exact ⟨rfl, rfl⟩
  · have q : decide (0 ≤ r) = false := by simpa using h0
    rw [q] at hr
    rw [← hr]
    go_wp2
    go_ret
    exact ⟨rfl, rfl⟩

theorem list_is (lo hi top : Int) (s : Nat) (A : Option Addr) (n c : Nat) (l : List Int) (w : World) (hs : w.cell? ⟨s, 6, none⟩ = some (.slice A n c)) (h : RdI w A n c l) :
    Calls Tryd.prog 68 #[.int .i64 lo, .int .i64 hi, .int .i64 top, .pointer (some ⟨s, 0, none⟩)] w (BoolIs w (Item.list l lo hi top)) := by
  have hl := RdI.size h
  have hlt := World.block_lt_of_cell? _ _ hs
  have hs1 : (w.alloc (.cells #[.int .i64 top] 3)).cell? ⟨s, 6, none⟩ = some (.slice A n c) := by
    rw [World.cell?_alloc_past _ _ _ hlt]; exact hs
  have ht1 : (w.alloc (.cells #[.int .i64 top] 3)).cell? ⟨w.heap.size, 0, none⟩ = some (.int .i64 top) := by
    rw [World.cell?_alloc_at _ _ _ _ rfl]; rfl
  have hb1 : Below w.heap.size w (w.alloc (.cells #[.int .i64 top] 3)) := (Below.refl _ _).alloc (Nat.le_refl _) _
  have h1 : RdI (w.alloc (.cells #[.int .i64 top] 3)) A n c l := RdV.below h hb1
  have hw := within_is n lo hi (w.alloc (.cells #[.int .i64 top] 3))
  have hcf := containsFunc_is A n c l top w.heap.size _ h1 ht1
  unfold Item.list
  rw [hl]
  clear hlt hl
  cases hq : Item.win n lo hi with
  | false =>
    rw [hq] at hw
    go_enter Tryd.func68, Tryd.ntmps68
    go_wp2_with fail
    with_reducible refine hw.mono ?_
    rintro e w1 ⟨rfl, rfl⟩
    go_wp2
    go_ret
    exact ⟨rfl, hb1⟩
  | true =>
    rw [hq] at hw
    rw [Bool.true_and]
    cases hp : Item.allIn l top
    all_goals
      rw [hp] at hcf
      go_enter Tryd.func68, Tryd.ntmps68
      go_wp2_with fail
      with_reducible refine hw.mono ?_
      rintro e w1 ⟨rfl, rfl⟩
      go_wp2_with fail
      with_reducible refine hcf.mono ?_
      rintro e w1 ⟨rfl, rfl⟩
      go_wp2
      go_ret
      exact ⟨rfl, hb1⟩
end Go.Proofs.YtahkhideepncfaaDoor
/- What the six closures that item.asks keeps in its map come to. (Written by wip/gen/item3.py.) -/
namespace Go.Proofs.YtahkhideepncfaaDoor
open Go.RowKit
set_option linter.unusedVariables false

/-- The blocks that the closures reach: an item's, and five function values' over it. -/
structure Asks (w : World) (s pi pt pc pb pl : Nat) (x : Item.It) (LA : Option Addr) (ln lc : Nat) (BA : Option Addr) (bn bc : Nat) : Prop where
  ci : w.cell? ⟨s, 3, none⟩ = some (.int .i64 x.i)
  ct : w.cell? ⟨s, 4, none⟩ = some (.int .i64 x.t)
  cc : w.cell? ⟨s, 5, none⟩ = some (.int .i64 x.c)
  cl : w.cell? ⟨s, 6, none⟩ = some (.slice LA ln lc)
  cb : w.cell? ⟨s, 7, none⟩ = some (.slice BA bn bc)
  rl : RdI w LA ln lc x.l
  rb : Rd w BA bn bc x.b
  fi : w.cell? ⟨pi, 0, none⟩ = some (.func (.func 64) #[] #[.pointer (some ⟨s, 0, none⟩)])
  ft : w.cell? ⟨pt, 0, none⟩ = some (.func (.func 65) #[] #[.pointer (some ⟨s, 0, none⟩)])
  fc : w.cell? ⟨pc, 0, none⟩ = some (.func (.func 66) #[] #[.pointer (some ⟨s, 0, none⟩)])
  fb : w.cell? ⟨pb, 0, none⟩ = some (.func (.func 67) #[] #[.pointer (some ⟨s, 0, none⟩)])
  fl : w.cell? ⟨pl, 0, none⟩ = some (.func (.func 68) #[] #[.pointer (some ⟨s, 0, none⟩)])
theorem keepC {w w' : World} {p : Addr} {u : Value} (hb : Below w.heap.size w w') (h : w.cell? p = some u) : w'.cell? p = some u := (hb.cell (World.block_lt_of_cell? _ _ h)).trans h
theorem Asks.below {w w' : World} {s pi pt pc pb pl : Nat} {x : Item.It} {LA : Option Addr} {ln lc : Nat} {BA : Option Addr} {bn bc : Nat} (h : Asks w s pi pt pc pb pl x LA ln lc BA bn bc) (hb : Below w.heap.size w w') :
    Asks w' s pi pt pc pb pl x LA ln lc BA bn bc :=
  ⟨keepC hb h.ci, keepC hb h.ct, keepC hb h.cc, keepC hb h.cl, keepC hb h.cb, RdV.below h.rl hb, h.rb.below hb, keepC hb h.fi, keepC hb h.ft, keepC hb h.fc, keepC hb h.fb, keepC hb h.fl⟩

end Go.Proofs.YtahkhideepncfaaDoor
