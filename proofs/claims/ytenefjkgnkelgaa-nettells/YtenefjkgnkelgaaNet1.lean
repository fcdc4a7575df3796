/- What the document's own 'one', Same and Few, and net's 'has', come to. -/
import Derived.Test.YtenefjkgnkelgaaBA
import Derived.Test.YtenefjkgnkelgaaNetMem
import Derived.WalkKit
import Derived.WalkLawsBesides
import Derived.WalkMore
import Derived.Deep.QuietTactic
import Derived.BigQuiet
import Derived.Deep.RegionHeld3
import Derived.Deep.DeepCutAuto
set_option maxRecDepth 100000
namespace Go.Proofs.Ytenefjkgnkelgaa
open Go.RowKit
set_option linter.unusedVariables false

/-- A bool, and nothing that was is turned. -/
def Says (w : World) (b : Bool) (e : Ending) (w' : World) : Prop := e = .returned (.bool b) ∧ Below w.heap.size w w'
theorem lt_dec (t s : Int) (a b : List UInt8) (p q : Bool) : decide ((⟨t, a, p⟩ : Lt) = ⟨s, b, q⟩) = (decide (t = s) && decide (a = b) && decide (p = q)) := by
  simp [Lt.mk.injEq, Bool.decide_and, Bool.and_assoc]

set_option maxHeartbeats 1000000 in
theorem rone_any (v u : Value) (x y : Lt) (w : World) (hv : IsLet w v x) (hu : IsLet w u y) : Calls Try.prog 30 #[v, u] w (Says w (decide (x = y))) := by
  obtain ⟨t, a, p⟩ := x
  obtain ⟨s, b, q⟩ := y
  obtain ⟨A, n, c, rfl, ha⟩ := hv
  obtain ⟨B, m, d, rfl, hb⟩ := hu
  rw [lt_dec]
  dsimp only at ha hb
  have s1 := fun w1 w2 => strs ha ((w.alloc w1).alloc w2) ((((Below.refl _ w).alloc (Nat.le_refl _) w1)).alloc (by simp) w2)
  have s2 := fun w1 w2 => strs hb ((w.alloc w1).alloc w2) ((((Below.refl _ w).alloc (Nat.le_refl _) w1)).alloc (by simp) w2)
  by_cases h1 : t = s
  · subst h1
    by_cases h2 : a = b
    · have e2 := str_same h2
      subst h2
      have hq : (decide (t = t) && decide (a = a) && decide (p = q)) = (p == q) := by simp [Bool.beq_eq_decide_eq]
      rw [hq]
      clear hq
      go_enter Try.func30, Try.ntmps30
      go_wp2
      go_ret
      exact ⟨rfl, ((Below.refl _ w).alloc (Nat.le_refl _) _).alloc (by simp) _⟩
    · have e2 := str_other h2
      have hq : (decide (t = t) && decide (a = b) && decide (p = q)) = false := by simp [h2]
      rw [hq]
      clear hq h2
      go_enter Try.func30, Try.ntmps30
      go_wp2
      go_ret
      exact ⟨rfl, ((Below.refl _ w).alloc (Nat.le_refl _) _).alloc (by simp) _⟩
  · have e1 : (t == s) = false := by simpa using h1
    have hq : (decide (t = s) && decide (a = b) && decide (p = q)) = false := by simp [h1]
    rw [hq]
    clear hq h1
    go_enter Try.func30, Try.ntmps30
    go_wp2
    go_ret
    exact ⟨rfl, ((Below.refl _ w).alloc (Nat.le_refl _) _).alloc (by simp) _⟩

theorem take_snocL {α : Type} {l : List α} {k : Nat} {x : α} (h : l[k]? = some x) : l.take (k + 1) = l.take k ++ [x] := by
  rw [List.take_add_one, h]; rfl
theorem cells3 {w : World} {b o k : Nat} {t : Tri} (h1 : w.cell? ⟨b, o + k * 3, none⟩ = some (.int .i64 t.to)) (h2 : w.cell? ⟨b, o + k * 3 + 1, none⟩ = some (.slice t.A t.n t.c)) (h3 : w.cell? ⟨b, o + k * 3 + 2, none⟩ = some (.bool t.sp)) :
    ∀ w', Below w.heap.size w w' → w'.cell? ⟨b, o + k * 3, none⟩ = some (.int .i64 t.to) ∧ w'.cell? ⟨b, o + k * 3 + 1, none⟩ = some (.slice t.A t.n t.c) ∧ w'.cell? ⟨b, o + k * 3 + 2, none⟩ = some (.bool t.sp) :=
  fun w' hb => ⟨(hb.cell (World.block_lt_of_cell? _ _ h1)).trans h1, (hb.cell (World.block_lt_of_cell? _ _ h2)).trans h2, (hb.cell (World.block_lt_of_cell? _ _ h3)).trans h3⟩

set_option maxHeartbeats 1000000 in
theorem rsame_any (A : Option Addr) (n c : Nat) (la : List Lt) (B : Option Addr) (m d : Nat) (lb : List Lt) (w : World) (h : RdL w A n c la) (h' : RdL w B m d lb) :
    Calls Try.prog 19 #[.slice A n c, .slice B m d] w (Says w (decide (la = lb))) := by
  have hs := h.size
  have hs' := h'.size
  have hle := h.le
  have hle' := h'.le
  by_cases hnm : n = m
  · subst hnm
    go_enter Try.func19, Try.ntmps19
    go_wp2
    go_loopw [5] (fun i wr => ∃ k : Nat, k ≤ n ∧ i = .int .i64 k ∧ la.take k = lb.take k ∧ Below w.heap.size w wr) (fun i _ => n - (intOf i).toNat)
    case atStart => exact ⟨0, Nat.zero_le _, rfl, rfl, Below.refl _ _⟩
    case round =>
      obtain ⟨k, hk, rfl, heq, hbel⟩ := hrel
      by_cases hkn : k < n
      · obtain ⟨b, o, rfl⟩ := h.addr (by omega)
        obtain ⟨b', o', rfl⟩ := h'.addr (by omega)
        obtain ⟨t, x, hx, ht, c1, c2, c3⟩ := (h.below hbel).at_ hkn
        obtain ⟨t', y, hy, ht', c1', c2', c3'⟩ := (h'.below hbel).at_ hkn
        have q1 : (0 : Int) ≤ (k : Int) := by omega
        have q2 : (k : Int) < (n : Int) := by omega
        have HH : Hid (∀ w', Below wr.heap.size wr w' → _) := fun w' hb => rone_any _ _ x y w' (ht.val.below hb) (ht'.val.below hb)
        have k1 := fun w' hb => (cells3 c1 c2 c3 w' hb).1
        have k2 := fun w' hb => (cells3 c1 c2 c3 w' hb).2.1
        have k3 := fun w' hb => (cells3 c1 c2 c3 w' hb).2.2
        have k1' := fun w' hb => (cells3 c1' c2' c3' w' hb).1
        have k2' := fun w' hb => (cells3 c1' c2' c3' w' hb).2.1
        have k3' := fun w' hb => (cells3 c1' c2' c3' w' hb).2.2
        have HX := hidT hx
        have HY := hidT hy
        have HE := hidT heq
        clear hx hy heq ht ht' c1 c2 c3 c1' c2' c3'
        by_cases hxy : x = y
        · have e : decide (x = y) = true := by simpa using hxy
          go_wp2
          go_region_held (fun w' => Below wr.heap.size wr w') (first | exact (Below.refl _ _).drew | exact undrew hb1) (first | (go_at_call 30; ((with_reducible refine (HH.out _ (Below.refl _ _).drew).mono ?_); rw [e]; rintro e1 w1 ⟨rfl, hb1⟩)))
          all_goals go_wp2
          refine ⟨⟨k + 1, by omega, by go_num, ?_, bthen hbel (undrew hb1)⟩, by simp [intOf]; omega⟩
          rw [take_snocL HX.out, take_snocL HY.out, HE.out, hxy]
        · have e : decide (x = y) = false := by simpa using hxy
          have hr : decide (la = lb) = false := by
            rw [decide_eq_false_iff_not]
            intro hl
            have h1 := HX.out
            rw [hl, HY.out] at h1
            injection h1 with h1
            exact hxy h1.symm
          go_wp2
          go_region_held (fun w' => Below wr.heap.size wr w') (first | exact (Below.refl _ _).drew | exact undrew hb1) (first | (go_at_call 30; ((with_reducible refine (HH.out _ (Below.refl _ _).drew).mono ?_); rw [e]; rintro e1 w1 ⟨rfl, hb1⟩)))
          all_goals go_wp2
          go_ret
          rw [hr]
          exact ⟨rfl, bthen hbel (undrew hb1)⟩
      · have hkk : k = n := by omega
        subst hkk
        have hr : decide (la = lb) = true := by
          rw [decide_eq_true_eq]
          rw [List.take_of_length_le (by omega), List.take_of_length_le (by omega)] at heq
          exact heq
        clear heq
        go_wp2
        go_ret
        rw [hr]
        exact ⟨rfl, hbel⟩
  · have q : (((n : Nat) : Int) == ((m : Nat) : Int)) = false := by simp; omega
    have hr : decide (la = lb) = false := by
      rw [decide_eq_false_iff_not]
      intro hl
      rw [hl] at hs
      omega
    go_enter Try.func19, Try.ntmps19
    go_wp2
    go_ret
    rw [hr]
    exact ⟨rfl, Below.refl _ _⟩

def few (ls : List Lt) (most : Nat) : Bool := decide (ls.length ≤ most) && ls.all fun x => decide (x.b.length ≤ 1300)
theorem few_iff (ls : List Lt) (most : Nat) : few ls most = true ↔ ls.length ≤ most ∧ ∀ x ∈ ls, x.b.length ≤ 1300 := by
  simp [few]

set_option maxHeartbeats 1000000 in
theorem few_any (A : Option Addr) (n c : Nat) (ls : List Lt) (most : Nat) (w : World) (h : RdL w A n c ls) :
    Calls Try.prog 10 #[.slice A n c, .int .i64 (most : Int)] w fun e w' => e = .returned (.bool (few ls most)) ∧ w = w' := by
  have hs := h.size
  have hle := h.le
  by_cases hnm : n ≤ most
  · have q0 : decide ((most : Int) < (n : Int)) = false := by simp; omega
    go_enter Try.func10, Try.ntmps10
    go_wp2
    go_loop [5] (fun i => ∃ k : Nat, k ≤ n ∧ i = .int .i64 k ∧ (ls.take k).all (fun x => decide (x.b.length ≤ 1300)) = true) (fun i => n - (intOf i).toNat)
    case atStart => exact ⟨0, Nat.zero_le _, rfl, rfl⟩
    case round =>
      obtain ⟨k, hk, rfl, heq⟩ := hrel
      have HE := hidT heq
      clear heq
      by_cases hkn : k < n
      · obtain ⟨b, o, rfl⟩ := h.addr (by omega)
        obtain ⟨t, x, hx, ht, c1, c2, c3⟩ := h.at_ hkn
        have q1 : (0 : Int) ≤ (k : Int) := by omega
        have q2 : (k : Int) < (n : Int) := by omega
        have hxl : x.b.length = t.n := ht.2.2.1
        have HX := hidT hx
        clear hx
        by_cases hx13 : t.n ≤ 1300
        · have q3 : decide ((1300 : Int) < (t.n : Int)) = false := by simp; omega
          go_wp2
          refine ⟨⟨k + 1, by omega, by go_num, ?_⟩, by simp [intOf]; omega⟩
          rw [take_snocL HX.out, List.all_append, HE.out]
          simp
          omega
        · have q3 : decide ((1300 : Int) < (t.n : Int)) = true := by simp; omega
          have hr : few ls most = false := by
            rw [← Bool.not_eq_true, few_iff]
            intro hh
            have := hh.2 x (List.mem_of_getElem? HX.out)
            omega
          go_wp2
          go_ret
          try rw [hr]
          exact ⟨rfl, rfl⟩
      · have hkk : k = n := by omega
        subst hkk
        have hr : few ls most = true := by
          have := HE.out
          rw [List.take_of_length_le (by omega)] at this
          rw [few_iff]
          refine ⟨by omega, ?_⟩
          simpa using this
        go_wp2
        go_ret
        try rw [hr]
        exact ⟨rfl, rfl⟩
  · have q0 : decide ((most : Int) < (n : Int)) = true := by simp; omega
    have hr : few ls most = false := by
      rw [← Bool.not_eq_true, few_iff]
      omega
    go_enter Try.func10, Try.ntmps10
    go_wp2
    go_ret
    rw [hr]
    exact ⟨rfl, rfl⟩
end Go.Proofs.Ytenefjkgnkelgaa
