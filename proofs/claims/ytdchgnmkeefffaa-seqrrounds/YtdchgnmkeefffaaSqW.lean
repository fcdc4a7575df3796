/- What the laws of chapter 16 share. -/
import Derived.Test.YtdchgnmkeefffaaSqShown
import Derived.Test.YtdchgnmkeefffaaSqSay2
import Derived.Test.YtdchgnmkeefffaaSqOpen
import Derived.Test.YtdchgnmkeefffaaLCX
set_option maxRecDepth 100000
namespace Go.Proofs.Ytdchgnmkeefffaa
open Go.RowKit
set_option linter.unusedVariables false

/-- What a turn and lanes that may be are like. -/
theorem fewL_size {l : Lane.Ln} (h : fewL l = true) : Seqr.size l ≤ 6480 := by
  obtain ⟨_, h1, _, h2⟩ := fewL_small h
  unfold Seqr.size
  have h3 : (l.es.map fun e => e.l.length).sum ≤ 80 * l.es.length := by
    have : ∀ es : List Lane.En, (∀ x ∈ es, x.l.length ≤ 80) → (es.map fun e => e.l.length).sum ≤ 80 * es.length := by
      intro es
      induction es with
      | nil => intro _; exact Nat.le_refl _
      | cons x es ih =>
        intro h
        have h1 := ih fun y hy => h y (List.mem_cons_of_mem _ hy)
        have h2 := h x List.mem_cons_self
        simp only [List.map_cons, List.sum_cons, List.length_cons]
        omega
    exact this _ fun x hx => (h2 x hx).1
  omega
theorem sum_le {α : Type} (f : α → Nat) (b : Nat) (l : List α) (h : ∀ x ∈ l, f x ≤ b) : (l.map f).sum ≤ b * l.length := by
  induction l with
  | nil => exact Nat.zero_le _
  | cons x l ih =>
    have h1 := ih fun y hy => h y (List.mem_cons_of_mem _ hy)
    have h2 := h x List.mem_cons_self
    simp only [List.map_cons, List.sum_cons, List.length_cons, Nat.mul_add, Nat.mul_one]
    omega
theorem fewR_at {ls : List Lane.Ln} (h : fewR ls = true) {l : Lane.Ln} (hl : l ∈ ls) : fewL l = true ∧ Lane.right l = true := by
  have := List.all_eq_true.1 h l hl
  simpa using this
theorem fewR_small {ls : List Lane.Ln} (h : fewR ls = true) : SmallLs ls := fun l hl => (fewL_small (fewR_at h hl).1).1
theorem many_le (l : Lane.Ln) : Lane.many l ≤ l.es.length := List.length_filter_le _ _
theorem mayS_facts {who used : Int} {n : Nat} {ls : List Lane.Ln} (h : mayS who used n ls = true) (hl : ls.length = n) :
    ∃ wn : Nat, who = (wn : Int) ∧ wn < n ∧ Seqr.Ok ⟨wn, used⟩ ls ∧ SmallLs ls ∧ n ≤ 64 ∧ 2 ≤ n ∧ 0 ≤ used ∧ used ≤ 1152921504606846976 ∧ Seqr.mu ls ≤ 414720 ∧ fewR ls = true := by
  unfold mayS at h
  simp only [Bool.and_eq_true, decide_eq_true_eq] at h
  obtain ⟨⟨h1, h2⟩, h3, h4, h5, h6, h7⟩ := h
  refine ⟨who.toNat, by omega, by omega, ⟨by show who.toNat < ls.length; omega, fun l hl => (fewR_at h2 hl).2⟩, fewR_small h2, h1, h3, h6, h7, ?_, h2⟩
  have := sum_le Seqr.size 6480 ls fun l hl => fewL_size (fewR_at h2 hl).1
  unfold Seqr.mu
  omega
theorem round_any (i f n : Int) (w : World) (hi : 0 ≤ i ∧ i < 1000) (hf : 0 ≤ f ∧ f < 1000) (hn : 0 ≤ n ∧ n < 1000) : Calls Try.prog 21 #[.int .i64 i, .int .i64 f, .int .i64 n] w (IntIs w (Seqr.rnd i f n)) := by
  by_cases h : i < f
  · have q : decide (i < f) = true := by simpa using h
    have e : Seqr.rnd i f n = i + n - f := by unfold Seqr.rnd; rw [if_pos h]
    have s1 : IntKind.i64.wrap (i + n) = i + n := IntWalk.i64_in _ (by omega)
    have s2 : IntKind.i64.wrap (i + n - f) = i + n - f := IntWalk.i64_in _ (by omega)
    rw [e]
    clear h e
    go_enter Try.func21, Try.ntmps21
    go_wp2
    go_ret
    exact ⟨rfl, Below.refl _ _⟩
  · have q : decide (i < f) = false := by simpa using h
    have e : Seqr.rnd i f n = i - f := by unfold Seqr.rnd; rw [if_neg h]
    have s2 : IntKind.i64.wrap (i - f) = i - f := IntWalk.i64_in _ (by omega)
    rw [e]
    clear h e
    go_enter Try.func21, Try.ntmps21
    go_wp2
    go_ret
    exact ⟨rfl, Below.refl _ _⟩
end Go.Proofs.Ytdchgnmkeefffaa
