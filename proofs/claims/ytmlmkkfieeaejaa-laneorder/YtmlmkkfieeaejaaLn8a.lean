/- Lanes that are the call's own. -/
import Derived.Test.YtmlmkkfieeaejaaLn6
import Derived.Test.YtmlmkkfieeaejaaLn2
set_option maxRecDepth 100000
namespace Go.Proofs.Ytmlmkkfieeaejaa
open Go.RowKit
set_option linter.unusedVariables false

/-- A lane whose row and lists are the call's own. -/
def OwnL (w : World) (base lo : Nat) (A : Option Addr) (n c : Nat) (us : List (Array Value)) (B : Option Addr) (m d : Nat) (l : Lane.Ln) : Prop :=
  OwnK 5 w base 33 (.slice A n c) n us ∧ AreE (Hi lo) w us l.es ∧ (∀ b o, A = some ⟨b, o, none⟩ → b < lo) ∧ Rd w B m d l.p.b ∧ (∀ b o, B = some ⟨b, o, none⟩ → lo ≤ b) ∧ base ≤ lo ∧ lo ≤ w.heap.size
section
variable {w w' : World} {base lo g : Nat} {A : Option Addr} {n c : Nat} {us : List (Array Value)} {B : Option Addr} {m d : Nat} {l : Lane.Ln}
theorem OwnL.later (h : OwnL w base lo A n c us B m d l) (hb : Below w.heap.size w w') : OwnL w' base lo A n c us B m d l := by
  obtain ⟨h1, h2, h3, h4, h5, h6, h7⟩ := h
  exact ⟨h1.later hb, h2.below hb, h3, h4.below hb, h5, h6, Nat.le_trans h7 hb.size⟩
theorem OwnL.but (h : OwnL w base lo A n c us B m d l) (hg : g < base) (hb : But g w w') : OwnL w' base lo A n c us B m d l := by
  obtain ⟨h1, h2, h3, h4, h5, h6, h7⟩ := h
  exact ⟨h1.but hg hb, h2.keptS (KeptS.hi hb (by omega)), h3, h4.but (fun b o e => by have := h5 b o e; omega) hb, h5, h6, by rw [hb.1]; exact h7⟩
theorem OwnL.rde (h : OwnL w base lo A n c us B m d l) : RdE (Hi base) w A n c l.es := by
  obtain ⟨h1, h2, h3, h4, h5, h6, h7⟩ := h
  exact ⟨us, h1.same, h2.hi h6, Within.of fun b o e => (h1.addr b o e).1⟩
theorem OwnL.lane (h : OwnL w base lo A n c us B m d l) : IsLane (Hi base) w (.agg #[.slice A n c, .int .i64 l.p.seq, .int .i64 l.p.total, .int .i64 l.p.got, .slice B m d]) l := by
  obtain ⟨h1, h2, h3, h4, h5, h6, h7⟩ := h
  exact ⟨A, n, c, B, m, d, rfl, ⟨us, h1.same, h2.hi h6, Within.of fun b o e => (h1.addr b o e).1⟩, h4, Within.of fun b o e => Nat.le_trans h6 (h5 b o e)⟩
end
theorem FreshL.own {w : World} {l : Lane.Ln} {e : Ending} {w' : World} (h : FreshL w l e w') : ∃ A n c us B m d lo, e = .returned (.agg #[.slice A n c, .int .i64 l.p.seq, .int .i64 l.p.total, .int .i64 l.p.got, .slice B m d]) ∧ OwnL w' w.heap.size lo A n c us B m d l ∧ Below w.heap.size w w' := by
  obtain ⟨A, n, c, us, B, m, d, lo, h1, h2, h3, h4, h5, h6, h7, h8, h9⟩ := h
  exact ⟨A, n, c, us, B, m, d, lo, h1, ⟨h2, h3, h4, h5, h6, h8, h7⟩, h9⟩
/-- A lane in new memory. -/
def LaneOwn (w : World) (l : Lane.Ln) (e : Ending) (w' : World) : Prop := ∃ v, e = .returned v ∧ IsLane (Hi w.heap.size) w' v l ∧ Below w.heap.size w w'
theorem rises_erase {low : Int} {xs : List Lane.En} (h : Lane.rises low xs = true) (s : Int) : xs.eraseIdx (xs.findIdx fun y : Lane.En => decide (y.q = s)) = xs.filter fun y => decide (y.q ≠ s) := by
  induction xs generalizing low with
  | nil => rfl
  | cons x xs ih =>
    obtain ⟨_, _, h3⟩ := Lane.rises_cons.1 h
    rw [List.findIdx_cons, List.filter_cons]
    by_cases hq : x.q = s
    · rw [show decide (x.q = s) = true by simpa using hq, if_neg (by simpa using hq)]
      show xs = _
      rw [List.filter_eq_self.2]
      intro y hy
      have := (Lane.rises_mem h3 hy).2.1
      simp only [decide_eq_true_eq]
      omega
    · rw [show decide (x.q = s) = false by simpa using hq, if_pos (by simpa using hq)]
      show x :: xs.eraseIdx _ = _
      rw [ih h3]
theorem rises_none {low : Int} {xs : List Lane.En} (s : Int) (h : xs.findIdx (fun y : Lane.En => decide (y.q = s)) = xs.length) : xs = xs.filter fun y => decide (y.q ≠ s) := by
  rw [List.findIdx_eq_length] at h
  rw [List.filter_eq_self.2]
  intro y hy
  have := h y hy
  simpa using this
theorem AreE.erase {S : Nat → Prop} {w : World} {rs : List (Array Value)} {xs : List Lane.En} (h : AreE S w rs xs) (i : Nat) : AreE S w (rs.eraseIdx i) (xs.eraseIdx i) := by
  rw [List.eraseIdx_eq_take_drop_succ, List.eraseIdx_eq_take_drop_succ]
  exact (h.take i).app (h.drop (i + 1))
end Go.Proofs.Ytmlmkkfieeaejaa
