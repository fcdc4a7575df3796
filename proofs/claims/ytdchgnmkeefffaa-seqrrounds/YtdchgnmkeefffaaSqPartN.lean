/- What SeqrParts wants of lanes and rows: sizes, slices cut in two, items gone through. -/
import Derived.Test.YtdchgnmkeefffaaSqPartM
import Derived.Test.YtdchgnmkeefffaaSqIt
set_option maxRecDepth 100000
namespace Go.Proofs.Ytdchgnmkeefffaa
open Go.RowKit
set_option linter.unusedVariables false

namespace Seqr
theorem BigL.small {k : Nat} {l : Lane.Ln} (h : BigL k l) (hk : k ≤ 20) : SmallL l :=
  ⟨by have := h.1; omega, fun x hx => ⟨by have := (h.2.1 x hx).1; omega, by have := (h.2.1 x hx).2; omega⟩, by have := h.2.2; omega⟩
theorem BigK.small {k : Nat} {ls : List Lane.Ln} (h : BigK k ls) (hk : k ≤ 20) : SmallLs ls := fun l hl => (h l hl).small hk
theorem reads_small {k : Nat} {ls : List Lane.Ln} {ps : List (Int × Item.It)} (h : BigK k ls) (hf : Fit ls ps) (hk : k + ps.length ≤ 20) (j : Nat) : SmallLs (readAll ls (ps.take j)) :=
  (reads_big h (hf.take j)).small (by rw [List.length_take]; omega)
theorem parts_all {t a b c : Tn} {ls ms ns os : List Lane.Ln} {d e f : List Dv} {ps qs : List (Int × Item.It)} (hok : Ok t ls) (hf : Fit ls (ps ++ qs)) (h1 : walk t ls = (a, ms, d)) (h2 : walk a (readAll ms ps) = (b, ns, e)) (h3 : walk b (readAll ns qs) = (c, os, f))
    (hb : BigK 0 ls) (hl : (ps ++ qs).length ≤ 20) (hn : ls.length ≤ 64) (hu : 0 ≤ t.used) :
    walk t (readAll ls (ps ++ qs)) = (c, os, d ++ e ++ f) ∧ Ok a (readAll ms ps) ∧ Ok b (readAll ns qs) ∧ Ok t (readAll ls (ps ++ qs)) ∧ (ms.length = ls.length ∧ ns.length = ls.length ∧ os.length = ls.length) ∧
      ((∀ j, SmallLs (readAll ms (ps.take j))) ∧ (∀ j, SmallLs (readAll ns (qs.take j))) ∧ (∀ j, SmallLs (readAll ls ((ps ++ qs).take j)))) ∧
      (mu (readAll ms ps) ≤ 518400 ∧ mu (readAll ns qs) ≤ 518400 ∧ mu (readAll ls (ps ++ qs)) ≤ 518400) ∧
      (0 ≤ a.used ∧ a.used ≤ t.used + 518400 ∧ 0 ≤ b.used ∧ b.used ≤ t.used + 1036800) ∧ d.length ≤ 518400 ∧ e.length ≤ 518400 ∧ f.length ≤ 518400 := by
  obtain ⟨w1, k1, k2, k3⟩ := parts_walk hok hf h1 h2 h3
  rw [List.length_append] at hl
  obtain ⟨hf1, hf2⟩ := Fit.append.1 hf
  have g1 := walk_goes t ls
  rw [h1] at g1
  obtain ⟨g2, f2, ok2⟩ := g1.reads hok hf1
  have g3 := walk_goes a (readAll ms ps)
  rw [h2] at g3
  have g4 := g2.trans g3
  obtain ⟨g5, f5, _⟩ := g4.reads ok2 hf2
  have g6 := walk_goes b (readAll ns qs)
  rw [h3] at g6
  have lm := (g1.ok hok).2
  have ln := (g3.ok k1).2
  have lo := (g6.ok k2).2
  rw [readAll_length] at ln lo
  have bm := g1.big hb
  have br := reads_big bm f2
  have bn := g3.big br
  have bu := reads_big bn f5
  have ba := reads_big hb hf
  rw [List.length_append] at ba
  have m0 := hb.mu (Nat.zero_le _)
  have m1 := br.mu (by omega)
  have m2 := bu.mu (by omega)
  have m3 := ba.mu (by omega)
  rw [readAll_length] at m1 m2 m3
  have u1 := g1.used hok hu
  have u2 := g3.used k1 u1.1
  have e1 := g1.mu hok
  have e2 := g3.mu k1
  have e3 := g6.mu k2
  simp only at g1 g3 g6 lm ln lo bm br bn bu u1 u2 e1 e2 e3 m1 m2
  refine ⟨w1, k1, k2, k3, ⟨lm, by omega, by omega⟩, ⟨reads_small bm f2 (by omega), reads_small bn f5 (by omega), reads_small hb hf (by rw [List.length_append]; omega)⟩, ⟨by omega, by omega, by omega⟩, ⟨u1.1, by omega, u2.1, by omega⟩, by omega, by omega, by omega⟩
/-- The items that were gone through so far are right. -/
def GoodTo (ls : List Lane.Ln) (ps : List (Int × Item.It)) (j : Nat) : Prop :=
  (∀ p ∈ ps.take j, 0 ≤ p.1 ∧ p.1 < (ls.length : Int) ∧ Item.may p.2 = true ∧ Lane.last (laneAt ls p.1.toNat) < p.2.q) ∧ (ps.take j).Pairwise (fun a b => a.1 = b.1 → a.2.q < b.2.q)
def LessTo (ps : List (Int × Item.It)) (x : Int) (q : Int) (i : Nat) : Prop := ∀ p ∈ ps.take i, p.1 = x → p.2.q < q
theorem GoodTo.zero (ls : List Lane.Ln) (ps : List (Int × Item.It)) : GoodTo ls ps 0 := ⟨(fun p hp => by cases hp), List.Pairwise.nil⟩
theorem GoodTo.succ {ls : List Lane.Ln} {ps : List (Int × Item.It)} {j : Nat} {x : Int} {it : Item.It} (h : GoodTo ls ps j) (hp : ps[j]? = some (x, it)) (h0 : 0 ≤ x) (h1 : x < (ls.length : Int)) (h2 : Item.may it = true) (h3 : Lane.last (laneAt ls x.toNat) < it.q) (h4 : LessTo ps x it.q j) : GoodTo ls ps (j + 1) := by
  refine ⟨fun p hm => ?_, ?_⟩
  · rw [List.take_add_one, hp] at hm
    rcases List.mem_append.1 hm with hm | hm
    · exact h.1 p hm
    · rw [List.mem_singleton.1 hm]; exact ⟨h0, h1, h2, h3⟩
  · rw [List.take_add_one, hp]
    refine List.pairwise_append.2 ⟨h.2, List.pairwise_singleton _ _, fun p hm r hr => ?_⟩
    rw [List.mem_singleton.1 hr]
    exact h4 p hm
theorem LessTo.zero (ps : List (Int × Item.It)) (x q : Int) : LessTo ps x q 0 := fun p hp => by cases hp
theorem LessTo.succ {ps : List (Int × Item.It)} {x q y : Int} {it : Item.It} {i : Nat} (h : LessTo ps x q i) (hp : ps[i]? = some (y, it)) (h1 : y = x → it.q < q) : LessTo ps x q (i + 1) := fun p hm => by
  rw [List.take_add_one, hp] at hm
  rcases List.mem_append.1 hm with hm | hm
  · exact h p hm
  · rw [List.mem_singleton.1 hm]; exact h1
end Seqr
theorem run_cut_hi {P : Program} {t : TypeId} {s : Nat} (ht : P.underlying t = some (.slice (P.elem t))) (hi : (P.info? (P.elem t)).map (fun i => i.size) = some s) (a : Option Addr) (n c k : Nat) (hk : k ≤ c) (w : World) :
    (Instr.slice t (.slice a n c) none (some (.int .i64 (k : Int))) none).run P w = .ok (.slice (if c = 0 then a else a.map (·.add (0 * s))) k c) w := by
  obtain ⟨q, hq, hs⟩ := Option.map_eq_some_iff.1 hi
  rw [run_slice_h w t a n c ht .i64 k (by omega) (by omega)]
  simp [sizeOf, typeInfo, hq, hs, sliced, Result.andThen]
theorem run_cut_lo {P : Program} {t : TypeId} {s : Nat} (ht : P.underlying t = some (.slice (P.elem t))) (hi : (P.info? (P.elem t)).map (fun i => i.size) = some s) (a : Option Addr) (n c k : Nat) (hk : k ≤ n) (w : World) :
    (Instr.slice t (.slice a n c) (some (.int .i64 (k : Int))) none none).run P w = .ok (.slice (if c = k then a else a.map (·.add (k * s))) (n - k) (c - k)) w := by
  obtain ⟨q, hq, hs⟩ := Option.map_eq_some_iff.1 hi
  rw [run_slice_l w t a n c ht .i64 k (by omega) (by omega)]
  simp [sizeOf, typeInfo, hq, hs, sliced, Result.andThen]
theorem is_take (l : List Int) (k : Nat) : is (l.take k) = (is l).take k := by simp [is, List.map_take]
theorem is_drop (l : List Int) (k : Nat) : is (l.drop k) = (is l).drop k := by simp [is, List.map_drop]
theorem RdI.zeroA {w : World} (Q : Option Addr) (c : Nat) (hc : c ≤ maxLen) (h : Q = none → c = 0) : RdI w Q 0 c [] :=
  ⟨rfl, Nat.zero_le _, hc, h, fun h0 => absurd h0 (by omega)⟩
theorem RdX.zeroA {S : Nat → Prop} {w : World} (Q : Option Addr) (c : Nat) (hc : c ≤ maxLen) (h : Q = none → c = 0) : RdX S w Q 0 c [] :=
  ⟨[], ⟨AllK.nil_ 8, rfl, Nat.zero_le _, hc, h, fun h0 => absurd h0 (by omega)⟩, AreX.nil_ S w, Within.zero _ _⟩
/-- A row of numbers cut in two. -/
theorem cutI {w : World} {A : Option Addr} {n c : Nat} {l : List Int} (h : RdI w A n c l) {k : Nat} (hk : k ≤ n) : ∃ Q1 Q2,
    (∀ W, (Instr.slice 32 (.slice A n c) none (some (.int .i64 (k : Int))) none).run Try.prog W = .ok (.slice Q1 k c) W) ∧
    (∀ W, (Instr.slice 32 (.slice A n c) (some (.int .i64 (k : Int))) none none).run Try.prog W = .ok (.slice Q2 (n - k) (c - k)) W) ∧ RdI w Q1 k c (l.take k) ∧ RdI w Q2 (n - k) (c - k) (l.drop k) := by
  have hnc : n ≤ c := h.2.1
  have hcm : c ≤ maxLen := h.2.2.1
  refine ⟨_, _, fun W => run_cut_hi (s := 1) (by kernel_rfl) (by kernel_rfl) A n c k (by omega) W, fun W => run_cut_lo (s := 1) (by kernel_rfl) (by kernel_rfl) A n c k hk W, ?_, ?_⟩
  · by_cases hn : 0 < n
    · obtain ⟨b, o, rfl, _⟩ := h.2.2.2.2 hn
      rw [if_neg (by omega)]
      have := RdV.take h hk
      rw [← is_take] at this
      simpa [Addr.add] using this
    · obtain rfl : k = 0 := by omega
      exact RdI.zeroA _ _ hcm fun e => by
        by_cases hc : c = 0
        · exact hc
        · rw [if_neg hc] at e
          exact h.2.2.2.1 (by simpa using e)
  · by_cases hn : 0 < n
    · obtain ⟨b, o, rfl, _⟩ := h.2.2.2.2 hn
      by_cases hc : c = k
      · obtain rfl : n = k := by omega
        rw [if_pos hc, List.drop_of_length_le (by rw [RdI.size h]; exact Nat.le_refl _), Nat.sub_self]
        exact RdI.zeroA _ _ (by omega) fun e => by cases e
      · rw [if_neg hc]
        have := RdV.drop h hk
        rw [← is_drop] at this
        by_cases hk0 : k = 0
        · subst hk0; simpa [Addr.add] using this
        · simpa [Addr.add, hk0] using this
    · obtain rfl : k = 0 := by omega
      obtain rfl : n = 0 := by omega
      obtain rfl : l = [] := List.eq_nil_of_length_eq_zero (RdI.size h)
      exact RdI.zeroA _ _ (by omega) fun e => by
        by_cases hc : c = 0
        · omega
        · rw [if_neg hc] at e
          have := h.2.2.2.1 (by simpa using e)
          omega
/-- A row of items cut in two. -/
theorem cutX {S : Nat → Prop} {w : World} {A : Option Addr} {n c : Nat} {l : List Item.It} (h : RdX S w A n c l) {k : Nat} (hk : k ≤ n) : ∃ Q1 Q2,
    (∀ W, (Instr.slice 42 (.slice A n c) none (some (.int .i64 (k : Int))) none).run Try.prog W = .ok (.slice Q1 k c) W) ∧
    (∀ W, (Instr.slice 42 (.slice A n c) (some (.int .i64 (k : Int))) none none).run Try.prog W = .ok (.slice Q2 (n - k) (c - k)) W) ∧ RdX S w Q1 k c (l.take k) ∧ RdX S w Q2 (n - k) (c - k) (l.drop k) := by
  have hnc := h.cap
  have hno : A = none → c = 0 := fun e => by subst e; exact h.nilA.2.1
  have hcm : c ≤ maxLen := by obtain ⟨rs, h1, _⟩ := h; exact h1.2.2.2.1
  refine ⟨_, _, fun W => run_cut_hi (s := 8) (by kernel_rfl) (by kernel_rfl) A n c k (by omega) W, fun W => run_cut_lo (s := 8) (by kernel_rfl) (by kernel_rfl) A n c k hk W, ?_, ?_⟩
  · by_cases hn : 0 < n
    · obtain ⟨b, o, rfl⟩ := h.addr hn
      rw [if_neg (by omega)]
      simpa [Addr.add] using h.take hk
    · obtain rfl : k = 0 := by omega
      exact RdX.zeroA _ _ hcm fun e => by
        by_cases hc : c = 0
        · exact hc
        · rw [if_neg hc] at e
          exact hno (by simpa using e)
  · by_cases hn : 0 < n
    · obtain ⟨b, o, rfl⟩ := h.addr hn
      by_cases hc : c = k
      · obtain rfl : n = k := by omega
        rw [if_pos hc, List.drop_of_length_le (by rw [h.size]; exact Nat.le_refl _), Nat.sub_self]
        exact RdX.zeroA _ _ (by omega) fun e => by cases e
      · rw [if_neg hc]
        have := h.drop hk
        by_cases hk0 : k = 0
        · subst hk0; simpa [Addr.add] using this
        · simpa [Addr.add, show ¬ k * 8 = 0 by omega] using this
    · obtain rfl : k = 0 := by omega
      obtain rfl : n = 0 := by omega
      obtain rfl : l = [] := List.eq_nil_of_length_eq_zero h.size
      exact RdX.zeroA _ _ (by omega) fun e => by
        by_cases hc : c = 0
        · omega
        · rw [if_neg hc] at e
          have := hno (by simpa using e)
          omega
end Go.Proofs.Ytdchgnmkeefffaa
