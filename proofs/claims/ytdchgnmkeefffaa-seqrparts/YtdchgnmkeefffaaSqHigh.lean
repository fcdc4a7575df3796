/- The highest number of a lane. -/
import Derived.Test.YtdchgnmkeefffaaRBX
import Derived.Test.YtdchgnmkeefffaaSqMath
set_option maxRecDepth 100000
namespace Go.Proofs.Ytdchgnmkeefffaa
open Go.RowKit
set_option linter.unusedVariables false

theorem rises_at {es : List Lane.En} (h : Lane.rises 0 es = true) {k : Nat} {x : Lane.En} (hx : es[k]? = some x) : Lane.top 0 (es.take k) < x.q ∧ Lane.top 0 (es.take (k + 1)) = x.q := by
  have e : es = es.take k ++ x :: es.drop (k + 1) := by
    obtain ⟨hk, rfl⟩ := List.getElem?_eq_some_iff.1 hx
    rw [← List.drop_eq_getElem_cons hk, List.take_append_drop]
  refine ⟨?_, by rw [List.take_add_one, hx]; exact Lane.top_snoc _ _ _⟩
  rw [e] at h
  exact (Lane.rises_cons.1 (Lane.rises_append.1 h).2).2.1
def hiTo (l : Lane.Ln) (k : Nat) : Int := if 0 < l.p.got then l.p.seq else Lane.top 0 (l.es.take k)
theorem hiTo_zero {l : Lane.Ln} (h : Lane.right l = true) : hiTo l 0 = l.p.seq := by
  unfold hiTo
  split
  · rfl
  · rename_i hg
    have h1 := (Lane.right_iff.1 h).2
    rw [Lane.part_zero h1 (by have := Lane.part_nonneg h1; omega)]
    rfl
theorem hiTo_all {l : Lane.Ln} {n : Nat} (h : l.es.length = n) : hiTo l n = Lane.last l := by unfold hiTo Lane.last; rw [List.take_of_length_le (by omega)]
theorem hiTo_more {l : Lane.Ln} (h : Lane.right l = true) {k : Nat} {x : Lane.En} (hx : l.es[k]? = some x) : (hiTo l k < x.q ∧ hiTo l (k + 1) = x.q) ∨ (¬ hiTo l k < x.q ∧ hiTo l (k + 1) = hiTo l k) := by
  obtain ⟨h1, h2⟩ := Lane.right_iff.1 h
  by_cases hg : 0 < l.p.got
  · right
    have h3 := (Lane.part_got h2 (by omega)).2.2.2.2
    have h4 := (Lane.rises_mem h1 (List.mem_of_getElem? hx)).2.2
    unfold hiTo
    rw [if_pos hg, if_pos hg]
    exact ⟨by omega, rfl⟩
  · left
    unfold hiTo
    rw [if_neg hg, if_neg hg]
    exact rises_at h1 hx
set_option maxHeartbeats 1000000 in
theorem high_any {S : Nat → Prop} (v : Value) (l : Lane.Ln) (w : World) (h : IsLane S w v l) (hr : Lane.right l = true) : Calls Try.prog 19 #[v] w (IntIs w (Lane.last l)) := by
  obtain ⟨A, n, c, B, m, d, rfl, hE, hB, hW⟩ := h
  have hle := hE.le
  have hlen := hE.size
  have y0 := alloc_at w (.cells #[.slice A n c, .int .i64 l.p.seq, .int .i64 l.p.total, .int .i64 l.p.got, .slice B m d] 51) _ rfl
  have hb0 := nkeep w (.cells #[.slice A n c, .int .i64 l.p.seq, .int .i64 l.p.total, .int .i64 l.p.got, .slice B m d] 51)
  obtain ⟨e0, e1, e2, e3, e4⟩ := cells5 y0
  obtain ⟨M, hM⟩ : ∃ M, Lane.last l = M := ⟨_, rfl⟩
  rw [hM]
  have HM := hidT hM
  have HB0 := hidT hb0
  have HE := hidT (hE.below hb0)
  have HLEN := hidT hlen
  have HR := hidT hr
  have HZ := hidT (hiTo_zero hr)
  clear y0 hb0 hE hB hM hlen hr
  go_enter Try.func19, Try.ntmps19
  go_wp2_with fail
  go_loop [3, 4] (fun q i => ∃ j : Nat, j ≤ n ∧ i = .int .i64 j ∧ ∃ k : Int, q = .int .i64 k ∧ Hid (hiTo l j = k)) (fun _ i => n - (intOf i).toNat)
  case atStart => exact ⟨0, Nat.zero_le _, rfl, _, rfl, HZ⟩
  case round =>
    obtain ⟨j, hj, rfl, k, rfl, HK⟩ := hrel
    by_cases hjn : j < n
    · obtain ⟨b, o, x, BA, bn, bc, LA, ln, lc, rfl, hx, _, _, _, _, hcs⟩ := HE.out.told hjn
      obtain ⟨c0, c1, c2, c3, c4⟩ := hcs _ (Below.refl _ _)
      have x1 : (0 : Int) ≤ (j : Int) := by omega
      have x2 : (j : Int) < (n : Int) := by omega
      have hmore := hiTo_more HR.out hx
      rw [HK.out] at hmore
      clear hcs hx
      rcases hmore with ⟨h1, h2⟩ | ⟨h1, h2⟩
      · have q : decide (k < x.q) = true := by simpa using h1
        have H2 := hidT h2
        clear h1 h2
        go_wp2
        exact ⟨⟨j + 1, by omega, by go_num, _, rfl, H2⟩, by simp [intOf]; omega⟩
      · have q : decide (k < x.q) = false := by simpa using h1
        have H2 := hidT h2
        clear h1 h2
        go_wp2
        exact ⟨⟨j + 1, by omega, by go_num, _, rfl, H2⟩, by simp [intOf]; omega⟩
    · obtain rfl : n = j := by omega
      obtain rfl : k = M := by rw [← HM.out, ← HK.out, hiTo_all HLEN.out]
      go_wp2
      go_ret
      exact ⟨rfl, HB0.out⟩
end Go.Proofs.Ytdchgnmkeefffaa
