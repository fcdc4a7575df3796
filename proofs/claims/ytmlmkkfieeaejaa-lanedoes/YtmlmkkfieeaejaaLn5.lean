/- What isUnder, lastEntry and last come to. -/
import Derived.Test.YtmlmkkfieeaejaaLn1
set_option maxRecDepth 100000
namespace Go.Proofs.Ytmlmkkfieeaejaa
open Go.RowKit
set_option linter.unusedVariables false

theorem isUnder_any (l : Lane.Ln) (A : Option Addr) (n c : Nat) (B : Option Addr) (m d : Nat) (w : World) (t : Bool) (ht : decide (l.p.got ≠ 0) = t) : Calls Try.prog 37 #[.agg #[.slice A n c, .int .i64 l.p.seq, .int .i64 l.p.total, .int .i64 l.p.got, .slice B m d]] w (BoolIs w t) := by
  have y0 := alloc_at w (.cells #[.slice A n c, .int .i64 l.p.seq, .int .i64 l.p.total, .int .i64 l.p.got, .slice B m d] 27) _ rfl
  have hb0 := nkeep w (.cells #[.slice A n c, .int .i64 l.p.seq, .int .i64 l.p.total, .int .i64 l.p.got, .slice B m d] 27)
  obtain ⟨e0, e1, e2, e3, e4⟩ := cells5 y0
  clear y0
  cases t with
  | true =>
    have q : (l.p.got != 0) = true := by simpa using ht
    clear ht
    go_enter Try.func37, Try.ntmps37
    go_wp2
    go_ret
    exact ⟨rfl, hb0⟩
  | false =>
    have q : (l.p.got != 0) = false := by simpa using ht
    clear ht
    go_enter Try.func37, Try.ntmps37
    go_wp2
    go_ret
    exact ⟨rfl, hb0⟩
theorem top_of {xs : List Lane.En} {n : Nat} {x : Lane.En} (hn : xs.length = n) (h : xs[n - 1]? = some x) (low : Int) : Lane.top low xs = x.q := Lane.top_last low xs x (by rw [hn]; exact h)
theorem lastEntry_any {S : Nat → Prop} (l : Lane.Ln) (A : Option Addr) (n c : Nat) (B : Option Addr) (m d : Nat) (w : World) (h : RdE S w A n c l.es) : Calls Try.prog 39 #[.agg #[.slice A n c, .int .i64 l.p.seq, .int .i64 l.p.total, .int .i64 l.p.got, .slice B m d]] w (IntIs w (Lane.top 0 l.es)) := by
  have y0 := alloc_at w (.cells #[.slice A n c, .int .i64 l.p.seq, .int .i64 l.p.total, .int .i64 l.p.got, .slice B m d] 27) _ rfl
  have hb0 := nkeep w (.cells #[.slice A n c, .int .i64 l.p.seq, .int .i64 l.p.total, .int .i64 l.p.got, .slice B m d] 27)
  obtain ⟨e0, e1, e2, e3, e4⟩ := cells5 y0
  clear y0
  have hlen := h.size
  have hle := h.le
  by_cases hn : n = 0
  · have q : ((n : Int) == 0) = true := by simp; omega
    have e : l.es = [] := List.eq_nil_of_length_eq_zero (by omega)
    have ht : Lane.top 0 l.es = 0 := by rw [e]; rfl
    rw [ht]
    clear h e ht hn hlen
    go_enter Try.func39, Try.ntmps39
    go_wp2
    go_ret
    exact ⟨rfl, hb0⟩
  · have q : ((n : Int) == 0) = false := by simp; omega
    have q2 : (n == 0) = false := by simpa using hn
    obtain ⟨b, o, x, BA, bn, bc, LA, ln, lc, rfl, hx, _, _, _, _, hcs⟩ := h.told (i := n - 1) (by omega)
    rw [top_of hlen hx 0]
    obtain ⟨N, hN⟩ : ∃ N, n - 1 = N := ⟨_, rfl⟩
    have eN : (n : Int) - 1 = (N : Int) := by omega
    have x1 : (0 : Int) ≤ (N : Int) := by omega
    have x2 : (N : Int) < (n : Int) := by omega
    rw [hN] at hcs
    obtain ⟨c0, c1, c2, c3, c4⟩ := hcs _ hb0
    have hc := fun w' => number_any x BA bn bc LA ln lc w'
    have HB0 := hidT hb0
    clear hcs hx h hlen hN hn hb0
    go_enter Try.func39, Try.ntmps39
    go_wp2_with fail
    with_reducible refine (hc _).mono ?_
    rintro e w5 ⟨rfl, hb5⟩
    go_wp2
    go_ret
    exact ⟨rfl, bthen HB0.out hb5⟩
theorem last_any {S : Nat → Prop} (l : Lane.Ln) (A : Option Addr) (n c : Nat) (B : Option Addr) (m d : Nat) (w : World) (h : RdE S w A n c l.es) (hg : 0 ≤ l.p.got) (k : Int) (hk : Lane.last l = k) : Calls Try.prog 49 #[.agg #[.slice A n c, .int .i64 l.p.seq, .int .i64 l.p.total, .int .i64 l.p.got, .slice B m d]] w (IntIs w k) := by
  have y0 := alloc_at w (.cells #[.slice A n c, .int .i64 l.p.seq, .int .i64 l.p.total, .int .i64 l.p.got, .slice B m d] 27) _ rfl
  have hb0 := nkeep w (.cells #[.slice A n c, .int .i64 l.p.seq, .int .i64 l.p.total, .int .i64 l.p.got, .slice B m d] 27)
  obtain ⟨e0, e1, e2, e3, e4⟩ := cells5 y0
  have Y0 := hidT y0
  have HB0 := hidT hb0
  have H := hidT h
  clear y0 h hb0
  by_cases hu : l.p.got = 0
  · have hc := fun w' => isUnder_any l A n c B m d w' false (by simpa using hu)
    obtain rfl : Lane.top 0 l.es = k := by rw [← hk]; unfold Lane.last; rw [if_neg (by omega)]
    clear hk hu hg
    go_enter Try.func49, Try.ntmps49
    go_wp2_with fail
    with_reducible refine (hc _).mono ?_
    rintro e w5 ⟨rfl, hb5⟩
    obtain ⟨e0, e1, e2, e3, e4⟩ := cells5 (keepH Y0.out hb5)
    have HB5 := hidT (bthen HB0.out hb5)
    have hd := lastEntry_any l A n c B m d w5 (H.out.below HB5.out)
    clear hb5
    go_wp2_with fail
    with_reducible refine hd.mono ?_
    rintro e w6 ⟨rfl, hb6⟩
    go_wp2
    go_ret
    exact ⟨rfl, bthen HB5.out hb6⟩
  · have hc := fun w' => isUnder_any l A n c B m d w' true (by simpa using hu)
    obtain rfl : l.p.seq = k := by rw [← hk]; unfold Lane.last; rw [if_pos (by omega)]
    clear hk hu hg
    go_enter Try.func49, Try.ntmps49
    go_wp2_with fail
    with_reducible refine (hc _).mono ?_
    rintro e w5 ⟨rfl, hb5⟩
    obtain ⟨e0, e1, e2, e3, e4⟩ := cells5 (keepH Y0.out hb5)
    go_wp2
    go_ret
    exact ⟨rfl, bthen HB0.out hb5⟩
end Go.Proofs.Ytmlmkkfieeaejaa
