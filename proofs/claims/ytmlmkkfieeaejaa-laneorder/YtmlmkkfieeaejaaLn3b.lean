/- What Many and Done come to. -/
import Derived.Test.YtmlmkkfieeaejaaLnRise
set_option maxRecDepth 100000
namespace Go.Proofs.Ytmlmkkfieeaejaa
open Go.RowKit
set_option linter.unusedVariables false

theorem many_step {xs : List Lane.En} {j : Nat} {x : Lane.En} (hx : xs[j]? = some x) : ((xs.take (j + 1)).filter Lane.isMsg).length = ((xs.take j).filter Lane.isMsg).length + (if Lane.isMsg x = true then 1 else 0) := Lane.filter_step _ _ _ _ hx
set_option maxHeartbeats 1000000 in
theorem many_any {S : Nat → Prop} (v : Value) (l : Lane.Ln) (w : World) (h : IsLane S w v l) : Calls Try.prog 22 #[v] w (IntIs w (Lane.many l : Nat)) := by
  obtain ⟨A, n, c, B, m, d, rfl, hE, hB, hW⟩ := h
  have hle := hE.le
  have hlen := hE.size
  have y0 := alloc_at w (.cells #[.slice A n c, .int .i64 l.p.seq, .int .i64 l.p.total, .int .i64 l.p.got, .slice B m d] 27) _ rfl
  have hb0 := nkeep w (.cells #[.slice A n c, .int .i64 l.p.seq, .int .i64 l.p.total, .int .i64 l.p.got, .slice B m d] 27)
  obtain ⟨e0, e1, e2, e3, e4⟩ := cells5 y0
  obtain ⟨M, hM⟩ : ∃ M, Lane.many l = M := ⟨_, rfl⟩
  rw [hM]
  have HM := hidT hM
  have HB0 := hidT hb0
  have HE := hidT hE
  have HLEN := hidT hlen
  obtain ⟨W, hWW⟩ : ∃ W, w.alloc (.cells #[.slice A n c, .int .i64 l.p.seq, .int .i64 l.p.total, .int .i64 l.p.got, .slice B m d] 27) = W := ⟨_, rfl⟩
  rw [hWW] at HB0
  have HW := hidT hWW
  clear y0 hb0 hE hB hM hlen hWW
  go_enter Try.func22, Try.ntmps22
  go_wp2
  rw [HW.out]
  clear e0 e1 e2 e3 e4
  go_loopw [3, 9] (fun q i wr => ∃ j k : Nat, j ≤ n ∧ k ≤ j ∧ i = .int .i64 j ∧ q = .int .i64 k ∧ Hid (((l.es.take j).filter Lane.isMsg).length = k) ∧ Hid (Below w.heap.size w wr)) (fun _ i _ => n - (intOf i).toNat)
  case atStart => exact ⟨0, 0, Nat.zero_le _, Nat.le_refl _, rfl, rfl, hidT rfl, HB0⟩
  case round =>
    obtain ⟨j, k, hj, hkj, rfl, rfl, HK, HB⟩ := hrel
    by_cases hjn : j < n
    · obtain ⟨b, o, x, BA, bn, bc, LA, ln, lc, rfl, hx, _, _, _, _, hcs⟩ := HE.out.told hjn
      obtain ⟨c0, c1, c2, c3, c4⟩ := hcs wr HB.out
      have y4 := alloc_at wr (.cells #[.int .i64 x.k, .int .i64 x.q, .slice BA bn bc, .slice LA ln lc, .bool x.h] 33) _ rfl
      have N4 := hidT (nkeep wr (.cells #[.int .i64 x.k, .int .i64 x.q, .slice BA bn bc, .slice LA ln lc, .bool x.h] 33))
      obtain ⟨f0, f1, f2, f3, f4⟩ := cells5 y4
      have x1 : (0 : Int) ≤ (j : Int) := by omega
      have x2 : (j : Int) < (n : Int) := by omega
      have HX := hidT hx
      clear hcs hx y4
      cases hp : Lane.isMsg x with
      | true =>
        have hcl := isMessage_any x BA bn bc LA ln lc (wr.alloc (.cells #[.int .i64 x.k, .int .i64 x.q, .slice BA bn bc, .slice LA ln lc, .bool x.h] 33)) true hp
        have HP := hidT hp
        clear hp
        go_wp2_with fail
        with_reducible refine hcl.mono ?_
        rintro e w5 ⟨rfl, hb5⟩
        have HB5 := hidT (bthen HB.out (bthen N4.out hb5))
        clear hb5 c0 c1 c2 c3 c4 f0 f1 f2 f3 f4 hcl
        go_wp2
        exact ⟨⟨j + 1, k + 1, by omega, by omega, by go_num, by go_num, hidT (by rw [many_step HX.out, HK.out, HP.out]; rfl), HB5⟩, by simp [intOf]; omega⟩
      | false =>
        have hcl := isMessage_any x BA bn bc LA ln lc (wr.alloc (.cells #[.int .i64 x.k, .int .i64 x.q, .slice BA bn bc, .slice LA ln lc, .bool x.h] 33)) false hp
        have HP := hidT hp
        clear hp
        go_wp2_with fail
        with_reducible refine hcl.mono ?_
        rintro e w5 ⟨rfl, hb5⟩
        have HB5 := hidT (bthen HB.out (bthen N4.out hb5))
        clear hb5 c0 c1 c2 c3 c4 f0 f1 f2 f3 f4 hcl
        go_wp2
        exact ⟨⟨j + 1, k, by omega, by omega, by go_num, rfl, hidT (by rw [many_step HX.out, HK.out, HP.out]; rfl), HB5⟩, by simp [intOf]; omega⟩
    · obtain rfl : n = j := by omega
      obtain rfl : k = M := by
        rw [← HM.out, ← HK.out]
        unfold Lane.many
        rw [List.take_of_length_le (by rw [HLEN.out]; exact Nat.le_refl _)]
      go_wp2
      go_ret
      exact ⟨rfl, HB.out⟩
theorem done_any {S : Nat → Prop} (v : Value) (l : Lane.Ln) (read : Int) (w : World) (h : IsLane S w v l) (hg : 0 ≤ l.p.got) (hq : ∀ x ∈ l.es, 1 ≤ x.q ∧ x.q ≤ 9223372036854775807) (hp : l.p.got ≠ 0 → 1 ≤ l.p.seq ∧ l.p.seq ≤ 9223372036854775807) (k : Int) (hk : Lane.done l read = k) : Calls Try.prog 24 #[v, .int .i64 read] w (IntIs w k) := by
  obtain ⟨A, n, c, B, m, d, rfl, hE, hB, hW⟩ := h
  have hle := hE.le
  have hlen := hE.size
  have y0 := alloc_at w (.cells #[.slice A n c, .int .i64 l.p.seq, .int .i64 l.p.total, .int .i64 l.p.got, .slice B m d] 27) _ rfl
  have hb0 := nkeep w (.cells #[.slice A n c, .int .i64 l.p.seq, .int .i64 l.p.total, .int .i64 l.p.got, .slice B m d] 27)
  obtain ⟨e0, e1, e2, e3, e4⟩ := cells5 y0
  have Y0 := hidT y0
  have HB0 := hidT hb0
  clear y0
  by_cases hn : n = 0
  · have q1 : decide ((0 : Int) < (n : Int)) = false := by simp; omega
    have q1' : decide (0 < n) = false := by simp; omega
    have hnil : l.es = [] := List.eq_nil_of_length_eq_zero (by omega)
    have hd : Lane.done l read = if 0 < l.p.got then l.p.seq - 1 else read := by unfold Lane.done; rw [hnil]
    rw [hd] at hk
    by_cases h0 : l.p.got = 0
    · have hc := fun w' => isUnder_any l A n c B m d w' false (by simpa using h0)
      rw [if_neg (by omega)] at hk
      subst hk
      clear hd hnil hn hE hB hb0 hq hp h0 hg hlen
      go_enter Try.func24, Try.ntmps24
      go_wp2_with fail
      with_reducible refine (hc _).mono ?_
      rintro e w5 ⟨rfl, hb5⟩
      go_wp2
      go_ret
      exact ⟨rfl, bthen HB0.out hb5⟩
    · have hc := fun w' => isUnder_any l A n c B m d w' true (by simpa using h0)
      rw [if_pos (by omega)] at hk
      obtain ⟨p1, p2⟩ := hp h0
      have HK := hidT hk
      clear hd hnil hn hE hB hb0 hq hp h0 hg hlen hk
      go_enter Try.func24, Try.ntmps24
      go_wp2_with fail
      with_reducible refine (hc _).mono ?_
      rintro e w5 ⟨rfl, hb5⟩
      obtain ⟨e0, e1, e2, e3, e4⟩ := cells5 (keepH Y0.out hb5)
      go_wp2
      go_ret
      exact ⟨by rw [← HK.out]; rfl, bthen HB0.out hb5⟩
  · have q1 : decide ((0 : Int) < (n : Int)) = true := by simp; omega
    have q1' : decide (0 < n) = true := by simp; omega
    obtain ⟨b, o, x, BA, bn, bc, LA, ln, lc, rfl, hx, _, _, _, _, hcs⟩ := hE.told (i := 0) (by omega)
    have hd : Lane.done l read = x.q - 1 := by
      unfold Lane.done
      cases he : l.es with
      | nil => rw [he] at hx; simp at hx
      | cons y ys => rw [he] at hx; simp at hx; rw [hx]
    obtain ⟨p1, p2⟩ := hq x (List.mem_of_getElem? hx)
    rw [hd] at hk
    obtain ⟨c0, c1, c2, c3, c4⟩ := hcs _ hb0
    simp only [Nat.zero_mul, Nat.add_zero] at c0 c1 c2 c3 c4
    have hcl := fun w' => number_any x BA bn bc LA ln lc w'
    have x2 : (0 : Int) < (n : Int) := by omega
    have HK := hidT hk
    clear hd hx hcs hq hp hE hB hb0 hn hk hlen hg
    go_enter Try.func24, Try.ntmps24
    go_wp2_with fail
    with_reducible refine (hcl _).mono ?_
    rintro e w5 ⟨rfl, hb5⟩
    go_wp2
    go_ret
    exact ⟨by rw [← HK.out]; rfl, bthen HB0.out hb5⟩
end Go.Proofs.Ytmlmkkfieeaejaa
