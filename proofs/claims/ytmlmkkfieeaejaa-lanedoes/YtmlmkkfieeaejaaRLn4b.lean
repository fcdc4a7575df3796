/- What the document's Many, Done and last come to. -/
import Derived.Test.YtmlmkkfieeaejaaLn3b
set_option maxRecDepth 100000
namespace Go.Proofs.Ytmlmkkfieeaejaa
open Go.RowKit
set_option linter.unusedVariables false

set_option maxHeartbeats 1000000 in
theorem rmany_any {S : Nat → Prop} (v : Value) (l : Lane.Ln) (w : World) (h : IsLane S w v l) : Calls Try.prog 23 #[v] w (IntIs w (Lane.many l : Nat)) := by
  obtain ⟨A, n, c, B, m, d, rfl, hE, hB, hW⟩ := h
  have hle := hE.le
  have hlen := hE.size
  have y0 := alloc_at w (.cells #[.slice A n c, .int .i64 l.p.seq, .int .i64 l.p.total, .int .i64 l.p.got, .slice B m d] 27) _ rfl
  have hb0 := nkeep w (.cells #[.slice A n c, .int .i64 l.p.seq, .int .i64 l.p.total, .int .i64 l.p.got, .slice B m d] 27)
  obtain ⟨e0, e1, e2, e3, e4⟩ := cells5 y0
  obtain ⟨M, hM⟩ : ∃ M, Lane.many l = M := ⟨_, rfl⟩
  rw [hM]
  have HM := hidT hM
  have HB0 := hidT hb0
  have HE := hidT (hE.below hb0)
  have HLEN := hidT hlen
  clear y0 hb0 hE hB hM hlen
  go_enter Try.func23, Try.ntmps23
  go_wp2
  go_loop [3, 4] (fun q i => ∃ j k : Nat, j ≤ n ∧ k ≤ j ∧ i = .int .i64 j ∧ q = .int .i64 k ∧ Hid (((l.es.take j).filter Lane.isMsg).length = k)) (fun _ i => n - (intOf i).toNat)
  case atStart => exact ⟨0, 0, Nat.zero_le _, Nat.le_refl _, rfl, rfl, hidT rfl⟩
  case round =>
    obtain ⟨j, k, hj, hkj, rfl, rfl, HK⟩ := hrel
    by_cases hjn : j < n
    · obtain ⟨b, o, x, BA, bn, bc, LA, ln, lc, rfl, hx, _, _, _, _, hcs⟩ := HE.out.told hjn
      obtain ⟨c0, c1, c2, c3, c4⟩ := hcs _ (Below.refl _ _)
      have x1 : (0 : Int) ≤ (j : Int) := by omega
      have x2 : (j : Int) < (n : Int) := by omega
      have HX := hidT hx
      clear hcs hx
      cases hp : Lane.isMsg x with
      | true =>
        have q : (x.k == 1) = true := by simpa [Lane.isMsg] using hp
        have HP := hidT hp
        clear hp
        go_wp2
        go_round
        case rel => exact ⟨j + 1, k + 1, by omega, by omega, by go_num, by go_num, hidT (by rw [many_step HX.out, HK.out, HP.out]; rfl)⟩
        case measure => simp [intOf]; omega
      | false =>
        have q : (x.k == 1) = false := by simpa [Lane.isMsg] using hp
        have HP := hidT hp
        clear hp
        go_wp2
        go_round
        case rel => exact ⟨j + 1, k, by omega, by omega, by go_num, rfl, hidT (by rw [many_step HX.out, HK.out, HP.out]; rfl)⟩
        case measure => simp [intOf]; omega
    · obtain rfl : n = j := by omega
      obtain rfl : k = M := by
        rw [← HM.out, ← HK.out]
        unfold Lane.many
        rw [List.take_of_length_le (by rw [HLEN.out]; exact Nat.le_refl _)]
      go_wp2
      go_ret
      exact ⟨rfl, HB0.out⟩
theorem rdone_any {S : Nat → Prop} (v : Value) (l : Lane.Ln) (read : Int) (w : World) (h : IsLane S w v l) (hq : ∀ x ∈ l.es, 1 ≤ x.q ∧ x.q ≤ 9223372036854775807) (hp : 0 < l.p.got → 1 ≤ l.p.seq ∧ l.p.seq ≤ 9223372036854775807) (k : Int) (hk : Lane.done l read = k) : Calls Try.prog 25 #[v, .int .i64 read] w (IntIs w k) := by
  obtain ⟨A, n, c, B, m, d, rfl, hE, hB, hW⟩ := h
  have hle := hE.le
  have hlen := hE.size
  have y0 := alloc_at w (.cells #[.slice A n c, .int .i64 l.p.seq, .int .i64 l.p.total, .int .i64 l.p.got, .slice B m d] 27) _ rfl
  have hb0 := nkeep w (.cells #[.slice A n c, .int .i64 l.p.seq, .int .i64 l.p.total, .int .i64 l.p.got, .slice B m d] 27)
  obtain ⟨e0, e1, e2, e3, e4⟩ := cells5 y0
  have HB0 := hidT hb0
  clear y0
  by_cases hn : n = 0
  · have q1 : decide ((0 : Int) < (n : Int)) = false := by simp; omega
    have q1' : decide (0 < n) = false := by simp; omega
    have hnil : l.es = [] := List.eq_nil_of_length_eq_zero (by omega)
    have hd : Lane.done l read = if 0 < l.p.got then l.p.seq - 1 else read := by unfold Lane.done; rw [hnil]
    rw [hd] at hk
    by_cases h0 : 0 < l.p.got
    · have q2 : decide (0 < l.p.got) = true := by simpa using h0
      rw [if_pos h0] at hk
      obtain ⟨p1, p2⟩ := hp h0
      have HK := hidT hk
      clear hd hnil hn hE hB hb0 hq hp h0 hlen hk
      go_enter Try.func25, Try.ntmps25
      go_wp2
      go_ret
      exact ⟨by rw [← HK.out]; rfl, HB0.out⟩
    · have q2 : decide (0 < l.p.got) = false := by simpa using h0
      rw [if_neg h0] at hk
      have HK := hidT hk
      clear hd hnil hn hE hB hb0 hq hp h0 hlen hk
      go_enter Try.func25, Try.ntmps25
      go_wp2
      go_ret
      exact ⟨by rw [← HK.out]; rfl, HB0.out⟩
  · have q1 : decide ((0 : Int) < (n : Int)) = true := by simp; omega
    have q1' : decide (0 < n) = true := by simp; omega
    obtain ⟨b, o, x, BA, bn, bc, LA, ln, lc, rfl, hx, _, _, _, _, hcs⟩ := hE.told (i := 0) (by omega)
    have hd : Lane.done l read = x.q - 1 := by
      unfold Lane.done
      cases he : l.es with
      | nil => rw [he] at hx; simp at hx
      | cons y ys => rw [he] at hx; simp at hx; rw [hx]
    obtain ⟨p1, p2⟩ := hq x (List.mem_of_getElem? hx)
    rw [hd] at hk
    obtain ⟨c0, c1, c2, c3, c4⟩ := hcs _ hb0
    simp only [Nat.zero_mul, Nat.add_zero] at c0 c1 c2 c3 c4
    have x2 : (0 : Int) < (n : Int) := by omega
    have HK := hidT hk
    clear hd hx hcs hq hp hE hB hb0 hn hk hlen
    go_enter Try.func25, Try.ntmps25
    go_wp2
    go_ret
    exact ⟨by rw [← HK.out]; rfl, HB0.out⟩
theorem rlast_any {S : Nat → Prop} (l : Lane.Ln) (A : Option Addr) (n c : Nat) (B : Option Addr) (m d : Nat) (w : World) (h : RdE S w A n c l.es) (k : Int) (hk : Lane.last l = k) : Calls Try.prog 52 #[.agg #[.slice A n c, .int .i64 l.p.seq, .int .i64 l.p.total, .int .i64 l.p.got, .slice B m d]] w (IntIs w k) := by
  have y0 := alloc_at w (.cells #[.slice A n c, .int .i64 l.p.seq, .int .i64 l.p.total, .int .i64 l.p.got, .slice B m d] 27) _ rfl
  have hb0 := nkeep w (.cells #[.slice A n c, .int .i64 l.p.seq, .int .i64 l.p.total, .int .i64 l.p.got, .slice B m d] 27)
  obtain ⟨e0, e1, e2, e3, e4⟩ := cells5 y0
  have HB0 := hidT hb0
  have hlen := h.size
  have hle := h.le
  clear y0
  by_cases hu : 0 < l.p.got
  · have q2 : decide (0 < l.p.got) = true := by simpa using hu
    obtain rfl : l.p.seq = k := by rw [← hk]; unfold Lane.last; rw [if_pos hu]
    clear hk hu hb0 h hlen
    go_enter Try.func52, Try.ntmps52
    go_wp2
    go_ret
    exact ⟨rfl, HB0.out⟩
  · have q2 : decide (0 < l.p.got) = false := by simpa using hu
    obtain rfl : Lane.top 0 l.es = k := by rw [← hk]; unfold Lane.last; rw [if_neg hu]
    clear hk hu
    by_cases hn : n = 0
    · have q1 : decide ((0 : Int) < (n : Int)) = false := by simp; omega
      have q1' : decide (0 < n) = false := by simp; omega
      have e : l.es = [] := List.eq_nil_of_length_eq_zero (by omega)
      have ht : Lane.top 0 l.es = 0 := by rw [e]; rfl
      rw [ht]
      clear h e ht hn hlen hb0
      go_enter Try.func52, Try.ntmps52
      go_wp2
      go_ret
      exact ⟨rfl, HB0.out⟩
    · have q1 : decide ((0 : Int) < (n : Int)) = true := by simp; omega
      have q1' : decide (0 < n) = true := by simp; omega
      obtain ⟨b, o, x, BA, bn, bc, LA, ln, lc, rfl, hx, _, _, _, _, hcs⟩ := h.told (i := n - 1) (by omega)
      rw [top_of hlen hx 0]
      obtain ⟨N, hN⟩ : ∃ N, n - 1 = N := ⟨_, rfl⟩
      have eN : (n : Int) - 1 = (N : Int) := by omega
      have x1 : (0 : Int) ≤ (N : Int) := by omega
      have x2 : (N : Int) < (n : Int) := by omega
      rw [hN] at hcs
      obtain ⟨c0, c1, c2, c3, c4⟩ := hcs _ hb0
      clear hcs hx h hlen hN hn hb0
      go_enter Try.func52, Try.ntmps52
      go_wp2
      go_ret
      exact ⟨rfl, HB0.out⟩
end Go.Proofs.Ytmlmkkfieeaejaa
