/- What the document's Right of lanes comes to. -/
import Derived.Test.YtmlmkkfieeaejaaRLn1
import Derived.Test.YtmlmkkfieeaejaaLnRise
set_option maxRecDepth 100000
namespace Go.Proofs.Ytmlmkkfieeaejaa
open Go.RowKit
set_option linter.unusedVariables false

set_option maxHeartbeats 4000000 in
theorem rright_any {S : Nat → Prop} (v : Value) (l : Lane.Ln) (w : World) (h : IsLane S w v l) (t : Bool) (ht : Lane.right l = t) : Calls Try.prog 11 #[v] w (BoolIs w t) := by
  obtain ⟨A, n, c, B, m, d, rfl, hE, hB, _⟩ := h
  have hle := hE.le
  have hlen := hE.size
  have hbm := hB.1
  have y0 := alloc_at w (.cells #[.slice A n c, .int .i64 l.p.seq, .int .i64 l.p.total, .int .i64 l.p.got, .slice B m d] 27) _ rfl
  have n0 := nkeep w (.cells #[.slice A n c, .int .i64 l.p.seq, .int .i64 l.p.total, .int .i64 l.p.got, .slice B m d] 27)
  obtain ⟨W, hW⟩ : ∃ W, w.alloc (.cells #[.slice A n c, .int .i64 l.p.seq, .int .i64 l.p.total, .int .i64 l.p.got, .slice B m d] 27) = W := ⟨_, rfl⟩
  have HW := hidT hW
  obtain ⟨g, hg⟩ : ∃ g, w.heap.size = g := ⟨_, rfl⟩
  rw [hW, hg] at y0
  rw [hW] at n0
  have HN := hidT n0
  have HT := hidT ht
  have HE := hidT hE
  have HLEN := hidT hlen
  have HBM := hidT hbm
  have Y0 := hidT y0
  clear y0 n0 hE hB hW ht hlen hbm
  go_enter Try.func11, Try.ntmps11
  go_wp2
  rw [HW.out]
  clear hg
  go_loopw [3, 4, 5] (fun q i u wr => ∃ j : Nat, j ≤ n ∧ i = .int .i64 j ∧ q = .int .i64 (Lane.top 0 (l.es.take j)) ∧ Hid (Lane.rises 0 (l.es.take j) = true) ∧ Hid (Below W.heap.size W wr)) (fun _ i _ _ => n - (intOf i).toNat)
  case atStart => exact ⟨0, Nat.zero_le _, rfl, rfl, hidT rfl, hidT (Below.refl _ _)⟩
  case round =>
    obtain ⟨j, hj, rfl, rfl, HA, HB⟩ := hrel
    have hbw := bthen HN.out HB.out
    obtain ⟨e0, e1, e2, e3, e4⟩ := cells5 (keepH Y0.out HB.out)
    by_cases hjn : j < n
    · obtain ⟨b, o, x, BA, bn, bc, LA, ln, lc, rfl, hx, hrb, hrl, hwb, hwl, hcs⟩ := HE.out.told hjn
      obtain ⟨c0, c1, c2, c3, c4⟩ := hcs wr hbw
      have hi : IsEn S w (.agg #[.int .i64 x.k, .int .i64 x.q, .slice BA bn bc, .slice LA ln lc, .bool x.h]) x := ⟨BA, bn, bc, LA, ln, lc, rfl, hrb, hrl, hwb, hwl⟩
      have hmay := fun (u : Bool) hu => rlmay_any _ x wr (hi.below hbw) u hu
      have x1 : (0 : Int) ≤ (j : Int) := by omega
      have x2 : (j : Int) < (n : Int) := by omega
      have HS := rises_step hx
      rw [HA.out, Bool.true_and] at HS
      have HSS := hidT HS
      have htop : Lane.top 0 (l.es.take (j + 1)) = x.q := by rw [List.take_add_one, hx]; exact Lane.top_snoc _ _ _
      have HTOP := hidT htop
      have HCS := hidT hcs
      have HBW := hidT hbw
      obtain ⟨T, hT⟩ : ∃ T, Lane.top 0 (l.es.take j) = T := ⟨_, rfl⟩
      rw [hT] at HSS ⊢
      have hno : (Lane.may x && decide (T < x.q)) = false → false = t := fun hf => by
        rw [← HT.out]; symm
        rw [hf] at HSS
        show (Lane.rises 0 l.es && _) = false
        rw [rises_no HSS.out]; rfl
      have HNO := hidT hno
      clear hcs hx hi hrb hrl hwb hwl HS htop hbw hT hno
      cases hm : Lane.may x with
      | false =>
        have hc := hmay false hm
        obtain rfl := HNO.out (by rw [hm]; rfl)
        clear hm hmay
        go_wp2_with fail
        with_reducible refine hc.mono ?_
        rintro e w5 ⟨rfl, hb5⟩
        go_wp2
        go_ret
        exact ⟨rfl, bthen HBW.out hb5⟩
      | true =>
        have hc := hmay true hm
        rw [hm, Bool.true_and] at HSS HNO
        clear hm hmay
        by_cases hq : T < x.q
        · have q1 : decide (x.q ≤ T) = false := by simpa using hq
          have HR := hidT (show Lane.rises 0 (l.es.take (j + 1)) = true by rw [HSS.out]; simpa using hq)
          clear hq
          go_wp2_with fail
          with_reducible refine hc.mono ?_
          rintro e w5 ⟨rfl, hb5⟩
          obtain ⟨e0', e1', e2', e3', e4'⟩ := cells5 (keepH Y0.out (bthen HB.out hb5))
          obtain ⟨c0', c1', c2', c3', c4'⟩ := HCS.out w5 (bthen HBW.out hb5)
          have HB5 := hidT (bthen HB.out hb5)
          clear hb5 hc c0 c1 c2 c3 c4 e0 e1 e2 e3 e4
          go_wp2
          exact ⟨⟨j + 1, by omega, by go_num, by rw [HTOP.out], HR, HB5⟩, by simp [intOf]; omega⟩
        · have q1 : decide (x.q ≤ T) = true := by simp; omega
          obtain rfl := HNO.out (by simpa using hq)
          clear hq
          go_wp2_with fail
          with_reducible refine hc.mono ?_
          rintro e w5 ⟨rfl, hb5⟩
          obtain ⟨e0', e1', e2', e3', e4'⟩ := cells5 (keepH Y0.out (bthen HB.out hb5))
          obtain ⟨c0', c1', c2', c3', c4'⟩ := HCS.out w5 (bthen HBW.out hb5)
          have HB5 := hidT (bthen HBW.out hb5)
          clear hb5 hc c0 c1 c2 c3 c4 e0 e1 e2 e3 e4
          go_wp2
          go_ret
          exact ⟨rfl, HB5.out⟩
    · obtain rfl : n = j := by omega
      have hall : l.es.take n = l.es := List.take_of_length_le (by rw [HLEN.out]; exact Nat.le_refl _)
      rw [hall] at HA ⊢
      have htop := Lane.rises_top HA.out
      have hr : Lane.right l = Lane.part l.p (Lane.top 0 l.es) := by unfold Lane.right; rw [HA.out, Bool.true_and]
      rw [hr] at HT
      obtain ⟨T, hT⟩ : ∃ T, Lane.top 0 l.es = T := ⟨_, rfl⟩
      rw [hT] at HT htop ⊢
      have HBW := hidT hbw
      clear hr hall hT hbw
      unfold Lane.part at HT
      rw [HBM.out] at HT
      by_cases h0 : l.p.got = 0
      · have p0 : (l.p.got == 0) = true := by simpa using h0
        rw [if_pos h0] at HT
        clear h0
        by_cases h1 : l.p.seq = 0
        · have p1 : (l.p.seq == 0) = true := by simpa using h1
          have p1' : decide (l.p.seq = 0) = true := by simpa using h1
          rw [p1', Bool.true_and] at HT
          clear h1
          by_cases h2 : l.p.total = 0
          · have p2 : (l.p.total == 0) = true := by simpa using h2
            have p2' : decide (l.p.total = 0) = true := by simpa using h2
            rw [p2', Bool.true_and] at HT
            clear h2
            by_cases h3 : m = 0
            · have p3 : ((m : Int) == 0) = true := by simp; omega
              have p3' : decide (m = 0) = true := by simpa using h3
              rw [p3'] at HT
              obtain rfl := HT.out
              clear h3
              go_wp2
              go_ret
              exact ⟨rfl, HBW.out⟩
            · have p3 : ((m : Int) == 0) = false := by simp; omega
              have p3' : decide (m = 0) = false := by simpa using h3
              rw [p3'] at HT
              obtain rfl := HT.out
              clear h3
              go_wp2
              go_ret
              exact ⟨rfl, HBW.out⟩
          · have p2 : (l.p.total == 0) = false := by simpa using h2
            have p2' : decide (l.p.total = 0) = false := by simpa using h2
            rw [p2', Bool.false_and] at HT
            obtain rfl := HT.out
            clear h2
            go_wp2
            go_ret
            exact ⟨rfl, HBW.out⟩
        · have p1 : (l.p.seq == 0) = false := by simpa using h1
          have p1' : decide (l.p.seq = 0) = false := by simpa using h1
          rw [p1', Bool.false_and] at HT
          obtain rfl := HT.out
          clear h1
          go_wp2
          go_ret
          exact ⟨rfl, HBW.out⟩
      · have p0 : (l.p.got == 0) = false := by simpa using h0
        rw [if_neg h0] at HT
        clear h0
        cases p1 : decide (1 ≤ l.p.got)
        · rw [p1, Bool.false_and] at HT
          obtain rfl := HT.out
          go_wp2
          go_ret
          exact ⟨rfl, HBW.out⟩
        · rw [p1, Bool.true_and] at HT
          cases p2 : decide (l.p.got < l.p.total)
          · rw [p2, Bool.false_and] at HT
            obtain rfl := HT.out
            go_wp2
            go_ret
            exact ⟨rfl, HBW.out⟩
          · rw [p2, Bool.true_and] at HT
            cases p3 : decide (l.p.total ≤ 32)
            · rw [p3, Bool.false_and] at HT
              obtain rfl := HT.out
              go_wp2
              go_ret
              exact ⟨rfl, HBW.out⟩
            · rw [p3, Bool.true_and] at HT
              cases p4 : decide (1 ≤ l.p.seq)
              · rw [p4, Bool.false_and] at HT
                obtain rfl := HT.out
                go_wp2
                go_ret
                exact ⟨rfl, HBW.out⟩
              · rw [p4, Bool.true_and] at HT
                cases p5 : decide (T < l.p.seq)
                · rw [p5] at HT
                  obtain rfl := HT.out
                  go_wp2
                  go_ret
                  exact ⟨rfl, HBW.out⟩
                · rw [p5] at HT
                  obtain rfl := HT.out
                  go_wp2
                  go_ret
                  exact ⟨rfl, HBW.out⟩
end Go.Proofs.Ytmlmkkfieeaejaa
