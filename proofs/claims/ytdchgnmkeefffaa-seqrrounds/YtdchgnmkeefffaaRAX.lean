import Derived.Test.YtdchgnmkeefffaaLCX
import Derived.Test.YtdchgnmkeefffaaLRX
set_option maxRecDepth 100000
/- What the document's may and Few of lanes come to. -/
namespace Go.Proofs.Ytdchgnmkeefffaa
open Go.RowKit
set_option linter.unusedVariables false

theorem rmay_split {k q : Int} {b : List UInt8} {l : List Int} {h : Bool} (hq : ¬ q < 1) (hs : Lane.senders l = true) : Lane.may ⟨k, q, b, l, h⟩ = Lane.kind ⟨k, q, b, l, h⟩ := by
  unfold Lane.may
  show (decide (1 ≤ q) && (Lane.senders l && _)) = _
  rw [hs, show decide (1 ≤ q) = true by simp; omega]
  rfl
set_option maxHeartbeats 2000000 in
theorem rlmay_any {S : Nat → Prop} (v : Value) (x : Lane.En) (w : World) (h : IsEn S w v x) (t : Bool) (ht : Lane.may x = t) : Calls Try.prog 56 #[v] w (BoolIs w t) := by
  obtain ⟨BA, bn, bc, LA, ln, lc, rfl, hb, hl, _, _⟩ := h
  have hln := RdI.size hl
  have hbn := hb.1
  have hlle := RdV.le hl
  obtain ⟨k, q, b, l, hd⟩ := x
  dsimp only at hl hb hln hbn ⊢
  have y0 := alloc_at w (.cells #[.int .i64 k, .int .i64 q, .slice BA bn bc, .slice LA ln lc, .bool hd] 59) _ rfl
  have n0 := nkeep w (.cells #[.int .i64 k, .int .i64 q, .slice BA bn bc, .slice LA ln lc, .bool hd] 59)
  have HL := hidT (RdV.below hl n0)
  obtain ⟨e0, e1, e2, e3, e4⟩ := cells5 y0
  obtain ⟨W, hW⟩ : ∃ W, w.alloc (.cells #[.int .i64 k, .int .i64 q, .slice BA bn bc, .slice LA ln lc, .bool hd] 59) = W := ⟨_, rfl⟩
  have HW := hidT hW
  rw [hW] at HL e0 e1 e2 e3 e4 n0
  have HN := hidT n0
  have HT := hidT ht
  have HLN := hidT hln
  have HBN := hidT hbn
  clear y0 n0 hl hb hW ht hln hbn
  by_cases hq : q < 1
  · have q1 : decide (q < 1) = true := by simpa using hq
    obtain rfl : false = t := by rw [← HT.out]; exact (may_q hq).symm
    rw [← HW.out] at e0 e1 e2 e3 e4
    clear hq
    go_enter Try.func56, Try.ntmps56
    go_wp2
    rw [HW.out]
    go_ret
    exact ⟨rfl, HN.out⟩
  · have q1 : decide (q < 1) = false := by simpa using hq
    have HQ := hidT hq
    have E0 := hidT e0
    have E1 := hidT e1
    have E2 := hidT e2
    have E3 := hidT e3
    have E4 := hidT e4
    rw [← HW.out] at e0 e1 e2 e3 e4
    clear hq
    go_enter Try.func56, Try.ntmps56
    go_wp2
    rw [HW.out]
    clear e0 e1 e2 e3 e4
    have e0 := E0.out
    have e1 := E1.out
    have e2 := E2.out
    have e3 := E3.out
    have e4 := E4.out
    go_loop [3] (fun i => ∃ j : Nat, j ≤ ln ∧ i = .int .i64 j ∧ Item.allIn (l.take j) 63 = true) (fun i => ln - (intOf i).toNat)
    case atStart => exact ⟨0, Nat.zero_le _, rfl, rfl⟩
    case round =>
      obtain ⟨j, hj, rfl, ha⟩ := hrel
      have HA := hidT ha
      clear ha
      by_cases hjn : j < ln
      · obtain ⟨b', o', y, rfl, hx, hc⟩ := RdI.at_ HL.out hjn
        have HX := hidT hx
        clear hx
        have hno : Item.win y 0 63 = false → false = t := fun hw => by
          rw [← HT.out]; symm
          unfold Lane.may
          have : Lane.senders l = false := allIn_not HX.out hw
          show (_ && (Lane.senders l && _)) = false
          rw [this, Bool.false_and, Bool.and_false]
        have x1 : (0 : Int) ≤ (j : Int) := by omega
        have x2 : (j : Int) < (ln : Int) := by omega
        by_cases h0 : y < 0
        · have p0 : decide (y < 0) = true := by simpa using h0
          obtain rfl := hno (by simp [Item.win]; omega)
          clear hno h0
          go_wp2
          go_ret
          exact ⟨rfl, HN.out⟩
        · have p0 : decide (y < 0) = false := by simpa using h0
          by_cases h1 : 63 < y
          · have p1 : decide (63 < y) = true := by simpa using h1
            obtain rfl := hno (by simp [Item.win]; omega)
            clear hno h0 h1
            go_wp2
            go_ret
            exact ⟨rfl, HN.out⟩
          · have p1 : decide (63 < y) = false := by simpa using h1
            have HWN : Hid (Item.win y 0 63 = true) := hidT (by simp [Item.win]; omega)
            clear hno h0 h1
            go_wp2
            go_round
            case rel => exact ⟨j + 1, by omega, by go_num, allIn_succ HX.out HA.out HWN.out⟩
            case measure => simp [intOf]; omega
      · obtain rfl : j = ln := by omega
        have hs : Lane.senders l = true := by
          have ha := HA.out
          rwa [List.take_of_length_le (by rw [HLN.out]; omega)] at ha
        have hm := rmay_split (k := k) (q := q) (b := b) (h := hd) (by have := HQ.out; omega) hs
        rw [hm] at HT
        clear hm hs
        unfold Lane.kind at HT
        dsimp only at HT
        rw [HLN.out, HBN.out] at HT
        by_cases h1 : k = 1
        · have p1 : (k == 1) = true := by simpa using h1
          rw [if_pos h1] at HT
          clear h1
          by_cases hz : j = 0
          · have q4 : ((j : Int) == 0) = true := by simp; omega
            have q4' : decide (j = 0) = true := by simpa using hz
            rw [q4', Bool.true_and] at HT
            obtain rfl := HT.out
            clear hz HA
            go_wp2
            go_ret
            exact ⟨rfl, HN.out⟩
          · have q4 : ((j : Int) == 0) = false := by simp; omega
            have q4' : decide (j = 0) = false := by simpa using hz
            rw [q4', Bool.false_and] at HT
            obtain rfl := HT.out
            clear hz HA
            go_wp2
            go_ret
            exact ⟨rfl, HN.out⟩
        · have p1 : (k == 1) = false := by simpa using h1
          rw [if_neg h1] at HT
          clear h1
          by_cases h2 : k = 2
          · have p2 : (k == 2) = true := by simpa using h2
            rw [if_pos h2] at HT
            clear h2
            by_cases hy : bn = 0
            · have q5 : ((bn : Int) == 0) = true := by simp; omega
              have q5' : decide (bn = 0) = true := by simpa using hy
              rw [q5'] at HT
              obtain rfl := HT.out
              clear hy HA
              go_wp2
              go_ret
              exact ⟨rfl, HN.out⟩
            · have q5 : ((bn : Int) == 0) = false := by simp; omega
              have q5' : decide (bn = 0) = false := by simpa using hy
              rw [q5'] at HT
              obtain rfl := HT.out
              clear hy HA
              go_wp2
              go_ret
              exact ⟨rfl, HN.out⟩
          · have p2 : (k == 2) = false := by simpa using h2
            rw [if_neg h2] at HT
            clear h2
            by_cases h3 : k = 3
            · have p3 : (k == 3) = true := by simpa using h3
              rw [if_pos h3] at HT
              clear h3
              by_cases hy : bn = 0
              · have q5 : ((bn : Int) == 0) = true := by simp; omega
                have q5' : decide (bn = 0) = true := by simpa using hy
                rw [q5', Bool.true_and] at HT
                clear hy
                by_cases hz : j = 0
                · have q4 : ((j : Int) == 0) = true := by simp; omega
                  have q4' : decide (j = 0) = true := by simpa using hz
                  rw [q4', Bool.true_and] at HT
                  obtain rfl := HT.out
                  clear hz HA
                  go_wp2
                  go_ret
                  exact ⟨rfl, HN.out⟩
                · have q4 : ((j : Int) == 0) = false := by simp; omega
                  have q4' : decide (j = 0) = false := by simpa using hz
                  rw [q4', Bool.false_and] at HT
                  obtain rfl := HT.out
                  clear hz HA
                  go_wp2
                  go_ret
                  exact ⟨rfl, HN.out⟩
              · have q5 : ((bn : Int) == 0) = false := by simp; omega
                have q5' : decide (bn = 0) = false := by simpa using hy
                rw [q5', Bool.false_and] at HT
                obtain rfl := HT.out
                clear hy HA
                go_wp2
                go_ret
                exact ⟨rfl, HN.out⟩
            · have p3 : (k == 3) = false := by simpa using h3
              rw [if_neg h3] at HT
              obtain rfl := HT.out
              clear h3 HA
              go_wp2
              go_ret
              exact ⟨rfl, HN.out⟩

def fewE (x : Lane.En) : Bool := decide (x.l.length ≤ 80) && decide (x.b.length ≤ 40000)
def fewL (l : Lane.Ln) : Bool := (decide (l.es.length ≤ 80) && decide (l.p.b.length ≤ 40000)) && l.es.all fewE
theorem fewL_small {l : Lane.Ln} (h : fewL l = true) : SmallL l ∧ l.es.length ≤ 80 ∧ l.p.b.length ≤ 40000 ∧ ∀ x ∈ l.es, x.l.length ≤ 80 ∧ x.b.length ≤ 40000 := by
  simp only [fewL, Bool.and_eq_true, decide_eq_true_eq, List.all_eq_true, fewE] at h
  exact ⟨⟨by omega, fun x hx => by have := h.2 x hx; exact ⟨by omega, by omega⟩, by omega⟩, h.1.1, h.1.2, h.2⟩
set_option maxHeartbeats 2000000 in
theorem few_any {S : Nat → Prop} (v : Value) (l : Lane.Ln) (w : World) (h : IsLane S w v l) (t : Bool) (ht : fewL l = t) : Calls Try.prog 40 #[v] w (BoolIs w t) := by
  obtain ⟨A, n, c, B, m, d, rfl, hE, hB, _⟩ := h
  have hle := hE.le
  have hlen := hE.size
  have hbm := hB.1
  have y0 := alloc_at w (.cells #[.slice A n c, .int .i64 l.p.seq, .int .i64 l.p.total, .int .i64 l.p.got, .slice B m d] 51) _ rfl
  have n0 := nkeep w (.cells #[.slice A n c, .int .i64 l.p.seq, .int .i64 l.p.total, .int .i64 l.p.got, .slice B m d] 51)
  obtain ⟨e0, e1, e2, e3, e4⟩ := cells5 y0
  obtain ⟨W, hW⟩ : ∃ W, w.alloc (.cells #[.slice A n c, .int .i64 l.p.seq, .int .i64 l.p.total, .int .i64 l.p.got, .slice B m d] 51) = W := ⟨_, rfl⟩
  have HW := hidT hW
  have HE := hidT (hE.below n0)
  rw [hW] at e0 e1 e2 e3 e4 n0 HE
  have HN := hidT n0
  have HT := hidT ht
  have HLEN := hidT hlen
  have HBM := hidT hbm
  have E0 := hidT e0
  rw [← HW.out] at e0 e1 e2 e3 e4
  clear y0 n0 hE hB hW ht hlen hbm
  by_cases h1 : n ≤ 80
  · have q1 : decide (80 < n) = false := by simpa using h1
    have q1' : decide ((80 : Int) < (n : Int)) = false := by simp; omega
    by_cases h2 : m ≤ 40000
    · have q2 : decide (40000 < m) = false := by simpa using h2
      have q2' : decide ((40000 : Int) < (m : Int)) = false := by simp; omega
      go_enter Try.func40, Try.ntmps40
      go_wp2
      rw [HW.out]
      clear e0 e1 e2 e3 e4
      have e0 := E0.out
      go_loop [3] (fun i => ∃ j : Nat, j ≤ n ∧ i = .int .i64 j ∧ Hid (∀ i x, i < j → l.es[i]? = some x → fewE x = true)) (fun i => n - (intOf i).toNat)
      case atStart => exact ⟨0, Nat.zero_le _, rfl, hidT (fun i x hi => absurd hi (by omega))⟩
      case round =>
        obtain ⟨j, hj, rfl, HA⟩ := hrel
        by_cases hjn : j < n
        · obtain ⟨b, o, x, BA, bn, bc, LA, ln, lc, rfl, hx, hrb, hrl, hwb, hwl, hcs⟩ := HE.out.told hjn
          obtain ⟨c0, c1, c2, c3, c4⟩ := hcs W (Below.refl _ _)
          have hbn := hrb.1
          have hln := RdI.size hrl
          have x1 : (0 : Int) ≤ (j : Int) := by omega
          have x2 : (j : Int) < (n : Int) := by omega
          have hno : fewE x = false → false = t := fun hf => by
            rw [← HT.out]; symm
            unfold fewL
            rw [Bool.and_eq_false_iff]
            right
            rw [List.all_eq_false]
            exact ⟨x, List.mem_of_getElem? hx, by simp [hf]⟩
          have hgo : fewE x = true → ∀ i y, i < j + 1 → l.es[i]? = some y → fewE y = true := fun hf i y hi hy => by
            by_cases hij : i = j
            · subst hij
              rw [hx] at hy
              injection hy with hy
              subst hy
              exact hf
            · exact HA.out i y (by omega) hy
          have HGO := hidT hgo
          have HNO := hidT hno
          have HBN := hidT hbn
          have HLN := hidT hln
          clear hcs hx hrb hrl hwb hwl hgo hno hbn hln
          by_cases g1 : ln ≤ 80
          · have p1 : decide (80 < ln) = false := by simpa using g1
            have p1' : decide ((80 : Int) < (ln : Int)) = false := by simp; omega
            by_cases g2 : bn ≤ 40000
            · have p2 : decide (40000 < bn) = false := by simpa using g2
              have p2' : decide ((40000 : Int) < (bn : Int)) = false := by simp; omega
              have hg := hidT (HGO.out (by unfold fewE; rw [HLN.out, HBN.out]; simp; omega))
              clear g1 g2
              go_wp2
              go_round
              case rel => exact ⟨j + 1, by omega, by go_num, hg⟩
              case measure => simp [intOf]; omega
            · have p2 : decide (40000 < bn) = true := by simp; omega
              have p2' : decide ((40000 : Int) < (bn : Int)) = true := by simp; omega
              obtain rfl := HNO.out (by unfold fewE; rw [HLN.out, HBN.out]; simp; omega)
              clear g1 g2
              go_wp2
              go_ret
              exact ⟨rfl, HN.out⟩
          · have p1 : decide (80 < ln) = true := by simp; omega
            have p1' : decide ((80 : Int) < (ln : Int)) = true := by simp; omega
            obtain rfl := HNO.out (by unfold fewE; rw [HLN.out, HBN.out]; simp; omega)
            clear g1
            go_wp2
            go_ret
            exact ⟨rfl, HN.out⟩
        · obtain rfl : n = j := by omega
          obtain rfl : true = t := by
            rw [← HT.out]; symm
            unfold fewL
            rw [HLEN.out, HBM.out, Bool.and_eq_true, Bool.and_eq_true, decide_eq_true_eq, decide_eq_true_eq, List.all_eq_true]
            refine ⟨⟨h1, h2⟩, fun x hx => ?_⟩
            obtain ⟨i, hi⟩ := List.getElem?_of_mem hx
            have := (List.getElem?_eq_some_iff.1 hi).1
            rw [HLEN.out] at this
            exact HA.out i x this hi
          go_wp2
          go_ret
          exact ⟨rfl, HN.out⟩
    · have q2 : decide (40000 < m) = true := by simp; omega
      have q2' : decide ((40000 : Int) < (m : Int)) = true := by simp; omega
      obtain rfl : false = t := by rw [← HT.out]; unfold fewL; rw [HBM.out]; simp; omega
      clear h1 h2
      go_enter Try.func40, Try.ntmps40
      go_wp2
      rw [HW.out]
      go_ret
      exact ⟨rfl, HN.out⟩
  · have q1 : decide (80 < n) = true := by simp; omega
    have q1' : decide ((80 : Int) < (n : Int)) = true := by simp; omega
    obtain rfl : false = t := by rw [← HT.out]; unfold fewL; rw [HLEN.out]; simp; omega
    clear h1
    go_enter Try.func40, Try.ntmps40
    go_wp2
    rw [HW.out]
    go_ret
    exact ⟨rfl, HN.out⟩
end Go.Proofs.Ytdchgnmkeefffaa
/- What the document's Right of lanes comes to. -/
namespace Go.Proofs.Ytdchgnmkeefffaa
open Go.RowKit
set_option linter.unusedVariables false

set_option maxHeartbeats 4000000 in
theorem rright_any {S : Nat → Prop} (v : Value) (l : Lane.Ln) (w : World) (h : IsLane S w v l) (t : Bool) (ht : Lane.right l = t) : Calls Try.prog 41 #[v] w (BoolIs w t) := by
  obtain ⟨A, n, c, B, m, d, rfl, hE, hB, _⟩ := h
  have hle := hE.le
  have hlen := hE.size
  have hbm := hB.1
  have y0 := alloc_at w (.cells #[.slice A n c, .int .i64 l.p.seq, .int .i64 l.p.total, .int .i64 l.p.got, .slice B m d] 51) _ rfl
  have n0 := nkeep w (.cells #[.slice A n c, .int .i64 l.p.seq, .int .i64 l.p.total, .int .i64 l.p.got, .slice B m d] 51)
  obtain ⟨W, hW⟩ : ∃ W, w.alloc (.cells #[.slice A n c, .int .i64 l.p.seq, .int .i64 l.p.total, .int .i64 l.p.got, .slice B m d] 51) = W := ⟨_, rfl⟩
  have HW := hidT hW
  obtain ⟨g, hg⟩ : ∃ g, w.heap.size = g := ⟨_, rfl⟩
  rw [hW, hg] at y0
  rw [hW] at n0
  have HN := hidT n0
  have HT := hidT ht
  have HE := hidT hE
  have HLEN := hidT hlen
  have HBM := hidT hbm
  have Y0 := hidT y0
  clear y0 n0 hE hB hW ht hlen hbm
  go_enter Try.func41, Try.ntmps41
  go_wp2
  rw [HW.out]
  clear hg
  go_loopw [3, 4, 5] (fun q i u wr => ∃ j : Nat, j ≤ n ∧ i = .int .i64 j ∧ q = .int .i64 (Lane.top 0 (l.es.take j)) ∧ Hid (Lane.rises 0 (l.es.take j) = true) ∧ Hid (Below W.heap.size W wr)) (fun _ i _ _ => n - (intOf i).toNat)
  case atStart => exact ⟨0, Nat.zero_le _, rfl, rfl, hidT rfl, hidT (Below.refl _ _)⟩
  case round =>
    obtain ⟨j, hj, rfl, rfl, HA, HB⟩ := hrel
    have hbw := bthen HN.out HB.out
    obtain ⟨e0, e1, e2, e3, e4⟩ := cells5 (keepH Y0.out HB.out)
    by_cases hjn : j < n
    · obtain ⟨b, o, x, BA, bn, bc, LA, ln, lc, rfl, hx, hrb, hrl, hwb, hwl, hcs⟩ := HE.out.told hjn
      obtain ⟨c0, c1, c2, c3, c4⟩ := hcs wr hbw
      have hi : IsEn S w (.agg #[.int .i64 x.k, .int .i64 x.q, .slice BA bn bc, .slice LA ln lc, .bool x.h]) x := ⟨BA, bn, bc, LA, ln, lc, rfl, hrb, hrl, hwb, hwl⟩
      have hmay := fun (u : Bool) hu => rlmay_any _ x wr (hi.below hbw) u hu
      have x1 : (0 : Int) ≤ (j : Int) := by omega
      have x2 : (j : Int) < (n : Int) := by omega
      have HS := rises_step hx
      rw [HA.out, Bool.true_and] at HS
      have HSS := hidT HS
      have htop : Lane.top 0 (l.es.take (j + 1)) = x.q := by rw [List.take_add_one, hx]; exact Lane.top_snoc _ _ _
      have HTOP := hidT htop
      have HCS := hidT hcs
      have HBW := hidT hbw
      obtain ⟨T, hT⟩ : ∃ T, Lane.top 0 (l.es.take j) = T := ⟨_, rfl⟩
      rw [hT] at HSS ⊢
      have hno : (Lane.may x && decide (T < x.q)) = false → false = t := fun hf => by
        rw [← HT.out]; symm
        rw [hf] at HSS
        show (Lane.rises 0 l.es && _) = false
        rw [rises_no HSS.out]; rfl
      have HNO := hidT hno
      clear hcs hx hi hrb hrl hwb hwl HS htop hbw hT hno
      cases hm : Lane.may x with
      | false =>
        have hc := hmay false hm
        obtain rfl := HNO.out (by rw [hm]; rfl)
        clear hm hmay
        go_wp2_with fail
        with_reducible refine hc.mono ?_
        rintro e w5 ⟨rfl, hb5⟩
        go_wp2
        go_ret
        exact ⟨rfl, bthen HBW.out hb5⟩
      | true =>
        have hc := hmay true hm
        rw [hm, Bool.true_and] at HSS HNO
        clear hm hmay
        by_cases hq : T < x.q
        · have q1 : decide (x.q ≤ T) = false := by simpa using hq
          have HR := hidT (show Lane.rises 0 (l.es.take (j + 1)) = true by rw [HSS.out]; simpa using hq)
          clear hq
          go_wp2_with fail
          with_reducible refine hc.mono ?_
          rintro e w5 ⟨rfl, hb5⟩
          obtain ⟨e0', e1', e2', e3', e4'⟩ := cells5 (keepH Y0.out (bthen HB.out hb5))
          obtain ⟨c0', c1', c2', c3', c4'⟩ := HCS.out w5 (bthen HBW.out hb5)
          have HB5 := hidT (bthen HB.out hb5)
          clear hb5 hc c0 c1 c2 c3 c4 e0 e1 e2 e3 e4
          go_wp2
          exact ⟨⟨j + 1, by omega, by go_num, by rw [HTOP.out], HR, HB5⟩, by simp [intOf]; omega⟩
        · have q1 : decide (x.q ≤ T) = true := by simp; omega
          obtain rfl := HNO.out (by simpa using hq)
          clear hq
          go_wp2_with fail
          with_reducible refine hc.mono ?_
          rintro e w5 ⟨rfl, hb5⟩
          obtain ⟨e0', e1', e2', e3', e4'⟩ := cells5 (keepH Y0.out (bthen HB.out hb5))
          obtain ⟨c0', c1', c2', c3', c4'⟩ := HCS.out w5 (bthen HBW.out hb5)
          have HB5 := hidT (bthen HBW.out hb5)
          clear hb5 hc c0 c1 c2 c3 c4 e0 e1 e2 e3 e4
          go_wp2
          go_ret
          exact ⟨rfl, HB5.out⟩
    · obtain rfl : n = j := by omega
      have hall : l.es.take n = l.es := List.take_of_length_le (by rw [HLEN.out]; exact Nat.le_refl _)
      rw [hall] at HA ⊢
      have htop := Lane.rises_top HA.out
      have hr : Lane.right l = Lane.part l.p (Lane.top 0 l.es) := by unfold Lane.right; rw [HA.out, Bool.true_and]
      rw [hr] at HT
      obtain ⟨T, hT⟩ : ∃ T, Lane.top 0 l.es = T := ⟨_, rfl⟩
      rw [hT] at HT htop ⊢
      have HBW := hidT hbw
      clear hr hall hT hbw
      unfold Lane.part at HT
      rw [HBM.out] at HT
      by_cases h0 : l.p.got = 0
      · have p0 : (l.p.got == 0) = true := by simpa using h0
        rw [if_pos h0] at HT
        clear h0
        by_cases h1 : l.p.seq = 0
        · have p1 : (l.p.seq == 0) = true := by simpa using h1
          have p1' : decide (l.p.seq = 0) = true := by simpa using h1
          rw [p1', Bool.true_and] at HT
          clear h1
          by_cases h2 : l.p.total = 0
          · have p2 : (l.p.total == 0) = true := by simpa using h2
            have p2' : decide (l.p.total = 0) = true := by simpa using h2
            rw [p2', Bool.true_and] at HT
            clear h2
            by_cases h3 : m = 0
            · have p3 : ((m : Int) == 0) = true := by simp; omega
              have p3' : decide (m = 0) = true := by simpa using h3
              rw [p3'] at HT
              obtain rfl := HT.out
              clear h3
              go_wp2
              go_ret
              exact ⟨rfl, HBW.out⟩
            · have p3 : ((m : Int) == 0) = false := by simp; omega
              have p3' : decide (m = 0) = false := by simpa using h3
              rw [p3'] at HT
              obtain rfl := HT.out
              clear h3
              go_wp2
              go_ret
              exact ⟨rfl, HBW.out⟩
          · have p2 : (l.p.total == 0) = false := by simpa using h2
            have p2' : decide (l.p.total = 0) = false := by simpa using h2
            rw [p2', Bool.false_and] at HT
            obtain rfl := HT.out
            clear h2
            go_wp2
            go_ret
            exact ⟨rfl, HBW.out⟩
        · have p1 : (l.p.seq == 0) = false := by simpa using h1
          have p1' : decide (l.p.seq = 0) = false := by simpa using h1
          rw [p1', Bool.false_and] at HT
          obtain rfl := HT.out
          clear h1
          go_wp2
          go_ret
          exact ⟨rfl, HBW.out⟩
      · have p0 : (l.p.got == 0) = false := by simpa using h0
        rw [if_neg h0] at HT
        clear h0
        cases p1 : decide (1 ≤ l.p.got)
        · rw [p1, Bool.false_and] at HT
          obtain rfl := HT.out
          go_wp2
          go_ret
          exact ⟨rfl, HBW.out⟩
        · rw [p1, Bool.true_and] at HT
          cases p2 : decide (l.p.got < l.p.total)
          · rw [p2, Bool.false_and] at HT
            obtain rfl := HT.out
            go_wp2
            go_ret
            exact ⟨rfl, HBW.out⟩
          · rw [p2, Bool.true_and] at HT
            cases p3 : decide (l.p.total ≤ 32)
            · rw [p3, Bool.false_and] at HT
              obtain rfl := HT.out
              go_wp2
              go_ret
              exact ⟨rfl, HBW.out⟩
            · rw [p3, Bool.true_and] at HT
              cases p4 : decide (1 ≤ l.p.seq)
              · rw [p4, Bool.false_and] at HT
                obtain rfl := HT.out
                go_wp2
                go_ret
                exact ⟨rfl, HBW.out⟩
              · rw [p4, Bool.true_and] at HT
                cases p5 : decide (T < l.p.seq)
                · rw [p5] at HT
                  obtain rfl := HT.out
                  go_wp2
                  go_ret
                  exact ⟨rfl, HBW.out⟩
                · rw [p5] at HT
                  obtain rfl := HT.out
                  go_wp2
                  go_ret
                  exact ⟨rfl, HBW.out⟩
end Go.Proofs.Ytdchgnmkeefffaa
