/- What rise comes to. -/
import Derived.Test.YtmlmkkfieeaejaaLn5
import Derived.Test.YtmlmkkfieeaejaaLn4
import Derived.Test.YtmlmkkfieeaejaaLnQ
set_option maxRecDepth 100000
namespace Go.Proofs.Ytmlmkkfieeaejaa
open Go.RowKit
set_option linter.unusedVariables false

theorem rises_step {xs : List Lane.En} {j : Nat} {x : Lane.En} (hx : xs[j]? = some x) : Lane.rises 0 (xs.take (j + 1)) = (Lane.rises 0 (xs.take j) && (Lane.may x && decide (Lane.top 0 (xs.take j) < x.q))) := by
  rw [List.take_add_one, hx]
  exact Lane.rises_snoc
theorem rises_no {xs : List Lane.En} {j : Nat} (h : Lane.rises 0 (xs.take j) = false) : Lane.rises 0 xs = false := by
  cases ht : Lane.rises 0 xs with
  | false => rfl
  | true => rw [← List.take_append_drop j xs] at ht; rw [(Lane.rises_append.1 ht).1] at h; cases h
theorem top_at {xs : List Lane.En} {j : Nat} {y : Lane.En} (hj : 0 < j) (hy : xs[j - 1]? = some y) : Lane.top 0 (xs.take j) = y.q := by
  have hl : j - 1 < xs.length := (List.getElem?_eq_some_iff.1 hy).1
  refine Lane.top_last 0 _ y ?_
  rw [List.length_take, show min j xs.length - 1 = j - 1 by omega, List.getElem?_take, if_pos (by omega)]
  exact hy
set_option maxHeartbeats 4000000 in
theorem rise_any {S : Nat → Prop} (A : Option Addr) (n c : Nat) (xs : List Lane.En) (w : World) (h : RdE S w A n c xs) (t : Bool) (ht : Lane.rises 0 xs = t) : Calls Try.prog 36 #[.slice A n c] w (BoolIs w t) := by
  have hle := h.le
  have hlen := h.size
  have HT := hidT ht
  have H := hidT h
  clear h ht
  go_enter Try.func36, Try.ntmps36
  go_wp2
  go_loopw [7] (fun i wr => ∃ j : Nat, j ≤ n ∧ i = .int .i64 j ∧ Hid (Lane.rises 0 (xs.take j) = true) ∧ Hid (Below w.heap.size w wr)) (fun i _ => n - (intOf i).toNat)
  case atStart => exact ⟨0, Nat.zero_le _, rfl, hidT rfl, hidT (Below.refl _ _)⟩
  case round =>
    obtain ⟨j, hj, rfl, HN, HB⟩ := hrel
    by_cases hjn : j < n
    · obtain ⟨b, o, x, BA, bn, bc, LA, ln, lc, rfl, hx, hrb, hrl, hwb, hwl, hcs⟩ := H.out.told hjn
      obtain ⟨c0, c1, c2, c3, c4⟩ := hcs wr HB.out
      have y4 := alloc_at wr (.cells #[.int .i64 x.k, .int .i64 x.q, .slice BA bn bc, .slice LA ln lc, .bool x.h] 33) _ rfl
      have n4 := nkeep wr (.cells #[.int .i64 x.k, .int .i64 x.q, .slice BA bn bc, .slice LA ln lc, .bool x.h] 33)
      have HE : Hid (IsEn S w (.agg #[.int .i64 x.k, .int .i64 x.q, .slice BA bn bc, .slice LA ln lc, .bool x.h]) x) := hidT ⟨BA, bn, bc, LA, ln, lc, rfl, hrb, hrl, hwb, hwl⟩
      have x1 : (0 : Int) ≤ (j : Int) := by omega
      have x2 : (j : Int) < (n : Int) := by omega
      have HX := hidT hx
      have N4 := hidT n4
      have HS := rises_step hx
      rw [HN.out, Bool.true_and] at HS
      have HSS := hidT HS
      have Y4 := hidT y4
      obtain ⟨g, hg⟩ : ∃ g, wr.heap.size = g := ⟨_, rfl⟩
      obtain ⟨W4, hW4⟩ : ∃ W4, wr.alloc (.cells #[.int .i64 x.k, .int .i64 x.q, .slice BA bn bc, .slice LA ln lc, .bool x.h] 33) = W4 := ⟨_, rfl⟩
      have HW4 := hidT hW4
      rw [hW4] at N4 Y4
      rw [hg] at Y4
      obtain ⟨f0, f1, f2, f3, f4⟩ := cells5 Y4.out
      have NE := Later.ne W4
      have k0 := Later.cell f0
      have k1 := Later.cell f1
      have k2 := Later.cell f2
      have k3 := Later.cell f3
      have k4 := Later.cell f4
      have HMAY : Hid (∀ (u : Bool) (_ : Lane.may x = u) (m : Later W4), Calls Try.prog 57 #[.agg #[.int .i64 x.k, .int .i64 x.q, .slice BA bn bc, .slice LA ln lc, .bool x.h]] m.w (BoolIs m.w u)) := hidT fun u hu m => lmay_any _ x m.w (HE.out.below (bthen HB.out (bthen N4.out m.h))) u hu
      clear hcs hx hrb hrl hwb hwl y4 n4 HS f0 f1 f2 f3 f4 hW4
      cases hm : Lane.may x with
      | false =>
        have HM := hidT hm
        obtain rfl : false = t := by
          rw [← HT.out]; symm
          exact rises_no (j := j + 1) (by rw [HSS.out, hm]; rfl)
        clear hm
        go_wp2_with fail
        rw [HW4.out]
        clear hg c0 c1 c2 c3 c4
        refine wp_later (by kernel_rfl) (by kernel_rfl) ?_
        repeat (go_big_quiet_step ((go_at_call 57; exact Later.bool (HMAY.out _ HM.out _))))
        refine wpQuiet_nil ?_
        intro w9 hw9
        obtain ⟨⟨_, hb9⟩, rfl⟩ := hw9
        have hb9' := hb9
        go_wp2
        go_ret
        exact ⟨rfl, bthen HB.out (bthen N4.out hb9')⟩
      | true =>
        have HM := hidT hm
        clear hm
        by_cases h0 : j = 0
        · have q0 : decide ((0 : Int) < (j : Int)) = false := by simp; omega
          have q0' : decide (0 < j) = false := by simp; omega
          have hlow : Lane.rises 0 (xs.take (j + 1)) = true := by
            rw [HSS.out, HM.out, h0]
            have := (Lane.may_iff.1 HM.out).1
            show (true && decide (0 < x.q)) = true
            simp; omega
          have HLOW := hidT hlow
          clear hlow h0
          go_wp2_with fail
          rw [HW4.out]
          clear hg c0 c1 c2 c3 c4
          refine wp_later (by kernel_rfl) (by kernel_rfl) ?_
          repeat (go_big_quiet_step ((go_at_call 57; exact Later.bool (HMAY.out _ HM.out _))))
          refine wpQuiet_nil ?_
          intro w9 hw9
          obtain ⟨⟨_, hb9⟩, rfl⟩ := hw9
          have HB9 := hidT (bthen HB.out (bthen N4.out hb9))
          clear hb9 k0 k1 k2 k3 k4
          go_wp2
          exact ⟨⟨j + 1, by omega, by go_num, HLOW, HB9⟩, by simp [intOf]; omega⟩
        · have q0 : decide ((0 : Int) < (j : Int)) = true := by simp; omega
          have q0' : decide (0 < j) = true := by simp; omega
          obtain ⟨b', o', y, BAy, bny, bcy, LAy, lny, lcy, hA', hy, _, _, _, _, hcy⟩ := H.out.told (i := j - 1) (by omega)
          injection hA' with hA'
          injection hA' with hA1 hA2
          subst hA1
          subst hA2
          have ht := top_at (by omega) hy
          have HTOP := hidT ht
          obtain ⟨J, hJ⟩ : ∃ J, j - 1 = J := ⟨_, rfl⟩
          have eJ : (j : Int) - 1 = (J : Int) := by omega
          have x3 : (0 : Int) ≤ (J : Int) := by omega
          have x4 : (J : Int) < (n : Int) := by omega
          rw [hJ] at hcy
          have d1 := fun m : Later W4 => (hcy m.w (bthen HB.out (bthen N4.out m.h))).2.1
          clear hcy hy ht hJ h0
          by_cases hlt : x.q ≤ y.q
          · have q9 : decide (x.q ≤ y.q) = true := by simpa using hlt
            obtain rfl : false = t := by
              rw [← HT.out]; symm
              refine rises_no (j := j + 1) ?_
              rw [HSS.out, HTOP.out, HM.out]
              simpa using hlt
            clear hlt
            go_wp2_with fail
            rw [HW4.out]
            clear hg c0 c1 c2 c3 c4
            refine wp_later (by kernel_rfl) (by kernel_rfl) ?_
            repeat (go_big_quiet_step ((go_at_call 57; exact Later.bool (HMAY.out _ HM.out _))))
            refine wpQuiet_nil ?_
            intro w9 hw9
            obtain ⟨⟨_, hb9⟩, rfl⟩ := hw9
            have hb9' := hb9
            go_wp2
            go_ret
            exact ⟨rfl, bthen HB.out (bthen N4.out hb9')⟩
          · have q9 : decide (x.q ≤ y.q) = false := by simpa using hlt
            have hlow : Lane.rises 0 (xs.take (j + 1)) = true := by
              rw [HSS.out, HTOP.out, HM.out]
              simp; omega
            have HLOW := hidT hlow
            clear hlow hlt
            go_wp2_with fail
            rw [HW4.out]
            clear hg c0 c1 c2 c3 c4
            refine wp_later (by kernel_rfl) (by kernel_rfl) ?_
            repeat (go_big_quiet_step ((go_at_call 57; exact Later.bool (HMAY.out _ HM.out _))))
            refine wpQuiet_nil ?_
            intro w9 hw9
            obtain ⟨⟨_, hb9⟩, rfl⟩ := hw9
            have HB9 := hidT (bthen HB.out (bthen N4.out hb9))
            clear hb9 k0 k1 k2 k3 k4 d1
            go_wp2
            exact ⟨⟨j + 1, by omega, by go_num, HLOW, HB9⟩, by simp [intOf]; omega⟩
    · obtain rfl : n = j := by omega
      obtain rfl : true = t := by
        rw [← HT.out]; symm
        have := HN.out
        rwa [List.take_of_length_le (by omega)] at this
      go_wp2
      go_ret
      exact ⟨rfl, HB.out⟩
end Go.Proofs.Ytmlmkkfieeaejaa
