import Derived.Test.YtdchgnmkeefffaaLCX
import Derived.Test.YtdchgnmkeefffaaLFX
set_option maxRecDepth 100000
/- What isUnder, lastEntry and last come to. -/
namespace Go.Proofs.Ytdchgnmkeefffaa
open Go.RowKit
set_option linter.unusedVariables false

theorem isUnder_any (l : Lane.Ln) (A : Option Addr) (n c : Nat) (B : Option Addr) (m d : Nat) (w : World) (t : Bool) (ht : decide (l.p.got ≠ 0) = t) : Calls Try.prog 47 #[.agg #[.slice A n c, .int .i64 l.p.seq, .int .i64 l.p.total, .int .i64 l.p.got, .slice B m d]] w (BoolIs w t) := by
  have y0 := alloc_at w (.cells #[.slice A n c, .int .i64 l.p.seq, .int .i64 l.p.total, .int .i64 l.p.got, .slice B m d] 51) _ rfl
  have hb0 := nkeep w (.cells #[.slice A n c, .int .i64 l.p.seq, .int .i64 l.p.total, .int .i64 l.p.got, .slice B m d] 51)
  obtain ⟨e0, e1, e2, e3, e4⟩ := cells5 y0
  clear y0
  cases t with
  | true =>
    have q : (l.p.got != 0) = true := by simpa using ht
    clear ht
    go_enter Try.func47, Try.ntmps47
    go_wp2
    go_ret
    exact ⟨rfl, hb0⟩
  | false =>
    have q : (l.p.got != 0) = false := by simpa using ht
    clear ht
    go_enter Try.func47, Try.ntmps47
    go_wp2
    go_ret
    exact ⟨rfl, hb0⟩
theorem top_of {xs : List Lane.En} {n : Nat} {x : Lane.En} (hn : xs.length = n) (h : xs[n - 1]? = some x) (low : Int) : Lane.top low xs = x.q := Lane.top_last low xs x (by rw [hn]; exact h)
theorem lastEntry_any {S : Nat → Prop} (l : Lane.Ln) (A : Option Addr) (n c : Nat) (B : Option Addr) (m d : Nat) (w : World) (h : RdE S w A n c l.es) : Calls Try.prog 49 #[.agg #[.slice A n c, .int .i64 l.p.seq, .int .i64 l.p.total, .int .i64 l.p.got, .slice B m d]] w (IntIs w (Lane.top 0 l.es)) := by
  have y0 := alloc_at w (.cells #[.slice A n c, .int .i64 l.p.seq, .int .i64 l.p.total, .int .i64 l.p.got, .slice B m d] 51) _ rfl
  have hb0 := nkeep w (.cells #[.slice A n c, .int .i64 l.p.seq, .int .i64 l.p.total, .int .i64 l.p.got, .slice B m d] 51)
  obtain ⟨e0, e1, e2, e3, e4⟩ := cells5 y0
  clear y0
  have hlen := h.size
  have hle := h.le
  by_cases hn : n = 0
  · have q : ((n : Int) == 0) = true := by simp; omega
    have e : l.es = [] := List.eq_nil_of_length_eq_zero (by omega)
    have ht : Lane.top 0 l.es = 0 := by rw [e]; rfl
    rw [ht]
    clear h e ht hn hlen
    go_enter Try.func49, Try.ntmps49
    go_wp2
    go_ret
    exact ⟨rfl, hb0⟩
  · have q : ((n : Int) == 0) = false := by simp; omega
    have q2 : (n == 0) = false := by simpa using hn
    obtain ⟨b, o, x, BA, bn, bc, LA, ln, lc, rfl, hx, _, _, _, _, hcs⟩ := h.told (i := n - 1) (by omega)
    rw [top_of hlen hx 0]
    obtain ⟨N, hN⟩ : ∃ N, n - 1 = N := ⟨_, rfl⟩
    have eN : (n : Int) - 1 = (N : Int) := by omega
    have x1 : (0 : Int) ≤ (N : Int) := by omega
    have x2 : (N : Int) < (n : Int) := by omega
    rw [hN] at hcs
    obtain ⟨c0, c1, c2, c3, c4⟩ := hcs _ hb0
    have hc := fun w' => number_any x BA bn bc LA ln lc w'
    have HB0 := hidT hb0
    clear hcs hx h hlen hN hn hb0
    go_enter Try.func49, Try.ntmps49
    go_wp2_with fail
    with_reducible refine (hc _).mono ?_
    rintro e w5 ⟨rfl, hb5⟩
    go_wp2
    go_ret
    exact ⟨rfl, bthen HB0.out hb5⟩
end Go.Proofs.Ytdchgnmkeefffaa
/- What rise comes to. -/
namespace Go.Proofs.Ytdchgnmkeefffaa
open Go.RowKit
set_option linter.unusedVariables false

theorem rises_step {xs : List Lane.En} {j : Nat} {x : Lane.En} (hx : xs[j]? = some x) : Lane.rises 0 (xs.take (j + 1)) = (Lane.rises 0 (xs.take j) && (Lane.may x && decide (Lane.top 0 (xs.take j) < x.q))) := by
  rw [List.take_add_one, hx]
  exact Lane.rises_snoc
theorem rises_no {xs : List Lane.En} {j : Nat} (h : Lane.rises 0 (xs.take j) = false) : Lane.rises 0 xs = false := by
  cases ht : Lane.rises 0 xs with
  | false => rfl
  | true => rw [← List.take_append_drop j xs] at ht; rw [(Lane.rises_append.1 ht).1] at h; cases h
theorem top_at {xs : List Lane.En} {j : Nat} {y : Lane.En} (hj : 0 < j) (hy : xs[j - 1]? = some y) : Lane.top 0 (xs.take j) = y.q := by
  have hl : j - 1 < xs.length := (List.getElem?_eq_some_iff.1 hy).1
  refine Lane.top_last 0 _ y ?_
  rw [List.length_take, show min j xs.length - 1 = j - 1 by omega, List.getElem?_take, if_pos (by omega)]
  exact hy
set_option maxHeartbeats 4000000 in
theorem rise_any {S : Nat → Prop} (A : Option Addr) (n c : Nat) (xs : List Lane.En) (w : World) (h : RdE S w A n c xs) (t : Bool) (ht : Lane.rises 0 xs = t) : Calls Try.prog 46 #[.slice A n c] w (BoolIs w t) := by
  have hle := h.le
  have hlen := h.size
  have HT := hidT ht
  have H := hidT h
  clear h ht
  go_enter Try.func46, Try.ntmps46
  go_wp2
  go_loopw [7] (fun i wr => ∃ j : Nat, j ≤ n ∧ i = .int .i64 j ∧ Hid (Lane.rises 0 (xs.take j) = true) ∧ Hid (Below w.heap.size w wr)) (fun i _ => n - (intOf i).toNat)
  case atStart => exact ⟨0, Nat.zero_le _, rfl, hidT rfl, hidT (Below.refl _ _)⟩
  case round =>
    obtain ⟨j, hj, rfl, HN, HB⟩ := hrel
    by_cases hjn : j < n
    · obtain ⟨b, o, x, BA, bn, bc, LA, ln, lc, rfl, hx, hrb, hrl, hwb, hwl, hcs⟩ := H.out.told hjn
      obtain ⟨c0, c1, c2, c3, c4⟩ := hcs wr HB.out
      have y4 := alloc_at wr (.cells #[.int .i64 x.k, .int .i64 x.q, .slice BA bn bc, .slice LA ln lc, .bool x.h] 59) _ rfl
      have n4 := nkeep wr (.cells #[.int .i64 x.k, .int .i64 x.q, .slice BA bn bc, .slice LA ln lc, .bool x.h] 59)
      have HE : Hid (IsEn S w (.agg #[.int .i64 x.k, .int .i64 x.q, .slice BA bn bc, .slice LA ln lc, .bool x.h]) x) := hidT ⟨BA, bn, bc, LA, ln, lc, rfl, hrb, hrl, hwb, hwl⟩
      have x1 : (0 : Int) ≤ (j : Int) := by omega
      have x2 : (j : Int) < (n : Int) := by omega
      have HX := hidT hx
      have N4 := hidT n4
      have HS := rises_step hx
      rw [HN.out, Bool.true_and] at HS
      have HSS := hidT HS
      have Y4 := hidT y4
      obtain ⟨g, hg⟩ : ∃ g, wr.heap.size = g := ⟨_, rfl⟩
      obtain ⟨W4, hW4⟩ : ∃ W4, wr.alloc (.cells #[.int .i64 x.k, .int .i64 x.q, .slice BA bn bc, .slice LA ln lc, .bool x.h] 59) = W4 := ⟨_, rfl⟩
      have HW4 := hidT hW4
      rw [hW4] at N4 Y4
      rw [hg] at Y4
      obtain ⟨f0, f1, f2, f3, f4⟩ := cells5 Y4.out
      have NE := Later.ne W4
      have k0 := Later.cell f0
      have k1 := Later.cell f1
      have k2 := Later.cell f2
      have k3 := Later.cell f3
      have k4 := Later.cell f4
      have HMAY : Hid (∀ (u : Bool) (_ : Lane.may x = u) (m : Later W4), Calls Try.prog 64 #[.agg #[.int .i64 x.k, .int .i64 x.q, .slice BA bn bc, .slice LA ln lc, .bool x.h]] m.w (BoolIs m.w u)) := hidT fun u hu m => lmay_any _ x m.w (HE.out.below (bthen HB.out (bthen N4.out m.h))) u hu
      clear hcs hx hrb hrl hwb hwl y4 n4 HS f0 f1 f2 f3 f4 hW4
      cases hm : Lane.may x with
      | false =>
        have HM := hidT hm
        obtain rfl : false = t := by
          rw [← HT.out]; symm
          exact rises_no (j := j + 1) (by rw [HSS.out, hm]; rfl)
        clear hm
        go_wp2_with fail
        rw [HW4.out]
        clear hg c0 c1 c2 c3 c4
        refine wp_later (by kernel_rfl) (by kernel_rfl) ?_
        repeat (go_big_quiet_step ((go_at_call 64; exact Later.bool (HMAY.out _ HM.out _))))
        refine wpQuiet_nil ?_
        intro w9 hw9
        obtain ⟨⟨_, hb9⟩, rfl⟩ := hw9
        have hb9' := hb9
        go_wp2
        go_ret
        exact ⟨rfl, bthen HB.out (bthen N4.out hb9')⟩
      | true =>
        have HM := hidT hm
        clear hm
        by_cases h0 : j = 0
        · have q0 : decide ((0 : Int) < (j : Int)) = false := by simp; omega
          have q0' : decide (0 < j) = false := by simp; omega
          have hlow : Lane.rises 0 (xs.take (j + 1)) = true := by
            rw [HSS.out, HM.out, h0]
            have := (Lane.may_iff.1 HM.out).1
            show (true && decide (0 < x.q)) = true
            simp; omega
          have HLOW := hidT hlow
          clear hlow h0
          go_wp2_with fail
          rw [HW4.out]
          clear hg c0 c1 c2 c3 c4
          refine wp_later (by kernel_rfl) (by kernel_rfl) ?_
          repeat (go_big_quiet_step ((go_at_call 64; exact Later.bool (HMAY.out _ HM.out _))))
          refine wpQuiet_nil ?_
          intro w9 hw9
          obtain ⟨⟨_, hb9⟩, rfl⟩ := hw9
          have HB9 := hidT (bthen HB.out (bthen N4.out hb9))
          clear hb9 k0 k1 k2 k3 k4
          go_wp2
          exact ⟨⟨j + 1, by omega, by go_num, HLOW, HB9⟩, by simp [intOf]; omega⟩
        · have q0 : decide ((0 : Int) < (j : Int)) = true := by simp; omega
          have q0' : decide (0 < j) = true := by simp; omega
          obtain ⟨b', o', y, BAy, bny, bcy, LAy, lny, lcy, hA', hy, _, _, _, _, hcy⟩ := H.out.told (i := j - 1) (by omega)
          injection hA' with hA'
          injection hA' with hA1 hA2
          subst hA1
          subst hA2
          have ht := top_at (by omega) hy
          have HTOP := hidT ht
          obtain ⟨J, hJ⟩ : ∃ J, j - 1 = J := ⟨_, rfl⟩
          have eJ : (j : Int) - 1 = (J : Int) := by omega
          have x3 : (0 : Int) ≤ (J : Int) := by omega
          have x4 : (J : Int) < (n : Int) := by omega
          rw [hJ] at hcy
          have d1 := fun m : Later W4 => (hcy m.w (bthen HB.out (bthen N4.out m.h))).2.1
          clear hcy hy ht hJ h0
          by_cases hlt : x.q ≤ y.q
          · have q9 : decide (x.q ≤ y.q) = true := by simpa using hlt
            obtain rfl : false = t := by
              rw [← HT.out]; symm
              refine rises_no (j := j + 1) ?_
              rw [HSS.out, HTOP.out, HM.out]
              simpa using hlt
            clear hlt
            go_wp2_with fail
            rw [HW4.out]
            clear hg c0 c1 c2 c3 c4
            refine wp_later (by kernel_rfl) (by kernel_rfl) ?_
            repeat (go_big_quiet_step ((go_at_call 64; exact Later.bool (HMAY.out _ HM.out _))))
            refine wpQuiet_nil ?_
            intro w9 hw9
            obtain ⟨⟨_, hb9⟩, rfl⟩ := hw9
            have hb9' := hb9
            go_wp2
            go_ret
            exact ⟨rfl, bthen HB.out (bthen N4.out hb9')⟩
          · have q9 : decide (x.q ≤ y.q) = false := by simpa using hlt
            have hlow : Lane.rises 0 (xs.take (j + 1)) = true := by
              rw [HSS.out, HTOP.out, HM.out]
              simp; omega
            have HLOW := hidT hlow
            clear hlow hlt
            go_wp2_with fail
            rw [HW4.out]
            clear hg c0 c1 c2 c3 c4
            refine wp_later (by kernel_rfl) (by kernel_rfl) ?_
            repeat (go_big_quiet_step ((go_at_call 64; exact Later.bool (HMAY.out _ HM.out _))))
            refine wpQuiet_nil ?_
            intro w9 hw9
            obtain ⟨⟨_, hb9⟩, rfl⟩ := hw9
            have HB9 := hidT (bthen HB.out (bthen N4.out hb9))
            clear hb9 k0 k1 k2 k3 k4 d1
            go_wp2
            exact ⟨⟨j + 1, by omega, by go_num, HLOW, HB9⟩, by simp [intOf]; omega⟩
    · obtain rfl : n = j := by omega
      obtain rfl : true = t := by
        rw [← HT.out]; symm
        have := HN.out
        rwa [List.take_of_length_le (by omega)] at this
      go_wp2
      go_ret
      exact ⟨rfl, HB.out⟩
end Go.Proofs.Ytdchgnmkeefffaa
/- What lane.Right comes to. -/
namespace Go.Proofs.Ytdchgnmkeefffaa
open Go.RowKit
set_option linter.unusedVariables false

theorem part_zero_is {p : Pt} {low : Int} (h0 : p.got = 0) : Lane.part p low = decide (p = none_) := by
  obtain ⟨s, t, g, b⟩ := p
  simp only at h0
  subst h0
  unfold Lane.part none_
  rw [if_pos rfl]
  rw [Bool.eq_iff_iff]
  simp only [Bool.and_eq_true, decide_eq_true_eq, Pt.mk.injEq]
  constructor
  · rintro ⟨a, b', c⟩; exact ⟨a, b', trivial, List.eq_nil_of_length_eq_zero c⟩
  · rintro ⟨a, b', _, c⟩; exact ⟨a, b', by rw [c]; rfl⟩
theorem part_some_is {p : Pt} {low : Int} (h0 : p.got ≠ 0) (hl : 0 ≤ low) : Lane.part p low = (decide (1 ≤ p.got) && (decide (p.got < p.total) && (decide (p.total ≤ 32) && decide (low < p.seq)))) := by
  unfold Lane.part
  rw [if_neg h0, Bool.eq_iff_iff]
  simp only [Bool.and_eq_true, decide_eq_true_eq]
  omega
set_option maxHeartbeats 4000000 in
theorem right_any {S : Nat → Prop} (v : Value) (l : Lane.Ln) (w : World) (h : IsLane S w v l) (t : Bool) (ht : Lane.right l = t) : Calls Try.prog 27 #[v] w (BoolIs w t) := by
  obtain ⟨A, n, c, B, m, d, rfl, hE, hB, hW⟩ := h
  have y0 := alloc_at w (.cells #[.slice A n c, .int .i64 l.p.seq, .int .i64 l.p.total, .int .i64 l.p.got, .slice B m d] 51) _ rfl
  have hb0 := nkeep w (.cells #[.slice A n c, .int .i64 l.p.seq, .int .i64 l.p.total, .int .i64 l.p.got, .slice B m d] 51)
  obtain ⟨e0, e1, e2, e3, e4⟩ := cells5 y0
  obtain ⟨W, hW⟩ : ∃ W, w.alloc (.cells #[.slice A n c, .int .i64 l.p.seq, .int .i64 l.p.total, .int .i64 l.p.got, .slice B m d] 51) = W := ⟨_, rfl⟩
  rw [hW] at y0 hb0 e0 e1 e2 e3 e4
  obtain ⟨g, hg⟩ : ∃ g, w.heap.size = g := ⟨_, rfl⟩
  rw [hg] at y0 e0 e1 e2 e3 e4
  have HG := hidT hg
  have HW := hidT hW
  have Y0 := hidT y0
  have HB0 := hidT hb0
  have HE := hidT hE
  have HBB := hidT hB
  have HT := hidT ht
  have hrise : ∀ (u : Bool), Lane.rises 0 l.es = u → Calls Try.prog 46 #[.slice A n c] W (BoolIs W u) := fun u hu => rise_any A n c l.es W (hE.below hb0) u hu
  clear y0 hb0 hW hE hB ht
  have hr : Lane.right l = (Lane.rises 0 l.es && Lane.part l.p (Lane.top 0 l.es)) := rfl
  rw [hr] at HT
  clear hr
  cases hu : Lane.rises 0 l.es with
  | false =>
    have hc := hrise false hu
    rw [hu, Bool.false_and] at HT
    obtain rfl : false = t := HT.out
    clear hrise hu HT
    go_enter Try.func27, Try.ntmps27
    go_wp2_with fail
    rw [HW.out]
    clear hg
    with_reducible refine hc.mono ?_
    rintro e w5 ⟨rfl, hb5⟩
    go_wp2
    go_ret
    exact ⟨rfl, bthen HB0.out hb5⟩
  | true =>
    have hc := hrise true hu
    rw [hu, Bool.true_and] at HT
    have htop := Lane.rises_top hu
    obtain ⟨T, hT⟩ : ∃ T, Lane.top 0 l.es = T := ⟨_, rfl⟩
    rw [hT] at HT htop
    have HTT := hidT hT
    have HTOP := hidT htop
    clear hrise hu hT htop
    go_enter Try.func27, Try.ntmps27
    go_wp2_with fail
    rw [HW.out]
    clear hg
    with_reducible refine hc.mono ?_
    rintro e w5 ⟨rfl, hb5⟩
    have HB5 := hidT (bthen HB0.out hb5)
    have y5 := keepH Y0.out hb5
    clear e0 e1 e2 e3 e4 hc hb5
    obtain ⟨e0, e1, e2, e3, e4⟩ := cells5 y5
    have p5 := alloc_at w5 (.cells #[.int .i64 l.p.seq, .int .i64 l.p.total, .int .i64 l.p.got, .slice B m d] 49) _ rfl
    have n5 := nkeep w5 (.cells #[.int .i64 l.p.seq, .int .i64 l.p.total, .int .i64 l.p.got, .slice B m d] 49)
    obtain ⟨W5, hW5⟩ : ∃ W5, w5.alloc (.cells #[.int .i64 l.p.seq, .int .i64 l.p.total, .int .i64 l.p.got, .slice B m d] 49) = W5 := ⟨_, rfl⟩
    obtain ⟨r, hr⟩ : ∃ r, w5.heap.size = r := ⟨_, rfl⟩
    rw [hW5, hr] at p5
    rw [hW5] at n5
    have HW5 := hidT hW5
    have P5 := hidT p5
    have Y5 := hidT (keepH y5 n5)
    have N5 := hidT (bthen HB5.out n5)
    clear y5 p5 n5 hW5
    by_cases h0 : l.p.got = 0
    · have hd := fun w' => isUnder_any l A n c B m d w' false (by simpa using h0)
      rw [part_zero_is h0] at HT
      clear h0
      obtain ⟨f0, f1, f2, f3, f4⟩ := cells5 Y5.out
      rw [← HW5.out] at f0 f1 f2 f3 f4
      go_wp2_with fail
      rw [HW5.out]
      clear hr e0 e1 e2 e3 e4
      with_reducible refine (hd _).mono ?_
      rintro e w6 ⟨rfl, hb6⟩
      obtain ⟨k0, k1, k2, k3⟩ := cells4 (keepH P5.out hb6)
      have HB6 := hidT (bthen N5.out hb6)
      have hs : Calls Try.prog 48 #[.agg #[.int .i64 l.p.seq, .int .i64 l.p.total, .int .i64 l.p.got, .slice B m d], .agg #[.int .i64 0, .int .i64 0, .int .i64 0, .slice none 0 0]] w6 (Says w6 t) := fsame_any l.p none_ B m d none 0 0 w6 (HBB.out.below HB6.out) (Rd.nil_ _) t HT.out
      clear hb6 f0 f1 f2 f3 f4 hd
      go_wp2_with fail
      with_reducible refine hs.mono ?_
      rintro e w7 ⟨rfl, hb7⟩
      go_wp2
      go_ret
      exact ⟨rfl, bthen HB6.out hb7⟩
    · have hd := fun w' => isUnder_any l A n c B m d w' true (by simpa using h0)
      rw [part_some_is h0 HTOP.out] at HT
      clear h0
      obtain ⟨f0, f1, f2, f3, f4⟩ := cells5 Y5.out
      rw [← HW5.out] at f0 f1 f2 f3 f4
      go_wp2_with fail
      rw [HW5.out]
      clear hr e0 e1 e2 e3 e4
      with_reducible refine (hd _).mono ?_
      rintro e w6 ⟨rfl, hb6⟩
      obtain ⟨k0, k1, k2, k3⟩ := cells4 (keepH P5.out hb6)
      obtain ⟨f0, f1, f2, f3, f4⟩ := cells5 (keepH Y5.out hb6)
      have HB6 := hidT (bthen N5.out hb6)
      have NE := Later.ne w6
      have K0 := Later.cell k0
      have K1 := Later.cell k1
      have K2 := Later.cell k2
      have K3 := Later.cell k3
      have F0 := Later.cell f0
      have F1 := Later.cell f1
      have F2 := Later.cell f2
      have F3 := Later.cell f3
      have F4 := Later.cell f4
      have HL : Hid (∀ (n' : Later w6), Calls Try.prog 49 #[.agg #[.slice A n c, .int .i64 l.p.seq, .int .i64 l.p.total, .int .i64 l.p.got, .slice B m d]] n'.w (IntIs n'.w T)) := hidT fun n' => by
        have := lastEntry_any l A n c B m d n'.w (HE.out.below (bthen HB6.out n'.h))
        rwa [HTT.out] at this
      clear hb6 hd k0 k1 k2 k3 f0 f1 f2 f3 f4
      by_cases h1 : 1 ≤ l.p.got
      · have q1 : decide (1 ≤ l.p.got) = true := by simpa using h1
        rw [q1, Bool.true_and] at HT
        by_cases h2 : l.p.got < l.p.total
        · have q2 : decide (l.p.got < l.p.total) = true := by simpa using h2
          rw [q2, Bool.true_and] at HT
          by_cases h3 : l.p.total ≤ 32
          · have q3 : decide (l.p.total ≤ 32) = true := by simpa using h3
            rw [q3, Bool.true_and] at HT
            clear h1 h2 h3
            cases q4 : decide (T < l.p.seq)
            all_goals
              rw [q4] at HT
              obtain rfl := HT.out
              go_wp2_with fail
              refine wp_later (by kernel_rfl) (by kernel_rfl) ?_
              repeat (go_big_quiet_step ((go_at_call 49; exact Later.int (HL.out _))))
              refine wpQuiet_nil ?_
              intro w9 hw9
              obtain ⟨⟨_, hb9⟩, rfl⟩ := hw9
              have hb9' := hb9
              go_wp2
              go_ret
              exact ⟨rfl, bthen HB6.out hb9'⟩
          · have q3 : decide (l.p.total ≤ 32) = false := by simpa using h3
            rw [q3, Bool.false_and] at HT
            obtain rfl := HT.out
            clear h1 h2 h3
            go_wp2_with fail
            refine wp_later (by kernel_rfl) (by kernel_rfl) ?_
            repeat (go_big_quiet_step ((go_at_call 49; exact Later.int (HL.out _))))
            refine wpQuiet_nil ?_
            intro w9 hw9
            obtain ⟨⟨_, hb9⟩, rfl⟩ := hw9
            have hb9' := hb9
            go_wp2
            go_ret
            exact ⟨rfl, bthen HB6.out hb9'⟩
        · have q2 : decide (l.p.got < l.p.total) = false := by simpa using h2
          rw [q2, Bool.false_and] at HT
          obtain rfl := HT.out
          clear h1 h2
          go_wp2_with fail
          refine wp_later (by kernel_rfl) (by kernel_rfl) ?_
          repeat (go_big_quiet_step ((go_at_call 49; exact Later.int (HL.out _))))
          refine wpQuiet_nil ?_
          intro w9 hw9
          obtain ⟨⟨_, hb9⟩, rfl⟩ := hw9
          have hb9' := hb9
          go_wp2
          go_ret
          exact ⟨rfl, bthen HB6.out hb9'⟩
      · have q1 : decide (1 ≤ l.p.got) = false := by simpa using h1
        rw [q1, Bool.false_and] at HT
        obtain rfl := HT.out
        clear h1
        go_wp2_with fail
        refine wp_later (by kernel_rfl) (by kernel_rfl) ?_
        repeat (go_big_quiet_step ((go_at_call 49; exact Later.int (HL.out _))))
        refine wpQuiet_nil ?_
        intro w9 hw9
        obtain ⟨⟨_, hb9⟩, rfl⟩ := hw9
        have hb9' := hb9
        go_wp2
        go_ret
        exact ⟨rfl, bthen HB6.out hb9'⟩
end Go.Proofs.Ytdchgnmkeefffaa
/- What Many and Done come to. -/
namespace Go.Proofs.Ytdchgnmkeefffaa
open Go.RowKit
set_option linter.unusedVariables false

theorem many_step {xs : List Lane.En} {j : Nat} {x : Lane.En} (hx : xs[j]? = some x) : ((xs.take (j + 1)).filter Lane.isMsg).length = ((xs.take j).filter Lane.isMsg).length + (if Lane.isMsg x = true then 1 else 0) := Lane.filter_step _ _ _ _ hx
set_option maxHeartbeats 1000000 in
theorem many_any {S : Nat → Prop} (v : Value) (l : Lane.Ln) (w : World) (h : IsLane S w v l) : Calls Try.prog 58 #[v] w (IntIs w (Lane.many l : Nat)) := by
  obtain ⟨A, n, c, B, m, d, rfl, hE, hB, hW⟩ := h
  have hle := hE.le
  have hlen := hE.size
  have y0 := alloc_at w (.cells #[.slice A n c, .int .i64 l.p.seq, .int .i64 l.p.total, .int .i64 l.p.got, .slice B m d] 51) _ rfl
  have hb0 := nkeep w (.cells #[.slice A n c, .int .i64 l.p.seq, .int .i64 l.p.total, .int .i64 l.p.got, .slice B m d] 51)
  obtain ⟨e0, e1, e2, e3, e4⟩ := cells5 y0
  obtain ⟨M, hM⟩ : ∃ M, Lane.many l = M := ⟨_, rfl⟩
  rw [hM]
  have HM := hidT hM
  have HB0 := hidT hb0
  have HE := hidT hE
  have HLEN := hidT hlen
  obtain ⟨W, hWW⟩ : ∃ W, w.alloc (.cells #[.slice A n c, .int .i64 l.p.seq, .int .i64 l.p.total, .int .i64 l.p.got, .slice B m d] 51) = W := ⟨_, rfl⟩
  rw [hWW] at HB0
  have HW := hidT hWW
  clear y0 hb0 hE hB hM hlen hWW
  go_enter Try.func58, Try.ntmps58
  go_wp2
  rw [HW.out]
  clear e0 e1 e2 e3 e4
  go_loopw [3, 9] (fun q i wr => ∃ j k : Nat, j ≤ n ∧ k ≤ j ∧ i = .int .i64 j ∧ q = .int .i64 k ∧ Hid (((l.es.take j).filter Lane.isMsg).length = k) ∧ Hid (Below w.heap.size w wr)) (fun _ i _ => n - (intOf i).toNat)
  case atStart => exact ⟨0, 0, Nat.zero_le _, Nat.le_refl _, rfl, rfl, hidT rfl, HB0⟩
  case round =>
    obtain ⟨j, k, hj, hkj, rfl, rfl, HK, HB⟩ := hrel
    by_cases hjn : j < n
    · obtain ⟨b, o, x, BA, bn, bc, LA, ln, lc, rfl, hx, _, _, _, _, hcs⟩ := HE.out.told hjn
      obtain ⟨c0, c1, c2, c3, c4⟩ := hcs wr HB.out
      have y4 := alloc_at wr (.cells #[.int .i64 x.k, .int .i64 x.q, .slice BA bn bc, .slice LA ln lc, .bool x.h] 59) _ rfl
      have N4 := hidT (nkeep wr (.cells #[.int .i64 x.k, .int .i64 x.q, .slice BA bn bc, .slice LA ln lc, .bool x.h] 59))
      obtain ⟨f0, f1, f2, f3, f4⟩ := cells5 y4
      have x1 : (0 : Int) ≤ (j : Int) := by omega
      have x2 : (j : Int) < (n : Int) := by omega
      have HX := hidT hx
      clear hcs hx y4
      cases hp : Lane.isMsg x with
      | true =>
        have hcl := isMessage_any x BA bn bc LA ln lc (wr.alloc (.cells #[.int .i64 x.k, .int .i64 x.q, .slice BA bn bc, .slice LA ln lc, .bool x.h] 59)) true hp
        have HP := hidT hp
        clear hp
        go_wp2_with fail
        with_reducible refine hcl.mono ?_
        rintro e w5 ⟨rfl, hb5⟩
        have HB5 := hidT (bthen HB.out (bthen N4.out hb5))
        clear hb5 c0 c1 c2 c3 c4 f0 f1 f2 f3 f4 hcl
        go_wp2
        exact ⟨⟨j + 1, k + 1, by omega, by omega, by go_num, by go_num, hidT (by rw [many_step HX.out, HK.out, HP.out]; rfl), HB5⟩, by simp [intOf]; omega⟩
      | false =>
        have hcl := isMessage_any x BA bn bc LA ln lc (wr.alloc (.cells #[.int .i64 x.k, .int .i64 x.q, .slice BA bn bc, .slice LA ln lc, .bool x.h] 59)) false hp
        have HP := hidT hp
        clear hp
        go_wp2_with fail
        with_reducible refine hcl.mono ?_
        rintro e w5 ⟨rfl, hb5⟩
        have HB5 := hidT (bthen HB.out (bthen N4.out hb5))
        clear hb5 c0 c1 c2 c3 c4 f0 f1 f2 f3 f4 hcl
        go_wp2
        exact ⟨⟨j + 1, k, by omega, by omega, by go_num, rfl, hidT (by rw [many_step HX.out, HK.out, HP.out]; rfl), HB5⟩, by simp [intOf]; omega⟩
    · obtain rfl : n = j := by omega
      obtain rfl : k = M := by
        rw [← HM.out, ← HK.out]
        unfold Lane.many
        rw [List.take_of_length_le (by rw [HLEN.out]; exact Nat.le_refl _)]
      go_wp2
      go_ret
      exact ⟨rfl, HB.out⟩
end Go.Proofs.Ytdchgnmkeefffaa
