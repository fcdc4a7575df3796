import Derived.Test.YtdchgnmkeefffaaLCX
import Derived.Test.YtdchgnmkeefffaaLFX
import Derived.Test.YtdchgnmkeefffaaLBX
set_option maxRecDepth 100000
/- What sameEntry, slices.EqualFunc of entries, and Same come to. -/
namespace Go.Proofs.Ytdchgnmkeefffaa
open Go.RowKit
set_option linter.unusedVariables false

theorem ln_eq {a b : Lane.Ln} : decide (a = b) = (decide (a.es = b.es) && decide (a.p = b.p)) := by
  cases a; cases b; rw [Bool.eq_iff_iff]; simp [Lane.Ln.mk.injEq]
end Go.Proofs.Ytdchgnmkeefffaa
/- What the document's Entries and Same come to. -/
namespace Go.Proofs.Ytdchgnmkeefffaa
open Go.RowKit
set_option linter.unusedVariables false

theorem en_ext {x y : Lane.En} (h1 : x.k = y.k) (h2 : x.q = y.q) (h3 : x.b = y.b) (h4 : x.l = y.l) (h5 : x.h = y.h) : x = y := by
  cases x; cases y; simp only at h1 h2 h3 h4 h5; subst h1 h2 h3 h4 h5; rfl

set_option maxHeartbeats 4000000 in
theorem rentries_any {S S' : Nat → Prop} (A : Option Addr) (n c : Nat) (xs : List Lane.En) (B : Option Addr) (m d : Nat) (ys : List Lane.En) (w : World) (h : RdE S w A n c xs) (h' : RdE S' w B m d ys) (t : Bool) (ht : decide (xs = ys) = t) :
    Calls Try.prog 59 #[.slice A n c, .slice B m d] w (BoolIs w t) := by
  have hn := h.le
  have hm := h'.le
  have hlen := h.size
  have hlen' := h'.size
  have HT := hidT ht
  have H := hidT h
  have H' := hidT h'
  have HL := hidT hlen
  have HL' := hidT hlen'
  clear h h' hlen hlen' ht
  by_cases hnm : n = m
  · subst hnm
    go_enter Try.func59, Try.ntmps59
    go_wp2
    go_loopw [5] (fun i wr => ∃ j : Nat, j ≤ n ∧ i = .int .i64 j ∧ Hid (xs.take j = ys.take j) ∧ Hid (Below w.heap.size w wr)) (fun i _ => n - (intOf i).toNat)
    case atStart => exact ⟨0, Nat.zero_le _, rfl, hidT (by simp), hidT (Below.refl _ _)⟩
    case round =>
      obtain ⟨j, hj, rfl, HE, HB⟩ := hrel
      by_cases hjn : j < n
      · obtain ⟨b, o, x, BA, bn, bc, LA, ln, lc, rfl, hx, hrb, hrl, hwb, hwl, hcs⟩ := H.out.told hjn
        obtain ⟨b', o', y, BA', bn', bc', LA', ln', lc', rfl, hy, hrb', hrl', hwb', hwl', hcs'⟩ := H'.out.told hjn
        have x1 : (0 : Int) ≤ (j : Int) := by omega
        have x2 : (j : Int) < (n : Int) := by omega
        have HX := hidT hx
        have HY := hidT hy
        have hno : x ≠ y → false = t := fun hxy => by
          rw [← HT.out]; symm
          simp only [decide_eq_false_iff_not]
          intro e
          have h1 := HX.out
          rw [e, HY.out] at h1
          injection h1 with h1
          exact hxy h1.symm
        have hgo : x = y → xs.take (j + 1) = ys.take (j + 1) := fun hxy => by rw [List.take_add_one, List.take_add_one, HE.out, HX.out, HY.out, hxy]
        have HNO := hidT hno
        have HGO := hidT hgo
        clear hx hy hno hgo
        obtain ⟨W0, hW0⟩ : ∃ W0, wr = W0 := ⟨_, rfl⟩
        have hsame := fun (tt : Bool) (hT : decide (x.l = y.l) = tt) (m : Later wr) => rsame_is LA ln lc x.l LA' ln' lc' y.l m.w (RdV.below hrl (bthen HB.out m.h)) (RdV.below hrl' (bthen HB.out m.h)) tt hT
        have NE := Later.ne wr
        have k0 := fun m : Later wr => (hcs m.w (bthen HB.out m.h)).1
        have k1 := fun m : Later wr => (hcs m.w (bthen HB.out m.h)).2.1
        have k2 := fun m : Later wr => (hcs m.w (bthen HB.out m.h)).2.2.1
        have k3 := fun m : Later wr => (hcs m.w (bthen HB.out m.h)).2.2.2.1
        have k4 := fun m : Later wr => (hcs m.w (bthen HB.out m.h)).2.2.2.2
        have j0 := fun m : Later wr => (hcs' m.w (bthen HB.out m.h)).1
        have j1 := fun m : Later wr => (hcs' m.w (bthen HB.out m.h)).2.1
        have j2 := fun m : Later wr => (hcs' m.w (bthen HB.out m.h)).2.2.1
        have j3 := fun m : Later wr => (hcs' m.w (bthen HB.out m.h)).2.2.2.1
        have j4 := fun m : Later wr => (hcs' m.w (bthen HB.out m.h)).2.2.2.2
        have HS1 := hidT (fun m : Later wr => strs hrb m.w (bthen HB.out m.h))
        have HS2 := hidT (fun m : Later wr => strs hrb' m.w (bthen HB.out m.h))
        have HK := hidT k0
        have HCS := hidT hcs
        have HCS' := hidT hcs'
        clear hcs hcs' hW0 hrb hrl hwb hwl hrb' hrl' hwb' hwl'
        obtain ⟨tt, hT⟩ : ∃ tt, decide (x.l = y.l) = tt := ⟨_, rfl⟩
        have HSAME := hidT (hsame tt hT)
        clear hsame
        go_wp2_with fail
        refine wp_later (by kernel_rfl) (by kernel_rfl) ?_
        repeat (go_big_quiet_step ((go_at_call 23; exact Later.bool (HSAME.out _))))
        refine wpQuiet_nil ?_
        intro w9 hw9
        obtain ⟨⟨_, hb9⟩, rfl⟩ := hw9
        have HB9 := hidT hb9
        clear hb9 NE k0 k1 k2 k3 k4 j0 j1 j2 j3 j4
        go_wp2_with fail
        have NE := Later.ne w9
        have hbw := bthen HB.out HB9.out
        have k0 := fun m : Later w9 => (HCS.out m.w (bthen hbw m.h)).1
        have k1 := fun m : Later w9 => (HCS.out m.w (bthen hbw m.h)).2.1
        have k2 := fun m : Later w9 => (HCS.out m.w (bthen hbw m.h)).2.2.1
        have k4 := fun m : Later w9 => (HCS.out m.w (bthen hbw m.h)).2.2.2.2
        have j0 := fun m : Later w9 => (HCS'.out m.w (bthen hbw m.h)).1
        have j1 := fun m : Later w9 => (HCS'.out m.w (bthen hbw m.h)).2.1
        have j2 := fun m : Later w9 => (HCS'.out m.w (bthen hbw m.h)).2.2.1
        have j4 := fun m : Later w9 => (HCS'.out m.w (bthen hbw m.h)).2.2.2.2
        have s1 := fun m : Later w9 => HS1.out ⟨m.w, bthen HB9.out m.h⟩
        have s2 := fun m : Later w9 => HS2.out ⟨m.w, bthen HB9.out m.h⟩
        dsimp only at s1 s2
        have HBW := hidT hbw
        clear hbw HS1 HS2 HCS HCS' HK HSAME
        cases tt with
        | false =>
          obtain rfl := HNO.out (fun e => by rw [e] at hT; simp at hT)
          clear hT
          refine wp_later (by kernel_rfl) (by kernel_rfl) ?_
          repeat (go_big_quiet_step (fail))
          refine wpQuiet_nil ?_
          intro w9 hw9
          obtain ⟨⟨_, hb9⟩, rfl⟩ := hw9
          have HB10 := hidT (bthen HBW.out hb9)
          go_wp2
          go_ret
          exact ⟨rfl, HB10.out⟩
        | true =>
          have e5 : x.l = y.l := by simpa using hT
          have HE5 := hidT e5
          clear hT e5
          by_cases e1 : x.k = y.k
          · have p1 : (x.k != y.k) = false := by simpa using e1
            have p1' : (x.k == y.k) = true := by simpa using e1
            have HE1 := hidT e1
            clear e1
            by_cases e2 : x.q = y.q
            · have p2 : (x.q != y.q) = false := by simpa using e2
              have p2' : (x.q == y.q) = true := by simpa using e2
              have HE2 := hidT e2
              clear e2
              by_cases e3 : x.b = y.b
              · have p3 : ((str x.b).toList == (str y.b).toList) = true := str_same e3
                have p3' : ((str x.b).toList != (str y.b).toList) = false := by unfold bne; rw [p3]; rfl
                have HE3 := hidT e3
                clear e3
                by_cases e4 : x.h = y.h
                · have p4 : (x.h != y.h) = false := by simpa using e4
                  have p4' : (x.h == y.h) = true := by simpa using e4
                  have HG := hidT (HGO.out (en_ext HE1.out HE2.out HE3.out HE5.out e4))
                  clear e4
                  refine wp_later (by kernel_rfl) (by kernel_rfl) ?_
                  repeat (go_big_quiet_step (fail))
                  refine wpQuiet_nil ?_
                  intro w9 hw9
                  obtain ⟨⟨_, hb9⟩, rfl⟩ := hw9
                  have HB10 := hidT (bthen HBW.out hb9)
                  clear hb9 k0 k1 k2 k4 j0 j1 j2 j4 s1 s2 NE
                  go_wp2
                  exact ⟨⟨j + 1, by omega, by go_num, HG, HB10⟩, by simp [intOf]; omega⟩
                · have p4 : (x.h != y.h) = true := by simpa using e4
                  have p4' : (x.h == y.h) = false := by simpa using e4
                  obtain rfl := HNO.out (fun e => e4 (by rw [e]))
                  clear e4
                  refine wp_later (by kernel_rfl) (by kernel_rfl) ?_
                  repeat (go_big_quiet_step (fail))
                  refine wpQuiet_nil ?_
                  intro w9 hw9
                  obtain ⟨⟨_, hb9⟩, rfl⟩ := hw9
                  have HB10 := hidT (bthen HBW.out hb9)
                  go_wp2
                  go_ret
                  exact ⟨rfl, HB10.out⟩
              · have p3 : ((str x.b).toList == (str y.b).toList) = false := str_other e3
                have p3' : ((str x.b).toList != (str y.b).toList) = true := by unfold bne; rw [p3]; rfl
                obtain rfl := HNO.out (fun e => e3 (by rw [e]))
                clear e3
                refine wp_later (by kernel_rfl) (by kernel_rfl) ?_
                repeat (go_big_quiet_step (fail))
                refine wpQuiet_nil ?_
                intro w9 hw9
                obtain ⟨⟨_, hb9⟩, rfl⟩ := hw9
                have HB10 := hidT (bthen HBW.out hb9)
                go_wp2
                go_ret
                exact ⟨rfl, HB10.out⟩
            · have p2 : (x.q != y.q) = true := by simpa using e2
              have p2' : (x.q == y.q) = false := by simpa using e2
              obtain rfl := HNO.out (fun e => e2 (by rw [e]))
              clear e2
              refine wp_later (by kernel_rfl) (by kernel_rfl) ?_
              repeat (go_big_quiet_step (fail))
              refine wpQuiet_nil ?_
              intro w9 hw9
              obtain ⟨⟨_, hb9⟩, rfl⟩ := hw9
              have HB10 := hidT (bthen HBW.out hb9)
              go_wp2
              go_ret
              exact ⟨rfl, HB10.out⟩
          · have p1 : (x.k != y.k) = true := by simpa using e1
            have p1' : (x.k == y.k) = false := by simpa using e1
            obtain rfl := HNO.out (fun e => e1 (by rw [e]))
            clear e1
            refine wp_later (by kernel_rfl) (by kernel_rfl) ?_
            repeat (go_big_quiet_step (fail))
            refine wpQuiet_nil ?_
            intro w9 hw9
            obtain ⟨⟨_, hb9⟩, rfl⟩ := hw9
            have HB10 := hidT (bthen HBW.out hb9)
            go_wp2
            go_ret
            exact ⟨rfl, HB10.out⟩
      · obtain rfl : n = j := by omega
        obtain rfl : true = t := by
          rw [← HT.out]; symm
          have e := HE.out
          rw [List.take_of_length_le (by rw [HL.out]; exact Nat.le_refl _), List.take_of_length_le (by rw [HL'.out]; exact Nat.le_refl _)] at e
          simpa using e
        go_wp2
        go_ret
        exact ⟨rfl, HB.out⟩
  · obtain rfl : false = t := by
      rw [← HT.out]; symm
      simp only [decide_eq_false_iff_not]
      intro e
      have h1 := HL.out
      rw [e, HL'.out] at h1
      omega
    have q1 : ((n : Int) != (m : Int)) = true := by simp; omega
    have q2 : (n != m) = true := by simpa using hnm
    have q3 : (n == m) = false := by simpa using hnm
    go_enter Try.func59, Try.ntmps59
    go_wp2
    go_ret
    exact ⟨rfl, Below.refl _ _⟩

set_option maxHeartbeats 2000000 in
theorem rlsame_any {S S' : Nat → Prop} (u v : Value) (l o : Lane.Ln) (w : World) (h : IsLane S w u l) (h' : IsLane S' w v o) (t : Bool) (ht : decide (l = o) = t) : Calls Try.prog 37 #[u, v] w (BoolIs w t) := by
  obtain ⟨A, n, c, B, m, d, rfl, hE, hB, _⟩ := h
  obtain ⟨A', n', c', B', m', d', rfl, hE', hB', _⟩ := h'
  obtain ⟨g0, g1, hw⟩ := two_alloc w (.cells #[.slice A n c, .int .i64 l.p.seq, .int .i64 l.p.total, .int .i64 l.p.got, .slice B m d] 51) (.cells #[.slice A' n' c', .int .i64 o.p.seq, .int .i64 o.p.total, .int .i64 o.p.got, .slice B' m' d'] 51)
  obtain ⟨W, hWW⟩ : ∃ W, (w.alloc (.cells #[.slice A n c, .int .i64 l.p.seq, .int .i64 l.p.total, .int .i64 l.p.got, .slice B m d] 51)).alloc (.cells #[.slice A' n' c', .int .i64 o.p.seq, .int .i64 o.p.total, .int .i64 o.p.got, .slice B' m' d'] 51) = W := ⟨_, rfl⟩
  have HWW := hidT hWW
  rw [hWW] at g0 g1 hw
  obtain ⟨t1, ht1⟩ : ∃ t1, decide (l.es = o.es) = t1 := ⟨_, rfl⟩
  obtain ⟨t2, ht2⟩ : ∃ t2, decide (l.p = o.p) = t2 := ⟨_, rfl⟩
  have hc := rentries_any A n c l.es A' n' c' o.es W (hE.below hw) (hE'.below hw) t1 ht1
  obtain ⟨g, hg⟩ : ∃ g, w.heap.size = g := ⟨_, rfl⟩
  rw [hg] at g0 g1
  have HW := hidT hw
  have G0 := hidT g0
  have G1 := hidT g1
  have HBB := hidT (hB.below hw)
  have HBB' := hidT (hB'.below hw)
  have HT2 := hidT ht2
  rw [ln_eq, ht1, ht2] at ht
  obtain ⟨c0, c1, c2, c3, c4⟩ := cells5 g0
  obtain ⟨d0, d1, d2, d3, d4⟩ := cells5 g1
  rw [← HWW.out] at c0 c1 c2 c3 c4 d0 d1 d2 d3 d4
  clear hE hE' hB hB' g0 g1 hw hWW ht1 ht2
  go_enter Try.func37, Try.ntmps37
  go_wp2_with fail
  rw [HWW.out]
  clear hg c0 c1 c2 c3 c4 d0 d1 d2 d3 d4
  with_reducible refine hc.mono ?_
  rintro e w5 ⟨rfl, hb5⟩
  obtain ⟨c0, c1, c2, c3, c4⟩ := cells5 (keepH G0.out hb5)
  obtain ⟨d0, d1, d2, d3, d4⟩ := cells5 (keepH G1.out hb5)
  have hd : Calls Try.prog 60 #[.agg #[.int .i64 l.p.seq, .int .i64 l.p.total, .int .i64 l.p.got, .slice B m d], .agg #[.int .i64 o.p.seq, .int .i64 o.p.total, .int .i64 o.p.got, .slice B' m' d']] w5 (Says w5 t2) := psame_any l.p o.p B m d B' m' d' w5 (HBB.out.below hb5) (HBB'.out.below hb5) t2 HT2.out
  have HB5 := hidT (bthen HW.out hb5)
  clear hb5 hc
  go_wp2_with fail
  with_reducible refine hd.mono ?_
  rintro e w6 ⟨rfl, hb6⟩
  clear c0 c1 c2 c3 c4 d0 d1 d2 d3 d4 HT2
  cases t1 <;> cases t2
  all_goals
    subst ht
    go_wp2
    go_ret
    exact ⟨rfl, bthen HB5.out hb6⟩
end Go.Proofs.Ytdchgnmkeefffaa
