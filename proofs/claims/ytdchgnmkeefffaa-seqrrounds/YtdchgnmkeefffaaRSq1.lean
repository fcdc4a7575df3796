/- What the document's SameAll, Delivs, Lanes and May come to. -/
import Derived.Test.YtdchgnmkeefffaaSqMem
import Derived.Test.YtdchgnmkeefffaaLEX
import Derived.Test.YtdchgnmkeefffaaRAX
import Derived.Test.YtdchgnmkeefffaaLCX
set_option maxRecDepth 100000
namespace Go.Proofs.Ytdchgnmkeefffaa
open Go.RowKit
set_option linter.unusedVariables false

set_option maxHeartbeats 4000000 in
theorem sameAll_any {S S' : Nat → Prop} (A : Option Addr) (n c : Nat) (xs : List Lane.Ln) (B : Option Addr) (m d : Nat) (ys : List Lane.Ln) (w : World) (h : RdL S w A n c xs) (h' : RdL S' w B m d ys) (t : Bool) (ht : decide (xs = ys) = t) :
    Calls Try.prog 15 #[.slice A n c, .slice B m d] w (BoolIs w t) := by
  have hn := h.le
  have hm := h'.le
  have HL := hidT h.size
  have HL' := hidT h'.size
  have HT := hidT ht
  have H := hidT h
  have H' := hidT h'
  clear h h' ht
  by_cases hnm : n = m
  · subst hnm
    have q1 : ((n : Int) != (n : Int)) = false := by simp
    go_enter Try.func15, Try.ntmps15
    go_wp2
    go_loopw [5] (fun i wr => ∃ j : Nat, j ≤ n ∧ i = .int .i64 j ∧ Hid (xs.take j = ys.take j) ∧ Hid (Below w.heap.size w wr)) (fun i _ => n - (intOf i).toNat)
    case atStart => exact ⟨0, Nat.zero_le _, rfl, hidT (by simp), hidT (Below.refl _ _)⟩
    case round =>
      obtain ⟨j, hj, rfl, HE, HB⟩ := hrel
      by_cases hjn : j < n
      · obtain ⟨b, o, x, B1, m1, d1, EA, en, ec, rfl, hx, hi, hcs⟩ := H.out.told hjn
        obtain ⟨b', o', y, B2, m2, d2, EA', en', ec', rfl, hy, hi', hcs'⟩ := H'.out.told hjn
        have x1 : (0 : Int) ≤ (j : Int) := by omega
        have x2 : (j : Int) < (n : Int) := by omega
        have HX := hidT hx
        have HY := hidT hy
        have hno : x ≠ y → false = t := fun hxy => by
          rw [← HT.out]; symm
          simp only [decide_eq_false_iff_not]
          intro e
          have h1 := HX.out
          rw [e, HY.out] at h1
          injection h1 with h1
          exact hxy h1.symm
        have hgo : x = y → xs.take (j + 1) = ys.take (j + 1) := fun hxy => by rw [List.take_add_one, List.take_add_one, HE.out, HX.out, HY.out, hxy]
        have HNO := hidT hno
        have HGO := hidT hgo
        clear hno hgo
        have NE := Later.ne wr
        have k0 := fun m : Later wr => (hcs m.w (bthen HB.out m.h)).1
        have k1 := fun m : Later wr => (hcs m.w (bthen HB.out m.h)).2.1
        have k2 := fun m : Later wr => (hcs m.w (bthen HB.out m.h)).2.2.1
        have k3 := fun m : Later wr => (hcs m.w (bthen HB.out m.h)).2.2.2.1
        have k4 := fun m : Later wr => (hcs m.w (bthen HB.out m.h)).2.2.2.2
        have j0 := fun m : Later wr => (hcs' m.w (bthen HB.out m.h)).1
        have j1 := fun m : Later wr => (hcs' m.w (bthen HB.out m.h)).2.1
        have j2 := fun m : Later wr => (hcs' m.w (bthen HB.out m.h)).2.2.1
        have j3 := fun m : Later wr => (hcs' m.w (bthen HB.out m.h)).2.2.2.1
        have j4 := fun m : Later wr => (hcs' m.w (bthen HB.out m.h)).2.2.2.2
        obtain ⟨tt, hT⟩ : ∃ tt, decide (x = y) = tt := ⟨_, rfl⟩
        have HSAME : Hid (∀ m : Later wr, Calls Try.prog 37 #[.agg #[.slice EA en ec, .int .i64 x.p.seq, .int .i64 x.p.total, .int .i64 x.p.got, .slice B1 m1 d1], .agg #[.slice EA' en' ec', .int .i64 y.p.seq, .int .i64 y.p.total, .int .i64 y.p.got, .slice B2 m2 d2]] m.w (BoolIs m.w tt)) :=
          hidT fun m => rlsame_any _ _ x y m.w (hi.below (bthen HB.out m.h)) (hi'.below (bthen HB.out m.h)) tt hT
        clear hx hy hi hi' hcs hcs'
        go_wp2_with fail
        refine wp_later (by kernel_rfl) (by kernel_rfl) ?_
        repeat (go_big_quiet_step ((go_at_call 37; with_reducible exact Later.bool (HSAME.out _))))
        refine wpQuiet_nil ?_
        intro w9 hw9
        obtain ⟨⟨_, hb9⟩, rfl⟩ := hw9
        have HB9 := hidT (bthen HB.out hb9)
        clear hb9 NE k0 k1 k2 k3 k4 j0 j1 j2 j3 j4
        cases tt with
        | false =>
          obtain rfl := HNO.out (by simpa using hT)
          clear hT
          go_wp2
          go_ret
          exact ⟨rfl, HB9.out⟩
        | true =>
          have HG := hidT (HGO.out (by simpa using hT))
          clear hT
          go_wp2
          exact ⟨⟨j + 1, by omega, by go_num, HG, HB9⟩, by simp [intOf]; omega⟩
      · obtain rfl : n = j := by omega
        obtain rfl : true = t := by
          rw [← HT.out]; symm
          have e := HE.out
          rw [List.take_of_length_le (by rw [HL.out]; exact Nat.le_refl _), List.take_of_length_le (by rw [HL'.out]; exact Nat.le_refl _)] at e
          simpa using e
        go_wp2
        go_ret
        exact ⟨rfl, HB.out⟩
  · obtain rfl : false = t := by
      rw [← HT.out]; symm
      simp only [decide_eq_false_iff_not]
      intro e
      have h1 := HL.out
      rw [e, HL'.out] at h1
      omega
    have q1 : ((n : Int) != (m : Int)) = true := by simp; omega
    have q2 : (n != m) = true := by simpa using hnm
    have q3 : (n == m) = false := by simpa using hnm
    go_enter Try.func15, Try.ntmps15
    go_wp2
    go_ret
    exact ⟨rfl, Below.refl _ _⟩

set_option maxHeartbeats 4000000 in
theorem delivs_any {S S' : Nat → Prop} (A : Option Addr) (n c : Nat) (xs : List Seqr.Dv) (B : Option Addr) (m d : Nat) (ys : List Seqr.Dv) (w : World) (h : RdD S w A n c xs) (h' : RdD S' w B m d ys) (t : Bool) (ht : decide (xs = ys) = t) :
    Calls Try.prog 16 #[.slice A n c, .slice B m d] w (BoolIs w t) := by
  have hn := h.le
  have hm := h'.le
  have HL := hidT h.size
  have HL' := hidT h'.size
  have HT := hidT ht
  have H := hidT h
  have H' := hidT h'
  clear h h' ht
  by_cases hnm : n = m
  · subst hnm
    have q1 : ((n : Int) != (n : Int)) = false := by simp
    go_enter Try.func16, Try.ntmps16
    go_wp2
    go_loopw [5] (fun i wr => ∃ j : Nat, j ≤ n ∧ i = .int .i64 j ∧ Hid (xs.take j = ys.take j) ∧ Hid (Below w.heap.size w wr)) (fun i _ => n - (intOf i).toNat)
    case atStart => exact ⟨0, Nat.zero_le _, rfl, hidT (by simp), hidT (Below.refl _ _)⟩
    case round =>
      obtain ⟨j, hj, rfl, HE, HB⟩ := hrel
      by_cases hjn : j < n
      · obtain ⟨b, o, x, BA, bn, bc, rfl, hx, hrb, _, hcs⟩ := H.out.told hjn
        obtain ⟨b', o', y, BA', bn', bc', rfl, hy, hrb', _, hcs'⟩ := H'.out.told hjn
        have x1 : (0 : Int) ≤ (j : Int) := by omega
        have x2 : (j : Int) < (n : Int) := by omega
        have HX := hidT hx
        have HY := hidT hy
        have hno : x ≠ y → false = t := fun hxy => by
          rw [← HT.out]; symm
          simp only [decide_eq_false_iff_not]
          intro e
          have h1 := HX.out
          rw [e, HY.out] at h1
          injection h1 with h1
          exact hxy h1.symm
        have hgo : x = y → xs.take (j + 1) = ys.take (j + 1) := fun hxy => by rw [List.take_add_one, List.take_add_one, HE.out, HX.out, HY.out, hxy]
        have HNO := hidT hno
        have HGO := hidT hgo
        clear hno hgo
        have NE := Later.ne wr
        have k0 := fun m : Later wr => (hcs m.w (bthen HB.out m.h)).1
        have k1 := fun m : Later wr => (hcs m.w (bthen HB.out m.h)).2
        have j0 := fun m : Later wr => (hcs' m.w (bthen HB.out m.h)).1
        have j1 := fun m : Later wr => (hcs' m.w (bthen HB.out m.h)).2
        have s1 := fun m : Later wr => strs hrb m.w (bthen HB.out m.h)
        have s2 := fun m : Later wr => strs hrb' m.w (bthen HB.out m.h)
        clear hx hy hrb hrb' hcs hcs'
        by_cases e1 : x.src = y.src
        · have p1 : (x.src != y.src) = false := by simpa using e1
          have p1' : (x.src == y.src) = true := by simpa using e1
          have HE1 := hidT e1
          clear e1
          by_cases e3 : x.b = y.b
          · have p3 : ((str x.b).toList == (str y.b).toList) = true := str_same e3
            have p3' : ((str x.b).toList != (str y.b).toList) = false := by unfold bne; rw [p3]; rfl
            have HG := hidT (HGO.out (by
              obtain ⟨a, b⟩ := x
              obtain ⟨a', b'⟩ := y
              have h1 := HE1.out
              simp only at h1 e3
              rw [h1, e3]))
            clear e3
            go_wp2_with fail
            refine wp_later (by kernel_rfl) (by kernel_rfl) ?_
            repeat (go_big_quiet_step (fail))
            refine wpQuiet_nil ?_
            intro w9 hw9
            obtain ⟨⟨_, hb9⟩, rfl⟩ := hw9
            have HB9 := hidT (bthen HB.out hb9)
            clear hb9 NE k0 k1 j0 j1 s1 s2
            go_wp2
            exact ⟨⟨j + 1, by omega, by go_num, HG, HB9⟩, by simp [intOf]; omega⟩
          · have p3 : ((str x.b).toList == (str y.b).toList) = false := str_other e3
            have p3' : ((str x.b).toList != (str y.b).toList) = true := by unfold bne; rw [p3]; rfl
            obtain rfl := HNO.out (fun e => e3 (by rw [e]))
            clear e3
            go_wp2_with fail
            refine wp_later (by kernel_rfl) (by kernel_rfl) ?_
            repeat (go_big_quiet_step (fail))
            refine wpQuiet_nil ?_
            intro w9 hw9
            obtain ⟨⟨_, hb9⟩, rfl⟩ := hw9
            have HB9 := hidT (bthen HB.out hb9)
            go_wp2
            go_ret
            exact ⟨rfl, HB9.out⟩
        · have p1 : (x.src != y.src) = true := by simpa using e1
          have p1' : (x.src == y.src) = false := by simpa using e1
          obtain rfl := HNO.out (fun e => e1 (by rw [e]))
          clear e1
          go_wp2_with fail
          refine wp_later (by kernel_rfl) (by kernel_rfl) ?_
          repeat (go_big_quiet_step (fail))
          refine wpQuiet_nil ?_
          intro w9 hw9
          obtain ⟨⟨_, hb9⟩, rfl⟩ := hw9
          have HB9 := hidT (bthen HB.out hb9)
          go_wp2
          go_ret
          exact ⟨rfl, HB9.out⟩
      · obtain rfl : n = j := by omega
        obtain rfl : true = t := by
          rw [← HT.out]; symm
          have e := HE.out
          rw [List.take_of_length_le (by rw [HL.out]; exact Nat.le_refl _), List.take_of_length_le (by rw [HL'.out]; exact Nat.le_refl _)] at e
          simpa using e
        go_wp2
        go_ret
        exact ⟨rfl, HB.out⟩
  · obtain rfl : false = t := by
      rw [← HT.out]; symm
      simp only [decide_eq_false_iff_not]
      intro e
      have h1 := HL.out
      rw [e, HL'.out] at h1
      omega
    have q1 : ((n : Int) != (m : Int)) = true := by simp; omega
    have q2 : (n != m) = true := by simpa using hnm
    have q3 : (n == m) = false := by simpa using hnm
    go_enter Try.func16, Try.ntmps16
    go_wp2
    go_ret
    exact ⟨rfl, Below.refl _ _⟩

/-- Are lanes right, and of few entries? -/
def fewR (ls : List Lane.Ln) : Bool := ls.all fun l => fewL l && Lane.right l
set_option maxHeartbeats 4000000 in
theorem rlanes_any {S : Nat → Prop} (A : Option Addr) (n c : Nat) (ls : List Lane.Ln) (w : World) (h : RdL S w A n c ls) (t : Bool) (ht : (decide (n ≤ 64) && fewR ls) = t) :
    Calls Try.prog 24 #[.slice A n c, .int .i64 64] w (BoolIs w t) := by
  have hn := h.le
  have HL := hidT h.size
  have H := hidT h
  have HT := hidT ht
  clear h ht
  by_cases hn64 : n ≤ 64
  · have q1 : decide ((64 : Int) < (n : Int)) = false := by simp; omega
    have q2 : decide (64 < n) = false := by simpa using hn64
    have HF : Hid (fewR ls = t) := hidT (by rw [← HT.out, decide_eq_true hn64, Bool.true_and])
    go_enter Try.func24, Try.ntmps24
    go_wp2
    go_loopw [5] (fun i wr => ∃ j : Nat, j ≤ n ∧ i = .int .i64 j ∧ Hid (fewR (ls.take j) = true) ∧ Hid (Below w.heap.size w wr)) (fun i _ => n - (intOf i).toNat)
    case atStart => exact ⟨0, Nat.zero_le _, rfl, hidT rfl, hidT (Below.refl _ _)⟩
    case round =>
      obtain ⟨j, hj, rfl, HE, HB⟩ := hrel
      by_cases hjn : j < n
      · obtain ⟨b, o, l, B, m, d, EA, en, ec, rfl, hx, hi, hcs⟩ := H.out.told hjn
        have x1 : (0 : Int) ≤ (j : Int) := by omega
        have x2 : (j : Int) < (n : Int) := by omega
        obtain ⟨c0, c1, c2, c3, c4⟩ := hcs wr HB.out
        have hno : (fewL l && Lane.right l) = false → false = t := fun e => by
          rw [← HF.out]
          cases hf : fewR ls with
          | false => rfl
          | true =>
            have := List.all_eq_true.1 hf l (List.mem_of_getElem? hx)
            rw [e] at this
            cases this
        have hgo : (fewL l && Lane.right l) = true → fewR (ls.take (j + 1)) = true := fun e => by
          have := HE.out
          unfold fewR at this ⊢
          rw [List.take_add_one, hx, List.all_append, this]
          simpa using e
        have HNO := hidT hno
        have HGO := hidT hgo
        have HI := hidT hi
        have HCS := hidT hcs
        clear hno hgo hx hi hcs
        cases hf : fewL l with
        | false =>
          obtain rfl := HNO.out (by rw [hf]; rfl)
          have hc := few_any _ l wr (HI.out.below HB.out) false hf
          clear hf
          go_wp2_with fail
          with_reducible refine hc.mono ?_
          rintro e w5 ⟨rfl, hb5⟩
          have HB5 := hidT (bthen HB.out hb5)
          clear hb5 hc c0 c1 c2 c3 c4
          obtain ⟨c0, c1, c2, c3, c4⟩ := HCS.out w5 HB5.out
          obtain ⟨tr, htr⟩ : ∃ tr, Lane.right l = tr := ⟨_, rfl⟩
          have hr := rright_any _ l w5 (HI.out.below HB5.out) tr htr
          clear htr
          go_wp2_with fail
          with_reducible refine hr.mono ?_
          rintro e w6 ⟨rfl, hb6⟩
          go_wp2
          go_ret
          exact ⟨rfl, bthen HB5.out hb6⟩
        | true =>
          have hc := few_any _ l wr (HI.out.below HB.out) true hf
          have HFL := hidT hf
          clear hf
          go_wp2_with fail
          with_reducible refine hc.mono ?_
          rintro e w5 ⟨rfl, hb5⟩
          have HB5 := hidT (bthen HB.out hb5)
          clear hb5 hc c0 c1 c2 c3 c4
          obtain ⟨c0, c1, c2, c3, c4⟩ := HCS.out w5 HB5.out
          cases hr : Lane.right l with
          | false =>
            obtain rfl := HNO.out (by rw [hr, Bool.and_false])
            have hc := rright_any _ l w5 (HI.out.below HB5.out) false hr
            clear hr
            go_wp2_with fail
            with_reducible refine hc.mono ?_
            rintro e w6 ⟨rfl, hb6⟩
            go_wp2
            go_ret
            exact ⟨rfl, bthen HB5.out hb6⟩
          | true =>
            have HG := hidT (HGO.out (by rw [HFL.out, hr]; rfl))
            have hc := rright_any _ l w5 (HI.out.below HB5.out) true hr
            clear hr
            go_wp2_with fail
            with_reducible refine hc.mono ?_
            rintro e w6 ⟨rfl, hb6⟩
            have HB6 := hidT (bthen HB5.out hb6)
            clear hb6 hc c0 c1 c2 c3 c4
            go_wp2
            exact ⟨⟨j + 1, by omega, by go_num, HG, HB6⟩, by simp [intOf]; omega⟩
      · obtain rfl : n = j := by omega
        obtain rfl : true = t := by
          rw [← HF.out]
          have e := HE.out
          rw [List.take_of_length_le (by rw [HL.out]; exact Nat.le_refl _)] at e
          exact e.symm
        go_wp2
        go_ret
        exact ⟨rfl, HB.out⟩
  · have q1 : decide ((64 : Int) < (n : Int)) = true := by simp; omega
    have q2 : decide (64 < n) = true := by simp; omega
    obtain rfl : false = t := by rw [← HT.out, decide_eq_false hn64, Bool.false_and]
    go_enter Try.func24, Try.ntmps24
    go_wp2
    go_ret
    exact ⟨rfl, Below.refl _ _⟩

/-- May a turn and lanes be? -/
def mayS (who used : Int) (n : Nat) (ls : List Lane.Ln) : Bool := (decide (n ≤ 64) && fewR ls) && (decide (2 ≤ n) && (decide (0 ≤ who) && (decide (who < (n : Int)) && (decide (0 ≤ used) && decide (used ≤ 1152921504606846976)))))
set_option maxHeartbeats 4000000 in
theorem rmayS_any {S : Nat → Prop} (who used : Int) (A : Option Addr) (n c : Nat) (ls : List Lane.Ln) (w : World) (h : RdL S w A n c ls) (t : Bool) (ht : mayS who used n ls = t) :
    Calls Try.prog 10 #[.agg #[.int .i64 who, .int .i64 used], .slice A n c] w (BoolIs w t) := by
  have y0 := alloc_at w (.cells #[.int .i64 who, .int .i64 used] 23) _ rfl
  have hb0 := nkeep w (.cells #[.int .i64 who, .int .i64 used] 23)
  obtain ⟨W, hW⟩ : ∃ W, w.alloc (.cells #[.int .i64 who, .int .i64 used] 23) = W := ⟨_, rfl⟩
  rw [hW] at y0 hb0
  have HW := hidT hW
  have Y0 := hidT y0
  have HB0 := hidT hb0
  have hl := fun t ht => rlanes_any A n c ls W (h.below hb0) t ht
  have HT := hidT ht
  clear h ht hb0 y0 hW
  cases hf : decide (n ≤ 64) && fewR ls with
  | false =>
    have hc := hl false hf
    obtain rfl : false = t := by rw [← HT.out]; unfold mayS; rw [hf]; rfl
    clear hl hf
    go_enter Try.func10, Try.ntmps10
    go_wp2_with fail
    rw [HW.out]
    with_reducible refine hc.mono ?_
    rintro e w1 ⟨rfl, hb1⟩
    go_wp2
    go_ret
    exact ⟨rfl, bthen HB0.out hb1⟩
  | true =>
    have hc := hl true hf
    have HF := hidT hf
    have HM : Hid ((decide (2 ≤ n) && (decide (0 ≤ who) && (decide (who < (n : Int)) && (decide (0 ≤ used) && decide (used ≤ 1152921504606846976))))) = t) := hidT (by rw [← HT.out]; unfold mayS; rw [HF.out, Bool.true_and])
    clear hl hf
    by_cases h1 : 2 ≤ n
    · have q1 : decide ((2 : Int) ≤ (n : Int)) = true := by simp; omega
      have q1' : decide (2 ≤ n) = true := by simpa using h1
      by_cases h2 : 0 ≤ who
      · have q2 : decide (0 ≤ who) = true := by simpa using h2
        by_cases h3 : who < (n : Int)
        · have q3 : decide (who < (n : Int)) = true := by simpa using h3
          by_cases h4 : 0 ≤ used
          · have q4 : decide (0 ≤ used) = true := by simpa using h4
            by_cases h5 : used ≤ 1152921504606846976
            · have q5 : decide (used ≤ 1152921504606846976) = true := by simpa using h5
              obtain rfl : true = t := by rw [← HM.out, q1', q2, q3, q4, q5]; rfl
              clear h1 h2 h3 h4 h5
              go_enter Try.func10, Try.ntmps10
              go_wp2_with fail
              rw [HW.out]
              with_reducible refine hc.mono ?_
              rintro e w1 ⟨rfl, hb1⟩
              obtain ⟨c0, c1⟩ := cells2 (keepH Y0.out hb1)
              go_wp2
              go_ret
              exact ⟨rfl, bthen HB0.out hb1⟩
            · have q5 : decide (used ≤ 1152921504606846976) = false := by simpa using h5
              obtain rfl : false = t := by rw [← HM.out, q5]; simp
              clear h1 h2 h3 h4 h5
              go_enter Try.func10, Try.ntmps10
              go_wp2_with fail
              rw [HW.out]
              with_reducible refine hc.mono ?_
              rintro e w1 ⟨rfl, hb1⟩
              obtain ⟨c0, c1⟩ := cells2 (keepH Y0.out hb1)
              go_wp2
              go_ret
              exact ⟨rfl, bthen HB0.out hb1⟩
          · have q4 : decide (0 ≤ used) = false := by simpa using h4
            obtain rfl : false = t := by rw [← HM.out, q4]; simp
            clear h1 h2 h3 h4
            go_enter Try.func10, Try.ntmps10
            go_wp2_with fail
            rw [HW.out]
            with_reducible refine hc.mono ?_
            rintro e w1 ⟨rfl, hb1⟩
            obtain ⟨c0, c1⟩ := cells2 (keepH Y0.out hb1)
            go_wp2
            go_ret
            exact ⟨rfl, bthen HB0.out hb1⟩
        · have q3 : decide (who < (n : Int)) = false := by simpa using h3
          obtain rfl : false = t := by rw [← HM.out, q3]; simp
          clear h1 h2 h3
          go_enter Try.func10, Try.ntmps10
          go_wp2_with fail
          rw [HW.out]
          with_reducible refine hc.mono ?_
          rintro e w1 ⟨rfl, hb1⟩
          obtain ⟨c0, c1⟩ := cells2 (keepH Y0.out hb1)
          go_wp2
          go_ret
          exact ⟨rfl, bthen HB0.out hb1⟩
      · have q2 : decide (0 ≤ who) = false := by simpa using h2
        obtain rfl : false = t := by rw [← HM.out, q2]; simp
        clear h1 h2
        go_enter Try.func10, Try.ntmps10
        go_wp2_with fail
        rw [HW.out]
        with_reducible refine hc.mono ?_
        rintro e w1 ⟨rfl, hb1⟩
        obtain ⟨c0, c1⟩ := cells2 (keepH Y0.out hb1)
        go_wp2
        go_ret
        exact ⟨rfl, bthen HB0.out hb1⟩
    · have q1 : decide ((2 : Int) ≤ (n : Int)) = false := by simp; omega
      have q1' : decide (2 ≤ n) = false := by simpa using h1
      obtain rfl : false = t := by rw [← HM.out, q1']; simp
      clear h1
      go_enter Try.func10, Try.ntmps10
      go_wp2_with fail
      rw [HW.out]
      with_reducible refine hc.mono ?_
      rintro e w1 ⟨rfl, hb1⟩
      obtain ⟨c0, c1⟩ := cells2 (keepH Y0.out hb1)
      go_wp2
      go_ret
      exact ⟨rfl, bthen HB0.out hb1⟩
end Go.Proofs.Ytdchgnmkeefffaa
