/- What lane.Right comes to. -/
import Derived.Test.YtmlmkkfieeaejaaLn5b
import Derived.Test.YtmlmkkfieeaejaaLF1
set_option maxRecDepth 100000
namespace Go.Proofs.Ytmlmkkfieeaejaa
open Go.RowKit
set_option linter.unusedVariables false

theorem part_zero_is {p : Pt} {low : Int} (h0 : p.got = 0) : Lane.part p low = decide (p = none_) := by
  obtain ⟨s, t, g, b⟩ := p
  simp only at h0
  subst h0
  unfold Lane.part none_
  rw [if_pos rfl]
  rw [Bool.eq_iff_iff]
  simp only [Bool.and_eq_true, decide_eq_true_eq, Pt.mk.injEq]
  constructor
  · rintro ⟨a, b', c⟩; exact ⟨a, b', trivial, List.eq_nil_of_length_eq_zero c⟩
  · rintro ⟨a, b', _, c⟩; exact ⟨a, b', by rw [c]; rfl⟩
theorem part_some_is {p : Pt} {low : Int} (h0 : p.got ≠ 0) (hl : 0 ≤ low) : Lane.part p low = (decide (1 ≤ p.got) && (decide (p.got < p.total) && (decide (p.total ≤ 32) && decide (low < p.seq)))) := by
  unfold Lane.part
  rw [if_neg h0, Bool.eq_iff_iff]
  simp only [Bool.and_eq_true, decide_eq_true_eq]
  omega
set_option maxHeartbeats 4000000 in
theorem right_any {S : Nat → Prop} (v : Value) (l : Lane.Ln) (w : World) (h : IsLane S w v l) (t : Bool) (ht : Lane.right l = t) : Calls Try.prog 12 #[v] w (BoolIs w t) := by
  obtain ⟨A, n, c, B, m, d, rfl, hE, hB, hW⟩ := h
  have y0 := alloc_at w (.cells #[.slice A n c, .int .i64 l.p.seq, .int .i64 l.p.total, .int .i64 l.p.got, .slice B m d] 27) _ rfl
  have hb0 := nkeep w (.cells #[.slice A n c, .int .i64 l.p.seq, .int .i64 l.p.total, .int .i64 l.p.got, .slice B m d] 27)
  obtain ⟨e0, e1, e2, e3, e4⟩ := cells5 y0
  obtain ⟨W, hW⟩ : ∃ W, w.alloc (.cells #[.slice A n c, .int .i64 l.p.seq, .int .i64 l.p.total, .int .i64 l.p.got, .slice B m d] 27) = W := ⟨_, rfl⟩
  rw [hW] at y0 hb0 e0 e1 e2 e3 e4
  obtain ⟨g, hg⟩ : ∃ g, w.heap.size = g := ⟨_, rfl⟩
  rw [hg] at y0 e0 e1 e2 e3 e4
  have HG := hidT hg
  have HW := hidT hW
  have Y0 := hidT y0
  have HB0 := hidT hb0
  have HE := hidT hE
  have HBB := hidT hB
  have HT := hidT ht
  have hrise : ∀ (u : Bool), Lane.rises 0 l.es = u → Calls Try.prog 36 #[.slice A n c] W (BoolIs W u) := fun u hu => rise_any A n c l.es W (hE.below hb0) u hu
  clear y0 hb0 hW hE hB ht
  have hr : Lane.right l = (Lane.rises 0 l.es && Lane.part l.p (Lane.top 0 l.es)) := rfl
  rw [hr] at HT
  clear hr
  cases hu : Lane.rises 0 l.es with
  | false =>
    have hc := hrise false hu
    rw [hu, Bool.false_and] at HT
    obtain rfl : false = t := HT.out
    clear hrise hu HT
    go_enter Try.func12, Try.ntmps12
    go_wp2_with fail
    rw [HW.out]
    clear hg
    with_reducible refine hc.mono ?_
    rintro e w5 ⟨rfl, hb5⟩
    go_wp2
    go_ret
    exact ⟨rfl, bthen HB0.out hb5⟩
  | true =>
    have hc := hrise true hu
    rw [hu, Bool.true_and] at HT
    have htop := Lane.rises_top hu
    obtain ⟨T, hT⟩ : ∃ T, Lane.top 0 l.es = T := ⟨_, rfl⟩
    rw [hT] at HT htop
    have HTT := hidT hT
    have HTOP := hidT htop
    clear hrise hu hT htop
    go_enter Try.func12, Try.ntmps12
    go_wp2_with fail
    rw [HW.out]
    clear hg
    with_reducible refine hc.mono ?_
    rintro e w5 ⟨rfl, hb5⟩
    have HB5 := hidT (bthen HB0.out hb5)
    have y5 := keepH Y0.out hb5
    clear e0 e1 e2 e3 e4 hc hb5
    obtain ⟨e0, e1, e2, e3, e4⟩ := cells5 y5
    have p5 := alloc_at w5 (.cells #[.int .i64 l.p.seq, .int .i64 l.p.total, .int .i64 l.p.got, .slice B m d] 25) _ rfl
    have n5 := nkeep w5 (.cells #[.int .i64 l.p.seq, .int .i64 l.p.total, .int .i64 l.p.got, .slice B m d] 25)
    obtain ⟨W5, hW5⟩ : ∃ W5, w5.alloc (.cells #[.int .i64 l.p.seq, .int .i64 l.p.total, .int .i64 l.p.got, .slice B m d] 25) = W5 := ⟨_, rfl⟩
    obtain ⟨r, hr⟩ : ∃ r, w5.heap.size = r := ⟨_, rfl⟩
    rw [hW5, hr] at p5
    rw [hW5] at n5
    have HW5 := hidT hW5
    have P5 := hidT p5
    have Y5 := hidT (keepH y5 n5)
    have N5 := hidT (bthen HB5.out n5)
    clear y5 p5 n5 hW5
    by_cases h0 : l.p.got = 0
    · have hd := fun w' => isUnder_any l A n c B m d w' false (by simpa using h0)
      rw [part_zero_is h0] at HT
      clear h0
      obtain ⟨f0, f1, f2, f3, f4⟩ := cells5 Y5.out
      rw [← HW5.out] at f0 f1 f2 f3 f4
      go_wp2_with fail
      rw [HW5.out]
      clear hr e0 e1 e2 e3 e4
      with_reducible refine (hd _).mono ?_
      rintro e w6 ⟨rfl, hb6⟩
      obtain ⟨k0, k1, k2, k3⟩ := cells4 (keepH P5.out hb6)
      have HB6 := hidT (bthen N5.out hb6)
      have hs : Calls Try.prog 38 #[.agg #[.int .i64 l.p.seq, .int .i64 l.p.total, .int .i64 l.p.got, .slice B m d], .agg #[.int .i64 0, .int .i64 0, .int .i64 0, .slice none 0 0]] w6 (Says w6 t) := fsame_any l.p none_ B m d none 0 0 w6 (HBB.out.below HB6.out) (Rd.nil_ _) t HT.out
      clear hb6 f0 f1 f2 f3 f4 hd
      go_wp2_with fail
      with_reducible refine hs.mono ?_
      rintro e w7 ⟨rfl, hb7⟩
      go_wp2
      go_ret
      exact ⟨rfl, bthen HB6.out hb7⟩
    · have hd := fun w' => isUnder_any l A n c B m d w' true (by simpa using h0)
      rw [part_some_is h0 HTOP.out] at HT
      clear h0
      obtain ⟨f0, f1, f2, f3, f4⟩ := cells5 Y5.out
      rw [← HW5.out] at f0 f1 f2 f3 f4
      go_wp2_with fail
      rw [HW5.out]
      clear hr e0 e1 e2 e3 e4
      with_reducible refine (hd _).mono ?_
      rintro e w6 ⟨rfl, hb6⟩
      obtain ⟨k0, k1, k2, k3⟩ := cells4 (keepH P5.out hb6)
      obtain ⟨f0, f1, f2, f3, f4⟩ := cells5 (keepH Y5.out hb6)
      have HB6 := hidT (bthen N5.out hb6)
      have NE := Later.ne w6
      have K0 := Later.cell k0
      have K1 := Later.cell k1
      have K2 := Later.cell k2
      have K3 := Later.cell k3
      have F0 := Later.cell f0
      have F1 := Later.cell f1
      have F2 := Later.cell f2
      have F3 := Later.cell f3
      have F4 := Later.cell f4
      have HL : Hid (∀ (n' : Later w6), Calls Try.prog 39 #[.agg #[.slice A n c, .int .i64 l.p.seq, .int .i64 l.p.total, .int .i64 l.p.got, .slice B m d]] n'.w (IntIs n'.w T)) := hidT fun n' => by
        have := lastEntry_any l A n c B m d n'.w (HE.out.below (bthen HB6.out n'.h))
        rwa [HTT.out] at this
      clear hb6 hd k0 k1 k2 k3 f0 f1 f2 f3 f4
      by_cases h1 : 1 ≤ l.p.got
      · have q1 : decide (1 ≤ l.p.got) = true := by simpa using h1
        rw [q1, Bool.true_and] at HT
        by_cases h2 : l.p.got < l.p.total
        · have q2 : decide (l.p.got < l.p.total) = true := by simpa using h2
          rw [q2, Bool.true_and] at HT
          by_cases h3 : l.p.total ≤ 32
          · have q3 : decide (l.p.total ≤ 32) = true := by simpa using h3
            rw [q3, Bool.true_and] at HT
            clear h1 h2 h3
            cases q4 : decide (T < l.p.seq)
            all_goals
              rw [q4] at HT
              obtain rfl := HT.out
              go_wp2_with fail
              refine wp_later (by kernel_rfl) (by kernel_rfl) ?_
              repeat (go_big_quiet_step ((go_at_call 39; exact Later.int (HL.out _))))
              refine wpQuiet_nil ?_
              intro w9 hw9
              obtain ⟨⟨_, hb9⟩, rfl⟩ := hw9
              have hb9' := hb9
              go_wp2
              go_ret
              exact ⟨rfl, bthen HB6.out hb9'⟩
          · have q3 : decide (l.p.total ≤ 32) = false := by simpa using h3
            rw [q3, Bool.false_and] at HT
            obtain rfl := HT.out
            clear h1 h2 h3
            go_wp2_with fail
            refine wp_later (by kernel_rfl) (by kernel_rfl) ?_
            repeat (go_big_quiet_step ((go_at_call 39; exact Later.int (HL.out _))))
            refine wpQuiet_nil ?_
            intro w9 hw9
            obtain ⟨⟨_, hb9⟩, rfl⟩ := hw9
            have hb9' := hb9
            go_wp2
            go_ret
            exact ⟨rfl, bthen HB6.out hb9'⟩
        · have q2 : decide (l.p.got < l.p.total) = false := by simpa using h2
          rw [q2, Bool.false_and] at HT
          obtain rfl := HT.out
          clear h1 h2
          go_wp2_with fail
          refine wp_later (by kernel_rfl) (by kernel_rfl) ?_
          repeat (go_big_quiet_step ((go_at_call 39; exact Later.int (HL.out _))))
          refine wpQuiet_nil ?_
          intro w9 hw9
          obtain ⟨⟨_, hb9⟩, rfl⟩ := hw9
          have hb9' := hb9
          go_wp2
          go_ret
          exact ⟨rfl, bthen HB6.out hb9'⟩
      · have q1 : decide (1 ≤ l.p.got) = false := by simpa using h1
        rw [q1, Bool.false_and] at HT
        obtain rfl := HT.out
        clear h1
        go_wp2_with fail
        refine wp_later (by kernel_rfl) (by kernel_rfl) ?_
        repeat (go_big_quiet_step ((go_at_call 39; exact Later.int (HL.out _))))
        refine wpQuiet_nil ?_
        intro w9 hw9
        obtain ⟨⟨_, hb9⟩, rfl⟩ := hw9
        have hb9' := hb9
        go_wp2
        go_ret
        exact ⟨rfl, bthen HB6.out hb9'⟩
end Go.Proofs.Ytmlmkkfieeaejaa
