/- What the document's May, Right, Tick and Spend come to (layer 11). -/
import Derived.Test.YtpobaecfmdpphaaRate2
set_option maxRecDepth 100000
namespace Go.Proofs.Ytpobaecfmdpphaa
open Go.RowKit
set_option linter.unusedVariables false

theorem rrmay_any (l m b : Int) (w : World) (t : Bool) (ht : Rate.may l m b = t) : Calls Try.prog 16 #[.int .i64 l, .int .i64 m, .int .i64 b] w (fun e w' => e = .returned (.bool t) ∧ w' = w) := by
  cases q0 : decide (1 ≤ l) with
  | false =>
    have e : t = false := by rw [← ht, Rate.may, q0]; rfl
    subst e
    clear ht
    go_enter Try.func16, Try.ntmps16
    go_wp2
    go_ret
    exact ⟨rfl, rfl⟩
  | true =>
    cases q1 : decide (l ≤ m) with
    | false =>
      have e : t = false := by rw [← ht, Rate.may, q0, q1]; rfl
      subst e
      clear ht
      go_enter Try.func16, Try.ntmps16
      go_wp2
      go_ret
      exact ⟨rfl, rfl⟩
    | true =>
      cases q2 : decide (m ≤ 1048576) with
      | false =>
        have e : t = false := by rw [← ht, Rate.may, q0, q1, q2]; rfl
        subst e
        clear ht
        go_enter Try.func16, Try.ntmps16
        go_wp2
        go_ret
        exact ⟨rfl, rfl⟩
      | true =>
        cases q3 : decide (1 ≤ b) with
        | false =>
          have e : t = false := by rw [← ht, Rate.may, q0, q1, q2, q3]; rfl
          subst e
          clear ht
          go_enter Try.func16, Try.ntmps16
          go_wp2
          go_ret
          exact ⟨rfl, rfl⟩
        | true =>
          cases q4 : decide (b ≤ 1048576) with
          | false =>
            have e : t = false := by rw [← ht, Rate.may, q0, q1, q2, q3, q4]; rfl
            subst e
            clear ht
            go_enter Try.func16, Try.ntmps16
            go_wp2
            go_ret
            exact ⟨rfl, rfl⟩
          | true =>
            have e : t = true := by rw [← ht, Rate.may, q0, q1, q2, q3, q4]; rfl
            subst e
            clear ht
            go_enter Try.func16, Try.ntmps16
            go_wp2
            go_ret
            exact ⟨rfl, rfl⟩
set_option maxHeartbeats 2000000 in
theorem rrright_any (n l least most burst : Int) (w : World) (t : Bool) (ht : Rate.right n l least most burst = t) : Calls Try.prog 8 #[.agg #[.int .i64 n, .int .i64 l], .int .i64 least, .int .i64 most, .int .i64 burst] w (fun e w' => e = .returned (.bool t) ∧ Below w.heap.size w w') := by
  have y0 := alloc_at w (.cells #[.int .i64 n, .int .i64 l] 23) _ rfl
  obtain ⟨e0, e1⟩ := cells2 y0
  have hb := nkeep w (.cells #[.int .i64 n, .int .i64 l] 23)
  clear y0
  cases h1 : Rate.may least most burst with
  | false =>
    have c1 := fun w => rrmay_any least most burst w false h1
    have e : t = false := by rw [← ht, Rate.right, h1]; rfl
    subst e
    clear h1 ht
    go_enter Try.func8, Try.ntmps8
    go_wp2_with fail
    with_reducible refine (c1 _).mono ?_
    rintro e w5 ⟨rfl, rfl⟩
    go_wp2
    go_ret
    exact ⟨rfl, hb⟩
  | true =>
    have c1 := fun w => rrmay_any least most burst w true h1
    cases q0 : decide (least ≤ n) with
    | false =>
      have e : t = false := by rw [← ht, Rate.right, h1, q0]; rfl
      subst e
      clear h1 ht
      go_enter Try.func8, Try.ntmps8
      go_wp2_with fail
      with_reducible refine (c1 _).mono ?_
      rintro e w5 ⟨rfl, rfl⟩
      go_wp2
      go_ret
      exact ⟨rfl, hb⟩
    | true =>
      cases q1 : decide (n ≤ most) with
      | false =>
        have e : t = false := by rw [← ht, Rate.right, h1, q0, q1]; rfl
        subst e
        clear h1 ht
        go_enter Try.func8, Try.ntmps8
        go_wp2_with fail
        with_reducible refine (c1 _).mono ?_
        rintro e w5 ⟨rfl, rfl⟩
        go_wp2
        go_ret
        exact ⟨rfl, hb⟩
      | true =>
        cases q2 : decide (0 ≤ l) with
        | false =>
          have e : t = false := by rw [← ht, Rate.right, h1, q0, q1, q2]; rfl
          subst e
          clear h1 ht
          go_enter Try.func8, Try.ntmps8
          go_wp2_with fail
          with_reducible refine (c1 _).mono ?_
          rintro e w5 ⟨rfl, rfl⟩
          go_wp2
          go_ret
          exact ⟨rfl, hb⟩
        | true =>
          cases q3 : decide (l ≤ burst) with
          | false =>
            have e : t = false := by rw [← ht, Rate.right, h1, q0, q1, q2, q3]; rfl
            subst e
            clear h1 ht
            go_enter Try.func8, Try.ntmps8
            go_wp2_with fail
            with_reducible refine (c1 _).mono ?_
            rintro e w5 ⟨rfl, rfl⟩
            go_wp2
            go_ret
            exact ⟨rfl, hb⟩
          | true =>
            have e : t = true := by rw [← ht, Rate.right, h1, q0, q1, q2, q3]; rfl
            subst e
            clear h1 ht
            go_enter Try.func8, Try.ntmps8
            go_wp2_with fail
            with_reducible refine (c1 _).mono ?_
            rintro e w5 ⟨rfl, rfl⟩
            go_wp2
            go_ret
            exact ⟨rfl, hb⟩
theorem rrspend_no (n l k : Int) (w : World) (h : Rate.yes l k = false) : Calls Try.prog 11 #[.agg #[.int .i64 n, .int .i64 l], .int .i64 k] w (SpentIs w n l false) := by
  obtain ⟨t0, t1, hb⟩ := two_alloc w (.cells #[.int .i64 n, .int .i64 l] 23) (.cells #[.int .i64 n, .int .i64 l] 23)
  obtain ⟨i0, i1⟩ := cells2 t1
  clear t0 t1
  have hk := Rate.yes_not h
  clear h
  by_cases h0 : k < 0
  · have q0 : decide (k < 0) = true := by simpa using h0
    clear h0 hk
    go_enter Try.func11, Try.ntmps11
    go_wp2
    exact bodyPost_ret (v := .tuple #[.agg #[.int .i64 n, .int .i64 l], .bool false]) (by simp [results, Try.results11, go_sem, i0, i1]) rfl ⟨rfl, hb⟩
  · have q0 : decide (k < 0) = false := by simpa using h0
    have q1 : decide (l < k) = true := by simp; omega
    clear h0 hk
    go_enter Try.func11, Try.ntmps11
    go_wp2
    exact bodyPost_ret (v := .tuple #[.agg #[.int .i64 n, .int .i64 l], .bool false]) (by simp [results, Try.results11, go_sem, i0, i1]) rfl ⟨rfl, hb⟩
theorem rrspend_any (n l k : Int) (w : World) (hl : 0 ≤ l ∧ l ≤ 1048576) : Calls Try.prog 11 #[.agg #[.int .i64 n, .int .i64 l], .int .i64 k] w (SpentIs w n (Rate.spend l k) (Rate.yes l k)) := by
  cases h : Rate.yes l k with
  | false => rw [Rate.spend, h]; exact rrspend_no n l k w h
  | true =>
    obtain ⟨h1, h2⟩ := Rate.yes_iff.1 h
    rw [Rate.spend, h, if_pos rfl]
    have q0 : decide (k < 0) = false := by simp; omega
    have q1 : decide (l < k) = false := by simp; omega
    have s1 : wrap64 (l - k) = l - k := IntWalk.wrap64_in _ (by omega)
    have s2 : IntKind.i64.wrap (l - k) = l - k := IntWalk.i64_in _ (by omega)
    obtain ⟨t0, t1, hb⟩ := two_alloc w (.cells #[.int .i64 n, .int .i64 l] 23) (.cells #[.int .i64 n, .int .i64 (l - k)] 23)
    obtain ⟨i0, i1⟩ := cells2 t1
    clear t0 t1 h h1 h2 hl
    go_enter Try.func11, Try.ntmps11
    go_wp2
    exact bodyPost_ret (v := .tuple #[.agg #[.int .i64 n, .int .i64 (l - k)], .bool true]) (by simp [results, Try.results11, go_sem, i0, i1]) rfl ⟨rfl, hb⟩

set_option maxHeartbeats 8000000 in
theorem rrtick_go (n l least most burst naks N L : Int) (w : World) (a1 : 0 ≤ n ∧ n ≤ 1048576) (a2 : 0 ≤ l ∧ l ≤ 1048576) (a3 : 1 ≤ N ∧ N ≤ 1048576) (hN : Rate.more n least most naks = N) (hL : Rate.left l N burst = L) :
    Calls Try.prog 15 #[.agg #[.int .i64 n, .int .i64 l], .int .i64 least, .int .i64 most, .int .i64 burst, .int .i64 naks] w (RateIs w N L) := by
  obtain ⟨t0, t1, hb⟩ := two_alloc w (.cells #[.int .i64 n, .int .i64 l] 23) (.cells #[.int .i64 N, .int .i64 L] 23)
  obtain ⟨i0, i1⟩ := cells2 t1
  have ed : Int.tdiv n 2 = n / 2 := Int.tdiv_eq_ediv_of_nonneg a1.1
  have s1 : wrap64 (n + 1) = n + 1 := IntWalk.wrap64_in _ (by omega)
  have s2 : IntKind.i64.wrap (n + 1) = n + 1 := IntWalk.i64_in _ (by omega)
  have s3 : wrap64 (l + N) = l + N := IntWalk.wrap64_in _ (by omega)
  have s4 : IntKind.i64.wrap (l + N) = l + N := IntWalk.i64_in _ (by omega)
  have s5 : wrap64 (n / 2) = n / 2 := IntWalk.wrap64_in _ (by omega)
  have s6 : IntKind.i64.wrap (n / 2) = n / 2 := IntWalk.i64_in _ (by omega)
  have S := hidT (show _ ∧ _ ∧ _ ∧ _ ∧ _ ∧ _ ∧ _ from ⟨ed, s1, s2, s3, s4, s5, s6⟩)
  clear t0 t1 ed s1 s2 s3 s4 s5 s6
  unfold Rate.more at hN
  unfold Rate.left at hL
  by_cases e0 : 0 < naks
  ·
    have qe0 : decide (0 < naks) = true := by simpa using e0
    by_cases e1 : most < n + 1
    ·
      have qe1 : decide (most < n + 1) = true := by simpa using e1
      by_cases e2 : n / 2 < least
      ·
        have qe2 : decide (n / 2 < least) = true := by simpa using e2
        rw [if_pos e0, if_pos e2] at hN
        subst hN
        by_cases e3 : burst < l + least
        ·
          have qe3 : decide (burst < l + least) = true := by simpa using e3
          rw [if_pos e3] at hL
          subst hL
          obtain ⟨ed, s1, s2, s3, s4, s5, s6⟩ := S.out
          clear S a1 a2 a3 e0 e1 e2 e3
          go_enter Try.func15, Try.ntmps15
          go_wp2
          exact bodyPost_ret (v := .agg #[.int .i64 _, .int .i64 _]) (by simp [results, Try.results15, go_sem, i0, i1]) rfl ⟨rfl, hb⟩
        ·
          have qe3 : decide (burst < l + least) = false := by simpa using e3
          rw [if_neg e3] at hL
          subst hL
          obtain ⟨ed, s1, s2, s3, s4, s5, s6⟩ := S.out
          clear S a1 a2 a3 e0 e1 e2 e3
          go_enter Try.func15, Try.ntmps15
          go_wp2
          exact bodyPost_ret (v := .agg #[.int .i64 _, .int .i64 _]) (by simp [results, Try.results15, go_sem, i0, i1]) rfl ⟨rfl, hb⟩
      ·
        have qe2 : decide (n / 2 < least) = false := by simpa using e2
        rw [if_pos e0, if_neg e2] at hN
        subst hN
        by_cases e3 : burst < l + n / 2
        ·
          have qe3 : decide (burst < l + n / 2) = true := by simpa using e3
          rw [if_pos e3] at hL
          subst hL
          obtain ⟨ed, s1, s2, s3, s4, s5, s6⟩ := S.out
          clear S a1 a2 a3 e0 e1 e2 e3
          go_enter Try.func15, Try.ntmps15
          go_wp2
          exact bodyPost_ret (v := .agg #[.int .i64 _, .int .i64 _]) (by simp [results, Try.results15, go_sem, i0, i1]) rfl ⟨rfl, hb⟩
        ·
          have qe3 : decide (burst < l + n / 2) = false := by simpa using e3
          rw [if_neg e3] at hL
          subst hL
          obtain ⟨ed, s1, s2, s3, s4, s5, s6⟩ := S.out
          clear S a1 a2 a3 e0 e1 e2 e3
          go_enter Try.func15, Try.ntmps15
          go_wp2
          exact bodyPost_ret (v := .agg #[.int .i64 _, .int .i64 _]) (by simp [results, Try.results15, go_sem, i0, i1]) rfl ⟨rfl, hb⟩
    ·
      have qe1 : decide (most < n + 1) = false := by simpa using e1
      by_cases e2 : n / 2 < least
      ·
        have qe2 : decide (n / 2 < least) = true := by simpa using e2
        rw [if_pos e0, if_pos e2] at hN
        subst hN
        by_cases e3 : burst < l + least
        ·
          have qe3 : decide (burst < l + least) = true := by simpa using e3
          rw [if_pos e3] at hL
          subst hL
          obtain ⟨ed, s1, s2, s3, s4, s5, s6⟩ := S.out
          clear S a1 a2 a3 e0 e1 e2 e3
          go_enter Try.func15, Try.ntmps15
          go_wp2
          exact bodyPost_ret (v := .agg #[.int .i64 _, .int .i64 _]) (by simp [results, Try.results15, go_sem, i0, i1]) rfl ⟨rfl, hb⟩
        ·
          have qe3 : decide (burst < l + least) = false := by simpa using e3
          rw [if_neg e3] at hL
          subst hL
          obtain ⟨ed, s1, s2, s3, s4, s5, s6⟩ := S.out
          clear S a1 a2 a3 e0 e1 e2 e3
          go_enter Try.func15, Try.ntmps15
          go_wp2
          exact bodyPost_ret (v := .agg #[.int .i64 _, .int .i64 _]) (by simp [results, Try.results15, go_sem, i0, i1]) rfl ⟨rfl, hb⟩
      ·
        have qe2 : decide (n / 2 < least) = false := by simpa using e2
        rw [if_pos e0, if_neg e2] at hN
        subst hN
        by_cases e3 : burst < l + n / 2
        ·
          have qe3 : decide (burst < l + n / 2) = true := by simpa using e3
          rw [if_pos e3] at hL
          subst hL
          obtain ⟨ed, s1, s2, s3, s4, s5, s6⟩ := S.out
          clear S a1 a2 a3 e0 e1 e2 e3
          go_enter Try.func15, Try.ntmps15
          go_wp2
          exact bodyPost_ret (v := .agg #[.int .i64 _, .int .i64 _]) (by simp [results, Try.results15, go_sem, i0, i1]) rfl ⟨rfl, hb⟩
        ·
          have qe3 : decide (burst < l + n / 2) = false := by simpa using e3
          rw [if_neg e3] at hL
          subst hL
          obtain ⟨ed, s1, s2, s3, s4, s5, s6⟩ := S.out
          clear S a1 a2 a3 e0 e1 e2 e3
          go_enter Try.func15, Try.ntmps15
          go_wp2
          exact bodyPost_ret (v := .agg #[.int .i64 _, .int .i64 _]) (by simp [results, Try.results15, go_sem, i0, i1]) rfl ⟨rfl, hb⟩
  ·
    have qe0 : decide (0 < naks) = false := by simpa using e0
    by_cases e1 : most < n + 1
    ·
      have qe1 : decide (most < n + 1) = true := by simpa using e1
      rw [if_neg e0, if_pos e1] at hN
      subst hN
      by_cases e3 : burst < l + most
      ·
        have qe3 : decide (burst < l + most) = true := by simpa using e3
        rw [if_pos e3] at hL
        subst hL
        obtain ⟨ed, s1, s2, s3, s4, s5, s6⟩ := S.out
        clear S a1 a2 a3 e0 e1 e3
        go_enter Try.func15, Try.ntmps15
        go_wp2
        exact bodyPost_ret (v := .agg #[.int .i64 _, .int .i64 _]) (by simp [results, Try.results15, go_sem, i0, i1]) rfl ⟨rfl, hb⟩
      ·
        have qe3 : decide (burst < l + most) = false := by simpa using e3
        rw [if_neg e3] at hL
        subst hL
        obtain ⟨ed, s1, s2, s3, s4, s5, s6⟩ := S.out
        clear S a1 a2 a3 e0 e1 e3
        go_enter Try.func15, Try.ntmps15
        go_wp2
        exact bodyPost_ret (v := .agg #[.int .i64 _, .int .i64 _]) (by simp [results, Try.results15, go_sem, i0, i1]) rfl ⟨rfl, hb⟩
    ·
      have qe1 : decide (most < n + 1) = false := by simpa using e1
      rw [if_neg e0, if_neg e1] at hN
      subst hN
      by_cases e3 : burst < l + (n + 1)
      ·
        have qe3 : decide (burst < l + (n + 1)) = true := by simpa using e3
        rw [if_pos e3] at hL
        subst hL
        obtain ⟨ed, s1, s2, s3, s4, s5, s6⟩ := S.out
        clear S a1 a2 a3 e0 e1 e3
        go_enter Try.func15, Try.ntmps15
        go_wp2
        exact bodyPost_ret (v := .agg #[.int .i64 _, .int .i64 _]) (by simp [results, Try.results15, go_sem, i0, i1]) rfl ⟨rfl, hb⟩
      ·
        have qe3 : decide (burst < l + (n + 1)) = false := by simpa using e3
        rw [if_neg e3] at hL
        subst hL
        obtain ⟨ed, s1, s2, s3, s4, s5, s6⟩ := S.out
        clear S a1 a2 a3 e0 e1 e3
        go_enter Try.func15, Try.ntmps15
        go_wp2
        exact bodyPost_ret (v := .agg #[.int .i64 _, .int .i64 _]) (by simp [results, Try.results15, go_sem, i0, i1]) rfl ⟨rfl, hb⟩
theorem rrtick_any (n l least most burst naks : Int) (w : World) (h : Rate.right n l least most burst = true) :
    Calls Try.prog 15 #[.agg #[.int .i64 n, .int .i64 l], .int .i64 least, .int .i64 most, .int .i64 burst, .int .i64 naks] w (RateIs w (Rate.more n least most naks) (Rate.left l (Rate.more n least most naks) burst)) := by
  obtain ⟨⟨h1, h2, h3, h4, h5⟩, h6, h7, h8, h9⟩ := Rate.right_iff.1 h
  obtain ⟨a1, a2⟩ := Rate.more_in naks h1 h6 h7
  exact rrtick_go n l least most burst naks _ _ w ⟨by omega, by omega⟩ ⟨by omega, by omega⟩ ⟨by omega, by omega⟩ rfl rfl
end Go.Proofs.Ytpobaecfmdpphaa
