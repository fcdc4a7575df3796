/- What the document's own Right, Get and Free of streams come to. -/
import Derived.Test.YtgnaecifinlnmaaKeep7
import Derived.Test.YtgnaecifinlnmaaRefItem3
set_option maxRecDepth 100000
namespace Go.Proofs.Ytgnaecifinlnmaa
open Go.RowKit
set_option linter.unusedVariables false

set_option maxHeartbeats 2000000 in
theorem rright_any (v : Value) (k : Keep.Kp) (w : World) (h : IsKeep w v k) : Calls Try.prog 12 #[v] w (BoolIs w (Keep.right k)) := by
  obtain ⟨A, n, c, rfl, hX⟩ := h
  have hn := hX.le
  have hlen := hX.size
  have y0 := alloc_at w (.cells #[.int .i64 k.next, .slice A n c] 24) _ rfl
  obtain ⟨e0, e1⟩ := cells2 y0
  have hb := nkeep w (.cells #[.int .i64 k.next, .slice A n c] 24)
  obtain ⟨t, HT⟩ : ∃ t, Hid (Keep.right k = t) := ⟨_, rfl⟩
  rw [HT.out]
  obtain ⟨g, hg⟩ : ∃ g, w.heap.size = g := ⟨_, rfl⟩
  have HG := hidT hg
  rw [hg] at y0 e0 e1
  have Y0 := hidT y0
  have HX := hidT hX
  have HLEN := hidT hlen
  clear y0 hX hlen
  by_cases h2 : n ≤ 64
  · have q2 : decide (64 < n) = false := by simpa using h2
    have q3 : decide ((64 : Int) < (n : Int)) = false := by simp; omega
    by_cases h1a : k.next < 1
    · have q4 : decide (k.next < 1) = true := by simpa using h1a
      have ht : false = t := by
        rw [← HT.out]; symm; rw [Bool.eq_false_iff]; intro hr
        have := (Keep.right_iff.1 hr).1.2
        omega
      subst ht
      clear h1a
      go_enter Try.func12, Try.ntmps12
      go_wp2
      go_ret
      exact ⟨rfl, hb⟩
    · have q4 : decide (k.next < 1) = false := by simpa using h1a
      by_cases h1b : 4611686018427387905 < k.next
      · have q5 : decide (4611686018427387905 < k.next) = true := by simpa using h1b
        have ht : false = t := by
          rw [← HT.out]; symm; rw [Bool.eq_false_iff]; intro hr
          have := (Keep.right_iff.1 hr).1.2
          omega
        subst ht
        go_enter Try.func12, Try.ntmps12
        go_wp2
        go_ret
        exact ⟨rfl, hb⟩
      · have q5 : decide (4611686018427387905 < k.next) = false := by simpa using h1b
        have hb0 := hidT hb
        obtain ⟨W, hW⟩ : ∃ W, w.alloc (.cells #[.int .i64 k.next, .slice A n c] 24) = W := ⟨_, rfl⟩
        rw [hW] at Y0 hb0
        have HW := hidT hW
        clear hW hb
        go_enter Try.func12, Try.ntmps12
        go_wp2_with fail
        rw [HW.out]
        clear e0 e1 hg
        go_loopw [3] (fun i wr => ∃ j : Nat, j ≤ n ∧ i = .int .i64 j ∧ Hid (∀ i x, i < j → k.l[i]? = some x → Keep.okAt k i x = true) ∧ Hid (Below W.heap.size W wr)) (fun i _ => n - (intOf i).toNat)
        case atStart => exact ⟨0, Nat.zero_le _, rfl, hidT (fun i x hi => absurd hi (by omega)), hidT (Below.refl _ _)⟩
        case round =>
          obtain ⟨j, hj, rfl, HN, HB⟩ := hrel
          obtain ⟨i0, i1⟩ := cells2 (keepH Y0.out HB.out)
          by_cases hjn : j < n
          · have hbw := bthen hb0.out HB.out
            obtain ⟨b, o, x, LA, ln, lc, BA, bn, bc, rfl, hx, hi, hcs⟩ := HX.out.told hjn
            obtain ⟨c0, c1, c2, c3, c4, c5, c6, c7⟩ := hcs wr hbw
            have hmay := rmay_any _ x _ (hi.below hbw)
            have x1 : (0 : Int) ≤ (j : Int) := by omega
            have x2 : (j : Int) < (n : Int) := by omega
            have hok : Keep.okAt k j x = (Item.may x && decide (x.q = k.next - ((n : Int) - (j : Int)))) := by
              unfold Keep.okAt
              rw [HLEN.out]
            have HOK := hidT hok
            have HXX := hidT hx
            have HCS := hidT hcs
            have HBW := hidT hbw
            clear hcs hi hx hok hbw
            cases hm : Item.may x with
            | true =>
              rw [hm] at hmay
              have HMM := hidT hm
              clear hm
              have s1 : IntKind.i64.wrap ((n : Int) - (j : Int)) = (n : Int) - (j : Int) := IntWalk.i64_in _ (by omega)
              have s2 : IntKind.i64.wrap (k.next - ((n : Int) - (j : Int))) = k.next - ((n : Int) - (j : Int)) := IntWalk.i64_in _ (by omega)
              go_wp2_with fail
              with_reducible refine hmay.mono ?_
              rintro e w5 ⟨rfl, hb5⟩
              have HB5 := hidT (bthen HB.out hb5)
              clear i0 i1
              obtain ⟨i0, i1⟩ := cells2 (keepH Y0.out HB5.out)
              have d1 := (HCS.out w5 (bthen HBW.out hb5)).2.1
              clear hb5 c0 c1 c2 c3 c4 c5 c6 c7 hmay
              by_cases hq : x.q = k.next - ((n : Int) - (j : Int))
              · have p5 : (x.q != k.next - ((n : Int) - (j : Int))) = false := by simpa using hq
                have p6 : (x.q == k.next - ((n : Int) - (j : Int))) = true := by simpa using hq
                have HQ := hidT hq
                clear hq
                go_wp2_with fail
                go_quiet (fail)
                go_wp2
                refine ⟨⟨j + 1, by omega, by go_num, hidT (fun i y hi hy => ?_), hidT (bthen HB5.out (drawn_below _ _))⟩, by simp [intOf]; omega⟩
                by_cases hij : i = j
                · subst hij
                  rw [HXX.out] at hy
                  injection hy with hy
                  subst hy
                  rw [HOK.out, HMM.out]
                  simpa using HQ.out
                · exact HN.out i y (by omega) hy
              · have p5 : (x.q != k.next - ((n : Int) - (j : Int))) = true := by simpa using hq
                have p6 : (x.q == k.next - ((n : Int) - (j : Int))) = false := by simpa using hq
                have ht : false = t := by rw [← HT.out]; exact (Keep.right_not HXX.out (by rw [HOK.out]; simp [hq])).symm
                subst ht
                clear hq
                go_wp2_with fail
                go_quiet (fail)
                go_wp2
                go_ret
                exact ⟨rfl, bthen hb0.out (bthen HB5.out (drawn_below _ _))⟩
            | false =>
              rw [hm] at hmay
              have ht : false = t := by rw [← HT.out]; exact (Keep.right_not HXX.out (by rw [HOK.out, hm]; rfl)).symm
              subst ht
              clear hm
              go_wp2_with fail
              with_reducible refine hmay.mono ?_
              rintro e w5 ⟨rfl, hb5⟩
              have HB5 := hidT (bthen HB.out hb5)
              clear i0 i1
              obtain ⟨i0, i1⟩ := cells2 (keepH Y0.out HB5.out)
              have d1 := (HCS.out w5 (bthen HBW.out hb5)).2.1
              clear hb5 c0 c1 c2 c3 c4 c5 c6 c7 hmay
              go_wp2_with fail
              go_quiet (fail)
              go_wp2
              go_ret
              exact ⟨rfl, bthen hb0.out (bthen HB5.out (drawn_below _ _))⟩
          · obtain rfl : n = j := by omega
            have ht : true = t := by
              rw [← HT.out]
              refine (Keep.right_all (by rw [HLEN.out]; exact h2) (by omega) (by omega) (fun i x hx => HN.out i x ?_ hx)).symm
              have := (List.getElem?_eq_some_iff.1 hx).1
              rw [HLEN.out] at this
              exact this
            subst ht
            go_wp2
            go_ret
            exact ⟨rfl, bthen hb0.out HB.out⟩
  · have q2 : decide (64 < n) = true := by simp; omega
    have q3 : decide ((64 : Int) < (n : Int)) = true := by simp; omega
    have ht : false = t := by
      rw [← HT.out]; symm; rw [Bool.eq_false_iff]; intro hr
      have := (Keep.right_iff.1 hr).1.1
      rw [HLEN.out] at this
      omega
    subst ht
    go_enter Try.func12, Try.ntmps12
    go_wp2
    go_ret
    exact ⟨rfl, hb⟩

set_option maxHeartbeats 2000000 in
theorem rget_any (v : Value) (k : Keep.Kp) (s : Int) (w : World) (h : IsKeep w v k) : Calls Try.prog 21 #[v, .int .i64 s] w (GetIs w (Keep.got k.l s)) := by
  obtain ⟨A, n, c, rfl, hX⟩ := h
  have hn := hX.le
  have hlen := hX.size
  obtain ⟨t0, t1, hb⟩ := two_alloc w (.cells #[.int .i64 k.next, .slice A n c] 24) (.cells zcells 28)
  obtain ⟨W, hW⟩ : ∃ W, (w.alloc (.cells #[.int .i64 k.next, .slice A n c] 24)).alloc (.cells zcells 28) = W := ⟨_, rfl⟩
  rw [hW] at t0 t1 hb
  obtain ⟨g, hg⟩ : ∃ g, w.heap.size = g := ⟨_, rfl⟩
  have HG := hidT hg
  rw [hg] at t0 t1
  have HW := hidT hW
  have T0 := hidT t0
  have T1 := hidT t1
  have HB0 := hidT hb
  have HX := hidT hX
  have HLEN := hidT hlen
  clear t0 t1 hb hX hlen hW
  obtain ⟨R, HR⟩ : ∃ R, Hid (Keep.got k.l s = R) := ⟨_, rfl⟩
  rw [HR.out]
  go_enter Try.func21, Try.ntmps21
  go_wp2_with fail
  rw [HW.out]
  clear hg
  go_loopw [6] (fun i wr => ∃ j : Nat, j ≤ n ∧ i = .int .i64 j ∧ Hid (∀ i y, i < j → k.l[i]? = some y → (fun y : Item.It => decide (y.q = s)) y = false) ∧ wr = W) (fun i _ => n - (intOf i).toNat)
  case atStart => exact ⟨0, Nat.zero_le _, rfl, hidT (fun i y hi => absurd hi (by omega)), rfl⟩
  case round =>
    obtain ⟨j, hj, rfl, HN, rfl⟩ := hrel
    obtain ⟨i0, i1⟩ := cells2 T0.out
    by_cases hjn : j < n
    · obtain ⟨b, o, x, LA, ln, lc, BA, bn, bc, rfl, hx, hi, hcs⟩ := HX.out.told hjn
      obtain ⟨c0, c1, c2, c3, c4, c5, c6, c7⟩ := hcs _ HB0.out
      have x1 : (0 : Int) ≤ (j : Int) := by omega
      have x2 : (j : Int) < (n : Int) := by omega
      have HXX := hidT hx
      have HI := hidT hi
      clear hcs hi hx
      by_cases hq : x.q = s
      · have q1 : (x.q == s) = true := by simpa using hq
        have hr : some x = R := by rw [← HR.out, got_idx, idx_at HN.out HXX.out (by simpa using hq)]; exact HXX.out.symm
        clear hq
        subst hr
        have y1 := T1.out
        go_wp2_with (
          refine wpList_stI rfl 28 _ _ rfl (g + 1) #[.int .i64 x.k, .int .i64 x.q, .int .i64 x.e, .int .i64 x.i, .int .i64 x.t, .int .i64 x.c, .slice LA ln lc, .slice BA bn bc] rfl rfl _ _ y1 size8 rfl (by simp [Value.oneCell']) ?_
          intro w7 hg7 hbut hbel)
        obtain ⟨e0, e1, e2, e3, e4, e5, e6, e7⟩ := cells8 hg7
        have hgg := HG.out
        have bw := hbel _ _ HB0.out (by omega)
        exact bodyPost_ret (v := .tuple #[.agg #[.int .i64 x.k, .int .i64 x.q, .int .i64 x.e, .int .i64 x.i, .int .i64 x.t, .int .i64 x.c, .slice LA ln lc, .slice BA bn bc], .bool true]) (by simp [results, Try.results21, go_sem, e0, e1, e2, e3, e4, e5, e6, e7]) rfl
          ⟨_, rfl, HI.out.below bw, bw⟩
      · have q1 : (x.q == s) = false := by simpa using hq
        have HQ := hidT hq
        clear hq
        go_wp2
        refine ⟨⟨j + 1, by omega, by go_num, hidT (fun i y hi hy => ?_), trivial⟩, by simp [intOf]; omega⟩
        by_cases hij : i = j
        · subst hij
          rw [HXX.out] at hy
          injection hy with hy
          subst hy
          simpa using HQ.out
        · exact HN.out i y (by omega) hy
    · obtain rfl : n = j := by omega
      have hr : none = R := by rw [← HR.out, got_idx, idx_none (fun i y hi hy => HN.out i y (by rw [HLEN.out] at hi; exact hi) hy)]; exact (List.getElem?_eq_none (Nat.le_refl _)).symm
      subst hr
      have y1 := T1.out
      go_wp2_with (
        refine wpList_stI rfl 28 _ _ rfl (g + 1) zcells rfl rfl _ _ y1 size8 rfl (by kernel_rfl) ?_
        intro w7 hg7 hbut hbel)
      obtain ⟨e0, e1, e2, e3, e4, e5, e6, e7⟩ := cells8 hg7
      have hgg := HG.out
      have bw := hbel _ _ HB0.out (by omega)
      exact bodyPost_ret (v := .tuple #[.agg zcells, .bool false]) (by simp [results, Try.results21, go_sem, e0, e1, e2, e3, e4, e5, e6, e7]) rfl
        ⟨_, rfl, IsItem.zero _, bw⟩

theorem freed_next {l : List Item.It} {j : Nat} {x : Item.It} (hx : l[j]? = some x) (s : Int) : Keep.freed (l.take (j + 1)) s = Keep.freed (l.take j) s ++ (if s < x.q then [x] else []) := by
  rw [List.take_add_one, hx]
  exact Keep.freed_snoc _ _ _
theorem freed_take_le (l : List Item.It) (j : Nat) (s : Int) : (Keep.freed (l.take j) s).length ≤ j := by
  unfold Keep.freed
  exact Nat.le_trans (List.length_filter_le _ _) (by rw [List.length_take]; omega)
set_option maxHeartbeats 2000000 in
theorem rfree_any (v : Value) (k : Keep.Kp) (s : Int) (w : World) (h : IsKeep w v k) (hS : k.l.length ≤ 65536) :
    Calls Try.prog 26 #[v, .int .i64 s] w (fun e w' => ∃ v', e = .returned v' ∧ IsKeep w' v' ⟨k.next, Keep.freed k.l s⟩ ∧ Below w.heap.size w w') := by
  obtain ⟨A, n, c, rfl, hX⟩ := h
  have hn := hX.le
  have hlen := hX.size
  obtain ⟨t0, t1, hb⟩ := two_alloc w (.cells #[.int .i64 k.next, .slice A n c] 24) (.cells kz 24)
  obtain ⟨W, hW⟩ : ∃ W, (w.alloc (.cells #[.int .i64 k.next, .slice A n c] 24)).alloc (.cells kz 24) = W := ⟨_, rfl⟩
  rw [hW] at t0 t1 hb
  obtain ⟨g, hg⟩ : ∃ g, w.heap.size = g := ⟨_, rfl⟩
  have HG := hidT hg
  rw [hg] at t0 t1
  have hn6 : n ≤ 65536 := by rw [← hlen]; exact hS
  have HW := hidT hW
  have T0 := hidT t0
  have T1 := hidT t1
  have HB0 := hidT hb
  have HX := hidT hX
  have HLEN := hidT hlen
  clear t0 t1 hb hX hlen hW hS
  go_enter Try.func26, Try.ntmps26
  go_wp2_with fail
  rw [HW.out]
  clear hg
  go_loopw [5, 6] (fun vl i wr => ∃ (j m : Nat) (B : Option Addr) (d : Nat) (us : List (Array Value)), j ≤ n ∧ i = .int .i64 j ∧ vl = .slice B m d ∧ m ≤ j ∧ Hid (OwnK 8 wr W.heap.size 28 (.slice B m d) m us) ∧ Hid (AreI w us (Keep.freed (k.l.take j) s)) ∧ Hid (Below W.heap.size W wr)) (fun _ i _ => n - (intOf i).toNat)
  case atStart => exact ⟨0, 0, none, 0, [], Nat.zero_le _, rfl, rfl, Nat.le_refl _, hidT (OwnK.nil_ _ _ _ _), hidT (by simp [Keep.freed]; exact AreI.nil_ _), hidT (Below.refl _ _)⟩
  case round =>
    obtain ⟨j, m, B, d, us, hj, rfl, rfl, hmj, HO, HA, HB⟩ := hrel
    obtain ⟨i0, i1⟩ := cells2 (keepH T0.out HB.out)
    by_cases hjn : j < n
    · obtain ⟨b, o, x, LA, ln, lc, BA, bn, bc, rfl, hx, hi, hcs⟩ := HX.out.told hjn
      obtain ⟨c0, c1, c2, c3, c4, c5, c6, c7⟩ := hcs _ (bthen HB0.out HB.out)
      have x1 : (0 : Int) ≤ (j : Int) := by omega
      have x2 : (j : Int) < (n : Int) := by omega
      have HF := hidT (freed_next hx s)
      have HI := hidT hi
      clear hcs hi hx
      by_cases hq : s < x.q
      · have q1 : decide (s < x.q) = true := by simpa using hq
        have hf := HF.out
        rw [if_pos hq] at hf
        have HFF := hidT hf
        clear hq hf
        have HRD := hidT (RdK.lit (k := 8) wr 28 (0, 0) #[.int .i64 x.k, .int .i64 x.q, .int .i64 x.e, .int .i64 x.i, .int .i64 x.t, .int .i64 x.c, .slice LA ln lc, .slice BA bn bc] [#[.int .i64 x.k, .int .i64 x.q, .int .i64 x.e, .int .i64 x.i, .int .i64 x.t, .int .i64 x.c, .slice LA ln lc, .slice BA bn bc]] (AllK.one rfl (by simp [Value.oneCell'])) (by simp [flat]) 1 rfl (by simp only [maxLen]; omega) wr.heap.size rfl)
        have HN := hidT (nkeep wr (.cells #[.int .i64 x.k, .int .i64 x.q, .int .i64 x.e, .int .i64 x.i, .int .i64 x.t, .int .i64 x.c, .slice LA ln lc, .slice BA bn bc] 28))
        have HSZ := hidT (Nat.le_trans HB.out.size HN.out.size)
        go_wp2_with (
          at_builtin
          refine wpList_appK 8 (by omega) rfl (.tmp 22) (.tmp 28) 22 rfl W.heap.size 28 _ 96 info8 rfl (by omega) Try.underlying22 (.slice B m d) m us rfl (HO.out.later HN.out) (some ⟨wr.heap.size, 0, none⟩) 1 1 [#[.int .i64 x.k, .int .i64 x.q, .int .i64 x.e, .int .i64 x.i, .int .i64 x.t, .int .i64 x.c, .slice LA ln lc, .slice BA bn bc]] rfl HRD.out (by omega) HSZ.out ?_
          intro v9 w9 hO9 hb9 hg9)
        obtain ⟨A9, c9, rfl, _⟩ := OwnK.rd hO9
        refine ⟨⟨j + 1, m + 1, A9, c9, _, by omega, by go_num, rfl, by omega, hidT hO9, hidT ?_, hidT ((bthen HB.out HN.out).trans hb9)⟩, by simp [intOf]; omega⟩
        rw [HFF.out]
        exact HA.out.app (AreI.one HI.out)
      · have q1 : decide (s < x.q) = false := by simpa using hq
        have hf := HF.out
        rw [if_neg hq, List.append_nil] at hf
        have HFF := hidT hf
        clear hq hf
        go_wp2
        exact ⟨⟨j + 1, m, B, d, us, by omega, by go_num, rfl, by omega, HO, hidT (by rw [HFF.out]; exact HA.out), HB⟩, by simp [intOf]; omega⟩
    · obtain rfl : n = j := by omega
      have y1 := keepH T1.out HB.out
      go_wp2_with (
        refine wpList_stI rfl 24 _ _ rfl (g + 1) #[.int .i64 k.next, .slice B m d] rfl rfl _ _ y1 size2 rfl (by simp [Value.oneCell']) ?_
        intro w7 hg7 hbut hbel)
      obtain ⟨e0, e1⟩ := cells2 hg7
      have hgg := HG.out
      have bw := hbel _ _ (bthen HB0.out HB.out) (by omega)
      have hlt := blk_lt T1.out
      have hA := HA.out
      rw [List.take_of_length_le (by rw [HLEN.out]; exact Nat.le_refl _)] at hA
      exact bodyPost_ret (v := .agg #[.int .i64 k.next, .slice B m d]) (by simp [results, Try.results26, go_sem, e0, e1]) rfl
        ⟨_, rfl, ⟨B, m, d, rfl, us, (HO.out.but hlt hbut).same, hA.below bw⟩, bw⟩
end Go.Proofs.Ytgnaecifinlnmaa
