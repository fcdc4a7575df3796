/- What win's Peek and Gap come to. -/
import Derived.Test.YtkkkfaelpmmffaaWin3
set_option maxRecDepth 100000
namespace Go.Proofs.Ytkkkfaelpmmffaa
open Go.RowKit
set_option linter.unusedVariables false

theorem place_next (A : Option Addr) (n c : Nat) (k : Keep.Kp) (w : World) (h : RdX w A n c k.l) (hr : Win.rises k.next k.l = true) :
    Calls Try.prog 32 #[.slice A n c, .int .i64 k.next] w (fun e w' => e = .returned (.tuple #[.int .i64 0, .bool (Win.peek k).isSome]) ∧ Below w.heap.size w w') := by
  have := place_any A n c k.l k.next w h
  rw [Win.at_next hr, Win.hit_next hr] at this
  exact this
set_option maxHeartbeats 2000000 in
theorem wpeek_any (v : Value) (k : Keep.Kp) (w : World) (h : IsKeep w v k) (hr : Win.rises k.next k.l = true) (hS : SmallL k.l) :
    Calls Try.prog 19 #[v] w (GetFr w (Win.peek k)) := by
  obtain ⟨A, n, c, rfl, hX⟩ := h
  have hn := hX.le
  obtain ⟨t0, t2, hb⟩ := two_alloc w (.cells #[.int .i64 k.next, .slice A n c] 24) (.cells zcells 28)
  have hc := place_next A n c k _ (hX.below hb) hr
  obtain ⟨i0, i1⟩ := cells2 t0
  obtain ⟨W, hW⟩ : ∃ W, (w.alloc (.cells #[.int .i64 k.next, .slice A n c] 24)).alloc (.cells zcells 28) = W := ⟨_, rfl⟩
  rw [hW] at t0 t2 hb hc i0 i1
  have HW := hidT hW
  have HC := hidT hc
  clear hW hc
  have T0 := hidT t0
  have T2 := hidT t2
  have HB := hidT hb
  have HX := hidT hX
  have HSM := hidT hS
  obtain ⟨g, hg⟩ : ∃ g, w.heap.size = g := ⟨_, rfl⟩
  have HG := hidT hg
  rw [hg] at i0 i1
  clear t0 t2 hb hX hS
  cases hp : Win.peek k with
  | none =>
    rw [hp] at HC
    clear hp
    go_enter Try.func19, Try.ntmps19
    go_wp2_with fail
    rw [HW.out]
    clear hg
    with_reducible refine HC.out.mono ?_
    rintro e w5 ⟨rfl, hb5⟩
    have y2 := keepH T2.out hb5
    rw [HG.out] at y2
    have HB5 := hidT (bthen HB.out hb5)
    clear hb5 i0 i1
    go_wp2_with (
      refine wpList_stI rfl 28 _ _ rfl (g + 1) zcells rfl rfl _ _ y2 size8 rfl (by kernel_rfl) ?_
      intro w7 hg7 hbut hbel)
    obtain ⟨e0, e1, e2, e3, e4, e5, e6, e7⟩ := cells8 hg7
    have hgg := HG.out
    exact bodyPost_ret (v := .tuple #[.agg zcells, .bool false]) (by simp [results, Try.results19, go_sem, e0, e1, e2, e3, e4, e5, e6, e7]) rfl
      ⟨_, rfl, FrI.zero _ _, hbel _ _ HB5.out (by omega)⟩
  | some x =>
    rw [hp] at HC
    obtain ⟨r, el, eq, _⟩ := Win.peek_some hp
    have hn0 : 0 < n := by rw [← HX.out.size, el]; simp
    obtain ⟨b, o, x', LA, ln, lc, BA, bn, bc, rfl, hx, hi, hcs⟩ := HX.out.told hn0
    rw [el] at hx
    obtain rfl : x' = x := by simpa using hx.symm
    have hsm := HSM.out.2 x' (by rw [el]; exact List.mem_cons_self)
    have x2 : (0 : Int) < (n : Int) := by omega
    have HI := hidT hi
    have HCS := hidT hcs
    have HSX := hidT hsm
    clear hx hi hcs hsm hp el eq
    go_enter Try.func19, Try.ntmps19
    go_wp2_with fail
    rw [HW.out]
    clear hg
    with_reducible refine HC.out.mono ?_
    rintro e w5 ⟨rfl, hb5⟩
    have y0 := keepH T0.out hb5
    have y2 := keepH T2.out hb5
    rw [HG.out] at y0 y2
    clear i0 i1
    obtain ⟨i0, i1⟩ := cells2 y0
    have HB5 := hidT (bthen HB.out hb5)
    have Y2 := hidT y2
    obtain ⟨c0, c1, c2, c3, c4, c5, c6, c7⟩ := HCS.out w5 HB5.out
    simp only [Nat.zero_mul, Nat.add_zero] at c0 c1 c2 c3 c4 c5 c6 c7
    have hown := wown_any _ x' w5 (HI.out.below HB5.out) HSX.out.1 HSX.out.2
    clear hb5 y0 y2
    go_wp2_with fail
    with_reducible refine hown.mono ?_
    rintro e w6 ⟨v6, rfl, hF6, hb6⟩
    obtain ⟨LA', ln', lc', BA', bn', bc', rfl, hl6, hbd6, hla6, hba6⟩ := id hF6
    have y6 := keepH Y2.out hb6
    have HB6 := hidT (bthen HB5.out hb6)
    have h25 := blk_lt Y2.out
    have HF6 := hidT hF6
    have HSZ := hidT HB5.out.size
    clear hl6 hbd6 hla6 hba6 hb6 c0 c1 c2 c3 c4 c5 c6 c7 i0 i1 hown hF6
    go_wp2_with (
      refine wpList_stI rfl 28 _ _ rfl (g + 1) #[.int .i64 x'.k, .int .i64 x'.q, .int .i64 x'.e, .int .i64 x'.i, .int .i64 x'.t, .int .i64 x'.c, .slice LA' ln' lc', .slice BA' bn' bc'] rfl rfl _ _ y6 size8 rfl (by simp [Value.oneCell']) ?_
      intro w7 hg7 hbut hbel)
    obtain ⟨e0, e1, e2, e3, e4, e5, e6, e7⟩ := cells8 hg7
    have hgg := HG.out
    exact bodyPost_ret (v := .tuple #[.agg #[.int .i64 x'.k, .int .i64 x'.q, .int .i64 x'.e, .int .i64 x'.i, .int .i64 x'.t, .int .i64 x'.c, .slice LA' ln' lc', .slice BA' bn' bc'], .bool true]) (by simp [results, Try.results19, go_sem, e0, e1, e2, e3, e4, e5, e6, e7]) rfl
      ⟨_, rfl, (HF6.out.but h25 hbut).mono HSZ.out, hbel _ _ HB6.out (by omega)⟩

/-- A gap is told. -/
def GapIs (w : World) (p : Int × Int) (e : Ending) (w' : World) : Prop := e = .returned (.tuple #[.int .i64 p.1, .int .i64 p.2]) ∧ Below w.heap.size w w'
set_option maxHeartbeats 4000000 in
theorem wgap_any (v : Value) (k : Keep.Kp) (top : Int) (w : World) (h : IsKeep w v k) (hr : Win.right k = true) :
    Calls Try.prog 23 #[v, .int .i64 top] w (GapIs w (Win.gap k top)) := by
  obtain ⟨A, n, c, rfl, hX⟩ := h
  have hn := hX.le
  have hlen := hX.size
  obtain ⟨⟨r1, r2, r3⟩, hm, hri⟩ := Win.right_iff.1 hr
  rw [hlen] at r1
  have t0 := alloc_at w (.cells #[.int .i64 k.next, .slice A n c] 24) _ rfl
  have hb := nkeep w (.cells #[.int .i64 k.next, .slice A n c] 24)
  obtain ⟨W, hW⟩ : ∃ W, w.alloc (.cells #[.int .i64 k.next, .slice A n c] 24) = W := ⟨_, rfl⟩
  rw [hW] at t0 hb
  have HW := hidT hW
  have hrl := Win.run_le k.next k.l
  rw [hlen] at hrl
  obtain ⟨R, hR⟩ : ∃ R, Win.run k.next k.l = R := ⟨_, rfl⟩
  rw [hR] at hrl
  obtain ⟨T, hT⟩ : ∃ T, Win.topOf top = T := ⟨_, rfl⟩
  obtain ⟨L, hL⟩ : ∃ L, Win.lst k top = L := ⟨_, rfl⟩
  have hLT := Win.lst_le k top
  have hTF := (Win.topOf_le top).1
  rw [hT] at hTF hLT
  rw [hL] at hLT
  have qT : (if (4611686018427387904 : Int) < top then (4611686018427387904 : Int) else top) = T := by rw [← hT]; rfl
  obtain ⟨G, hG⟩ : ∃ G, Win.gap k top = G := ⟨_, rfl⟩
  rw [hG]
  have hGG : G = if L < k.next + (R : Int) then (0, 0) else (k.next + (R : Int), if L - (k.next + (R : Int)) + 1 < 64 then L - (k.next + (R : Int)) + 1 else 64) := by
    rw [← hG, ← hL, ← hR]; rfl
  have HGG := hidT hGG
  have HMAY := hidT hm
  have HRI := hidT hri
  have HR := hidT hR
  have HT := hidT hT
  have HL := hidT hL
  have HX := hidT hX
  have HLEN := hidT hlen
  have T0 := hidT t0
  have HB := hidT hb
  clear hm hri hR hL hT hX t0 hb hW hG hGG hr hlen
  go_enter Try.func23, Try.ntmps23
  go_wp2_with fail
  rw [HW.out]
  obtain ⟨g, hg⟩ : ∃ g, w.heap.size = g := ⟨_, rfl⟩
  rw [hg]
  rw [hg] at T0
  have HG := hidT hg
  clear hg
  go_loopw [6] (fun i wr => ∃ j : Nat, j ≤ R ∧ i = .int .i64 j ∧ Hid (Below W.heap.size W wr)) (fun i _ => R + 1 - (intOf i).toNat)
  case atStart => exact ⟨0, Nat.zero_le _, rfl, hidT (Below.refl _ _)⟩
  case round =>
    obtain ⟨j, hj, rfl, HBr⟩ := hrel
    obtain ⟨i0, i1⟩ := cells2 (keepH T0.out HBr.out)
    have hbw := bthen HB.out HBr.out
    have s1 : IntKind.i64.wrap (k.next + (j : Int)) = k.next + (j : Int) := IntWalk.i64_in _ (by omega)
    have s1' : wrap64 (k.next + (j : Int)) = k.next + (j : Int) := IntWalk.wrap64_in _ (by omega)
    have x0 : (0 : Int) ≤ (j : Int) := by omega
    have hmore := Win.run_more (s := k.next) (l := k.l) (j := j) (by rw [HR.out]; exact hj)
    rw [HR.out] at hmore
    by_cases hjn : j < n
    · obtain ⟨b, o, x, LA, ln, lc, BA, bn, bc, rfl, hx, hi, hcs⟩ := HX.out.told hjn
      have c1 := (hcs wr hbw).2.1
      have x2 : (j : Int) < (n : Int) := by omega
      have x3 : decide ((j : Int) < (n : Int)) = true := by simpa using x2
      have x4 : decide (j < n) = true := by simpa using hjn
      obtain ⟨m1, m2⟩ := Win.may_q (HMAY.out x (List.mem_of_getElem? hx))
      by_cases hq : x.q = k.next + (j : Int)
      · have q1 : (x.q == k.next + (j : Int)) = true := by simpa using hq
        have hjR : j < R := hmore.2 ⟨x, hx, hq⟩
        have HBW := hidT HBr.out
        clear hcs hi hx hq hmore hbw
        go_wp2_with fail
        go_quiet (fail)
        go_wp2
        exact ⟨⟨j + 1, by omega, by go_num, hidT (bthen HBW.out (drawn_below _ _))⟩, by simp [intOf]; omega⟩
      · have q1 : (x.q == k.next + (j : Int)) = false := by simpa using hq
        have hjR : j = R := by
          rcases Nat.lt_or_ge j R with h | h
          · obtain ⟨y, h1, h2⟩ := hmore.1 h
            rw [hx] at h1
            injection h1 with h1
            subst h1
            exact absurd h2 hq
          · omega
        subst hjR
        have hL : (if x.q - 1 < T then x.q - 1 else T) = L := by
          rw [← HL.out, ← HT.out]
          unfold Win.lst
          rw [HR.out, hx]
        have s2 : IntKind.i64.wrap (x.q - 1) = x.q - 1 := IntWalk.i64_in _ (by omega)
        clear hcs hi hx hq hmore
        by_cases hLF : L < k.next + (j : Int)
        · have q2 : decide (L < k.next + (j : Int)) = true := by simpa using hLF
          have e := HGG.out
          rw [if_pos hLF] at e
          clear hLF
          subst e
          go_wp2_with fail
          go_quiet (fail)
          go_wp2
          go_ret2
          exact ⟨rfl, bthen hbw (drawn_below _ _)⟩
        · have q2 : decide (L < k.next + (j : Int)) = false := by simpa using hLF
          have e := HGG.out
          rw [if_neg hLF] at e
          have s3 : IntKind.i64.wrap (L - (k.next + (j : Int))) = L - (k.next + (j : Int)) := IntWalk.i64_in _ (by omega)
          have s4 : IntKind.i64.wrap (L - (k.next + (j : Int)) + 1) = L - (k.next + (j : Int)) + 1 := IntWalk.i64_in _ (by omega)
          obtain ⟨M, hM⟩ : ∃ M, (if L - (k.next + (j : Int)) + 1 < 64 then L - (k.next + (j : Int)) + 1 else 64) = M := ⟨_, rfl⟩
          have hM2 : (if (64 : Int) < L - (k.next + (j : Int)) + 1 then (64 : Int) else L - (k.next + (j : Int)) + 1) = M := by rw [← hM]; split <;> split <;> omega
          rw [hM] at e
          clear hM hLF
          subst e
          go_wp2_with fail
          go_quiet (fail)
          go_wp2
          go_ret2
          exact ⟨rfl, bthen hbw (drawn_below _ _)⟩
    · have hjR : j = R := by omega
      have hjn2 : n = j := by omega
      subst hjR
      subst hjn2
      have x3 : decide ((n : Int) < (n : Int)) = false := by simp
      have hL : T = L := by
        rw [← HL.out, ← HT.out]
        unfold Win.lst
        rw [HR.out, List.getElem?_eq_none (by rw [HLEN.out]; exact Nat.le_refl _)]
      subst hL
      clear hmore
      by_cases hLF : T < k.next + (n : Int)
      · have q2 : decide (T < k.next + (n : Int)) = true := by simpa using hLF
        have e := HGG.out
        rw [if_pos hLF] at e
        clear hLF
        subst e
        go_wp2_with fail
        go_quiet (fail)
        go_wp2
        go_ret2
        exact ⟨rfl, bthen hbw (drawn_below _ _)⟩
      · have q2 : decide (T < k.next + (n : Int)) = false := by simpa using hLF
        have e := HGG.out
        rw [if_neg hLF] at e
        have s3 : IntKind.i64.wrap (T - (k.next + (n : Int))) = T - (k.next + (n : Int)) := IntWalk.i64_in _ (by omega)
        have s4 : IntKind.i64.wrap (T - (k.next + (n : Int)) + 1) = T - (k.next + (n : Int)) + 1 := IntWalk.i64_in _ (by omega)
        obtain ⟨M, hM⟩ : ∃ M, (if T - (k.next + (n : Int)) + 1 < 64 then T - (k.next + (n : Int)) + 1 else 64) = M := ⟨_, rfl⟩
        have hM2 : (if (64 : Int) < T - (k.next + (n : Int)) + 1 then (64 : Int) else T - (k.next + (n : Int)) + 1) = M := by rw [← hM]; split <;> split <;> omega
        rw [hM] at e
        clear hM hLF
        subst e
        go_wp2_with fail
        go_quiet (fail)
        go_wp2
        go_ret2
        exact ⟨rfl, bthen hbw (drawn_below _ _)⟩
end Go.Proofs.Ytkkkfaelpmmffaa
