/- The law SeqrSaid, walked. -/
import Derived.Test.YtdchgnmkeefffaaSqW
import Derived.Test.YtdchgnmkeefffaaSqSaidM
import Derived.Test.YtdchgnmkeefffaaSqHigh
import Derived.Test.YtdchgnmkeefffaaSqRA
import Derived.Test.YtdchgnmkeefffaaLMayAll
import Derived.Test.YtdchgnmkeefffaaSqStay
import Derived.Deep.CutRange
set_option maxRecDepth 100000
namespace Go.Proofs.Ytdchgnmkeefffaa
open Go.RowKit
set_option linter.unusedVariables false

theorem said_facts {t : Seqr.Tn} {ls : List Lane.Ln} {q : Int} {it : Item.It} (h : Seqr.say t ls t.who q = some it) :
    Lane.control (Seqr.laneAt ls t.who) = none ∧ Seqr.saidL ls t.who (q - t.used) ≠ [] ∧ it = Seqr.orderOf (Seqr.saidL ls t.who (q - t.used)) (if q ≤ t.used + (Seqr.saidL ls t.who (q - t.used)).length then 1 else 0) := by
  cases hc : (Lane.control (Seqr.laneAt ls t.who)).isSome with
  | true => rw [Seqr.say_waits hc] at h; cases h
  | false =>
    by_cases hl : Seqr.saidL ls t.who (q - t.used) = []
    · rw [Seqr.say_none hl] at h; cases h
    · rw [Seqr.say_some rfl hc hl] at h
      injection h with h
      refine ⟨?_, hl, h.symm⟩
      cases hcc : Lane.control (Seqr.laneAt ls t.who) with
      | none => rfl
      | some e => rw [hcc] at hc; cases hc
theorem top_I64 {es : List Lane.En} (h : ∀ x ∈ es, EnOk x) : ∀ lo, I64 lo → I64 (Lane.top lo es) := by
  induction es with
  | nil => intro lo h; exact h
  | cons x es ih => intro lo _; exact ih (fun y hy => h y (List.mem_cons_of_mem _ hy)) _ (h x List.mem_cons_self).2
theorem last_I64 {l : Lane.Ln} (h : LnOk l) : I64 (Lane.last l) := by
  unfold Lane.last
  split
  · exact h.2.1
  · exact top_I64 h.1 0 ⟨by omega, by omega⟩
theorem last_nonneg {l : Lane.Ln} (h : Lane.right l = true) : 0 ≤ Lane.last l := Int.le_trans (Lane.rises_top (Lane.right_iff.1 h).1) (Lane.last_top h)
theorem fewL_cons {l : Lane.Ln} (h : fewL l = true) {e : Lane.En} (he : SmallE e) : SmallL ⟨l.es ++ [e], l.p⟩ := by
  obtain ⟨hs, h1, h2, h3⟩ := fewL_small h
  refine ⟨by show (l.es ++ [e]).length ≤ 65536; rw [List.length_append]; simp only [List.length_cons, List.length_nil]; omega, fun x hx => ?_, hs.2.2⟩
  rcases List.mem_append.1 hx with h4 | h4
  · exact hs.2.1 x h4
  · rw [List.mem_singleton.1 h4]; exact he
theorem mu_set {ls : List Lane.Ln} {i : Nat} {x : Lane.Ln} {k : Nat} (h : Seqr.size x ≤ Seqr.size (Seqr.laneAt ls i) + k) : Seqr.mu (ls.set i x) ≤ Seqr.mu ls + k := by
  by_cases hi : i < ls.length
  · induction ls generalizing i with
    | nil => simp at hi
    | cons l ls ih =>
      unfold Seqr.mu
      cases i with
      | zero =>
        have h : Seqr.size x ≤ Seqr.size l + k := h
        simp only [List.set_cons_zero, List.map_cons, List.sum_cons]; omega
      | succ i =>
        have h : Seqr.size x ≤ Seqr.size (Seqr.laneAt ls i) + k := h
        have := ih h (by simpa using hi)
        unfold Seqr.mu at this
        simp only [List.set_cons_succ, List.map_cons, List.sum_cons]; omega
  · rw [List.set_eq_of_length_le (by omega)]; omega
set_option maxHeartbeats 16000000 in
theorem said_any (who used : Int) (A : Option Addr) (n c : Nat) (ls : List Lane.Ln) (qb : Int) (w : World) (h : RdL (fun _ => True) w A n c ls) (hq : 0 ≤ qb ∧ qb < 256) (hlo : LsOk ls) :
    Calls Try.prog 5 #[.agg #[.int .i64 who, .int .i64 used], .slice A n c, .int .u8 qb] w (Yes w) := by
  have HLO := hidT hlo
  clear hlo
  have hle := h.le
  have HLEN := hidT h.size
  obtain ⟨W, hW⟩ : ∃ W, w.alloc (.cells #[.int .i64 who, .int .i64 used] 23) = W := ⟨_, rfl⟩
  have y0 := alloc_at w (.cells #[.int .i64 who, .int .i64 used] 23) _ rfl
  have n0 := nkeep w (.cells #[.int .i64 who, .int .i64 used] 23)
  rw [hW] at y0 n0
  have HW := hidT hW
  obtain ⟨p, hp⟩ : ∃ p, w.heap.size = p := ⟨_, rfl⟩
  rw [hp] at y0
  have Y0 := hidT y0
  have B0 := hidT n0
  have R0 := hidT (h.below n0)
  clear h y0 n0 hW
  go_enter Try.func5, Try.ntmps5
  go_wp2_with fail
  rw [HW.out]
  clear hp
  with_reducible refine (sqShown_any W).mono ?_
  rintro e w1 ⟨rfl, hb1⟩
  have Y1 := hidT (keepH Y0.out hb1)
  have B1 := hidT (bthen B0.out hb1)
  have R1 := hidT (R0.out.below hb1)
  obtain ⟨v0, v1⟩ := cells2 Y1.out
  clear hb1
  cases hm : mayS who used n ls with
  | false =>
    have hc := rmayS_any who used A n c ls w1 R1.out false hm
    go_wp2_with fail
    with_reducible refine hc.mono ?_
    rintro e w2 ⟨rfl, hb2⟩
    go_wp2
    go_ret
    exact ⟨rfl, bthen B1.out hb2⟩
  | true =>
    have hc := rmayS_any who used A n c ls w1 R1.out true hm
    obtain ⟨wn, rfl, hwn, hok, hsm, hn64, hn2, hu0, hu1, hmu, hfew⟩ := mayS_facts hm HLEN.out
    have HFEW := hidT hfew
    have HSM := hidT hsm
    have HOK := hidT hok
    have HMU := hidT hmu
    clear hm hok hsm hmu hfew
    go_wp2_with fail
    with_reducible refine hc.mono ?_
    rintro e w2 ⟨rfl, hb2⟩
    have Y2 := hidT (keepH Y1.out hb2)
    have B2 := hidT (bthen B1.out hb2)
    have R2 := hidT (R1.out.below hb2)
    clear hb2 hc v0 v1
    obtain ⟨v0, v1⟩ := cells2 Y2.out
    obtain ⟨Rq, hRq⟩ : ∃ Rq, qb % 64 = Rq := ⟨_, rfl⟩
    have q0 : 0 ≤ Rq := by rw [← hRq]; exact Int.emod_nonneg _ (by decide)
    have q1 : Rq < 64 := by rw [← hRq]; exact Int.emod_lt_of_pos _ (by decide)
    have HQ0 := hidT q0
    have HQ1 := hidT q1
    have qa := hq.1
    have qb2 := hq.2
    clear hq
    go_wp2_with fail
    obtain ⟨Q, hQ⟩ : ∃ Q, 1 + Rq = Q := ⟨_, rfl⟩
    try rw [hRq]
    rw [hQ]
    have HQ : Hid (1 ≤ Q ∧ Q ≤ 64) := hidT (by have := HQ0.out; have := HQ1.out; omega)
    clear hQ hRq q0 q1 qa qb2
    obtain ⟨v0, v1⟩ := cells2 Y2.out
    have hc := sqSay_any ⟨wn, used⟩ A n c ls wn Q w2 R2.out HSM.out hn64 hwn HQ.out ⟨hu0, by show used ≤ 2305843009213693952; omega⟩
    go_wp2_with fail
    with_reducible refine hc.mono ?_
    rintro e w5 ⟨v, rfl, hi, hb5⟩
    have Y3 := hidT (keepH Y2.out hb5)
    have HB3 := hidT (bthen B2.out hb5)
    cases hsay : Seqr.say ⟨wn, used⟩ ls wn Q with
    | none =>
      rw [hsay] at hi
      obtain ⟨LA, ln, lc, BA, bn, bc, rfl, _, _, _⟩ := hi
      simp only [Option.isSome_none]
      have hbF := bthen HB3.out (nkeep w5 (.cells #[.int .i64 (Option.getD none Item.It.zero).k, .int .i64 (Option.getD none Item.It.zero).q, .int .i64 (Option.getD none Item.It.zero).e, .int .i64 (Option.getD none Item.It.zero).i, .int .i64 (Option.getD none Item.It.zero).t, .int .i64 (Option.getD none Item.It.zero).c, .slice LA ln lc, .slice BA bn bc] 35))
      have HBF := hidT hbF
      clear hc hsay v0 v1 hbF hb5
      go_wp2
      go_ret
      exact ⟨rfl, HBF.out⟩
    | some it0 =>
      rw [hsay] at hi
      obtain ⟨hcon, hne, hit⟩ := said_facts hsay
      obtain ⟨L, hL⟩ : ∃ L, Seqr.saidL ls wn (Q - used) = L := ⟨_, rfl⟩
      simp only at hcon hne hit
      rw [hL] at hne hit
      obtain ⟨IX, hIX⟩ : ∃ IX : Int, (if Q ≤ used + (L.length : Int) then (1 : Int) else 0) = IX := ⟨_, rfl⟩
      rw [hIX] at hit
      subst hit
      obtain ⟨LA, ln, lc, BA, bn, bc, rfl, hl, hbb, _⟩ := hi
      simp only [Option.isSome_some, Option.getD_some, Seqr.orderOf] at hl hbb ⊢
      have hln : L.length = ln := RdI.size hl
      have hlenL := Seqr.saidL_length (ls := ls) (me := wn) (by rw [HLEN.out]; exact hwn) (Q - used)
      rw [hL] at hlenL
      have hmem : ∀ x ∈ L, 0 ≤ x ∧ x < (n : Int) := fun x hx => by
        rw [← hL] at hx
        have := Seqr.saidL_mem (by rw [HLEN.out]; exact hwn) hx
        rw [HLEN.out] at this
        exact this
      have hsort : L.Pairwise (fun a b => Seqr.rnd a wn n ≤ Seqr.rnd b wn n) := by
        rw [← hL]
        have := Seqr.saidL_sorted (ls := ls) (me := wn) (by rw [HLEN.out]; exact hwn) (Q - used)
        rw [HLEN.out] at this
        exact this
      have hpos : 0 < ln := by rw [← hln]; exact List.length_pos_iff.2 hne
      have hq1 := HQ.out.1
      have hq2 := HQ.out.2
      have hlq : used + (ln : Int) ≤ Q := by rw [← hln, hlenL]; omega
      obtain rfl : bn = 0 := by rw [← hbb.1]; rfl
      have n6 := nkeep w5 (.cells #[.int .i64 2, .int .i64 0, .int .i64 0, .int .i64 IX, .int .i64 0, .int .i64 0, .slice LA ln lc, .slice BA 0 bc] 35)
      have y6 := alloc_at w5 (.cells #[.int .i64 2, .int .i64 0, .int .i64 0, .int .i64 IX, .int .i64 0, .int .i64 0, .slice LA ln lc, .slice BA 0 bc] 35) _ rfl
      have Y6 := hidT (keepH Y3.out n6)
      have B6 := hidT (bthen HB3.out n6)
      have R6 := hidT (R2.out.below (bthen hb5 n6))
      have RL := hidT (RdV.below hl n6)
      have RB := hidT (hbb.below n6)
      obtain ⟨pt, hpt⟩ : ∃ p, w5.heap.size = p := ⟨_, rfl⟩
      rw [hpt] at y6
      have PT := hidT y6
      obtain ⟨X, hX⟩ : ∃ X, w5.alloc (.cells #[.int .i64 2, .int .i64 0, .int .i64 0, .int .i64 IX, .int .i64 0, .int .i64 0, .slice LA ln lc, .slice BA 0 bc] 35) = X := ⟨_, rfl⟩
      rw [hX] at n6 Y6 B6 R6 RL RB PT
      have HX := hidT hX
      have HPT : Hid (w.heap.size ≤ pt) := hidT (by have := HB3.out.size; omega)
      have HSAYL := hidT hL
      have HIX := hidT hIX
      have HCON := hidT hcon
      have HMEM := hidT hmem
      have HSORT := hidT hsort
      have HLNN := hidT hln
      have RL5 := hidT hl
      have RB5 := hidT hbb
      have R5 := hidT (R2.out.below hb5)
      have HPS := hidT hpt
      clear hc hsay hb5 hl hbb n6 y6 hX v0 v1 hlenL hL hIX hcon hne hmem hsort hln
      go_upto_region 6 with fail
      rw [HX.out]
      clear hpt
      obtain ⟨v0, v1⟩ := cells2 Y6.out
      obtain ⟨b0, o0, l, BB, mm, dd, EA, en, ec, rfl, hx, hla, hcs⟩ := R6.out.told hwn
      obtain ⟨c0, c1, c2, c3, c4⟩ := hcs X (Below.refl _ _)
      have hlane : Seqr.laneAt ls wn = l := Seqr.laneAt_of hx
      have hrl : Lane.right l = true := by rw [← hlane]; exact HOK.out.at_ _
      have hI := last_I64 (HLO.out l (List.mem_of_getElem? hx))
      have h0K := last_nonneg hrl
      have hhigh := high_any _ l X hla hrl
      have HLANE := hidT hlane
      have HRL := hidT hrl
      have HFL := hidT (fewR_at HFEW.out (List.mem_of_getElem? hx)).1
      obtain ⟨K, hK⟩ : ∃ K, Lane.last l = K := ⟨_, rfl⟩
      rw [hK] at hhigh hI h0K
      have HK := hidT hK
      obtain ⟨V, hV⟩ : ∃ V, IntKind.i64.wrap (K + 1) = V := ⟨_, rfl⟩
      have hVb : wrap64 (K + 1) = V := by unfold wrap64; rw [← hV, IntKind.wrap_i64]
      have HV := hidT hV
      have HI := hidT hI
      have H0K := hidT h0K
      have HHIGH := hidT hhigh
      have x1 : (0 : Int) ≤ (wn : Int) := by omega
      have x2 : (wn : Int) < (n : Int) := by omega
      clear hx hla hcs hlane hrl hI h0K hhigh hK
      go_wp2_with fail
      with_reducible refine HHIGH.out.mono ?_
      rintro e w7 ⟨rfl, hb7⟩
      have PT7 := hidT (keepH PT.out hb7)
      have Y7 := hidT (keepH Y6.out hb7)
      have R7 := hidT (R6.out.below hb7)
      have RL7 := hidT (RdV.below RL.out hb7)
      have RB7 := hidT (RB.out.below hb7)
      have B7 := hidT (bthen B6.out hb7)
      have HB7 := hidT hb7
      obtain ⟨j0, j1, j2, j3, j4, j5, j6, j7⟩ := cells8x PT7.out
      have f1 := no_frozen PT7.out 1
      clear c0 c1 c2 c3 c4 hb7
      have y8 : (w7.setCell ⟨pt, 1, none⟩ (.int .i64 V)).heap[pt]? = some (.cells #[.int .i64 2, .int .i64 V, .int .i64 0, .int .i64 IX, .int .i64 0, .int .i64 0, .slice LA ln lc, .slice BA 0 bc] 35 (0, 0)) := heap_setCell_same w7 pt 1 _ _ _ PT7.out
      have zb8 : But pt w7 (w7.setCell ⟨pt, 1, none⟩ (.int .i64 V)) := But.setCell w7 pt 1 _
      have hB8 : Below w.heap.size w (w7.setCell ⟨pt, 1, none⟩ (.int .i64 V)) := B7.out.setCell (p := ⟨pt, 1, none⟩) HPT.out _
      have HS5 : Hid (Below pt w5 X) := hidT (by have := nkeep w5 (.cells #[.int .i64 2, .int .i64 0, .int .i64 0, .int .i64 IX, .int .i64 0, .int .i64 0, .slice LA ln lc, .slice BA 0 bc] 35); rw [HX.out, HPS.out] at this; exact this)
      have hB58 : Below pt w5 (w7.setCell ⟨pt, 1, none⟩ (.int .i64 V)) := (HS5.out.trans (HB7.out.mono (by have := HS5.out.size; have := HPS.out; omega))).setCell (p := ⟨pt, 1, none⟩) (Nat.le_refl _) _
      have hB58 : Below w5.heap.size w5 (w7.setCell ⟨pt, 1, none⟩ (.int .i64 V)) := by rw [HPS.out]; exact hB58
      have P8 := hidT y8
      have Y8 := hidT (keepH Y3.out hB58)
      have R8 := hidT (R5.out.below hB58)
      have RL8 := hidT (RdV.below RL5.out hB58)
      have RB8 := hidT (RB5.out.below hB58)
      have B8 := hidT hB8
      clear y8 hB8 hB58 zb8
      go_upto_region 9 with fail
      generalize w7.setCell ⟨pt, 1, none⟩ (.int .i64 V) = Z at *
      clear v0 v1 j0 j1 j2 j3 j4 j5 j6 j7 f1
      obtain ⟨v0, v1⟩ := cells2 Y8.out
      obtain ⟨j0, j1, j2, j3, j4, j5, j6, j7⟩ := cells8x P8.out
      obtain ⟨b1, o1, l1, BB1, mm1, dd1, EA1, en1, ec1, hbo, hx, hla, hcs⟩ := R8.out.told hwn
      injection hbo with hbo
      injection hbo with e1 e2
      subst e1 e2
      obtain rfl : l1 = l := by rw [← HLANE.out]; exact (Seqr.laneAt_of hx).symm
      obtain ⟨c0, c1, c2, c3, c4⟩ := hcs Z (Below.refl _ _)
      have hmay := rmay_any (.agg #[.int .i64 2, .int .i64 V, .int .i64 0, .int .i64 IX, .int .i64 0, .int .i64 0, .slice LA ln lc, .slice BA 0 bc]) ⟨2, V, 0, IX, 0, 0, L, []⟩ Z ⟨LA, ln, lc, BA, 0, bc, rfl, RL8.out, RB8.out⟩
      clear hx hla hcs hV hVb
      by_cases hgot : 0 < l1.p.got
      · have q1 : decide (0 < l1.p.got) = true := by simpa using hgot
        have HBF := hidT B8.out
        clear hgot hmay
        go_wp2_with fail
        go_ret
        exact ⟨rfl, HBF.out⟩
      · have q1 : decide (0 < l1.p.got) = false := by simpa using hgot
        have HGOT := hidT hgot
        obtain ⟨ym, hym⟩ : ∃ ym, Item.may ⟨2, V, 0, IX, 0, 0, L, []⟩ = ym := ⟨_, rfl⟩
        rw [hym] at hmay
        have HYM := hidT hym
        clear hgot hym
        go_wp2_with fail
        with_reducible refine hmay.mono ?_
        rintro e w9 ⟨rfl, hb9⟩
        have Y9 := hidT (keepH Y8.out hb9)
        have P9 := hidT (keepH P8.out hb9)
        have R9 := hidT (R8.out.below hb9)
        have RL9 := hidT (RdV.below RL8.out hb9)
        have RB9 := hidT (RB8.out.below hb9)
        have B9 := hidT (bthen B8.out hb9)
        clear v0 v1 j0 j1 j2 j3 j4 j5 j6 j7 c0 c1 c2 c3 c4 hb9 hmay q1
        obtain ⟨v0, v1⟩ := cells2 Y9.out
        obtain ⟨j0, j1, j2, j3, j4, j5, j6, j7⟩ := cells8x P9.out
        cases ym with
        | false =>
          go_wp2_with fail
          go_ret
          exact ⟨rfl, B9.out⟩
        | true =>
          have hmy := HYM.out
          simp only [Item.may, Item.win, Bool.and_eq_true, decide_eq_true_eq] at hmy
          have hVK : V = K + 1 := by
            have h1 := hmy.1.1
            have h2 := HI.out
            have h3 := HV.out
            by_cases h4 : K + 1 ≤ 9223372036854775807
            · rw [IntWalk.i64_in _ (by have := H0K.out; omega)] at h3; omega
            · have h5 : K = 9223372036854775807 := by have := h2.2; omega
              rw [h5, IntKind.wrap_i64] at h3
              have h6 : V = -9223372036854775808 := by rw [← h3]; decide
              omega
          have hl64 : L.length ≤ 64 := by rw [HLNN.out]; omega
          clear hmy
          obtain ⟨it, hit⟩ : ∃ it : Item.It, it = ⟨2, V, 0, IX, 0, 0, L, []⟩ := ⟨_, rfl⟩
          have HITE := hidT hit
          obtain ⟨q, hq⟩ : ∃ q, w9.heap.size = q := ⟨_, rfl⟩
          have na := nkeep w9 (.cells #[.int .i64 (wn : Int)] 3)
          have ra : RdI (w9.alloc (.cells #[.int .i64 (wn : Int)] 3)) (some ⟨q, 0, none⟩) 1 1 [(wn : Int)] := RdV.lit w9 3 (0, 0) #[.int .i64 (wn : Int)] (is [(wn : Int)]) rfl 1 rfl (by simp only [maxLen]; omega) q hq
          have nb := nkeep (w9.alloc (.cells #[.int .i64 (wn : Int)] 3)) (.cells #[.int .i64 2, .int .i64 V, .int .i64 0, .int .i64 IX, .int .i64 0, .int .i64 0, .slice LA ln lc, .slice BA 0 bc] 35)
          have nab := bthen na nb
          have rb : RdX (fun _ => True) ((w9.alloc (.cells #[.int .i64 (wn : Int)] 3)).alloc (.cells #[.int .i64 2, .int .i64 V, .int .i64 0, .int .i64 IX, .int .i64 0, .int .i64 0, .slice LA ln lc, .slice BA 0 bc] 35)) (some ⟨q + 1, 0, none⟩) 1 1 [it] :=
            ⟨[#[.int .i64 2, .int .i64 V, .int .i64 0, .int .i64 IX, .int .i64 0, .int .i64 0, .slice LA ln lc, .slice BA 0 bc]], RdK.lit (k := 8) _ 35 (0, 0) #[.int .i64 2, .int .i64 V, .int .i64 0, .int .i64 IX, .int .i64 0, .int .i64 0, .slice LA ln lc, .slice BA 0 bc] [#[.int .i64 2, .int .i64 V, .int .i64 0, .int .i64 IX, .int .i64 0, .int .i64 0, .slice LA ln lc, .slice BA 0 bc]] (fun r hr => by
              obtain rfl : r = #[.int .i64 2, .int .i64 V, .int .i64 0, .int .i64 IX, .int .i64 0, .int .i64 0, .slice LA ln lc, .slice BA 0 bc] := by simpa using hr
              exact ⟨rfl, by simp [Value.oneCell']⟩) (by simp [flat]) 1 rfl (by simp only [maxLen]; omega) (q + 1) (by rw [size_alloc, hq]),
              AreX.one (by rw [hit]; exact ⟨LA, ln, lc, BA, 0, bc, rfl, RdV.below RL9.out nab, RB9.out.below nab, Within.any _ _, Within.any _ _⟩), Within.any _ _⟩
          obtain ⟨X9, hX9⟩ : ∃ X9, (w9.alloc (.cells #[.int .i64 (wn : Int)] 3)).alloc (.cells #[.int .i64 2, .int .i64 V, .int .i64 0, .int .i64 IX, .int .i64 0, .int .i64 0, .slice LA ln lc, .slice BA 0 bc] 35) = X9 := ⟨_, rfl⟩
          have ra2 := RdV.below ra nb
          rw [hX9] at nab rb ra2
          have HX9 := hidT hX9
          have R10 := hidT (R9.out.below nab)
          have Y10 := hidT (keepH Y9.out nab)
          have P10 := hidT (keepH P9.out nab)
          have RL10 := hidT (RdV.below RL9.out nab)
          have B10 := hidT (bthen B9.out nab)
          have hfl := HFL.out
          have hred : (Lane.read (Seqr.laneAt ls wn) it).1 = ⟨l1.es ++ [⟨2, V, [], L, decide (IX = 1)⟩], l1.p⟩ := by
            rw [HLANE.out, hit, Lane.read_order (l := l1) (it := ⟨2, V, 0, IX, 0, 0, L, []⟩) (.inl rfl) (by show ¬ V ≤ Lane.last l1; rw [HK.out]; omega) (by have := HGOT.out; omega)]
            simp
          have hxs1 : Seqr.readAll ls [((wn : Int), it)] = ls.set wn ⟨l1.es ++ [⟨2, V, [], L, decide (IX = 1)⟩], l1.p⟩ := by
            show Seqr.readOne ls ((wn : Int), it) = _
            unfold Seqr.readOne
            simp only [Int.toNat_natCast]
            rw [hred]
          have hsmN : SmallLs (Seqr.readAll ls [((wn : Int), it)]) := by rw [hxs1]; exact HSM.out.set wn (fewL_cons hfl ⟨by show L.length ≤ 65536; omega, by show ([] : List UInt8).length ≤ 65536; simp⟩)
          have hmuN : Seqr.mu (Seqr.readAll ls [((wn : Int), it)]) ≤ 414785 := by
            have h1 := mu_set (ls := ls) (i := wn) (x := ⟨l1.es ++ [⟨2, V, [], L, decide (IX = 1)⟩], l1.p⟩) (k := 65) (by
              rw [HLANE.out]
              unfold Seqr.size
              simp only [List.length_append, List.map_append, List.sum_append, List.map_cons, List.map_nil, List.sum_cons, List.sum_nil, List.length_cons, List.length_nil]
              omega)
            have := HMU.out
            rw [hxs1]; omega
          have hlenN : (Seqr.readAll ls [((wn : Int), it)]).length = n := by rw [Seqr.readAll_length]; exact HLEN.out
          have hc := readAll_any (some ⟨b0, o0, none⟩) n c ls (some ⟨q, 0, none⟩) 1 1 [(wn : Int)] (some ⟨q + 1, 0, none⟩) 1 [it] X9 R10.out ra2 rb (fun x hx => by rw [List.mem_singleton.1 hx]; omega)
            (fun k hk => by
              rcases (show k = 0 ∨ k = 1 by omega) with rfl | rfl
              · exact HSM.out
              · exact hsmN) (fun x hx => by rw [List.mem_singleton.1 hx, hit]; exact ⟨by show ([] : List UInt8).length ≤ 65536; simp, by show L.length ≤ 65536; omega⟩) hn64 (by omega)
          have hsw := Seqr.said_walk (t := ⟨wn, used⟩) (ls := ls) (it := it) (most := Q - used) HOK.out HCON.out (by rw [hit]) (by rw [hit, HLANE.out, HK.out]; show K < V; omega) (by rw [HLANE.out]; have := HGOT.out; omega) (by rw [hit]; exact HYM.out) (by rw [hit]; exact HSAYL.out.symm)
          have hzip : ([(wn : Int)] : List Int).zip [it] = [((wn : Int), it)] := rfl
          rw [hzip] at hc
          have hxat : Seqr.laneAt (Seqr.readAll ls [((wn : Int), it)]) wn = ⟨l1.es ++ [⟨2, V, [], L, decide (IX = 1)⟩], l1.p⟩ := by rw [hxs1, Seqr.laneAt_same (by rw [HLEN.out]; exact hwn)]
          obtain ⟨xs, hxs⟩ : ∃ xs, Seqr.readAll ls [((wn : Int), it)] = xs := ⟨_, rfl⟩
          rw [hxs] at hc hsw hsmN hmuN hlenN hxat
          obtain ⟨⟨bw, bu⟩, m, d, d2, hwalk, hsrc, hfin, hless, hml, hokN⟩ := hsw
          have HWALK := hidT hwalk
          have HSRC : Hid (d.map (·.src) = L) := hidT (by rw [hsrc, hit])
          have HFIN : Hid (IX ≠ 1 → d2 = [] ∧ bw = wn ∧ bu = used + (L.length : Int)) := hidT fun h => by
            have h1 := hfin (by rw [hit]; exact h)
            rw [hit] at h1
            have h2 := h1.2
            simp only [Seqr.Tn.mk.injEq] at h2
            exact ⟨h1.1, h2.1, h2.2⟩
          have HLESS := hidT hless
          have HML := hidT (hml.trans HLEN.out)
          have HOKN := hidT hokN
          have HSMN := hidT hsmN
          have HMUN := hidT hmuN
          have HLENN := hidT hlenN
          have HXAT := hidT hxat
          obtain ⟨g0, g1, g2, g3, g4, g5, g6, g7⟩ := cells8x (keepH P9.out na)
          clear hVK hl64 hxs1 hred hsmN hmuN hlenN hwalk hsrc hfin hless hml hokN hxat hzip hX9 ra rb ra2 na nb nab hfl hit hxs
          go_wp2_with fail
          rw [HX9.out]
          clear hq
          with_reducible refine hc.mono ?_
          rintro e w11 ⟨A2, c2, rfl, hx2, hb11⟩
          have Y11 := hidT (keepH Y10.out hb11)
          have P11 := hidT (keepH P10.out hb11)
          have R11 := hidT (R10.out.below hb11)
          have RL11 := hidT (RdV.below RL10.out hb11)
          have B11 := hidT (bthen B10.out hb11)
          have RX11 := hidT hx2
          clear v0 v1 j0 j1 j2 j3 j4 j5 j6 j7 g0 g1 g2 g3 g4 g5 g6 g7 hc hx2 hb11
          obtain ⟨v0, v1⟩ := cells2 Y11.out
          have hc := sqWalkOut_any ⟨wn, used⟩ A2 n c2 xs w11 RX11.out HOKN.out HSMN.out hn64 hu0 (by show used ≤ 2305843009213693952; omega) (by have := HMUN.out; omega)
          rw [HWALK.out] at hc
          go_wp2_with fail
          with_reducible refine hc.mono ?_
          rintro e w12 ⟨A3, n3, c3, D, md, cd, rfl, hm3, hd3, hb12⟩
          simp only at hm3 hd3
          obtain rfl : n3 = n := by rw [← hm3.size]; exact HML.out
          have n13 := nkeep w12 (.cells #[.int .i64 (bw : Int), .int .i64 bu] 23)
          have y13 := alloc_at w12 (.cells #[.int .i64 (bw : Int), .int .i64 bu] 23) _ rfl
          have nb13 := bthen hb12 n13
          have Y13 := hidT (keepH Y11.out nb13)
          have P13 := hidT (keepH P11.out nb13)
          have R13 := hidT (R11.out.below nb13)
          have RL13 := hidT (RdV.below RL11.out nb13)
          have RX13 := hidT (RX11.out.below nb13)
          have B13 := hidT (bthen B11.out nb13)
          have RM13 := hidT (hm3.below n13)
          have RD13 := hidT (hd3.below n13)
          obtain ⟨pu, hpu⟩ : ∃ p, w12.heap.size = p := ⟨_, rfl⟩
          rw [hpu] at y13
          have PU13 := hidT y13
          obtain ⟨X13, hX13⟩ : ∃ X, w12.alloc (.cells #[.int .i64 (bw : Int), .int .i64 bu] 23) = X := ⟨_, rfl⟩
          rw [hX13] at Y13 P13 R13 RL13 RX13 B13 RM13 RD13 PU13
          have HX13 := hidT hX13
          have HMD := hidT hd3.size
          have hmdle := hd3.le
          have hmdc := hd3.cap
          have hmdcm := hd3.cmax
          have HDL : Hid (d.length = ln) := hidT (by rw [← HLNN.out, ← HSRC.out, List.length_map])
          clear hc hm3 hd3 hb12 n13 y13 nb13 hX13 v0 v1
          go_upto_region 13 with fail
          rw [HX13.out]
          clear hpu
          obtain ⟨v0, v1⟩ := cells2 Y13.out
          obtain ⟨j0, j1, j2, j3, j4, j5, j6, j7⟩ := cells8x P13.out
          obtain ⟨u0, u1⟩ := cells2 PU13.out
          have hmdl : ln ≤ md := by rw [← HMD.out, List.length_append, HDL.out]; omega
          have k1 : decide ((md : Int) < (ln : Int)) = false := by simp; omega
          have k1' : decide (md < ln) = false := by simp; omega
          have k2 : decide ((ln : Int) < 1) = false := by simp; omega
          have k2' : decide (ln < 1) = false := by simp; omega
          have s1 : IntKind.i64.wrap (used + (ln : Int)) = used + (ln : Int) := IntWalk.i64_in _ (by omega)
          have s1b : wrap64 (used + (ln : Int)) = used + (ln : Int) := IntWalk.wrap64_in _ (by omega)
          have k3 : decide (Q < used + (ln : Int)) = false := by simp; omega
          have hix := HIX.out
          rw [HLNN.out] at hix
          have hlc := RL13.out.2.1
          have hlcm : lc ≤ 9223372036854775807 := by have := RL13.out.2.2.1; unfold maxLen at this; omega
          go_upto_region 16 with fail
          go_cut [122] from 81 to 232 (fun x wc => x = .bool false ∧ X13 = wc)
          case first =>
            by_cases hQ : Q ≤ used + (ln : Int)
            · rw [if_pos hQ] at hix
              subst hix
              have k4 : (used + (ln : Int) == Q) = true := by simp; omega
              clear hQ
              go_wp2_with fail
              go_meet
              exact ⟨rfl, rfl⟩
            · rw [if_neg hQ] at hix
              subst hix
              have k4 : (used + (ln : Int) == Q) = false := by simp; omega
              obtain ⟨h1, h2, h3⟩ := HFIN.out (by omega)
              have hmd : md = ln := by rw [← HMD.out, h1, List.append_nil]; exact HDL.out
              have k5 : ((md : Int) != (ln : Int)) = false := by simp; omega
              have k5' : (md != ln) = false := by simp; omega
              clear hQ h1 h2 h3 hmd
              go_wp2_with fail
              go_meet
              exact ⟨rfl, rfl⟩
          case rest =>
            obtain ⟨rfl, rfl⟩ := hcut
            have HIXX := hidT hix
            clear k1 k1' k2 k2' k3 s1 s1b hix j0 j1 j2 j3 j4 j5 j6 j7 v0 v1 u0 u1
            go_wp2_with fail
            go_loopw [16] (fun i wr => ∃ k : Nat, k ≤ ln ∧ i = .int .i64 k ∧ Hid (Below X13.heap.size X13 wr)) (fun i _ => ln - (intOf i).toNat)
            case atStart => exact ⟨0, Nat.zero_le _, rfl, hidT (Below.refl _ _)⟩
            case round =>
              obtain ⟨k, hk, rfl, XB⟩ := hrel
              obtain ⟨wq, rfl⟩ : ∃ wq, wq = wr := ⟨_, rfl⟩
              have HPQ := hidT (keepH P13.out XB.out)
              have HYQ := hidT (keepH Y13.out XB.out)
              have HUQ := hidT (keepH PU13.out XB.out)
              obtain ⟨j0, j1, j2, j3, j4, j5, j6, j7⟩ := cells8x HPQ.out
              obtain ⟨v0, v1⟩ := cells2 HYQ.out
              obtain ⟨u0, u1⟩ := cells2 HUQ.out
              by_cases hkn : k < ln
              · obtain ⟨bL, oL, x, hLA, hx, hcx⟩ := RdI.at_ RL13.out hkn
                subst hLA
                obtain ⟨bD, oD, y, BD, bdn, bdc, rfl, hy, _, _, hcy⟩ := RD13.out.told (show k < md by omega)
                have hyx : y.src = x := by
                  rw [List.getElem?_append_left (by rw [HDL.out]; exact hkn)] at hy
                  have h1 := hx
                  rw [← HSRC.out, List.getElem?_map, hy] at h1
                  injection h1
                have hxm := HMEM.out x (List.mem_of_getElem? hx)
                have y1 : (0 : Int) ≤ (k : Int) := by omega
                have y2 : (k : Int) < (ln : Int) := by omega
                have y5 : (k : Int) < (md : Int) := by omega
                have p0 : (x != x) = false := by simp
                have NE := Later.ne wq
                have k6 := Later.cell j6
                have kv := Later.cell v0
                have kx := fun m : Later wq => cellC (bthen XB.out m.h) hcx
                have kd := fun m : Later wq => (hcy m.w (bthen XB.out m.h)).1
                rw [hyx] at kd
                cases k with
                | zero =>
                  have p3 : decide ((0 : Int) < ((0 : Nat) : Int)) = false := by decide
                  have p3' : decide ((0 : Int) < 0) = false := by decide
                  simp only [Nat.add_zero, Nat.zero_mul] at kx kd
                  clear hx hxm hcx hy hcy hyx
                  go_wp2_with fail
                  refine wp_later (by kernel_rfl) (by kernel_rfl) ?_
                  repeat (go_big_quiet_step (fail))
                  refine wpQuiet_nil ?_
                  intro w9 hw9
                  obtain ⟨⟨_, hb9⟩, rfl⟩ := hw9
                  have HB9 := hidT (bthen XB.out hb9)
                  clear hb9 NE k6 kx kv kd
                  go_wp2
                  exact ⟨⟨1, by omega, by go_num, HB9⟩, by simp [intOf]; omega⟩
                | succ j =>
                  have hml : j < ln := by omega
                  obtain ⟨bL', oL', z, hLA', hz, hcz⟩ := RdI.at_ RL13.out hml
                  injection hLA' with hLA'
                  injection hLA' with e1 e2
                  subst e1 e2
                  have hzm := HMEM.out z (List.mem_of_getElem? hz)
                  have hord := Seqr.sorted_at HSORT.out hz hx
                  have p3 : decide ((0 : Int) < ((j + 1 : Nat) : Int)) = true := decide_eq_true (by omega)
                  have p3' : decide (0 < j + 1) = true := by simp
                  have s1 : IntKind.i64.wrap (((j + 1 : Nat) : Int) - 1) = (j : Int) := by rw [IntWalk.i64_in _ (by omega)]; omega
                  have s1b : wrap64 (((j + 1 : Nat) : Int) - 1) = (j : Int) := by rw [IntWalk.wrap64_in _ (by omega)]; omega
                  have s2 : IntKind.i64.wrap ((j : Int) + 1 - 1) = (j : Int) := by rw [IntWalk.i64_in _ (by omega)]; omega
                  have s2b : wrap64 ((j : Int) + 1 - 1) = (j : Int) := by rw [IntWalk.wrap64_in _ (by omega)]; omega
                  have y3 : (0 : Int) ≤ (j : Int) := by omega
                  have y4 : (j : Int) < (ln : Int) := by omega
                  have y2' : (j : Int) + 1 < (ln : Int) := by omega
                  have y1' : (0 : Int) ≤ (j : Int) + 1 := by omega
                  have y5' : (j : Int) + 1 < (md : Int) := by omega
                  have p3'' : decide ((0 : Int) < (j : Int) + 1) = true := decide_eq_true (by omega)
                  have e3 : ((j : Int) + 1).toNat = j + 1 := by omega
                  obtain ⟨rx, hrx⟩ : ∃ rx, Seqr.rnd x wn n3 = rx := ⟨_, rfl⟩
                  obtain ⟨rz, hrz⟩ : ∃ rz, Seqr.rnd z wn n3 = rz := ⟨_, rfl⟩
                  have p4 : decide (rx < rz) = false := by rw [← hrx, ← hrz]; simp; omega
                  have kz := fun m' : Later wq => cellC (bthen XB.out m'.h) hcz
                  have HRX : Hid (∀ m' : Later wq, Calls Try.prog 21 #[.int .i64 x, .int .i64 (wn : Int), .int .i64 (n3 : Int)] m'.w (IntIs m'.w rx)) := hidT fun m' => by rw [← hrx]; exact round_any x wn n3 m'.w ⟨hxm.1, by omega⟩ ⟨by omega, by omega⟩ ⟨by omega, by omega⟩
                  have HRZ : Hid (∀ m' : Later wq, Calls Try.prog 21 #[.int .i64 z, .int .i64 (wn : Int), .int .i64 (n3 : Int)] m'.w (IntIs m'.w rz)) := hidT fun m' => by rw [← hrz]; exact round_any z wn n3 m'.w ⟨hzm.1, by omega⟩ ⟨by omega, by omega⟩ ⟨by omega, by omega⟩
                  clear hx hxm hcx hz hzm hcz hord hrx hrz hy hcy hyx
                  go_wp2_with fail
                  refine wp_later (by kernel_rfl) (by kernel_rfl) ?_
                  repeat (go_big_quiet_step (first | (go_at_call 21; with_reducible exact Later.int (HRX.out _)) | (go_at_call 21; with_reducible exact Later.int (HRZ.out _)) | fail))
                  refine wpQuiet_nil ?_
                  intro w9 hw9
                  obtain ⟨⟨_, hb9⟩, rfl⟩ := hw9
                  have HB9 := hidT (bthen XB.out hb9)
                  clear hb9 NE k6 kx kz kv kd s1 s1b s2 s2b
                  go_wp2
                  exact ⟨⟨j + 1 + 1, by omega, by go_num, HB9⟩, by simp [intOf]; omega⟩
              · obtain rfl : ln = k := by omega
                have HBQ := hidT (bthen B13.out XB.out)
                have hix := HIXX.out
                by_cases hQ : Q ≤ used + (ln : Int)
                · rw [if_pos hQ] at hix
                  subst hix
                  clear hQ j0 j1 j2 j4 j5 j6 j7
                  have s1 : IntKind.i64.wrap ((wn : Int) + 1) = (wn : Int) + 1 := IntWalk.i64_in _ (by omega)
                  have s1b : wrap64 ((wn : Int) + 1) = (wn : Int) + 1 := IntWalk.wrap64_in _ (by omega)
                  by_cases hnx : wn + 1 = n3
                  · have q1 : ((wn : Int) + 1 == (n3 : Int)) = true := by simp; omega
                    have hNX : 0 < n3 := by omega
                    clear hnx
                    obtain ⟨bm, om, lm, BBm, mmm, ddm, EAm, enm, ecm, hbm, hxm, hlm, hcm⟩ := RM13.out.told (i := 0) hNX
                    obtain ⟨bm2, om2, lm2, BBm2, mmm2, ddm2, EAm2, enm2, ecm2, hbm2, hxm2, hlm2, hcm2⟩ := RM13.out.told hwn
                    obtain ⟨bl, ol, ll, BBl, mml, ddl, EAl, enl, ecl, hbl, hxl, hll, hcl⟩ := R13.out.told (i := 0) hNX
                    obtain ⟨bx, ox, lx, BBx, mmx, ddx, EAx, enx, ecx, hbx, hxx, hlx, hcx⟩ := RX13.out.told hwn
                    subst hbm hbx
                    injection hbm2 with hbm2
                    injection hbm2 with e1 e2
                    subst e1 e2
                    injection hbl with hbl
                    injection hbl with e1 e2
                    subst e1 e2
                    have hless := HLESS.out
                    rw [Seqr.laneAt_of hxm2, Seqr.laneAt_of hxx] at hless
                    have hl2 : lm2.es.length = enm2 := by
                      obtain ⟨_, _, _, _, _, _, ev, hE, -, -⟩ := hlm2
                      simp only [Value.agg.injEq, Array.mk.injEq, List.cons.injEq, Value.slice.injEq, and_true] at ev
                      rw [hE.size, ev.1.2.1]
                    have hlx2 : lx.es.length = enx := by
                      obtain ⟨_, _, _, _, _, _, ev, hE, -, -⟩ := hlx
                      simp only [Value.agg.injEq, Array.mk.injEq, List.cons.injEq, Value.slice.injEq, and_true] at ev
                      rw [hE.size, ev.1.2.1]
                    have p3 : decide ((enm2 : Int) < (enx : Int)) = true := decide_eq_true (by omega)
                    have p3' : decide (enm2 < enx) = true := decide_eq_true (by omega)
                    have z2 : (0 : Int) < (n3 : Int) := by omega
                    have x1 : (0 : Int) ≤ (wn : Int) := by omega
                    have x2 : (wn : Int) < (n3 : Int) := by omega
                    have NE := Later.ne wq
                    have kv := Later.cell v0
                    have ku := Later.cell u0
                    have km := fun m' : Later wq => (hcm m'.w (bthen XB.out m'.h)).1
                    have km2 := fun m' : Later wq => (hcm2 m'.w (bthen XB.out m'.h)).1
                    have kl := fun m' : Later wq => (hcl m'.w (bthen XB.out m'.h)).1
                    have kx := fun m' : Later wq => (hcx m'.w (bthen XB.out m'.h)).1
                    simp only [Nat.zero_mul, Nat.add_zero] at km kl
                    clear hxm hlm hcm hxm2 hlm2 hcm2 hxl hll hcl hxx hlx hcx hless hl2 hlx2
                    obtain ⟨yb, hyb⟩ : ∃ yb, ((bw : Int) == (0 : Int)) = yb := ⟨_, rfl⟩
                    obtain ⟨yl, hyl⟩ : ∃ yl, decide ((enm : Int) < (enl : Int)) = yl := ⟨_, rfl⟩
                    have hyl' : decide (enm < enl) = yl := by rw [← hyl]; congr 1; rw [eq_iff_iff]; omega
                    have hyb' : (bw == 0) = yb := by rw [← hyb, Bool.eq_iff_iff]; simp only [beq_iff_eq]; omega
                    cases yb <;> cases yl
                    all_goals
                      go_wp2_with fail
                      refine wp_later (by kernel_rfl) (by kernel_rfl) ?_
                      repeat (go_big_quiet_step (fail))
                      refine wpQuiet_nil ?_
                      intro w9 hw9
                      obtain ⟨⟨_, hb9⟩, rfl⟩ := hw9
                      have HB9 := hidT (bthen HBQ.out hb9)
                      go_wp2_with fail
                      go_ret
                      exact ⟨rfl, HB9.out⟩
                  · have q1 : ((wn : Int) + 1 == (n3 : Int)) = false := by simp; omega
                    have hNX : wn + 1 < n3 := by omega
                    clear hnx
                    obtain ⟨bm, om, lm, BBm, mmm, ddm, EAm, enm, ecm, hbm, hxm, hlm, hcm⟩ := RM13.out.told (i := (wn + 1)) hNX
                    obtain ⟨bm2, om2, lm2, BBm2, mmm2, ddm2, EAm2, enm2, ecm2, hbm2, hxm2, hlm2, hcm2⟩ := RM13.out.told hwn
                    obtain ⟨bl, ol, ll, BBl, mml, ddl, EAl, enl, ecl, hbl, hxl, hll, hcl⟩ := R13.out.told (i := (wn + 1)) hNX
                    obtain ⟨bx, ox, lx, BBx, mmx, ddx, EAx, enx, ecx, hbx, hxx, hlx, hcx⟩ := RX13.out.told hwn
                    subst hbm hbx
                    injection hbm2 with hbm2
                    injection hbm2 with e1 e2
                    subst e1 e2
                    injection hbl with hbl
                    injection hbl with e1 e2
                    subst e1 e2
                    have hless := HLESS.out
                    rw [Seqr.laneAt_of hxm2, Seqr.laneAt_of hxx] at hless
                    have hl2 : lm2.es.length = enm2 := by
                      obtain ⟨_, _, _, _, _, _, ev, hE, -, -⟩ := hlm2
                      simp only [Value.agg.injEq, Array.mk.injEq, List.cons.injEq, Value.slice.injEq, and_true] at ev
                      rw [hE.size, ev.1.2.1]
                    have hlx2 : lx.es.length = enx := by
                      obtain ⟨_, _, _, _, _, _, ev, hE, -, -⟩ := hlx
                      simp only [Value.agg.injEq, Array.mk.injEq, List.cons.injEq, Value.slice.injEq, and_true] at ev
                      rw [hE.size, ev.1.2.1]
                    have p3 : decide ((enm2 : Int) < (enx : Int)) = true := decide_eq_true (by omega)
                    have p3' : decide (enm2 < enx) = true := decide_eq_true (by omega)
                    have e9 : ((wn : Int) + 1).toNat = wn + 1 := by omega
                    have z1 : (0 : Int) ≤ ((wn : Int) + 1) := by omega
                    have z2 : ((wn : Int) + 1) < (n3 : Int) := by omega
                    have x1 : (0 : Int) ≤ (wn : Int) := by omega
                    have x2 : (wn : Int) < (n3 : Int) := by omega
                    have NE := Later.ne wq
                    have kv := Later.cell v0
                    have ku := Later.cell u0
                    have km := fun m' : Later wq => (hcm m'.w (bthen XB.out m'.h)).1
                    have km2 := fun m' : Later wq => (hcm2 m'.w (bthen XB.out m'.h)).1
                    have kl := fun m' : Later wq => (hcl m'.w (bthen XB.out m'.h)).1
                    have kx := fun m' : Later wq => (hcx m'.w (bthen XB.out m'.h)).1
                    clear hxm hlm hcm hxm2 hlm2 hcm2 hxl hll hcl hxx hlx hcx hless hl2 hlx2
                    obtain ⟨yb, hyb⟩ : ∃ yb, ((bw : Int) == ((wn : Int) + 1)) = yb := ⟨_, rfl⟩
                    obtain ⟨yl, hyl⟩ : ∃ yl, decide ((enm : Int) < (enl : Int)) = yl := ⟨_, rfl⟩
                    have hyl' : decide (enm < enl) = yl := by rw [← hyl]; congr 1; rw [eq_iff_iff]; omega
                    have hyb' : (bw == (wn + 1)) = yb := by rw [← hyb, Bool.eq_iff_iff]; simp only [beq_iff_eq]; omega
                    cases yb <;> cases yl
                    all_goals
                      go_wp2_with fail
                      refine wp_later (by kernel_rfl) (by kernel_rfl) ?_
                      repeat (go_big_quiet_step (fail))
                      refine wpQuiet_nil ?_
                      intro w9 hw9
                      obtain ⟨⟨_, hb9⟩, rfl⟩ := hw9
                      have HB9 := hidT (bthen HBQ.out hb9)
                      go_wp2_with fail
                      go_ret
                      exact ⟨rfl, HB9.out⟩
                · rw [if_neg hQ] at hix
                  subst hix
                  obtain ⟨h1, rfl, rfl⟩ := HFIN.out (by omega)
                  rw [HLNN.out] at u1
                  have s1 : IntKind.i64.wrap (used + (ln : Int)) = used + (ln : Int) := IntWalk.i64_in _ (by omega)
                  have s1b : wrap64 (used + (ln : Int)) = used + (ln : Int) := IntWalk.wrap64_in _ (by omega)
                  have k1 : (used + (ln : Int) == used + (ln : Int)) = true := by simp
                  clear hQ h1
                  go_wp2_with fail
                  go_ret
                  exact ⟨rfl, HBQ.out⟩
end Go.Proofs.Ytdchgnmkeefffaa
