/- What the small calls of seqr come to: isMember, handedOn, control, whether lanes are right; clones of lanes. -/
import Derived.Test.YtdchgnmkeefffaaSqMem
import Derived.Test.YtdchgnmkeefffaaLDX
import Derived.Test.YtdchgnmkeefffaaLRX
import Derived.Test.YtdchgnmkeefffaaLCX
set_option maxRecDepth 100000
namespace Go.Proofs.Ytdchgnmkeefffaa
open Go.RowKit
set_option linter.unusedVariables false

theorem sqMember_any (a b : Int) (w : World) (t : Bool) (ht : (decide (0 ≤ a) && decide (a < b)) = t) : Calls Try.prog 34 #[.int .i64 a, .int .i64 b] w (JustIs w t) := by
  by_cases h1 : 0 ≤ a
  · have q1 : decide (0 ≤ a) = true := by simpa using h1
    by_cases h2 : a < b
    · have q2 : decide (a < b) = true := by simpa using h2
      obtain rfl : t = true := by rw [← ht, q1, q2]; rfl
      go_enter Try.func34, Try.ntmps34
      go_wp2
      go_ret
      exact ⟨rfl, rfl⟩
    · have q2 : decide (a < b) = false := by simpa using h2
      obtain rfl : t = false := by rw [← ht, q1, q2]; rfl
      go_enter Try.func34, Try.ntmps34
      go_wp2
      go_ret
      exact ⟨rfl, rfl⟩
  · have q1 : decide (0 ≤ a) = false := by simpa using h1
    obtain rfl : t = false := by rw [← ht, q1]; rfl
    go_enter Try.func34, Try.ntmps34
    go_wp2
    go_ret
    exact ⟨rfl, rfl⟩
theorem handed_any (t : Seqr.Tn) (n : Nat) (w : World) (ht : t.who < n) (hn : n ≤ 64) :
    Calls Try.prog 53 #[.agg (tc t), .int .i64 (n : Int)] w (fun e w' => e = .returned (.agg (tc (Seqr.next t n))) ∧ Below w.heap.size w w') := by
  obtain ⟨k, hk⟩ : ∃ k : Nat, (Seqr.next t n).who = k := ⟨_, rfl⟩
  have e : Seqr.next t n = ⟨k, 0⟩ := by rw [← hk]; rfl
  have q : ((t.who : Int) + 1) % (n : Int) = (k : Int) := by
    rw [← hk]
    unfold Seqr.next
    show _ = ((if t.who + 1 = n then 0 else t.who + 1 : Nat) : Int)
    by_cases h : t.who + 1 = n
    · rw [if_pos h, show ((t.who : Int) + 1) = (n : Int) by omega, Int.emod_self]; rfl
    · rw [if_neg h, Int.emod_eq_of_lt (by omega) (by omega)]; omega
  rw [e]
  clear hk e
  have q0 : ¬ (n : Int) = 0 := by omega
  have q5 : (0 : Int) ≤ (t.who : Int) + 1 := by omega
  obtain ⟨t1, t2, t3⟩ := two_alloc w (.cells #[.int .i64 (t.who : Int), .int .i64 t.used] 23) (.cells #[.int .i64 0, .int .i64 0] 23)
  obtain ⟨g, hg⟩ : ∃ g, w.heap.size = g := ⟨_, rfl⟩
  rw [hg] at t1 t2
  have HG := hidT hg
  have T3 := hidT t3
  obtain ⟨c0, c1⟩ := cells2 t1
  clear t3
  go_enter Try.func53, Try.ntmps53
  go_wp2_with (
    refine wpList_stI rfl 23 _ _ rfl (g + 1) #[.int .i64 (k : Int), .int .i64 0] rfl rfl _ _ t2 sizeTn rfl (by simp [Value.oneCell']) ?_
    intro w7 hg7 hbut hbel)
  obtain ⟨e0, e1⟩ := cells2 hg7
  have hgg := HG.out
  exact bodyPost_ret (v := .agg #[.int .i64 (k : Int), .int .i64 0]) (by simp [results, Try.results53, go_sem, e0, e1]) rfl ⟨rfl, hbel _ _ T3.out (by omega)⟩
set_option maxHeartbeats 2000000 in
theorem sqControl_any {S : Nat → Prop} (t : Seqr.Tn) (A : Option Addr) (n c : Nat) (ls : List Lane.Ln) (w : World) (h : RdL S w A n c ls) (hs : SmallLs ls) (ht : t.who < n) :
    Calls Try.prog 35 #[.agg (tc t), .slice A n c] w (GetE w (Lane.control (Seqr.laneAt ls t.who))) := by
  have hle := h.le
  obtain ⟨t1, t2, t3⟩ := two_alloc w (.cells #[.int .i64 (t.who : Int), .int .i64 t.used] 23) (.cells ez 59)
  obtain ⟨W, hW⟩ : ∃ W, (w.alloc (.cells #[.int .i64 (t.who : Int), .int .i64 t.used] 23)).alloc (.cells ez 59) = W := ⟨_, rfl⟩
  have HSW : Hid (W.heap.size = w.heap.size + 2) := by rw [← hW, size_alloc, size_alloc]; exact hidT rfl
  rw [hW] at t1 t2 t3
  have HW := hidT hW
  obtain ⟨g, hg⟩ : ∃ g, w.heap.size = g := ⟨_, rfl⟩
  have HG := hidT hg
  rw [hg] at t1 t2
  obtain ⟨b, o, l, B, m, d, EA, en, ec, rfl, hx, hl, hcs⟩ := h.told ht
  have e : Seqr.laneAt ls t.who = l := Seqr.laneAt_of hx
  rw [e]
  have HC := hidT (control_any _ l W (hl.below t3) (by rw [← e]; exact hs.at_ _))
  have hm := sqMember_any (t.who : Int) (n : Int) W true (by simp; omega)
  have x1 : (0 : Int) ≤ (t.who : Int) := by omega
  have x2 : (t.who : Int) < (n : Int) := by omega
  obtain ⟨c0, c1, c2, c3, c4⟩ := hcs W t3
  obtain ⟨i0, i1⟩ := cells2 t1
  have T2 := hidT t2
  have T3 := hidT t3
  rw [← HW.out] at hm i0 i1 c0 c1 c2 c3 c4
  clear h hs hcs hx hl e t1 t2 t3 hW
  go_enter Try.func35, Try.ntmps35
  go_wp2_with fail
  with_reducible refine hm.mono ?_
  rintro e w1 ⟨rfl, rfl⟩
  go_wp2_with fail
  rw [HW.out]
  clear hg i0 i1 c0 c1 c2 c3 c4 hm
  with_reducible refine HC.out.mono ?_
  rintro e w5 ⟨v5, rfl, hi5, hb5⟩
  obtain ⟨r5, rfl, hs5, ha5⟩ := hi5.cells
  have y5 := keepH T2.out hb5
  have HB5 := hidT (bthen T3.out hb5)
  have HI5 := hidT hi5
  clear hi5 hb5 HC
  go_wp2_with (
    refine wpList_stI rfl 59 _ _ rfl (g + 1) r5 rfl rfl _ _ y5 (by rw [hs5]; exact sizeE) (by rw [hs5]; rfl) ha5 ?_
    intro w7 hg7 hbut hbel)
  have hgg := HG.out
  have hsw := HSW.out
  obtain ⟨BA', bn', bc', LA', ln', lc', ev, hb', hl', hwb', hwl'⟩ := id HI5.out
  injection ev with ev
  subst ev
  obtain ⟨e0, e1, e2, e3, e4⟩ := cells5 hg7
  have hi7 := ((HI5.out.keptS (KeptS.hi hbut (by omega))).hi (lo' := w.heap.size) (by omega))
  exact bodyPost_ret (v := .tuple #[.agg #[.int .i64 ((Lane.control l).getD Lane.En.zero).k, .int .i64 ((Lane.control l).getD Lane.En.zero).q, .slice BA' bn' bc', .slice LA' ln' lc', .bool ((Lane.control l).getD Lane.En.zero).h], .bool (Lane.control l).isSome]) (by simp [results, Try.results35, go_sem, e0, e1, e2, e3, e4]) rfl
    ⟨_, rfl, hi7, hbel _ _ HB5.out (by omega)⟩
set_option maxHeartbeats 1000000 in
theorem notRight_any {S : Nat → Prop} (l : Lane.Ln) (A : Option Addr) (n c : Nat) (B : Option Addr) (m d : Nat) (w : World) (h : IsLane S w (.agg #[.slice A n c, .int .i64 l.p.seq, .int .i64 l.p.total, .int .i64 l.p.got, .slice B m d]) l) (t : Bool) (ht : Lane.right l = t) : Calls Try.prog 26 #[.agg #[.slice A n c, .int .i64 l.p.seq, .int .i64 l.p.total, .int .i64 l.p.got, .slice B m d]] w (BoolIs w (!t)) := by
  have y0 := alloc_at w (.cells #[.slice A n c, .int .i64 l.p.seq, .int .i64 l.p.total, .int .i64 l.p.got, .slice B m d] 51) _ rfl
  have hb0 := nkeep w (.cells #[.slice A n c, .int .i64 l.p.seq, .int .i64 l.p.total, .int .i64 l.p.got, .slice B m d] 51)
  obtain ⟨W, hW⟩ : ∃ W, w.alloc (.cells #[.slice A n c, .int .i64 l.p.seq, .int .i64 l.p.total, .int .i64 l.p.got, .slice B m d] 51) = W := ⟨_, rfl⟩
  rw [hW] at y0 hb0
  have HW := hidT hW
  have hr := right_any _ l W (h.below hb0) t ht
  obtain ⟨e0, e1, e2, e3, e4⟩ := cells5 y0
  rw [← HW.out] at e0 e1 e2 e3 e4
  clear h y0 hW ht
  go_enter Try.func26, Try.ntmps26
  go_wp2_with fail
  rw [HW.out]
  clear e0 e1 e2 e3 e4
  with_reducible refine hr.mono ?_
  rintro e w1 ⟨rfl, hb1⟩
  go_wp2
  go_ret
  exact ⟨rfl, bthen hb0 hb1⟩

set_option maxHeartbeats 1000000 in
theorem indexL_any {S : Nat → Prop} (A : Option Addr) (n c : Nat) (ls : List Lane.Ln) (w : World) (h : RdL S w A n c ls) :
    Calls Try.prog 50 #[.slice A n c, .func (.func 26) #[] #[]] w fun e w' => ∃ r : Int, e = .returned (.int .i64 r) ∧ Below w.heap.size w w' ∧ decide (0 ≤ r) = !(ls.all Lane.right) := by
  have hn := h.le
  have HL := hidT h.size
  have H := hidT h
  clear h
  go_enter Try.func50, Try.ntmps50
  go_wp2
  go_loopw [8] (fun i wr => ∃ j : Nat, j ≤ n ∧ i = .int .i64 j ∧ Hid ((ls.take j).all Lane.right = true) ∧ Hid (Below w.heap.size w wr)) (fun i _ => n - (intOf i).toNat)
  case atStart => exact ⟨0, Nat.zero_le _, rfl, hidT rfl, hidT (Below.refl _ _)⟩
  case round =>
    obtain ⟨j, hj, rfl, HA, HB⟩ := hrel
    by_cases hjn : j < n
    · obtain ⟨b, o, l, B, m, d, EA, en, ec, rfl, hx, hl, hcs⟩ := H.out.told hjn
      obtain ⟨c0, c1, c2, c3, c4⟩ := hcs wr HB.out
      have x1 : (0 : Int) ≤ (j : Int) := by omega
      have x2 : (j : Int) < (n : Int) := by omega
      have HX := hidT hx
      have HI := hidT (hl.below HB.out)
      clear hx hl hcs
      cases hw : Lane.right l with
      | true =>
        have HW := hidT hw
        have hu := notRight_any l EA en ec B m d wr HI.out true hw
        clear hw
        go_wp2_with fail
        with_reducible refine hu.mono ?_
        rintro e w1 ⟨rfl, hb1⟩
        have HB1 := hidT (bthen HB.out hb1)
        clear hb1 hu c0 c1 c2 c3 c4
        go_wp2
        exact ⟨⟨j + 1, by omega, by go_num, hidT (by rw [List.take_add_one, HX.out, List.all_append, HA.out]; simp [HW.out]), HB1⟩, by simp [intOf]; omega⟩
      | false =>
        have HW := hidT hw
        have hu := notRight_any l EA en ec B m d wr HI.out false hw
        clear hw
        go_wp2_with fail
        with_reducible refine hu.mono ?_
        rintro e w1 ⟨rfl, hb1⟩
        have HB1 := hidT (bthen HB.out hb1)
        clear hb1 hu c0 c1 c2 c3 c4
        go_wp2
        go_ret
        refine ⟨_, rfl, HB1.out, ?_⟩
        have hf : ls.all Lane.right = false := by
          cases ha : ls.all Lane.right with
          | false => rfl
          | true => rw [List.all_eq_true] at ha; have := ha l (List.mem_of_getElem? HX.out); rw [HW.out] at this; cases this
        rw [hf]
        simp
    · obtain rfl : n = j := by omega
      go_wp2
      go_ret
      refine ⟨_, rfl, HB.out, ?_⟩
      have ha := HA.out
      rw [List.take_of_length_le (by rw [HL.out]; exact Nat.le_refl _)] at ha
      rw [ha]
      rfl
theorem containsL_any {S : Nat → Prop} (A : Option Addr) (n c : Nat) (ls : List Lane.Ln) (w : World) (h : RdL S w A n c ls) (t : Bool) (ht : ls.all Lane.right = t) :
    Calls Try.prog 28 #[.slice A n c, .func (.func 26) #[] #[]] w (BoolIs w (!t)) := by
  go_enter Try.func28, Try.ntmps28
  go_wp2_with fail
  with_reducible refine (indexL_any A n c ls w h).mono ?_
  rintro e1 w1 ⟨r, rfl, hb, hr⟩
  rw [ht] at hr
  by_cases h0 : 0 ≤ r
  · have q : decide (0 ≤ r) = true := by simpa using h0
    rw [q] at hr
    rw [← hr]
    go_wp2
    go_ret
    exact ⟨rfl, hb⟩
  · have q : decide (0 ≤ r) = false := by simpa using h0
    rw [q] at hr
    rw [← hr]
    go_wp2
    go_ret
    exact ⟨rfl, hb⟩
theorem cloneL_any (A : Option Addr) (n c : Nat) (rs : List (Array Value)) (w : World) (h : RdK 5 w A n c rs) (hn : n ≤ 65536) :
    Calls Try.prog 42 #[.slice A n c] w (fun e w' => ∃ B d, e = .returned (.slice B n d) ∧ OwnK 5 w' w.heap.size 51 (.slice B n d) n rs ∧ Below w.heap.size w w') := by
  have hq := fun w => Lib.run_eql_slice_nil (P := Try.prog) w 24 51 A n c 0 0 Try.underlying24
  cases A with
  | none =>
    obtain ⟨rfl, rfl, rfl⟩ := h.nilA
    go_enter Try.func42, Try.ntmps42
    go_wp2
    go_ret
    exact ⟨none, 0, rfl, OwnK.nil_ _ _ _ _, Below.refl _ _⟩
  | some ad =>
    go_enter Try.func42, Try.ntmps42
    go_wp2_with (
      at_builtin
      refine wpList_appK 5 (by omega) rfl (.tmp 5) (.tmp 6) 24 rfl w.heap.size 51 _ 72 infoL rfl (by omega) Try.underlying24 (.slice (some ⟨w.heap.size, 0, none⟩) 0 0) 0 [] rfl ?own (some ad) n c rs rfl ?rd ?h63 ?hb ?_
      case own => exact OwnK.made 5 w w.heap.size (Nat.le_refl _) 51 w.heap.size rfl
      case rd => exact h.alloc _
      case h63 => omega
      case hb => simp
      intro v1 w1 hown hb hg)
    go_ret
    rw [Nat.zero_add, List.nil_append] at hown
    obtain ⟨B, d, rfl, _⟩ := OwnK.rd hown
    exact ⟨B, d, rfl, hown, ((Below.refl _ _).alloc (Nat.le_refl _) _).trans hb⟩
end Go.Proofs.Ytdchgnmkeefffaa
