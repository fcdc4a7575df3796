/- What isMessage, number, the members of an order, clones of entries, and own come to. -/
import Derived.Test.YtmlmkkfieeaejaaLnD
set_option maxRecDepth 100000
namespace Go.Proofs.Ytmlmkkfieeaejaa
open Go.RowKit
set_option linter.unusedVariables false

def OwnIs (w : World) (x : Lane.En) (e : Ending) (w' : World) : Prop := ∃ v, e = .returned v ∧ IsEn (Hi w.heap.size) w' v x ∧ Below w.heap.size w w'
theorem isMessage_any (x : Lane.En) (BA : Option Addr) (bn bc : Nat) (LA : Option Addr) (ln lc : Nat) (w : World) (t : Bool) (ht : Lane.isMsg x = t) : Calls Try.prog 45 #[.agg #[.int .i64 x.k, .int .i64 x.q, .slice BA bn bc, .slice LA ln lc, .bool x.h]] w (BoolIs w t) := by
  have y0 := alloc_at w (.cells #[.int .i64 x.k, .int .i64 x.q, .slice BA bn bc, .slice LA ln lc, .bool x.h] 33) _ rfl
  have hb0 := nkeep w (.cells #[.int .i64 x.k, .int .i64 x.q, .slice BA bn bc, .slice LA ln lc, .bool x.h] 33)
  obtain ⟨e0, e1, e2, e3, e4⟩ := cells5 y0
  clear y0
  by_cases hk : x.k = 1
  · have q : (x.k == 1) = true := by simpa using hk
    obtain rfl : t = true := by rw [← ht]; simp [Lane.isMsg, hk]
    clear hk ht
    go_enter Try.func45, Try.ntmps45
    go_wp2
    go_ret
    first | exact ⟨rfl, hb0⟩ | exact ⟨by rw [q], hb0⟩
  · have q : (x.k == 1) = false := by simpa using hk
    obtain rfl : t = false := by rw [← ht]; simp [Lane.isMsg, hk]
    clear hk ht
    go_enter Try.func45, Try.ntmps45
    go_wp2
    go_ret
    first | exact ⟨rfl, hb0⟩ | exact ⟨by rw [q], hb0⟩
theorem number_any (x : Lane.En) (BA : Option Addr) (bn bc : Nat) (LA : Option Addr) (ln lc : Nat) (w : World) : Calls Try.prog 46 #[.agg #[.int .i64 x.k, .int .i64 x.q, .slice BA bn bc, .slice LA ln lc, .bool x.h]] w (IntIs w x.q) := by
  have y0 := alloc_at w (.cells #[.int .i64 x.k, .int .i64 x.q, .slice BA bn bc, .slice LA ln lc, .bool x.h] 33) _ rfl
  have hb0 := nkeep w (.cells #[.int .i64 x.k, .int .i64 x.q, .slice BA bn bc, .slice LA ln lc, .bool x.h] 33)
  obtain ⟨e0, e1, e2, e3, e4⟩ := cells5 y0
  clear y0
  go_enter Try.func46, Try.ntmps46
  go_wp2
  go_ret
  exact ⟨rfl, hb0⟩
theorem isMember_any (n : Int) (w : World) (t : Bool) (ht : Item.win n 0 63 = t) : Calls Try.prog 65 #[.int .i64 n] w (JustIs w t) := by
  by_cases h1 : 0 ≤ n
  · have q1 : decide (0 ≤ n) = true := by simpa using h1
    by_cases h2 : n < 64
    · have q2 : decide (n < 64) = true := by simpa using h2
      obtain rfl : t = true := by rw [← ht]; simp [Item.win]; omega
      go_enter Try.func65, Try.ntmps65
      go_wp2
      go_ret
      exact ⟨rfl, rfl⟩
    · have q2 : decide (n < 64) = false := by simpa using h2
      obtain rfl : t = false := by rw [← ht]; simp [Item.win]; omega
      go_enter Try.func65, Try.ntmps65
      go_wp2
      go_ret
      exact ⟨rfl, rfl⟩
  · have q1 : decide (0 ≤ n) = false := by simpa using h1
    obtain rfl : t = false := by rw [← ht]; simp [Item.win]; omega
    go_enter Try.func65, Try.ntmps65
    go_wp2
    go_ret
    exact ⟨rfl, rfl⟩
theorem outside_any (n : Int) (w : World) (t : Bool) (ht : Item.win n 0 63 = t) : Calls Try.prog 64 #[.int .i64 n] w (JustIs w (!t)) := by
  go_enter Try.func64, Try.ntmps64
  go_wp2_with fail
  with_reducible refine (isMember_any n w t ht).mono ?_
  rintro e w1 ⟨rfl, rfl⟩
  go_wp2
  go_ret
  exact ⟨rfl, rfl⟩
theorem indexOut_any (A : Option Addr) (n c : Nat) (l : List Int) (w : World) (h : RdI w A n c l) :
    Calls Try.prog 69 #[.slice A n c, .func (.func 64) #[] #[]] w fun e w' => ∃ r : Int, e = .returned (.int .i64 r) ∧ w = w' ∧ decide (0 ≤ r) = !Item.allIn l 63 := by
  have hn := RdV.le h
  have hl := RdI.size h
  have HL := hidT hl
  clear hl
  go_enter Try.func69, Try.ntmps69
  go_wp2
  go_loop [8] (fun i => ∃ j : Nat, j ≤ n ∧ i = .int .i64 j ∧ Item.allIn (l.take j) 63 = true) (fun i => n - (intOf i).toNat)
  case atStart => exact ⟨0, Nat.zero_le _, rfl, rfl⟩
  case round =>
    obtain ⟨j, hj, rfl, ha⟩ := hrel
    have HA := hidT ha
    clear ha
    by_cases hjn : j < n
    · obtain ⟨b, o, x, rfl, hx, hc⟩ := RdI.at_ h hjn
      have HX := hidT hx
      clear hx
      cases hw : Item.win x 0 63 with
      | true =>
        have HW := hidT hw
        have hu := outside_any x w true hw
        clear hw
        go_wp2_with fail
        with_reducible refine hu.mono ?_
        rintro e w1 ⟨rfl, rfl⟩
        go_wp2
        go_round
        case rel => exact ⟨j + 1, by omega, by go_num, allIn_succ HX.out HA.out HW.out⟩
        case measure => simp [intOf]; omega
      | false =>
        have HW := hidT hw
        have hu := outside_any x w false hw
        clear hw
        go_wp2_with fail
        with_reducible refine hu.mono ?_
        rintro e w1 ⟨rfl, rfl⟩
        go_wp2
        go_ret
        refine ⟨_, rfl, rfl, ?_⟩
        rw [allIn_not HX.out HW.out]
        simp
    · obtain rfl : j = n := by omega
      go_wp2
      go_ret
      refine ⟨_, rfl, rfl, ?_⟩
      have ha := HA.out
      rw [List.take_of_length_le (by rw [HL.out]; omega)] at ha
      rw [ha]
      rfl
theorem containsOut_any (A : Option Addr) (n c : Nat) (l : List Int) (w : World) (h : RdI w A n c l) (t : Bool) (ht : Lane.senders l = t) :
    Calls Try.prog 66 #[.slice A n c, .func (.func 64) #[] #[]] w (JustIs w (!t)) := by
  have e : Item.allIn l 63 = t := ht
  go_enter Try.func66, Try.ntmps66
  go_wp2_with fail
  with_reducible refine (indexOut_any A n c l w h).mono ?_
  rintro e1 w1 ⟨r, rfl, rfl, hr⟩
  rw [e] at hr
  by_cases h0 : 0 ≤ r
  · have q : decide (0 ≤ r) = true := by simpa using h0
    rw [q] at hr
    rw [← hr]
    go_wp2
    go_ret
    exact ⟨rfl, rfl⟩
  · have q : decide (0 ≤ r) = false := by simpa using h0
    rw [q] at hr
    rw [← hr]
    go_wp2
    go_ret
    exact ⟨rfl, rfl⟩
theorem cloneE_any (A : Option Addr) (n c : Nat) (rs : List (Array Value)) (w : World) (h : RdK 5 w A n c rs) (hn : n ≤ 65536) :
    Calls Try.prog 61 #[.slice A n c] w (fun e w' => ∃ B d, e = .returned (.slice B n d) ∧ OwnK 5 w' w.heap.size 33 (.slice B n d) n rs ∧ Below w.heap.size w w') := by
  have hq := fun w => Lib.run_eql_slice_nil (P := Try.prog) w 22 33 A n c 0 0 Try.underlying22
  cases A with
  | none =>
    obtain ⟨rfl, rfl, rfl⟩ := h.nilA
    go_enter Try.func61, Try.ntmps61
    go_wp2
    go_ret
    exact ⟨none, 0, rfl, OwnK.nil_ _ _ _ _, Below.refl _ _⟩
  | some ad =>
    go_enter Try.func61, Try.ntmps61
    go_wp2_with (
      at_builtin
      refine wpList_appK 5 (by omega) rfl (.tmp 5) (.tmp 6) 22 rfl w.heap.size 33 _ 72 infoE rfl (by omega) Try.underlying22 (.slice (some ⟨w.heap.size, 0, none⟩) 0 0) 0 [] rfl ?own (some ad) n c rs rfl ?rd ?h63 ?hb ?_
      case own => exact OwnK.made 5 w w.heap.size (Nat.le_refl _) 33 w.heap.size rfl
      case rd => exact h.alloc _
      case h63 => omega
      case hb => simp
      intro v1 w1 hown hb hg)
    go_ret
    rw [Nat.zero_add, List.nil_append] at hown
    obtain ⟨B, d, rfl, _⟩ := OwnK.rd hown
    exact ⟨B, d, rfl, hown, ((Below.refl _ _).alloc (Nat.le_refl _) _).trans hb⟩

set_option maxHeartbeats 2000000 in
theorem own_any {S : Nat → Prop} (v : Value) (x : Lane.En) (w : World) (h : IsEn S w v x) (hS : SmallE x) :
    Calls Try.prog 58 #[v] w (OwnIs w x) := by
  obtain ⟨BA, bn, bc, LA, ln, lc, rfl, hb, hl, _, _⟩ := h
  obtain ⟨hL, hB⟩ := hS
  have hln := RdI.size hl
  have hbn := hb.1
  obtain ⟨t1, t2, t3⟩ := two_alloc w (.cells #[.int .i64 x.k, .int .i64 x.q, .slice BA bn bc, .slice LA ln lc, .bool x.h] 33) (.cells ez 33)
  obtain ⟨W, hW⟩ : ∃ W, (w.alloc (.cells #[.int .i64 x.k, .int .i64 x.q, .slice BA bn bc, .slice LA ln lc, .bool x.h] 33)).alloc (.cells ez 33) = W := ⟨_, rfl⟩
  have HS : Hid (W.heap.size = w.heap.size + 2) := by rw [← hW, size_alloc, size_alloc]; rfl
  rw [hW] at t1 t2 t3
  have HW := hidT hW
  clear hW
  have H5 : Hid (∀ w', Below W.heap.size W w' → Calls Try.prog 62 #[.slice BA bn bc] w' (Gives w' 5 x.b)) :=
    hidT fun w' hb' => clone_any BA bn bc x.b w' (hb.below (bthen t3 hb')) (by omega)
  have H6 : Hid (∀ w', Below W.heap.size W w' → Calls Try.prog 51 #[.slice LA ln lc] w' (fun e w2 => ∃ B d, e = .returned (.slice B ln d) ∧ OwnV w2 w'.heap.size 3 (.slice B ln d) ln (is x.l) ∧ Below w'.heap.size w' w2)) :=
    hidT fun w' hb' => cloneI_any LA ln lc x.l w' (RdV.below hl (bthen t3 hb')) (by omega)
  have k2 := fun w' (hb' : Below W.heap.size W w') => (cells5 (keepH t1 hb')).2.2.1
  have k3 := fun w' (hb' : Below W.heap.size W w') => (cells5 (keepH t1 hb')).2.2.2.1
  obtain ⟨g, hg⟩ : ∃ g, w.heap.size = g := ⟨_, rfl⟩
  rw [hg] at t1 t2
  have T1 := hidT t1
  have T2 := hidT t2
  have T3 := hidT t3
  have HG := hidT hg
  clear t1 t2 t3 hl hb hL hB hln hbn
  go_enter Try.func58, Try.ntmps58
  go_wp2_with fail
  rw [HW.out]
  rw [hg] at k2 k3
  clear hg
  have c2 := k2 W (Below.refl _ _)
  have c3 := k3 W (Below.refl _ _)
  clear k2 k3
  have hgW : g ≤ W.heap.size := by have := HS.out; have := HG.out; omega
  go_region_law
    (first
      | (go_simp; go_at_call 62; ((with_reducible refine (H5.out _ (Below.refl _ _).drew).mono ?_); rintro e5 w5 ⟨A5, c5, rfl, ho5, hb5'⟩; have hb5 : Below W.heap.size W w5 := undrew hb5'; have y5 := keepH T1.out hb5; obtain ⟨i0, i1, i2, i3, i4⟩ := cells5 y5))
      | (go_simp; go_at_call 51; ((with_reducible refine (H6.out _ hb5).mono ?_); rintro e6 w6 ⟨A6, c6, rfl, ho6, hb6'⟩; have hb6 : Below W.heap.size W w6 := bthen hb5 hb6'; have y6 := keepH T1.out hb6; have f6 := no_frozen y6 2; have f7 := no_frozen y6 3; obtain ⟨j0, j1, j2, j3, j4⟩ := cells5 y6))
      | fail)
  all_goals
    have z1 : (w6.setCell ⟨g, 2, none⟩ (.slice A5 x.b.length c5)).heap[g]? = some (.cells #[.int .i64 x.k, .int .i64 x.q, .slice A5 x.b.length c5, .slice LA ln lc, .bool x.h] 33 (0, 0)) := heap_setCell_same w6 g 2 _ _ _ y6
    have z2 : ((w6.setCell ⟨g, 2, none⟩ (.slice A5 x.b.length c5)).setCell ⟨g, 3, none⟩ (.slice A6 ln c6)).heap[g]? = some (.cells #[.int .i64 x.k, .int .i64 x.q, .slice A5 x.b.length c5, .slice A6 ln c6, .bool x.h] 33 (0, 0)) := heap_setCell_same _ g 3 _ _ _ z1
    have zb : But g w6 ((w6.setCell ⟨g, 2, none⟩ (.slice A5 x.b.length c5)).setCell ⟨g, 3, none⟩ (.slice A6 ln c6)) := (But.setCell w6 g 2 _).trans (But.setCell _ g 3 _)
    have z3 := (zb.2 (g + 1) (by omega)).trans (keepH T2.out hb6)
    have hbX : Below w.heap.size w ((w6.setCell ⟨g, 2, none⟩ (.slice A5 x.b.length c5)).setCell ⟨g, 3, none⟩ (.slice A6 ln c6)) := by
      have e := HG.out
      exact ((bthen T3.out hb6).setCell (p := ⟨g, 2, none⟩) (by show w.heap.size ≤ g; omega) _).setCell (p := ⟨g, 3, none⟩) (by show w.heap.size ≤ g; omega) _
    have hW5 := hb5.size
    have hW6 := hb6.size
    have hS := HS.out
    have hgg := HG.out
    have hws : W.heap.size ≤ w5.heap.size := hb5.size
    have r5 := (ho5.same).below hb6'
    have a5 : ∀ b o, A5 = some ⟨b, o, none⟩ → w.heap.size + 2 ≤ b := addrB ho5 (by rw [← hS]; exact Nat.le_refl _)
    have a6 : ∀ b o, A6 = some ⟨b, o, none⟩ → w.heap.size + 2 ≤ b := addrV ho6 (by omega)
    have r6 : RdI w6 A6 ln c6 x.l := OwnV.same ho6
    have R5 := hidT (r5.but (fun b o e => by have := a5 b o e; omega) zb)
    have R6 := hidT (RdV.but r6 (fun b o e => by have := a6 b o e; omega) zb)
    have AA5 := hidT a5
    have AA6 := hidT a6
    clear z1 zb c2 c3 hb5 hb6 hb5' hb6' ho5 ho6 r5 r6 a5 a6 y5 y6 f6 f7 i0 i1 i2 i3 i4 j0 j1 j2 j3 j4 hW5 hW6 hws
    generalize (w6.setCell ⟨g, 2, none⟩ (.slice A5 x.b.length c5)).setCell ⟨g, 3, none⟩ (.slice A6 ln c6) = X at *
    obtain ⟨i0, i1, i2, i3, i4⟩ := cells5 z2
    clear hS hgg
    go_wp2_with (
      refine wpList_stI rfl 33 _ _ rfl (g + 1) #[.int .i64 x.k, .int .i64 x.q, .slice A5 x.b.length c5, .slice A6 ln c6, .bool x.h] rfl rfl _ _ z3 sizeE rfl (by simp [Value.oneCell']) ?_
      intro w7 hg7 hbut hbel)
    obtain ⟨e0, e1, e2, e3, e4⟩ := cells5 hg7
    have hgg := HG.out
    exact bodyPost_ret (v := .agg #[.int .i64 x.k, .int .i64 x.q, .slice A5 x.b.length c5, .slice A6 ln c6, .bool x.h]) (by simp [results, Try.results58, go_sem, e0, e1, e2, e3, e4]) rfl
      ⟨_, rfl, ⟨A5, x.b.length, c5, A6, ln, c6, rfl, R5.out.but (fun b o e => by have := AA5.out b o e; omega) hbut, RdV.but R6.out (fun b o e => by have := AA6.out b o e; omega) hbut, Within.of fun b o e => by have := AA5.out b o e; omega, Within.of fun b o e => by have := AA6.out b o e; omega⟩, hbel _ _ hbX (by omega)⟩
end Go.Proofs.Ytmlmkkfieeaejaa
