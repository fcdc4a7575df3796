import Derived.Test.YtdchgnmkeefffaaLBX
import Derived.BigQuiet
import Derived.Deep.QuietTactic
set_option maxRecDepth 100000
/- Entries and lanes: blocks from a place on, places sought. -/
namespace Go.Proofs.Ytdchgnmkeefffaa
open Go.RowKit
set_option linter.unusedVariables false

abbrev ez : Array Value := #[.int .i64 0, .int .i64 0, .slice none 0 0, .slice none 0 0, .bool false]
abbrev lz : Array Value := #[.slice none 0 0, .int .i64 0, .int .i64 0, .int .i64 0, .slice none 0 0]
abbrev pz : Array Value := #[.int .i64 0, .int .i64 0, .int .i64 0, .slice none 0 0]
theorem cells5 {w : World} {g : Nat} {a0 a1 a2 a3 a4 : Value} {t : TypeId} (h : w.heap[g]? = some (.cells #[a0, a1, a2, a3, a4] t (0, 0))) : w.cell? ⟨g, 0, none⟩ = some a0 ∧ w.cell? ⟨g, 1, none⟩ = some a1 ∧ w.cell? ⟨g, 2, none⟩ = some a2 ∧ w.cell? ⟨g, 3, none⟩ = some a3 ∧ w.cell? ⟨g, 4, none⟩ = some a4 :=
  ⟨cell_at h 0 rfl, cell_at h 1 rfl, cell_at h 2 rfl, cell_at h 3 rfl, cell_at h 4 rfl⟩
theorem cells8 {w : World} {g : Nat} {a0 a1 a2 a3 a4 a5 a6 a7 : Value} {t : TypeId} (h : w.heap[g]? = some (.cells #[a0, a1, a2, a3, a4, a5, a6, a7] t (0, 0))) :
    w.cell? ⟨g, 0, none⟩ = some a0 ∧ w.cell? ⟨g, 1, none⟩ = some a1 ∧ w.cell? ⟨g, 2, none⟩ = some a2 ∧ w.cell? ⟨g, 3, none⟩ = some a3 ∧ w.cell? ⟨g, 4, none⟩ = some a4 ∧ w.cell? ⟨g, 5, none⟩ = some a5 ∧ w.cell? ⟨g, 6, none⟩ = some a6 ∧ w.cell? ⟨g, 7, none⟩ = some a7 :=
  ⟨cell_at h 0 rfl, cell_at h 1 rfl, cell_at h 2 rfl, cell_at h 3 rfl, cell_at h 4 rfl, cell_at h 5 rfl, cell_at h 6 rfl, cell_at h 7 rfl⟩
theorem infoE : (Try.prog.info? 59).map (fun i => (i.zero, i.size, i.bytes)) = some (some (.agg ez), 5, 72) := by kernel_rfl
theorem sizeE : (Try.prog.info? 59).map (·.size) = some 5 := by kernel_rfl
theorem sizeL : (Try.prog.info? 51).map (·.size) = some 5 := by kernel_rfl
/-- Blocks from a place on. -/
abbrev Hi (lo : Nat) : Nat → Prop := fun b => lo ≤ b
theorem KeptS.but {S : Nat → Prop} {w w' : World} {g : Nat} (hb : But g w w') (hs : ∀ b, S b → b ≠ g) : KeptS S w w' := fun b o u hS hu => hb.cell (hs b hS) hu
theorem KeptS.hi {lo g : Nat} {w w' : World} (hb : But g w w') (hg : g < lo) : KeptS (Hi lo) w w' := KeptS.but hb (fun b h e => by subst e; exact absurd hg (Nat.not_lt.2 h))
theorem KeptS.hig {lo : Nat} {w w' : World} {row : Option Nat} (hb : w.grownBy w' row) (hg : ∀ b, row = some b → b < lo) : KeptS (Hi lo) w w' := KeptS.grown hb (fun b h e => absurd (hg b e) (Nat.not_lt.2 h))
theorem Within.of {lo : Nat} {A : Option Addr} {n : Nat} (h : ∀ b o, A = some ⟨b, o, none⟩ → lo ≤ b) : Within (Hi lo) A n := fun _ b o e => h b o e
theorem IsEn.hi {lo lo' : Nat} {w : World} {v : Value} {x : Lane.En} (h : IsEn (Hi lo) w v x) (hl : lo' ≤ lo) : IsEn (Hi lo') w v x := h.mono fun b hb => Nat.le_trans hl hb
theorem AreE.hi {lo lo' : Nat} {w : World} {rs : List (Array Value)} {xs : List Lane.En} (h : AreE (Hi lo) w rs xs) (hl : lo' ≤ lo) : AreE (Hi lo') w rs xs := h.mono fun b hb => Nat.le_trans hl hb
theorem IsLane.hi {lo lo' : Nat} {w : World} {v : Value} {l : Lane.Ln} (h : IsLane (Hi lo) w v l) (hl : lo' ≤ lo) : IsLane (Hi lo') w v l := h.mono fun b hb => Nat.le_trans hl hb
def IntIs (w : World) (k : Int) (e : Ending) (w' : World) : Prop := e = .returned (.int .i64 k) ∧ Below w.heap.size w w'
theorem idx_at {xs : List Lane.En} {p : Lane.En → Bool} {j : Nat} {x : Lane.En} (h : ∀ i y, i < j → xs[i]? = some y → p y = false) (hx : xs[j]? = some x) (hp : p x = true) : xs.findIdx p = j := by
  obtain ⟨hj, e⟩ := List.getElem?_eq_some_iff.1 hx
  rw [List.findIdx_eq hj]
  refine ⟨by rw [e]; exact hp, fun i hi => h i _ hi (List.getElem?_eq_getElem (by omega))⟩
theorem idx_none {xs : List Lane.En} {p : Lane.En → Bool} (h : ∀ i y, i < xs.length → xs[i]? = some y → p y = false) : xs.findIdx p = xs.length := by
  rw [List.findIdx_eq_length]
  intro x hx
  obtain ⟨i, hi⟩ := List.getElem?_of_mem hx
  exact h i x (List.getElem?_eq_some_iff.1 hi).1 hi
theorem idx_le (xs : List Lane.En) (p : Lane.En → Bool) : xs.findIdx p ≤ xs.length := List.findIdx_le_length
theorem find_idx (xs : List Lane.En) (p : Lane.En → Bool) : xs.find? p = xs[xs.findIdx p]? := by
  induction xs with
  | nil => rfl
  | cons x xs ih =>
    rw [List.find?_cons, List.findIdx_cons]
    cases p x with
    | true => rfl
    | false => simpa using ih
/-- Lists that are not too long to be copied. -/
def SmallE (x : Lane.En) : Prop := x.l.length ≤ 65536 ∧ x.b.length ≤ 65536
def SmallL (l : Lane.Ln) : Prop := l.es.length ≤ 65536 ∧ (∀ x ∈ l.es, SmallE x) ∧ l.p.b.length ≤ 65536
end Go.Proofs.Ytdchgnmkeefffaa
/- What isMessage, number, the members of an order, clones of entries, and own come to. -/
namespace Go.Proofs.Ytdchgnmkeefffaa
open Go.RowKit
set_option linter.unusedVariables false

def OwnIs (w : World) (x : Lane.En) (e : Ending) (w' : World) : Prop := ∃ v, e = .returned v ∧ IsEn (Hi w.heap.size) w' v x ∧ Below w.heap.size w w'
theorem isMessage_any (x : Lane.En) (BA : Option Addr) (bn bc : Nat) (LA : Option Addr) (ln lc : Nat) (w : World) (t : Bool) (ht : Lane.isMsg x = t) : Calls Try.prog 73 #[.agg #[.int .i64 x.k, .int .i64 x.q, .slice BA bn bc, .slice LA ln lc, .bool x.h]] w (BoolIs w t) := by
  have y0 := alloc_at w (.cells #[.int .i64 x.k, .int .i64 x.q, .slice BA bn bc, .slice LA ln lc, .bool x.h] 59) _ rfl
  have hb0 := nkeep w (.cells #[.int .i64 x.k, .int .i64 x.q, .slice BA bn bc, .slice LA ln lc, .bool x.h] 59)
  obtain ⟨e0, e1, e2, e3, e4⟩ := cells5 y0
  clear y0
  by_cases hk : x.k = 1
  · have q : (x.k == 1) = true := by simpa using hk
    obtain rfl : t = true := by rw [← ht]; simp [Lane.isMsg, hk]
    clear hk ht
    go_enter Try.func73, Try.ntmps73
    go_wp2
    go_ret
    first | exact ⟨rfl, hb0⟩ | exact ⟨by rw [q], hb0⟩
  · have q : (x.k == 1) = false := by simpa using hk
    obtain rfl : t = false := by rw [← ht]; simp [Lane.isMsg, hk]
    clear hk ht
    go_enter Try.func73, Try.ntmps73
    go_wp2
    go_ret
    first | exact ⟨rfl, hb0⟩ | exact ⟨by rw [q], hb0⟩
theorem number_any (x : Lane.En) (BA : Option Addr) (bn bc : Nat) (LA : Option Addr) (ln lc : Nat) (w : World) : Calls Try.prog 66 #[.agg #[.int .i64 x.k, .int .i64 x.q, .slice BA bn bc, .slice LA ln lc, .bool x.h]] w (IntIs w x.q) := by
  have y0 := alloc_at w (.cells #[.int .i64 x.k, .int .i64 x.q, .slice BA bn bc, .slice LA ln lc, .bool x.h] 59) _ rfl
  have hb0 := nkeep w (.cells #[.int .i64 x.k, .int .i64 x.q, .slice BA bn bc, .slice LA ln lc, .bool x.h] 59)
  obtain ⟨e0, e1, e2, e3, e4⟩ := cells5 y0
  clear y0
  go_enter Try.func66, Try.ntmps66
  go_wp2
  go_ret
  exact ⟨rfl, hb0⟩
theorem isMember_any (n : Int) (w : World) (t : Bool) (ht : Item.win n 0 63 = t) : Calls Try.prog 75 #[.int .i64 n] w (JustIs w t) := by
  by_cases h1 : 0 ≤ n
  · have q1 : decide (0 ≤ n) = true := by simpa using h1
    by_cases h2 : n < 64
    · have q2 : decide (n < 64) = true := by simpa using h2
      obtain rfl : t = true := by rw [← ht]; simp [Item.win]; omega
      go_enter Try.func75, Try.ntmps75
      go_wp2
      go_ret
      exact ⟨rfl, rfl⟩
    · have q2 : decide (n < 64) = false := by simpa using h2
      obtain rfl : t = false := by rw [← ht]; simp [Item.win]; omega
      go_enter Try.func75, Try.ntmps75
      go_wp2
      go_ret
      exact ⟨rfl, rfl⟩
  · have q1 : decide (0 ≤ n) = false := by simpa using h1
    obtain rfl : t = false := by rw [← ht]; simp [Item.win]; omega
    go_enter Try.func75, Try.ntmps75
    go_wp2
    go_ret
    exact ⟨rfl, rfl⟩
theorem outside_any (n : Int) (w : World) (t : Bool) (ht : Item.win n 0 63 = t) : Calls Try.prog 74 #[.int .i64 n] w (JustIs w (!t)) := by
  go_enter Try.func74, Try.ntmps74
  go_wp2_with fail
  with_reducible refine (isMember_any n w t ht).mono ?_
  rintro e w1 ⟨rfl, rfl⟩
  go_wp2
  go_ret
  exact ⟨rfl, rfl⟩
theorem indexOut_any (A : Option Addr) (n c : Nat) (l : List Int) (w : World) (h : RdI w A n c l) :
    Calls Try.prog 77 #[.slice A n c, .func (.func 74) #[] #[]] w fun e w' => ∃ r : Int, e = .returned (.int .i64 r) ∧ w = w' ∧ decide (0 ≤ r) = !Item.allIn l 63 := by
  have hn := RdV.le h
  have hl := RdI.size h
  have HL := hidT hl
  clear hl
  go_enter Try.func77, Try.ntmps77
  go_wp2
  go_loop [8] (fun i => ∃ j : Nat, j ≤ n ∧ i = .int .i64 j ∧ Item.allIn (l.take j) 63 = true) (fun i => n - (intOf i).toNat)
  case atStart => exact ⟨0, Nat.zero_le _, rfl, rfl⟩
  case round =>
    obtain ⟨j, hj, rfl, ha⟩ := hrel
    have HA := hidT ha
    clear ha
    by_cases hjn : j < n
    · obtain ⟨b, o, x, rfl, hx, hc⟩ := RdI.at_ h hjn
      have HX := hidT hx
      clear hx
      cases hw : Item.win x 0 63 with
      | true =>
        have HW := hidT hw
        have hu := outside_any x w true hw
        clear hw
        go_wp2_with fail
        with_reducible refine hu.mono ?_
        rintro e w1 ⟨rfl, rfl⟩
        go_wp2
        go_round
        case rel => exact ⟨j + 1, by omega, by go_num, allIn_succ HX.out HA.out HW.out⟩
        case measure => simp [intOf]; omega
      | false =>
        have HW := hidT hw
        have hu := outside_any x w false hw
        clear hw
        go_wp2_with fail
        with_reducible refine hu.mono ?_
        rintro e w1 ⟨rfl, rfl⟩
        go_wp2
        go_ret
        refine ⟨_, rfl, rfl, ?_⟩
        rw [allIn_not HX.out HW.out]
        simp
    · obtain rfl : j = n := by omega
      go_wp2
      go_ret
      refine ⟨_, rfl, rfl, ?_⟩
      have ha := HA.out
      rw [List.take_of_length_le (by rw [HL.out]; omega)] at ha
      rw [ha]
      rfl
theorem containsOut_any (A : Option Addr) (n c : Nat) (l : List Int) (w : World) (h : RdI w A n c l) (t : Bool) (ht : Lane.senders l = t) :
    Calls Try.prog 76 #[.slice A n c, .func (.func 74) #[] #[]] w (JustIs w (!t)) := by
  have e : Item.allIn l 63 = t := ht
  go_enter Try.func76, Try.ntmps76
  go_wp2_with fail
  with_reducible refine (indexOut_any A n c l w h).mono ?_
  rintro e1 w1 ⟨r, rfl, rfl, hr⟩
  rw [e] at hr
  by_cases h0 : 0 ≤ r
  · have q : decide (0 ≤ r) = true := by simpa using h0
    rw [q] at hr
    rw [← hr]
    go_wp2
    go_ret
    exact ⟨rfl, rfl⟩
  · have q : decide (0 ≤ r) = false := by simpa using h0
    rw [q] at hr
    rw [← hr]
    go_wp2
    go_ret
    exact ⟨rfl, rfl⟩
theorem cloneE_any (A : Option Addr) (n c : Nat) (rs : List (Array Value)) (w : World) (h : RdK 5 w A n c rs) (hn : n ≤ 65536) :
    Calls Try.prog 43 #[.slice A n c] w (fun e w' => ∃ B d, e = .returned (.slice B n d) ∧ OwnK 5 w' w.heap.size 59 (.slice B n d) n rs ∧ Below w.heap.size w w') := by
  have hq := fun w => Lib.run_eql_slice_nil (P := Try.prog) w 47 59 A n c 0 0 Try.underlying47
  cases A with
  | none =>
    obtain ⟨rfl, rfl, rfl⟩ := h.nilA
    go_enter Try.func43, Try.ntmps43
    go_wp2
    go_ret
    exact ⟨none, 0, rfl, OwnK.nil_ _ _ _ _, Below.refl _ _⟩
  | some ad =>
    go_enter Try.func43, Try.ntmps43
    go_wp2_with (
      at_builtin
      refine wpList_appK 5 (by omega) rfl (.tmp 5) (.tmp 6) 47 rfl w.heap.size 59 _ 72 infoE rfl (by omega) Try.underlying47 (.slice (some ⟨w.heap.size, 0, none⟩) 0 0) 0 [] rfl ?own (some ad) n c rs rfl ?rd ?h63 ?hb ?_
      case own => exact OwnK.made 5 w w.heap.size (Nat.le_refl _) 59 w.heap.size rfl
      case rd => exact h.alloc _
      case h63 => omega
      case hb => simp
      intro v1 w1 hown hb hg)
    go_ret
    rw [Nat.zero_add, List.nil_append] at hown
    obtain ⟨B, d, rfl, _⟩ := OwnK.rd hown
    exact ⟨B, d, rfl, hown, ((Below.refl _ _).alloc (Nat.le_refl _) _).trans hb⟩

set_option maxHeartbeats 2000000 in
theorem own_any {S : Nat → Prop} (v : Value) (x : Lane.En) (w : World) (h : IsEn S w v x) (hS : SmallE x) :
    Calls Try.prog 70 #[v] w (OwnIs w x) := by
  obtain ⟨BA, bn, bc, LA, ln, lc, rfl, hb, hl, _, _⟩ := h
  obtain ⟨hL, hB⟩ := hS
  have hln := RdI.size hl
  have hbn := hb.1
  obtain ⟨t1, t2, t3⟩ := two_alloc w (.cells #[.int .i64 x.k, .int .i64 x.q, .slice BA bn bc, .slice LA ln lc, .bool x.h] 59) (.cells ez 59)
  obtain ⟨W, hW⟩ : ∃ W, (w.alloc (.cells #[.int .i64 x.k, .int .i64 x.q, .slice BA bn bc, .slice LA ln lc, .bool x.h] 59)).alloc (.cells ez 59) = W := ⟨_, rfl⟩
  have HS : Hid (W.heap.size = w.heap.size + 2) := by rw [← hW, size_alloc, size_alloc]; rfl
  rw [hW] at t1 t2 t3
  have HW := hidT hW
  clear hW
  have H5 : Hid (∀ w', Below W.heap.size W w' → Calls Try.prog 44 #[.slice BA bn bc] w' (Gives w' 5 x.b)) :=
    hidT fun w' hb' => clone_any BA bn bc x.b w' (hb.below (bthen t3 hb')) (by omega)
  have H6 : Hid (∀ w', Below W.heap.size W w' → Calls Try.prog 45 #[.slice LA ln lc] w' (fun e w2 => ∃ B d, e = .returned (.slice B ln d) ∧ OwnV w2 w'.heap.size 3 (.slice B ln d) ln (is x.l) ∧ Below w'.heap.size w' w2)) :=
    hidT fun w' hb' => cloneI_any LA ln lc x.l w' (RdV.below hl (bthen t3 hb')) (by omega)
  have k2 := fun w' (hb' : Below W.heap.size W w') => (cells5 (keepH t1 hb')).2.2.1
  have k3 := fun w' (hb' : Below W.heap.size W w') => (cells5 (keepH t1 hb')).2.2.2.1
  obtain ⟨g, hg⟩ : ∃ g, w.heap.size = g := ⟨_, rfl⟩
  rw [hg] at t1 t2
  have T1 := hidT t1
  have T2 := hidT t2
  have T3 := hidT t3
  have HG := hidT hg
  clear t1 t2 t3 hl hb hL hB hln hbn
  go_enter Try.func70, Try.ntmps70
  go_wp2_with fail
  rw [HW.out]
  rw [hg] at k2 k3
  clear hg
  have c2 := k2 W (Below.refl _ _)
  have c3 := k3 W (Below.refl _ _)
  clear k2 k3
  have hgW : g ≤ W.heap.size := by have := HS.out; have := HG.out; omega
  go_region_law
    (first
      | (go_simp; go_at_call 44; ((with_reducible refine (H5.out _ (Below.refl _ _).drew).mono ?_); rintro e5 w5 ⟨A5, c5, rfl, ho5, hb5'⟩; have hb5 : Below W.heap.size W w5 := undrew hb5'; have y5 := keepH T1.out hb5; obtain ⟨i0, i1, i2, i3, i4⟩ := cells5 y5))
      | (go_simp; go_at_call 45; ((with_reducible refine (H6.out _ hb5).mono ?_); rintro e6 w6 ⟨A6, c6, rfl, ho6, hb6'⟩; have hb6 : Below W.heap.size W w6 := bthen hb5 hb6'; have y6 := keepH T1.out hb6; have f6 := no_frozen y6 2; have f7 := no_frozen y6 3; obtain ⟨j0, j1, j2, j3, j4⟩ := cells5 y6))
      | fail)
  all_goals
    have z1 : (w6.setCell ⟨g, 2, none⟩ (.slice A5 x.b.length c5)).heap[g]? = some (.cells #[.int .i64 x.k, .int .i64 x.q, .slice A5 x.b.length c5, .slice LA ln lc, .bool x.h] 59 (0, 0)) := heap_setCell_same w6 g 2 _ _ _ y6
    have z2 : ((w6.setCell ⟨g, 2, none⟩ (.slice A5 x.b.length c5)).setCell ⟨g, 3, none⟩ (.slice A6 ln c6)).heap[g]? = some (.cells #[.int .i64 x.k, .int .i64 x.q, .slice A5 x.b.length c5, .slice A6 ln c6, .bool x.h] 59 (0, 0)) := heap_setCell_same _ g 3 _ _ _ z1
    have zb : But g w6 ((w6.setCell ⟨g, 2, none⟩ (.slice A5 x.b.length c5)).setCell ⟨g, 3, none⟩ (.slice A6 ln c6)) := (But.setCell w6 g 2 _).trans (But.setCell _ g 3 _)
    have z3 := (zb.2 (g + 1) (by omega)).trans (keepH T2.out hb6)
    have hbX : Below w.heap.size w ((w6.setCell ⟨g, 2, none⟩ (.slice A5 x.b.length c5)).setCell ⟨g, 3, none⟩ (.slice A6 ln c6)) := by
      have e := HG.out
      exact ((bthen T3.out hb6).setCell (p := ⟨g, 2, none⟩) (by show w.heap.size ≤ g; omega) _).setCell (p := ⟨g, 3, none⟩) (by show w.heap.size ≤ g; omega) _
    have hW5 := hb5.size
    have hW6 := hb6.size
    have hS := HS.out
    have hgg := HG.out
    have hws : W.heap.size ≤ w5.heap.size := hb5.size
    have r5 := (ho5.same).below hb6'
    have a5 : ∀ b o, A5 = some ⟨b, o, none⟩ → w.heap.size + 2 ≤ b := addrB ho5 (by rw [← hS]; exact Nat.le_refl _)
    have a6 : ∀ b o, A6 = some ⟨b, o, none⟩ → w.heap.size + 2 ≤ b := addrV ho6 (by omega)
    have r6 : RdI w6 A6 ln c6 x.l := OwnV.same ho6
    have R5 := hidT (r5.but (fun b o e => by have := a5 b o e; omega) zb)
    have R6 := hidT (RdV.but r6 (fun b o e => by have := a6 b o e; omega) zb)
    have AA5 := hidT a5
    have AA6 := hidT a6
    clear z1 zb c2 c3 hb5 hb6 hb5' hb6' ho5 ho6 r5 r6 a5 a6 y5 y6 f6 f7 i0 i1 i2 i3 i4 j0 j1 j2 j3 j4 hW5 hW6 hws
    generalize (w6.setCell ⟨g, 2, none⟩ (.slice A5 x.b.length c5)).setCell ⟨g, 3, none⟩ (.slice A6 ln c6) = X at *
    obtain ⟨i0, i1, i2, i3, i4⟩ := cells5 z2
    clear hS hgg
    go_wp2_with (
      refine wpList_stI rfl 59 _ _ rfl (g + 1) #[.int .i64 x.k, .int .i64 x.q, .slice A5 x.b.length c5, .slice A6 ln c6, .bool x.h] rfl rfl _ _ z3 sizeE rfl (by simp [Value.oneCell']) ?_
      intro w7 hg7 hbut hbel)
    obtain ⟨e0, e1, e2, e3, e4⟩ := cells5 hg7
    have hgg := HG.out
    exact bodyPost_ret (v := .agg #[.int .i64 x.k, .int .i64 x.q, .slice A5 x.b.length c5, .slice A6 ln c6, .bool x.h]) (by simp [results, Try.results70, go_sem, e0, e1, e2, e3, e4]) rfl
      ⟨_, rfl, ⟨A5, x.b.length, c5, A6, ln, c6, rfl, R5.out.but (fun b o e => by have := AA5.out b o e; omega) hbut, RdV.but R6.out (fun b o e => by have := AA6.out b o e; omega) hbut, Within.of fun b o e => by have := AA5.out b o e; omega, Within.of fun b o e => by have := AA6.out b o e; omega⟩, hbel _ _ hbX (by omega)⟩
end Go.Proofs.Ytdchgnmkeefffaa
/- What lane.may comes to. -/
namespace Go.Proofs.Ytdchgnmkeefffaa
open Go.RowKit
set_option linter.unusedVariables false

theorem may_q {x : Lane.En} (h : x.q < 1) : Lane.may x = false := by unfold Lane.may; rw [show decide (1 ≤ x.q) = false by simp; omega]; rfl
theorem may_1 {k q : Int} {b : List UInt8} {l : List Int} {h : Bool} (hq : ¬ q < 1) (hk : k = 1) : Lane.may ⟨k, q, b, l, h⟩ = (decide (l.length = 0) && !h) := by
  subst hk
  unfold Lane.may Lane.kind
  rw [show decide (1 ≤ (⟨1, q, b, l, h⟩ : Lane.En).q) = true by simp; omega, Bool.true_and, if_pos rfl]
  show (Lane.senders l && (decide (l.length = 0) && !h)) = _
  cases l with
  | nil => rfl
  | cons a l => simp
theorem may_2 {k q : Int} {b : List UInt8} {l : List Int} {h : Bool} (hq : ¬ q < 1) (hk : k = 2) : Lane.may ⟨k, q, b, l, h⟩ = (decide (b.length = 0) && Lane.senders l) := by
  subst hk
  unfold Lane.may Lane.kind
  rw [show decide (1 ≤ (⟨2, q, b, l, h⟩ : Lane.En).q) = true by simp; omega, Bool.true_and, if_neg (show ¬ (2 : Int) = 1 by decide), if_pos rfl]
  exact Bool.and_comm _ _
theorem may_3 {k q : Int} {b : List UInt8} {l : List Int} {h : Bool} (hq : ¬ q < 1) (hk : k = 3) : Lane.may ⟨k, q, b, l, h⟩ = (decide (b.length = 0) && (decide (l.length = 0) && !h)) := by
  subst hk
  unfold Lane.may Lane.kind
  rw [show decide (1 ≤ (⟨3, q, b, l, h⟩ : Lane.En).q) = true by simp; omega, Bool.true_and, if_neg (show ¬ (3 : Int) = 1 by decide), if_neg (show ¬ (3 : Int) = 2 by decide), if_pos rfl]
  show (Lane.senders l && (decide (b.length = 0) && (decide (l.length = 0) && !h))) = _
  cases l with
  | nil => rfl
  | cons a l => simp
theorem may_0 {k q : Int} {b : List UInt8} {l : List Int} {h : Bool} (h1 : k ≠ 1) (h2 : k ≠ 2) (h3 : k ≠ 3) : Lane.may ⟨k, q, b, l, h⟩ = false := by
  unfold Lane.may Lane.kind
  rw [if_neg h1, if_neg h2, if_neg h3, Bool.and_false, Bool.and_false]

set_option maxHeartbeats 1000000 in
theorem lmay_any {S : Nat → Prop} (v : Value) (x : Lane.En) (w : World) (h : IsEn S w v x) (t : Bool) (ht : Lane.may x = t) : Calls Try.prog 64 #[v] w (BoolIs w t) := by
  obtain ⟨BA, bn, bc, LA, ln, lc, rfl, hb, hl, _, _⟩ := h
  have hln := RdI.size hl
  have hbn := hb.1
  have HL := hidT hl
  obtain ⟨k, q, b, l, hd⟩ := x
  dsimp only at hl hb hln hbn HL ⊢
  have y0 := alloc_at w (.cells #[.int .i64 k, .int .i64 q, .slice BA bn bc, .slice LA ln lc, .bool hd] 59) _ rfl
  have n0 := nkeep w (.cells #[.int .i64 k, .int .i64 q, .slice BA bn bc, .slice LA ln lc, .bool hd] 59)
  obtain ⟨e0, e1, e2, e3, e4⟩ := cells5 y0
  have HN := hidT n0
  clear y0 n0 hl hb
  by_cases hq : q < 1
  · obtain rfl : false = t := by rw [← ht]; exact (may_q hq).symm
    have q1 : decide (q < 1) = true := by simpa using hq
    clear ht hq
    go_enter Try.func64, Try.ntmps64
    go_wp2
    go_ret
    exact ⟨rfl, HN.out⟩
  · have q1 : decide (q < 1) = false := by simpa using hq
    by_cases h1 : k = 1
    · rw [may_1 hq h1, hln] at ht
      have q2 : (k == 3) = false := by simp; omega
      have q3 : (k == 1) = true := by simp; omega
      clear h1 hq
      by_cases hz : ln = 0
      · have q4 : ((ln : Int) == 0) = true := by simp; omega
        obtain rfl : (!hd) = t := by rw [← ht]; simp [hz]
        clear ht hz
        go_enter Try.func64, Try.ntmps64
        go_wp2
        go_ret
        exact ⟨rfl, HN.out⟩
      · have q4 : ((ln : Int) == 0) = false := by simp; omega
        obtain rfl : false = t := by rw [← ht]; simp [hz]
        clear ht hz
        go_enter Try.func64, Try.ntmps64
        go_wp2
        go_ret
        exact ⟨rfl, HN.out⟩
    · by_cases h3 : k = 3
      · rw [may_3 hq h3, hln, hbn] at ht
        have q2 : (k == 3) = true := by simp; omega
        clear h1 h3 hq
        by_cases hy : bn = 0
        · have q5 : decide ((0 : Int) < (bn : Int)) = false := by simp; omega
          have q6 : decide (0 < bn) = false := by simp; omega
          by_cases hz : ln = 0
          · have q4 : ((ln : Int) == 0) = true := by simp; omega
            obtain rfl : (!hd) = t := by rw [← ht]; simp [hz, hy]
            clear ht hz hy
            go_enter Try.func64, Try.ntmps64
            go_wp2
            go_ret
            exact ⟨rfl, HN.out⟩
          · have q4 : ((ln : Int) == 0) = false := by simp; omega
            obtain rfl : false = t := by rw [← ht]; simp [hz]
            clear ht hz hy
            go_enter Try.func64, Try.ntmps64
            go_wp2
            go_ret
            exact ⟨rfl, HN.out⟩
        · have q5 : decide ((0 : Int) < (bn : Int)) = true := by simp; omega
          have q6 : decide (0 < bn) = true := by simp; omega
          obtain rfl : false = t := by rw [← ht]; simp [hy]
          clear ht hy
          go_enter Try.func64, Try.ntmps64
          go_wp2
          go_ret
          exact ⟨rfl, HN.out⟩
      · by_cases h2 : k = 2
        · rw [may_2 hq h2, hbn] at ht
          have q2 : (k == 3) = false := by simp; omega
          have q3 : (k == 1) = false := by simp; omega
          have q7 : (k == 2) = true := by simp; omega
          clear h1 h2 h3 hq
          by_cases hy : bn = 0
          · have q5 : ((bn : Int) == 0) = true := by simp; omega
            obtain rfl : Lane.senders l = t := by rw [← ht]; simp [hy]
            clear ht hy
            have hc := containsOut_any LA ln lc l (w.alloc (.cells #[.int .i64 k, .int .i64 q, .slice BA bn bc, .slice LA ln lc, .bool hd] 59)) (RdV.below HL.out HN.out) (Lane.senders l) rfl
            generalize Lane.senders l = u at hc ⊢
            go_enter Try.func64, Try.ntmps64
            go_wp2_with fail
            with_reducible refine hc.mono ?_
            rintro e w1 ⟨rfl, rfl⟩
            go_wp2
            go_ret
            exact ⟨by simp, HN.out⟩
          · have q5 : ((bn : Int) == 0) = false := by simp; omega
            obtain rfl : false = t := by rw [← ht]; simp [hy]
            clear ht hy
            go_enter Try.func64, Try.ntmps64
            go_wp2
            go_ret
            exact ⟨rfl, HN.out⟩
        · obtain rfl : false = t := by rw [← ht]; exact (may_0 h1 h2 h3).symm
          have q2 : (k == 3) = false := by simp; omega
          have q3 : (k == 1) = false := by simp; omega
          have q7 : (k == 2) = false := by simp; omega
          clear ht h1 h2 h3 hq
          go_enter Try.func64, Try.ntmps64
          go_wp2
          go_ret
          exact ⟨rfl, HN.out⟩
end Go.Proofs.Ytdchgnmkeefffaa
/- Regions that only read, while their callees may make memory. -/
namespace Go.Proofs.Ytdchgnmkeefffaa
open Go.RowKit
set_option linter.unusedVariables false

/-- A later world. -/
structure Later (W : World) where
  w : World
  h : Below W.heap.size W w
theorem Later.ne (W : World) : Nonempty (Later W) := ⟨⟨W, Below.refl _ _⟩⟩
theorem Later.cell {W : World} {p : Addr} {v : Value} (h : W.cell? p = some v) : ∀ n : Later W, n.w.cell? p = some v := fun n => (n.h.cell (World.block_lt_of_cell? W p h)).trans h
theorem Later.bool {W : World} {n : Later W} {f : FuncId} {args : Array Value} {t : Bool} (h : Calls Try.prog f args n.w (BoolIs n.w t)) : Calls Try.prog f args n.w fun e w2 => e = .returned (.bool t) ∧ ∃ m : Later W, w2 = m.w :=
  h.mono fun e w2 ⟨he, hb⟩ => ⟨he, ⟨w2, bthen n.h hb⟩, rfl⟩
theorem Later.int {W : World} {n : Later W} {f : FuncId} {args : Array Value} {k : Int} (h : Calls Try.prog f args n.w (IntIs n.w k)) : Calls Try.prog f args n.w fun e w2 => e = .returned (.int .i64 k) ∧ ∃ m : Later W, w2 = m.w :=
  h.mono fun e w2 ⟨he, hb⟩ => ⟨he, ⟨w2, bthen n.h hb⟩, rfl⟩
theorem wp_later {P : Program} {id : Nat} {Q : Exit → Act → World → Prop} {a : Act} {w : World} {l : List Oper} (hm : P.follows .mixedOrders = true) (hB : Region.lexB .any l.toArray = true)
    (h : wpQuiet P l.toArray (fun w' => ∃ n : Later w, w' = n.w) (fun a' => ∀ w', (∃ n : Later w, w' = n.w) → Q .normal a' w') l a) : (Code.region id l.toArray true).wp P Q a w :=
  wp_region_quiet (C := fun w' => ∃ n : Later w, w' = n.w) hm hB ⟨⟨_, (Below.refl _ _).drew⟩, rfl⟩ (by simpa using h)
end Go.Proofs.Ytdchgnmkeefffaa
