/- What the document's own Put comes to. -/
import Derived.Test.YtkkkfaelpmmffaaRWin1
import Derived.Test.YtkkkfaelpmmffaaWin6
set_option maxRecDepth 100000
namespace Go.Proofs.Ytkkkfaelpmmffaa
open Go.RowKit
set_option linter.unusedVariables false

/-- What the document's Put tells. -/
def RPutIs (w : World) (t : Bool) (k : Keep.Kp) (e : Ending) (w' : World) : Prop := ∃ v, e = .returned (.tuple #[v, .bool t]) ∧ IsKeep w' v k ∧ Below w.heap.size w w'
/-- So much of a list with an item laid in its place. -/
def insTo (l : List Item.It) (x : Item.It) (p j : Nat) : List Item.It := if p < j then (l.take p ++ [x]) ++ (l.take j).drop p else l.take j
theorem insTo_far {l : List Item.It} {x y : Item.It} {p j : Nat} (h : p < j) (hy : l[j]? = some y) : insTo l x p (j + 1) = insTo l x p j ++ [y] := by
  unfold insTo
  rw [if_pos (by omega), if_pos h, List.take_add_one, hy, List.drop_append_of_le_length (by rw [List.length_take]; have := (List.getElem?_eq_some_iff.1 hy).1; omega)]
  simp
theorem insTo_near {l : List Item.It} {x y : Item.It} {p j : Nat} (h : j < p) (hy : l[j]? = some y) : insTo l x p (j + 1) = insTo l x p j ++ [y] := by
  unfold insTo
  rw [if_neg (by omega), if_neg (by omega), List.take_add_one, hy]
  rfl
theorem insTo_here {l : List Item.It} {x y : Item.It} {p : Nat} (hy : l[p]? = some y) : insTo l x p (p + 1) = (insTo l x p p ++ [x]) ++ [y] := by
  unfold insTo
  rw [if_pos (by omega), if_neg (by omega), List.take_add_one, hy, List.drop_append_of_le_length (by rw [List.length_take]; have := (List.getElem?_eq_some_iff.1 hy).1; omega), List.drop_of_length_le (by rw [List.length_take]; omega)]
  rfl
theorem insTo_all {l : List Item.It} {x : Item.It} {p : Nat} (h : p < l.length) (hp : Win.at_ l x.q = p) : insTo l x p l.length = Win.ins l x := by
  unfold insTo Win.ins
  rw [if_pos h, hp, List.take_length]
theorem insTo_end {l : List Item.It} {x : Item.It} (hp : Win.at_ l x.q = l.length) : insTo l x l.length l.length ++ [x] = Win.ins l x := by
  unfold insTo Win.ins
  rw [if_neg (by omega), hp, List.take_length, List.drop_length, List.append_nil]
theorem at_before {l : List Item.It} {s : Int} {j : Nat} {y : Item.It} (h : j < Win.at_ l s) (hy : l[j]? = some y) : y.q < s := by
  obtain ⟨hj, e⟩ := List.getElem?_eq_some_iff.1 hy
  have := List.not_of_lt_findIdx h
  rw [e] at this
  simpa using this
theorem at_here {l : List Item.It} {s : Int} {y : Item.It} (hy : l[Win.at_ l s]? = some y) : s ≤ y.q := by
  obtain ⟨hj, e⟩ := List.getElem?_eq_some_iff.1 hy
  have := List.findIdx_getElem (w := hj)
  have h2 : (fun y : Item.It => decide (s ≤ y.q)) (l[Win.at_ l s]) = true := this
  rw [e] at h2
  simpa using h2
set_option maxHeartbeats 8000000 in
theorem rwput_unfit (A : Option Addr) (n c : Nat) (k : Keep.Kp) (LA : Option Addr) (ln lc : Nat) (BA : Option Addr) (bn bc : Nat) (x : Item.It) (last : Int) (w : World) (hX : RdX w A n c k.l) (hit : IsItem w (.agg #[.int .i64 x.k, .int .i64 x.q, .int .i64 x.e, .int .i64 x.i, .int .i64 x.t, .int .i64 x.c, .slice LA ln lc, .slice BA bn bc]) x) (hm : Item.may x = false) :
    Calls Try.prog 18 #[.agg #[.int .i64 k.next, .slice A n c], .agg #[.int .i64 x.k, .int .i64 x.q, .int .i64 x.e, .int .i64 x.i, .int .i64 x.t, .int .i64 x.c, .slice LA ln lc, .slice BA bn bc], .int .i64 last] w (RPutIs w false k) := by
  have hn := hX.le
  have hlen := hX.size
  obtain ⟨t0, t1, t2, hb⟩ := three_alloc w (.cells #[.int .i64 k.next, .slice A n c] 24) (.cells #[.int .i64 x.k, .int .i64 x.q, .int .i64 x.e, .int .i64 x.i, .int .i64 x.t, .int .i64 x.c, .slice LA ln lc, .slice BA bn bc] 28) (.cells kz 24)
  obtain ⟨j0, j1, j2, j3, j4, j5, j6, j7⟩ := cells8 t1
  obtain ⟨W, hW⟩ : ∃ W, ((w.alloc (.cells #[.int .i64 k.next, .slice A n c] 24)).alloc (.cells #[.int .i64 x.k, .int .i64 x.q, .int .i64 x.e, .int .i64 x.i, .int .i64 x.t, .int .i64 x.c, .slice LA ln lc, .slice BA bn bc] 28)).alloc (.cells kz 24) = W := ⟨_, rfl⟩
  have hws : W.heap.size = w.heap.size + 3 := by rw [← hW, size_alloc, size_alloc, size_alloc]
  rw [hW] at t0 t1 t2 hb j0 j1 j2 j3 j4 j5 j6 j7
  have hmay := rmay_any _ x W (hit.below hb)
  rw [hm] at hmay
  obtain ⟨g, hg⟩ : ∃ g, w.heap.size = g := ⟨_, rfl⟩
  rw [hg] at j0 j1 j2 j3 j4 j5 j6 j7 t0 t1 t2 hws
  have HW := hidT hW
  have HWS := hidT hws
  have HC := hidT hmay
  have T0 := hidT t0
  have T1 := hidT t1
  have T2 := hidT t2
  have HB := hidT hb
  have HX := hidT hX
  have HG := hidT hg
  have HIT := hidT hit
  have HLEN := hidT hlen
  clear t0 t1 t2 hb hW hX hws hit hlen hmay hm
  go_enter Try.func18, Try.ntmps18
  go_wp2_with fail
  rw [HW.out]
  clear hg
  with_reducible refine HC.out.mono ?_
  rintro e w7 ⟨rfl, hb7⟩
  have HB7 := hidT hb7
  clear hb7 j0 j1 j2 j3 j4 j5 j6 j7
  obtain ⟨i0, i1⟩ := cells2 (keepH T0.out HB7.out)
  obtain ⟨j0, j1, j2, j3, j4, j5, j6, j7⟩ := cells8 (keepH T1.out HB7.out)
  have z2 := keepH T2.out HB7.out
  go_wp2_with (
    refine wpList_stI rfl 24 _ _ rfl (g + 2) #[.int .i64 k.next, .slice A n c] rfl rfl _ _ z2 wsize2 rfl (by simp [Value.oneCell']) ?_
    intro w9 hg9 hbut hbel)
  obtain ⟨e0, e1⟩ := cells2 hg9
  have hgg := HG.out
  have bw := hbel w.heap.size w (bthen HB.out HB7.out) (by omega)
  exact bodyPost_ret (v := .tuple #[.agg #[.int .i64 k.next, .slice A n c], .bool false]) (by simp [results, Try.results18, go_sem, e0, e1]) rfl
    ⟨_, rfl, ⟨A, n, c, rfl, HX.out.below bw⟩, bw⟩
set_option maxHeartbeats 8000000 in
theorem rwput_low (A : Option Addr) (n c : Nat) (k : Keep.Kp) (LA : Option Addr) (ln lc : Nat) (BA : Option Addr) (bn bc : Nat) (x : Item.It) (last : Int) (w : World) (hX : RdX w A n c k.l) (hit : IsItem w (.agg #[.int .i64 x.k, .int .i64 x.q, .int .i64 x.e, .int .i64 x.i, .int .i64 x.t, .int .i64 x.c, .slice LA ln lc, .slice BA bn bc]) x) (hm : Item.may x = true) (h1 : x.q < k.next) :
    Calls Try.prog 18 #[.agg #[.int .i64 k.next, .slice A n c], .agg #[.int .i64 x.k, .int .i64 x.q, .int .i64 x.e, .int .i64 x.i, .int .i64 x.t, .int .i64 x.c, .slice LA ln lc, .slice BA bn bc], .int .i64 last] w (RPutIs w false k) := by
  have hn := hX.le
  have hlen := hX.size
  obtain ⟨t0, t1, t2, hb⟩ := three_alloc w (.cells #[.int .i64 k.next, .slice A n c] 24) (.cells #[.int .i64 x.k, .int .i64 x.q, .int .i64 x.e, .int .i64 x.i, .int .i64 x.t, .int .i64 x.c, .slice LA ln lc, .slice BA bn bc] 28) (.cells kz 24)
  obtain ⟨j0, j1, j2, j3, j4, j5, j6, j7⟩ := cells8 t1
  obtain ⟨W, hW⟩ : ∃ W, ((w.alloc (.cells #[.int .i64 k.next, .slice A n c] 24)).alloc (.cells #[.int .i64 x.k, .int .i64 x.q, .int .i64 x.e, .int .i64 x.i, .int .i64 x.t, .int .i64 x.c, .slice LA ln lc, .slice BA bn bc] 28)).alloc (.cells kz 24) = W := ⟨_, rfl⟩
  have hws : W.heap.size = w.heap.size + 3 := by rw [← hW, size_alloc, size_alloc, size_alloc]
  rw [hW] at t0 t1 t2 hb j0 j1 j2 j3 j4 j5 j6 j7
  have hmay := rmay_any _ x W (hit.below hb)
  rw [hm] at hmay
  obtain ⟨g, hg⟩ : ∃ g, w.heap.size = g := ⟨_, rfl⟩
  rw [hg] at j0 j1 j2 j3 j4 j5 j6 j7 t0 t1 t2 hws
  have HW := hidT hW
  have HWS := hidT hws
  have HC := hidT hmay
  have T0 := hidT t0
  have T1 := hidT t1
  have T2 := hidT t2
  have HB := hidT hb
  have HX := hidT hX
  have HG := hidT hg
  have HIT := hidT hit
  have HLEN := hidT hlen
  clear t0 t1 t2 hb hW hX hws hit hlen hmay hm
  go_enter Try.func18, Try.ntmps18
  go_wp2_with fail
  rw [HW.out]
  clear hg
  with_reducible refine HC.out.mono ?_
  rintro e w7 ⟨rfl, hb7⟩
  have HB7 := hidT hb7
  clear hb7 j0 j1 j2 j3 j4 j5 j6 j7
  obtain ⟨i0, i1⟩ := cells2 (keepH T0.out HB7.out)
  obtain ⟨j0, j1, j2, j3, j4, j5, j6, j7⟩ := cells8 (keepH T1.out HB7.out)
  have q1 : decide (x.q < k.next) = true := by rw [decide_eq_true_eq]; omega
  have z2 := keepH T2.out HB7.out
  go_wp2_with (
    refine wpList_stI rfl 24 _ _ rfl (g + 2) #[.int .i64 k.next, .slice A n c] rfl rfl _ _ z2 wsize2 rfl (by simp [Value.oneCell']) ?_
    intro w9 hg9 hbut hbel)
  obtain ⟨e0, e1⟩ := cells2 hg9
  have hgg := HG.out
  have bw := hbel w.heap.size w (bthen HB.out HB7.out) (by omega)
  exact bodyPost_ret (v := .tuple #[.agg #[.int .i64 k.next, .slice A n c], .bool false]) (by simp [results, Try.results18, go_sem, e0, e1]) rfl
    ⟨_, rfl, ⟨A, n, c, rfl, HX.out.below bw⟩, bw⟩
set_option maxHeartbeats 8000000 in
theorem rwput_high (A : Option Addr) (n c : Nat) (k : Keep.Kp) (LA : Option Addr) (ln lc : Nat) (BA : Option Addr) (bn bc : Nat) (x : Item.It) (last : Int) (w : World) (hX : RdX w A n c k.l) (hit : IsItem w (.agg #[.int .i64 x.k, .int .i64 x.q, .int .i64 x.e, .int .i64 x.i, .int .i64 x.t, .int .i64 x.c, .slice LA ln lc, .slice BA bn bc]) x) (hm : Item.may x = true) (h1 : ¬ x.q < k.next) (h2 : last < x.q) :
    Calls Try.prog 18 #[.agg #[.int .i64 k.next, .slice A n c], .agg #[.int .i64 x.k, .int .i64 x.q, .int .i64 x.e, .int .i64 x.i, .int .i64 x.t, .int .i64 x.c, .slice LA ln lc, .slice BA bn bc], .int .i64 last] w (RPutIs w false k) := by
  have hn := hX.le
  have hlen := hX.size
  obtain ⟨t0, t1, t2, hb⟩ := three_alloc w (.cells #[.int .i64 k.next, .slice A n c] 24) (.cells #[.int .i64 x.k, .int .i64 x.q, .int .i64 x.e, .int .i64 x.i, .int .i64 x.t, .int .i64 x.c, .slice LA ln lc, .slice BA bn bc] 28) (.cells kz 24)
  obtain ⟨j0, j1, j2, j3, j4, j5, j6, j7⟩ := cells8 t1
  obtain ⟨W, hW⟩ : ∃ W, ((w.alloc (.cells #[.int .i64 k.next, .slice A n c] 24)).alloc (.cells #[.int .i64 x.k, .int .i64 x.q, .int .i64 x.e, .int .i64 x.i, .int .i64 x.t, .int .i64 x.c, .slice LA ln lc, .slice BA bn bc] 28)).alloc (.cells kz 24) = W := ⟨_, rfl⟩
  have hws : W.heap.size = w.heap.size + 3 := by rw [← hW, size_alloc, size_alloc, size_alloc]
  rw [hW] at t0 t1 t2 hb j0 j1 j2 j3 j4 j5 j6 j7
  have hmay := rmay_any _ x W (hit.below hb)
  rw [hm] at hmay
  obtain ⟨g, hg⟩ : ∃ g, w.heap.size = g := ⟨_, rfl⟩
  rw [hg] at j0 j1 j2 j3 j4 j5 j6 j7 t0 t1 t2 hws
  have HW := hidT hW
  have HWS := hidT hws
  have HC := hidT hmay
  have T0 := hidT t0
  have T1 := hidT t1
  have T2 := hidT t2
  have HB := hidT hb
  have HX := hidT hX
  have HG := hidT hg
  have HIT := hidT hit
  have HLEN := hidT hlen
  clear t0 t1 t2 hb hW hX hws hit hlen hmay hm
  go_enter Try.func18, Try.ntmps18
  go_wp2_with fail
  rw [HW.out]
  clear hg
  with_reducible refine HC.out.mono ?_
  rintro e w7 ⟨rfl, hb7⟩
  have HB7 := hidT hb7
  clear hb7 j0 j1 j2 j3 j4 j5 j6 j7
  obtain ⟨i0, i1⟩ := cells2 (keepH T0.out HB7.out)
  obtain ⟨j0, j1, j2, j3, j4, j5, j6, j7⟩ := cells8 (keepH T1.out HB7.out)
  have q1 : decide (x.q < k.next) = false := by rw [decide_eq_false_iff_not]; omega
  have q2 : decide (last < x.q) = true := by rw [decide_eq_true_eq]; omega
  have z2 := keepH T2.out HB7.out
  go_wp2_with (
    refine wpList_stI rfl 24 _ _ rfl (g + 2) #[.int .i64 k.next, .slice A n c] rfl rfl _ _ z2 wsize2 rfl (by simp [Value.oneCell']) ?_
    intro w9 hg9 hbut hbel)
  obtain ⟨e0, e1⟩ := cells2 hg9
  have hgg := HG.out
  have bw := hbel w.heap.size w (bthen HB.out HB7.out) (by omega)
  exact bodyPost_ret (v := .tuple #[.agg #[.int .i64 k.next, .slice A n c], .bool false]) (by simp [results, Try.results18, go_sem, e0, e1]) rfl
    ⟨_, rfl, ⟨A, n, c, rfl, HX.out.below bw⟩, bw⟩
set_option maxHeartbeats 8000000 in
theorem rwput_full (A : Option Addr) (n c : Nat) (k : Keep.Kp) (LA : Option Addr) (ln lc : Nat) (BA : Option Addr) (bn bc : Nat) (x : Item.It) (last : Int) (w : World) (hX : RdX w A n c k.l) (hit : IsItem w (.agg #[.int .i64 x.k, .int .i64 x.q, .int .i64 x.e, .int .i64 x.i, .int .i64 x.t, .int .i64 x.c, .slice LA ln lc, .slice BA bn bc]) x) (hm : Item.may x = true) (h1 : ¬ x.q < k.next) (h2 : ¬ last < x.q) (h3 : 64 ≤ n) :
    Calls Try.prog 18 #[.agg #[.int .i64 k.next, .slice A n c], .agg #[.int .i64 x.k, .int .i64 x.q, .int .i64 x.e, .int .i64 x.i, .int .i64 x.t, .int .i64 x.c, .slice LA ln lc, .slice BA bn bc], .int .i64 last] w (RPutIs w false k) := by
  have hn := hX.le
  have hlen := hX.size
  obtain ⟨t0, t1, t2, hb⟩ := three_alloc w (.cells #[.int .i64 k.next, .slice A n c] 24) (.cells #[.int .i64 x.k, .int .i64 x.q, .int .i64 x.e, .int .i64 x.i, .int .i64 x.t, .int .i64 x.c, .slice LA ln lc, .slice BA bn bc] 28) (.cells kz 24)
  obtain ⟨j0, j1, j2, j3, j4, j5, j6, j7⟩ := cells8 t1
  obtain ⟨W, hW⟩ : ∃ W, ((w.alloc (.cells #[.int .i64 k.next, .slice A n c] 24)).alloc (.cells #[.int .i64 x.k, .int .i64 x.q, .int .i64 x.e, .int .i64 x.i, .int .i64 x.t, .int .i64 x.c, .slice LA ln lc, .slice BA bn bc] 28)).alloc (.cells kz 24) = W := ⟨_, rfl⟩
  have hws : W.heap.size = w.heap.size + 3 := by rw [← hW, size_alloc, size_alloc, size_alloc]
  rw [hW] at t0 t1 t2 hb j0 j1 j2 j3 j4 j5 j6 j7
  have hmay := rmay_any _ x W (hit.below hb)
  rw [hm] at hmay
  obtain ⟨g, hg⟩ : ∃ g, w.heap.size = g := ⟨_, rfl⟩
  rw [hg] at j0 j1 j2 j3 j4 j5 j6 j7 t0 t1 t2 hws
  have HW := hidT hW
  have HWS := hidT hws
  have HC := hidT hmay
  have T0 := hidT t0
  have T1 := hidT t1
  have T2 := hidT t2
  have HB := hidT hb
  have HX := hidT hX
  have HG := hidT hg
  have HIT := hidT hit
  have HLEN := hidT hlen
  clear t0 t1 t2 hb hW hX hws hit hlen hmay hm
  go_enter Try.func18, Try.ntmps18
  go_wp2_with fail
  rw [HW.out]
  clear hg
  with_reducible refine HC.out.mono ?_
  rintro e w7 ⟨rfl, hb7⟩
  have HB7 := hidT hb7
  clear hb7 j0 j1 j2 j3 j4 j5 j6 j7
  obtain ⟨i0, i1⟩ := cells2 (keepH T0.out HB7.out)
  obtain ⟨j0, j1, j2, j3, j4, j5, j6, j7⟩ := cells8 (keepH T1.out HB7.out)
  have q1 : decide (x.q < k.next) = false := by rw [decide_eq_false_iff_not]; omega
  have q2 : decide (last < x.q) = false := by rw [decide_eq_false_iff_not]; omega
  have q3 : decide ((64 : Int) ≤ (n : Int)) = true := by rw [decide_eq_true_eq]; omega
  have q4 : decide (64 ≤ n) = true := by rw [decide_eq_true_eq]; omega
  have z2 := keepH T2.out HB7.out
  go_wp2_with (
    refine wpList_stI rfl 24 _ _ rfl (g + 2) #[.int .i64 k.next, .slice A n c] rfl rfl _ _ z2 wsize2 rfl (by simp [Value.oneCell']) ?_
    intro w9 hg9 hbut hbel)
  obtain ⟨e0, e1⟩ := cells2 hg9
  have hgg := HG.out
  have bw := hbel w.heap.size w (bthen HB.out HB7.out) (by omega)
  exact bodyPost_ret (v := .tuple #[.agg #[.int .i64 k.next, .slice A n c], .bool false]) (by simp [results, Try.results18, go_sem, e0, e1]) rfl
    ⟨_, rfl, ⟨A, n, c, rfl, HX.out.below bw⟩, bw⟩
set_option maxHeartbeats 8000000 in
theorem rwput_waits (A : Option Addr) (n c : Nat) (k : Keep.Kp) (LA : Option Addr) (ln lc : Nat) (BA : Option Addr) (bn bc : Nat) (x : Item.It) (last : Int) (w : World) (hX : RdX w A n c k.l) (hit : IsItem w (.agg #[.int .i64 x.k, .int .i64 x.q, .int .i64 x.e, .int .i64 x.i, .int .i64 x.t, .int .i64 x.c, .slice LA ln lc, .slice BA bn bc]) x) (hm : Item.may x = true) (h1 : ¬ x.q < k.next) (h2 : ¬ last < x.q) (h3 : ¬ 64 ≤ n) (hw : Win.waits k.l x.q = true) :
    Calls Try.prog 18 #[.agg #[.int .i64 k.next, .slice A n c], .agg #[.int .i64 x.k, .int .i64 x.q, .int .i64 x.e, .int .i64 x.i, .int .i64 x.t, .int .i64 x.c, .slice LA ln lc, .slice BA bn bc], .int .i64 last] w (RPutIs w false k) := by
  have hn := hX.le
  have hlen := hX.size
  obtain ⟨t0, t1, t2, hb⟩ := three_alloc w (.cells #[.int .i64 k.next, .slice A n c] 24) (.cells #[.int .i64 x.k, .int .i64 x.q, .int .i64 x.e, .int .i64 x.i, .int .i64 x.t, .int .i64 x.c, .slice LA ln lc, .slice BA bn bc] 28) (.cells kz 24)
  obtain ⟨j0, j1, j2, j3, j4, j5, j6, j7⟩ := cells8 t1
  obtain ⟨W, hW⟩ : ∃ W, ((w.alloc (.cells #[.int .i64 k.next, .slice A n c] 24)).alloc (.cells #[.int .i64 x.k, .int .i64 x.q, .int .i64 x.e, .int .i64 x.i, .int .i64 x.t, .int .i64 x.c, .slice LA ln lc, .slice BA bn bc] 28)).alloc (.cells kz 24) = W := ⟨_, rfl⟩
  have hws : W.heap.size = w.heap.size + 3 := by rw [← hW, size_alloc, size_alloc, size_alloc]
  rw [hW] at t0 t1 t2 hb j0 j1 j2 j3 j4 j5 j6 j7
  have hmay := rmay_any _ x W (hit.below hb)
  rw [hm] at hmay
  obtain ⟨g, hg⟩ : ∃ g, w.heap.size = g := ⟨_, rfl⟩
  rw [hg] at j0 j1 j2 j3 j4 j5 j6 j7 t0 t1 t2 hws
  have HW := hidT hW
  have HWS := hidT hws
  have HC := hidT hmay
  have T0 := hidT t0
  have T1 := hidT t1
  have T2 := hidT t2
  have HB := hidT hb
  have HX := hidT hX
  have HG := hidT hg
  have HIT := hidT hit
  have HLEN := hidT hlen
  clear t0 t1 t2 hb hW hX hws hit hlen hmay hm
  go_enter Try.func18, Try.ntmps18
  go_wp2_with fail
  rw [HW.out]
  clear hg
  with_reducible refine HC.out.mono ?_
  rintro e w7 ⟨rfl, hb7⟩
  have HB7 := hidT hb7
  clear hb7 j0 j1 j2 j3 j4 j5 j6 j7
  obtain ⟨i0, i1⟩ := cells2 (keepH T0.out HB7.out)
  obtain ⟨j0, j1, j2, j3, j4, j5, j6, j7⟩ := cells8 (keepH T1.out HB7.out)
  have q1 : decide (x.q < k.next) = false := by rw [decide_eq_false_iff_not]; omega
  have q2 : decide (last < x.q) = false := by rw [decide_eq_false_iff_not]; omega
  have q3 : decide ((64 : Int) ≤ (n : Int)) = false := by rw [decide_eq_false_iff_not]; omega
  have q4 : decide (64 ≤ n) = false := by rw [decide_eq_false_iff_not]; omega
  have hwt := rwaits_any (.agg #[.int .i64 k.next, .slice A n c]) k x.q w7 ⟨A, n, c, rfl, HX.out.below (bthen HB.out HB7.out)⟩
  rw [hw] at hwt
  go_wp2_with fail
  with_reducible refine hwt.mono ?_
  rintro e w6 ⟨rfl, hb6⟩
  have HB6 := hidT (bthen HB7.out hb6)
  clear hb6 hwt i0 i1 j0 j1 j2 j3 j4 j5 j6 j7
  obtain ⟨i0, i1⟩ := cells2 (keepH T0.out HB6.out)
  have z2 := keepH T2.out HB6.out
  go_wp2_with (
    refine wpList_stI rfl 24 _ _ rfl (g + 2) #[.int .i64 k.next, .slice A n c] rfl rfl _ _ z2 wsize2 rfl (by simp [Value.oneCell']) ?_
    intro w9 hg9 hbut hbel)
  obtain ⟨e0, e1⟩ := cells2 hg9
  have hgg := HG.out
  have bw := hbel w.heap.size w (bthen HB.out HB6.out) (by omega)
  exact bodyPost_ret (v := .tuple #[.agg #[.int .i64 k.next, .slice A n c], .bool false]) (by simp [results, Try.results18, go_sem, e0, e1]) rfl
    ⟨_, rfl, ⟨A, n, c, rfl, HX.out.below bw⟩, bw⟩
end Go.Proofs.Ytkkkfaelpmmffaa
