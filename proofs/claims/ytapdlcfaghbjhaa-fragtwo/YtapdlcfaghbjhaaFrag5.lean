/- What frag.Cut comes to. -/
import Derived.Test.YtapdlcfaghbjhaaFrag4
set_option maxRecDepth 100000
namespace Go.Proofs.Ytapdlcfaghbjhaa
open Go.RowKit Go.Shelf
set_option linter.unusedVariables false

attribute [local go_sem] Oper.semAt_some

/-- A row of bytes in memory. -/
structure Bw where
  A : Option Addr
  n : Nat
  c : Nat
  b : List UInt8
def Bw.val (r : Bw) : Value := .slice r.A r.n r.c
/-- Rows of bytes. -/
def RdB (w : World) (A : Option Addr) (n c : Nat) (rs : List Bw) : Prop := RdV w A n c (rs.map Bw.val) ∧ ∀ r ∈ rs, Rd w r.A r.n r.c r.b
/-- A call that gives pieces, and turns nothing that was. -/
def GivesP (w : World) (ls : List (List UInt8)) (e : Ending) (w' : World) : Prop := ∃ A n c rs, e = .returned (.slice A n c) ∧ RdB w' A n c rs ∧ rs.map Bw.b = ls ∧ Below w.heap.size w w'
theorem infoS : (Try.prog.info? 22).map (fun i => (i.zero, i.size, i.bytes)) = some (some (.slice none 0 0), 1, 24) := by kernel_rfl

theorem Rd.recap {w : World} {A : Option Addr} {n c : Nat} {l : List UInt8} (h : Rd w A n c l) (c' : Nat) (h1 : n ≤ c') (h2 : c' ≤ maxLen) (h3 : A = none → c' = 0) : Rd w A n c' l := ⟨h.1, h1, h2, h3, h.2.2.2.2⟩
theorem Rd.pieceOf {w : World} {A : Option Addr} {n c m k : Nat} {l : List UInt8} (h : Rd w A n c l) (hA : AtStart A n c) (hk : Mid n m k) : Rd w (pvOf A n m k).1 (pvOf A n m k).2.1 (pvOf A n m k).2.2 (piece l m k) := by
  have hl := h.1
  have hx := h.2.1
  have hy := h.2.2.1
  rcases hA with ⟨rfl, rfl, rfl⟩ | ⟨g, rfl⟩
  · obtain rfl : l = [] := List.eq_nil_of_length_eq_zero hl
    have e : piece [] m k = [] := by simp [piece]
    rw [e]
    have e2 : pvOf none 0 m k = (none, 0, 0) := by simp [pvOf]
    rw [e2]
    exact Rd.nil_ _
  · have hkn := hk.le
    have h1 := (h.drop (k := k * m) hkn).take (k := min m (n - k * m)) (by omega)
    have e : (l.drop (k * m)).take (min m (n - k * m)) = piece l m k := by
      unfold piece
      rw [List.take_eq_take_iff]
      rw [List.length_drop, hl]
      omega
    rw [e] at h1
    exact h1.recap (min m (n - k * m)) (Nat.le_refl _) (by omega) (fun h => by cases h)
theorem Own.atStart {w : World} {base n c : Nat} {e : TypeId} {A : Option Addr} {l : List UInt8} (h : Own w base e (.slice A n c) n l) : AtStart A n c := by
  rcases h.2 with ⟨hv, h0⟩ | ⟨g, cap, cur, hv, _⟩
  · injection hv with h1 h2 h3
    exact .inl ⟨h1, h0, h3⟩
  · injection hv with h1 h2 h3
    exact .inr ⟨g, h1⟩
/-- What is said of cells stays while a block that is none is turned. -/
theorem row_own {W W' : World} {row : Option Nat} {base : Nat} {e : TypeId} {size : Nat} {v : Value} {k : Nat} {xs : List Value} (hr : W.ownsRow base e size v k xs) (hg : W.grownBy W' row) (hrow : ∀ r, row = some r → ∃ o : Obj, W.heap[r]? = some o ∧ o.isCells = false) : W'.ownsRow base e size v k xs := by
  refine hr.kept hg ?_
  rcases hr.2 with ⟨rfl, _⟩ | ⟨g, cap, cur, rfl, _, hgb, _⟩
  · exact .inl rfl
  · refine .inr fun e' => ?_
    obtain ⟨o, ho, hc⟩ := hrow g (by simpa [Value.ownBlock] using e'.symm)
    rw [hgb] at ho; cases ho; cases hc
theorem box_own {W W' : World} {row : Option Nat} {B : Nat} {t : TypeId} {v : Value} (hv : Boxed W B t v) (hg : W.grownBy W' row) (hrow : ∀ r, row = some r → ∃ o : Obj, W.heap[r]? = some o ∧ o.isCells = false) : Boxed W' B t v := by
  refine hv.kept hg (fun e' => ?_)
  obtain ⟨o, ho, hc⟩ := hrow B e'.symm
  rw [show W.heap[B]? = _ from hv] at ho; cases ho; cases hc
theorem nkeep' (w : World) (o : Obj) : Below w.heap.size w (w.alloc o) := (Below.refl _ _).alloc (Nat.le_refl _) _
/-- The rows that the pieces are. -/
def rowsOf (A : Option Addr) (n m : Nat) (l : List UInt8) (K : Nat) : List Bw := (List.range K).map fun k => ⟨(pvOf A n m k).1, (pvOf A n m k).2.1, (pvOf A n m k).2.2, piece l m k⟩
theorem rowsOf_val (A : Option Addr) (n m : Nat) (l : List UInt8) (K : Nat) : (rowsOf A n m l K).map Bw.val = (uptoV A n m K).map Sl.val := by
  unfold rowsOf uptoV
  rw [List.map_map, List.map_map]
  rfl
theorem rowsOf_b (A : Option Addr) (n m : Nat) (l : List UInt8) (K : Nat) : (rowsOf A n m l K).map Bw.b = uptoP l m K := by
  unfold rowsOf uptoP
  rw [List.map_map]
  rfl

set_option maxHeartbeats 1000000 in
theorem cut_none (A : Option Addr) (n c : Nat) (m : Int) (w : World) (hm : m < 1) :
    Calls Try.prog 16 #[.slice A n c, .int .i64 m] w (GivesP w []) := by
  have q1 : decide (m < 1) = true := by simpa using hm
  go_enter Try.func16, Try.ntmps16
  go_wp2
  go_ret
  exact ⟨none, 0, 0, [], rfl, ⟨RdV.nil_ _, fun r hr => by cases hr⟩, rfl, Below.refl _ _⟩

set_option maxRecDepth 100000 in
set_option maxHeartbeats 2000000 in
theorem cut_some (A : Option Addr) (n c : Nat) (l : List UInt8) (m : Nat) (w : World) (h : Rd w A n c l) (hn : n ≤ 65536) (hm : 1 ≤ m) (hmm : m ≤ 9223372036854775807) :
    Calls Try.prog 16 #[.slice A n c, .int .i64 (m : Int)] w (GivesP w (cutOf l m)) := by
  have q1 : decide ((m : Int) < 1) = false := by simp; omega
  have hmany := many_any (n : Int) (m : Int) w ⟨by omega, by omega⟩ ⟨by omega, by omega⟩
  rw [manyI_nat n m hm] at hmany
  have hK := manyN_le n m hm
  have hln := h.1
  obtain ⟨i0, hi, hz0, hz1, hz2⟩ := info_parts infoS
  refine (callsIn_wide (n := 4)).1 ?_
  refine callsIn_of_wp_marks Try.func16 rfl trivial ?_ rfl
  simp only [Try.ntmps16, List.size_toArray, List.length_cons, List.length_nil, Nat.reduceAdd, Nat.reduceSub, Array.replicate_succ, Array.replicate_zero, List.push_toArray, List.append_toArray, List.nil_append, List.cons_append]
  gi_wp2_with fail
  refine ⟨trivial, (callsIn_wide.2 hmany).mono ?_⟩
  rintro e w' ⟨rfl, hww⟩
  obtain rfl : w = w' := hww.symm
  clear hww
  gi_wp2_with (
    gi_at_make
    refine wpListIn_make_own _ rfl _ _ 35 rfl w.heap.size 22 i0 (.slice none 0 0) 1 Try.underlying35 hi hz0 hz1 .i64 .i64 _ (manyN n m) rfl rfl rfl (by rw [hz2]; omega) (by simp only [maxLen]; omega) (Nat.le_refl _) ?_
    intro w2 ho2 hg2)
  have hb2 : Below w.heap.size w w2 := (Below.refl _ w).grown hg2 (Nat.le_refl _) (fun k hk => by cases hk)
  have bO := Boxed.new w2 35 (.slice (some ⟨w.heap.size, 0, none⟩) 0 (manyN n m))
  have hb3 : Below w.heap.size w (w2.alloc (.cells #[.slice (some ⟨w.heap.size, 0, none⟩) 0 (manyN n m)] 35)) := hb2.alloc hb2.size _
  have ho3 := ho2.alloc (.cells #[.slice (some ⟨w.heap.size, 0, none⟩) 0 (manyN n m)] 35)
  have hs3 : w2.heap.size < (w2.alloc (.cells #[.slice (some ⟨w.heap.size, 0, none⟩) 0 (manyN n m)] 35)).heap.size := by rw [size_alloc]; omega
  generalize w2.alloc (.cells #[.slice (some ⟨w.heap.size, 0, none⟩) 0 (manyN n m)] 35) = w3 at bO hb3 ho3 hs3 ⊢
  have hcl := clone_any A n c l w3 (h.below hb3) hn
  refine ⟨trivial, (callsIn_wide.2 hcl).mono ?_⟩
  rintro e w4 ⟨A4, c4, rfl, hcl4, hb4⟩
  rw [hln] at hcl4 ⊢
  have bO4 : Boxed w4 w2.heap.size 35 (.slice (some ⟨w.heap.size, 0, none⟩) 0 (manyN n m)) := (hb4.block _ hs3).trans bO
  have ho4 := OwnV.later ho3 hb4
  have hb04 := bthen hb3 hb4
  have hAS := hcl4.atStart
  have hcap := hcl4.same.2.1
  have hmax : c4 ≤ 9223372036854775807 := by have := hcl4.same.2.2.1; unfold maxLen at this; omega
  clear hcl bO ho3 hmany
  gi_wp2_with fail
  refine ⟨trivial, (pieces_in Fence.wide _ trivial rfl A4 n c4 m w4).mono ?_⟩
  rintro e w5 ⟨rfl, hw5⟩
  have g5 : w5.heap[w4.heap.size]? = some (.cells #[.slice A4 n c4] 22 (0, 0)) ∧ w5.heap[w4.heap.size + 1]? = some (.cells #[.int .i64 (m : Int)] 3 (0, 0)) ∧ Below w4.heap.size w4 w5 := by
    rw [hw5]; exact two_alloc w4 _ _
  have hs5 : w5.heap.size = w4.heap.size + 2 := by rw [hw5]; simp only [size_alloc]
  obtain ⟨g50, g51, hb5⟩ := g5
  clear hw5
  have bO5 : Boxed w5 w2.heap.size 35 (.slice (some ⟨w.heap.size, 0, none⟩) 0 (manyN n m)) := (hb5.block _ (by have := hb4.size; omega)).trans bO4
  have ho5 := OwnV.later ho4 hb5
  have hcl5 := hcl4.later hb5
  have hb05 := bthen hb04 hb5
  have hsz := hb4.size
  have hsz2 := hb2.size
  have hne : w4.heap.size + 1 ≠ w2.heap.size := by omega
  clear bO4 ho4 hcl4
  gi_wp2_with fail
  refine wpIn_rangeFunc_ownG rfl (by omega) (gf := 26) (lb := #[.pointer (some ⟨w4.heap.size, 0, none⟩), .pointer (some ⟨w4.heap.size + 1, 0, none⟩)]) rfl trivial (enters_of Try.func26 (by kernel_rfl) rfl)
    (pieces_stops Fence.wide _ trivial rfl (by omega) w4.heap.size (w4.heap.size + 1) A4 n c4 m hAS hm hcap hmax hmm w5 (by omega) (by omega) (cell_at g50 0 rfl) g51)
    (fun h1 h2 => Eq.trans h2 h1) (fun W l o o' hl h1 h2 h3 => World.putObj_heap_other (by omega)) (Below.refl _ _) (fun _ => rfl)
    (fun pre W => (∃ v, Boxed W w2.heap.size 35 v ∧ W.ownsRow w.heap.size 22 1 v pre.length (pre.map Sl.val)) ∧ (Own W w3.heap.size 5 (.slice A4 n c4) n l ∧ Boxed W (w4.heap.size + 1) 3 (.int .i64 (m : Int))) ∧ Below w.heap.size w W)
    (fun _ _ _ => False)
    ?own (fun _ _ _ _ _ hs _ _ => hs) ⟨⟨_, bO5, ho5⟩, ⟨hcl5, g51⟩, hb05⟩ ?a1 ?assign ?body ?done ?stop
  case own =>
    rintro s W W' row ⟨⟨v, h1, h2⟩, ⟨h3, h4⟩, h5⟩ hg hr
    have hr' := fun r e => (hr r e).2
    exact ⟨⟨v, box_own h1 hg hr', row_own h2 hg hr'⟩, ⟨row_own h3 hg hr', box_own h4 hg hr'⟩, h5.grown hg h5.size (fun k hk => by have := (hr k hk).1; omega)⟩
  case a1 => exact fun x => { tmps := #[.slice A n c, .int .i64 (m : Int), undef, undef, .slice none 0 0, .pointer (some ⟨w2.heap.size, 0, none⟩), Sl.val x, .int .i64 (m : Int), .bool false, .slice A n c, .int .i64 (n : Int), .int .i64 (m : Int), .int .i64 (manyN n m : Int), .slice (some ⟨w.heap.size, 0, none⟩) 0 (manyN n m), .slice A n c, .slice A4 n c4, .int .i64 (m : Int), .func (.func 26) #[] #[.pointer (some ⟨w4.heap.size, 0, none⟩), .pointer (some ⟨w4.heap.size + 1, 0, none⟩)], Sl.val x, undef, undef, undef, undef, undef], defers := [] }
  case assign =>
    intro l x W K hK
    gi_wp2
    exact hK
  case body =>
    rintro l1 pre ⟨xa, xn, xc⟩ W ⟨⟨v, hv, hrow⟩, ⟨hcl, hbm⟩, hB⟩ hlt
    have hc := hv.cell
    have hBs := hB.size
    dsimp only [Sl.val]
    gi_wp2_with (
      gi_at_builtin
      refine wpListIn_append_own _ rfl _ _ 35 rfl w.heap.size 22 i0 (.slice none 0 0) 1 24 Try.underlying35 hi hz0 hz1 hz2 rfl (by decide) _ _ _ rfl (hrow.alloc _) ⟨W.heap.size, 0, none⟩ 1 1 [.slice xa xn xc] rfl rfl (cell_one_new _ _ _) (by simp [Value.oneCell']) (by simp only [maxLen]; omega) (by omega) (by simp; omega) ?_
      intro v' w1 hown' hgrow _
      obtain ⟨g', cap', rfl⟩ := ownsRow_succ hown'
      obtain ⟨hv1, hv2, hr2, hk2, hb2⟩ := hv.appended (by decide) hrow hB.size hsz2 hown' hgrow
      have hc1 := hv1.cell
      have hf1 := hv1.frozen)
    have bm1 : Boxed w1 (w4.heap.size + 1) 3 (.int .i64 (m : Int)) := (hbm.alloc _).kept hgrow (hbm.not_row (by decide) hrow)
    have bm2 := bm1.kept (grownBy_setCell' w1 w2.heap.size (.slice (some ⟨g', 0, none⟩) (pre.length + 1) cap')) (fun e => hne (by injection e))
    have cl1 : Own w1 w3.heap.size 5 (.slice A4 n c4) n l := OwnV.grown (OwnV.later hcl (nkeep' W _)) (OwnV.later hrow (nkeep' W _)) (by decide) hgrow
    have cl2 := cl1.but hs3 (But.setCell w1 w2.heap.size 0 (.slice (some ⟨g', 0, none⟩) (pre.length + 1) cap'))
    refine ⟨hk2.from _, Eq.trans (show _ = _ from bm2) (show _ = _ from hbm).symm, ⟨⟨_, hv2, ?_⟩, ⟨cl2, bm2⟩, hB.trans hb2⟩⟩
    rw [List.length_append, List.map_append]
    exact hr2
  case done =>
    rintro D ys W hD rfl ⟨⟨v, hv, hrow⟩, ⟨hcl, hbm⟩, hB⟩ hK
    have hc := hv.cell
    rw [uptoV_length] at hrow
    gi_wp2
    refine ⟨by simp, .inl ⟨_, _, rfl, run_takeDeferred hK, ?_⟩⟩
    have hrow' : OwnV (W.putObj D (.deferred none)) w.heap.size 22 v (manyN n m) _ := ownsRow_putObj hrow _ hK rfl
    have hcl' : Own (W.putObj D (.deferred none)) w3.heap.size 5 (.slice A4 n c4) n l := ownsRow_putObj hcl _ hK rfl
    have hB' : Below w.heap.size w (W.putObj D (.deferred none)) := hB.trans (belowK_b (w := w) (Nat.le_refl _) W D _ _ (by omega) hK rfl rfl)
    obtain ⟨A6, c6, rfl, hr6⟩ := OwnV.rd hrow'
    refine ⟨_, results_tmp rfl _ _ _, A6, manyN n m, c6, rowsOf A4 n m l (manyN n m), rfl, ⟨?_, ?_⟩, ?_, hB'⟩
    · rw [rowsOf_val]; exact hr6
    · intro r hr
      unfold rowsOf at hr
      obtain ⟨k, hk, rfl⟩ := List.mem_map.1 hr
      rw [List.mem_range] at hk
      exact hcl'.same.pieceOf hAS (Mid.of hm hk)
    · rw [rowsOf_b, ← hln]; rfl
  case stop =>
    rintro D c pre W _ _ h _
    exact h.elim
end Go.Proofs.Ytapdlcfaghbjhaa
