/- What keep's fresh comes to: a stream with items of its own. -/
import Derived.Test.YtgnaecifinlnmaaKeep2
set_option maxRecDepth 100000
namespace Go.Proofs.Ytgnaecifinlnmaa
open Go.RowKit
set_option linter.unusedVariables false

theorem flat_set {k : Nat} {us : List (Array Value)} {r : Array Value} (h : AllK k us) {j : Nat} (hj : j < us.length) : flat (us.set j r) = (flat us).take (j * k) ++ r.toList ++ (flat us).drop (j * k + k) := by
  rw [List.set_eq_take_append_cons_drop, if_pos hj, flat_append, flat_cons, flat_take h, flat_drop h, Nat.succ_mul, List.append_assoc]
theorem AllK.set {k : Nat} {us : List (Array Value)} {r : Array Value} (h : AllK k us) (j : Nat) (h1 : r.size = k) (h2 : r.all (·.oneCell') = true) : AllK k (us.set j r) := fun q hq => by
  rcases List.mem_or_eq_of_mem_set hq with hq | rfl
  · exact h q hq
  · exact ⟨h1, h2⟩
theorem run_storeCells_off {P : Program} (g off : Nat) (t : TypeId) : ∀ (vs : List Value) (i : Nat) (cur : Array Value) (w : World), w.heap[g]? = some (.cells cur t (0, 0)) → off + i + vs.length ≤ cur.size → (∀ v ∈ vs, v.oneCell' = true) →
    (storeCells ⟨g, off, none⟩ vs i).run P w = .ok () (w.setRow g (cur.toList.take (off + i) ++ vs ++ cur.toList.drop (off + i + vs.length)).toArray)
  | [], i, cur, w, hg, hl, _ => by
    have hlt : g < w.heap.size := (Array.getElem?_eq_some_iff.1 hg).1
    have hv : w.heap[g] = .cells cur t (0, 0) := (Array.getElem?_eq_some_iff.1 hg).2
    simp only [storeCells, List.append_nil, List.length_nil, Nat.add_zero, List.take_append_drop, Array.toArray_toList]
    show Result.ok () w = _
    congr 1
    unfold World.setRow
    cases w with
    | mk heap tape drawn os output =>
      congr 1
      apply Array.ext
      · simp
      · intro k h1 h2
        simp only [Array.getElem_modify]
        split
        · rename_i hk; subst hk; simp at hv; simp [hv]
        · rfl
  | v :: rest, i, cur, w, hg, hl, h1 => by
    have hi : off + i < cur.size := by simp at hl; omega
    have hcell : w.cell? ⟨g, off + i, none⟩ = some cur[off + i] := by simp [World.cell?, hg, hi]
    have hfro : w.frozen? ⟨g, off + i, none⟩ = false := by simp [World.frozen?, hg]
    have hst : (store ((⟨g, off, none⟩ : Addr).add i) v).run P w = .ok () (w.setRow g (cur.setIfInBounds (off + i) v)) := by
      rw [add_eq, run_store P w _ v _ (h1 v (by simp)), hcell]
      simp [hfro, setCell_eq_setRow w g (off + i) cur t (0, 0) v hg]
    have ih := run_storeCells_off (P := P) g off t rest (i + 1) (cur.setIfInBounds (off + i) v) (w.setRow g (cur.setIfInBounds (off + i) v)) (setRow_heap w g cur _ t _ hg) (by simp at hl ⊢; omega) (fun x hx => h1 x (by simp [hx]))
    simp only [storeCells, Sem.run_bind, hst, Result.andThen_ok, ih, setRow_setRow]
    congr 3
    simp only [Array.toList_setIfInBounds]
    have hg1 : (cur.toList.set (off + i) v)[off + i]? = some v := by rw [List.getElem?_set_self (by simpa using hi)]
    rw [show off + (i + 1) = off + i + 1 from by omega, List.take_add_one, List.take_set_of_le (Nat.le_refl _), hg1, List.drop_set_of_lt (by omega), List.length_cons, show off + i + (rest.length + 1) = off + i + 1 + rest.length from by omega]
    simp
theorem take3 (X R Y : List Value) (N : Nat) (h : X.length + R.length ≤ N) : (X ++ R ++ Y).take N = X ++ R ++ Y.take (N - (X.length + R.length)) := by
  rw [List.take_append, List.take_of_length_le (by rw [List.length_append]; exact h), List.length_append]
/-- A struct of a row of the call's own is put anew. -/
theorem OwnK.setAt {P : Program} {k : Nat} {w : World} {base g n cap : Nat} {e : TypeId} {us : List (Array Value)} (h : OwnK k w base e (.slice (some ⟨g, 0, none⟩) n cap) n us) {j : Nat} (hj : j < n) (r : Array Value) (h1 : r.size = k) (h2 : r.all (·.oneCell') = true) :
    ∃ w', (storeCells ⟨g, j * k, none⟩ r.toList).run P w = .ok () w' ∧ OwnK k w' base e (.slice (some ⟨g, 0, none⟩) n cap) n (us.set j r) ∧ But g w w' ∧ (∀ base' w0, Below base' w0 w → base' ≤ g → Below base' w0 w') := by
  obtain ⟨ha, hl, hlen, ho⟩ := h
  rcases ho with ⟨h0, _⟩ | ⟨g', cap', cur, hv, hb, hh, hn, hm, hs, ht⟩
  · cases h0
  injection hv with hv1 hv2 hv3
  injection hv1 with hv1
  injection hv1 with hv1
  subst hv1
  subst hv3
  have hnk : n * k ≤ cap * k := Nat.mul_le_mul_right k hn
  have hjk : j * k + k ≤ n * k := by rw [← Nat.succ_mul]; exact Nat.mul_le_mul_right k hj
  have hcl : cur.toList.length = cap * k := by rw [Array.length_toList]; exact hs
  have hrl : r.toList.length = k := by rw [Array.length_toList]; exact h1
  have hrun := run_storeCells_off (P := P) g (j * k) e r.toList 0 cur w hh (by rw [hrl, hs]; omega) (fun v hv => (Array.all_eq_true_iff_forall_mem.1 h2) v (by simpa using hv))
  rw [Nat.add_zero, hrl] at hrun
  refine ⟨_, hrun, ⟨ha.set j h1 h2, by rw [List.length_set]; exact hl, by rw [flat_length (ha.set j h1 h2), List.length_set, hl], .inr ⟨g, cap, _, rfl, hb, row_setRow w g _ cur e (0, 0) hh, hn, hm, ?_, ?_⟩⟩, But.setRow w g _, fun base' w0 hb' hbg => below_setRow hb' hbg _⟩
  · rw [List.size_toArray, List.length_append, List.length_append, List.length_take, List.length_drop, hrl, hcl]
    omega
  · rw [flat_set ha (by omega), ← ht, List.take_take, Nat.min_eq_left (by omega), List.drop_take, take3 _ _ _ _ (by rw [List.length_take, hcl, hrl]; omega), List.length_take, hcl, hrl, Nat.min_eq_left (by omega)]
theorem OwnK.but {k : Nat} {w w' : World} {base n g : Nat} {e : TypeId} {v : Value} {us : List (Array Value)} (h : OwnK k w base e v n us) (hg : g < base) (hb : But g w w') : OwnK k w' base e v n us := by
  obtain ⟨h0, hl, h⟩ := h
  refine ⟨h0, hl, h.1, ?_⟩
  rcases h.2 with h2 | ⟨q, cap, cur, hv, hq, hh, r⟩
  · exact .inl h2
  · exact .inr ⟨q, cap, cur, hv, hq, (hb.2 q (by omega)).trans hh, r⟩
theorem OwnK.form {k : Nat} {w : World} {base n c : Nat} {e : TypeId} {A : Option Addr} {us : List (Array Value)} (h : OwnK k w base e (.slice A n c) n us) (h0 : 0 < n) : ∃ g, A = some ⟨g, 0, none⟩ ∧ base ≤ g ∧ g < w.heap.size := by
  have hlt := World.ownsRow.lt h.2.2
  rcases h.2.2.2 with ⟨_, h2⟩ | ⟨g, cap, cur, hv, hb, hh, _⟩
  · omega
  · injection hv with hv
    subst hv
    exact ⟨g, rfl, hb, blk_lt hh⟩
theorem OwnK.addr {k : Nat} {w : World} {base n c : Nat} {e : TypeId} {A : Option Addr} {us : List (Array Value)} (h : OwnK k w base e (.slice A n c) n us) : ∀ b o, A = some ⟨b, o, none⟩ → base ≤ b ∧ b < w.heap.size := fun b o hA => World.ownsRow.lt h.2.2 b (by rw [hA]; rfl)
theorem OwnK.same {k : Nat} {w : World} {base n c : Nat} {e : TypeId} {A : Option Addr} {us : List (Array Value)} (h : OwnK k w base e (.slice A n c) n us) : RdK k w A n c us := by
  obtain ⟨A', c', e, hr⟩ := OwnK.rd h
  injection e with e1 e2 e3
  subst e1; subst e3
  exact hr

/-- Structs that are items with lists in blocks from a place on. -/
def AreF (w : World) (lo : Nat) (us : List (Array Value)) (xs : List Item.It) : Prop := us.length = xs.length ∧ ∀ (i : Nat) (r : Array Value) (x : Item.It), us[i]? = some r → xs[i]? = some x → FrI w lo (.agg r) x
theorem AreF.are {w : World} {lo : Nat} {us : List (Array Value)} {xs : List Item.It} (h : AreF w lo us xs) : AreI w us xs := ⟨h.1, fun i r x h1 h2 => (h.2 i r x h1 h2).is⟩
theorem AreF.below {w w' : World} {lo : Nat} {us : List (Array Value)} {xs : List Item.It} (h : AreF w lo us xs) (hb : Below w.heap.size w w') : AreF w' lo us xs := ⟨h.1, fun i r x h1 h2 => (h.2 i r x h1 h2).below hb⟩
theorem AreF.grown {w w' : World} {lo : Nat} {us : List (Array Value)} {xs : List Item.It} {row : Option Nat} (h : AreF w lo us xs) (hg : w.grownBy w' row) (hr : ∀ b, row = some b → b < lo) : AreF w' lo us xs := ⟨h.1, fun i r x h1 h2 => (h.2 i r x h1 h2).grown hg hr⟩
theorem AreF.but {w w' : World} {lo g : Nat} {us : List (Array Value)} {xs : List Item.It} (h : AreF w lo us xs) (hg : g < lo) (hb : But g w w') : AreF w' lo us xs := ⟨h.1, fun i r x h1 h2 => (h.2 i r x h1 h2).but hg hb⟩
theorem AreF.mono {w : World} {lo lo' : Nat} {us : List (Array Value)} {xs : List Item.It} (h : AreF w lo us xs) (hl : lo' ≤ lo) : AreF w lo' us xs := ⟨h.1, fun i r x h1 h2 => (h.2 i r x h1 h2).mono hl⟩
theorem AreF.app {w : World} {lo : Nat} {us vs : List (Array Value)} {xs ys : List Item.It} (h : AreF w lo us xs) (h2 : AreF w lo vs ys) : AreF w lo (us ++ vs) (xs ++ ys) := by
  refine ⟨by simp [h.1, h2.1], fun i t x h3 h4 => ?_⟩
  by_cases hi : i < us.length
  · rw [List.getElem?_append_left hi] at h3
    rw [List.getElem?_append_left (by rw [← h.1]; exact hi)] at h4
    exact h.2 i t x h3 h4
  · rw [List.getElem?_append_right (by omega)] at h3
    rw [List.getElem?_append_right (by rw [← h.1]; omega), ← h.1] at h4
    exact h2.2 _ t x h3 h4
theorem FrI.cells {w : World} {lo : Nat} {v : Value} {x : Item.It} (h : FrI w lo v x) : ∃ r : Array Value, v = .agg r ∧ r.size = 8 ∧ r.all (·.oneCell') = true := h.is.cells
/-- So many items are copied, the others as they were. -/
def HalfF (w0 w : World) (lo j : Nat) (us rs : List (Array Value)) (xs : List Item.It) : Prop := (∀ i, j ≤ i → us[i]? = rs[i]?) ∧ us.length = xs.length ∧ ∀ (i : Nat) (r : Array Value) (x : Item.It), i < j → us[i]? = some r → xs[i]? = some x → FrI w lo (.agg r) x
theorem HalfF.all {w0 w : World} {lo n : Nat} {us rs : List (Array Value)} {xs : List Item.It} (h : HalfF w0 w lo n us rs xs) (hn : us.length = n) : AreF w lo us xs := ⟨h.2.1, fun i r x h1 h2 => h.2.2 i r x (by
  rcases Nat.lt_or_ge i us.length with h | h
  · omega
  · rw [List.getElem?_eq_none h] at h1; cases h1) h1 h2⟩
theorem HalfF.next {w0 w w' : World} {lo j : Nat} {us rs : List (Array Value)} {xs : List Item.It} {r : Array Value} {x : Item.It} (h : HalfF w0 w lo j us rs xs) (hk : ∀ v y, FrI w lo v y → FrI w' lo v y) (hx : xs[j]? = some x) (hr : FrI w' lo (.agg r) x) : HalfF w0 w' lo (j + 1) (us.set j r) rs xs := by
  obtain ⟨h1, h2, h3⟩ := h
  refine ⟨fun i hi => ?_, by rw [List.length_set]; exact h2, fun i q y hi hq hy => ?_⟩
  · rw [List.getElem?_set_ne (by omega)]
    exact h1 i (by omega)
  · by_cases hij : j = i
    · subst hij
      have hlt : j < us.length := by
        rcases Nat.lt_or_ge j us.length with h | h
        · exact h
        · rw [List.getElem?_eq_none (by rw [List.length_set]; exact h)] at hq; cases hq
      rw [List.getElem?_set_self hlt] at hq
      injection hq with hq
      subst hq
      rw [hx] at hy
      injection hy with hy
      subst hy
      exact hr
    · rw [List.getElem?_set_ne hij] at hq
      exact hk _ _ (h3 i q y (by omega) hq hy)
/-- A stream that is the call's own. -/
def FreshK (w : World) (k : Keep.Kp) (e : Ending) (w' : World) : Prop :=
  ∃ A n c us lo, e = .returned (.agg #[.int .i64 k.next, .slice A n c]) ∧ OwnK 8 w' w.heap.size 28 (.slice A n c) n us ∧ AreF w' lo us k.l ∧ (∀ b o, A = some ⟨b, o, none⟩ → b < lo) ∧ lo ≤ w'.heap.size ∧ w.heap.size ≤ lo ∧ Below w.heap.size w w'
def SmallL (xs : List Item.It) : Prop := xs.length ≤ 65536 ∧ ∀ x ∈ xs, x.l.length ≤ 65536 ∧ x.b.length ≤ 65536
abbrev kz : Array Value := #[.int .i64 0, .slice none 0 0]
theorem size2 : (Try.prog.info? 24).map (·.size) = some 2 := by kernel_rfl

set_option maxHeartbeats 4000000 in
theorem fresh_any (v : Value) (k : Keep.Kp) (w : World) (h : IsKeep w v k) (hS : SmallL k.l) : Calls Try.prog 33 #[v] w (FreshK w k) := by
  obtain ⟨A, n, c, rfl, hX⟩ := h
  have hn : n ≤ 65536 := by rw [← hX.size]; exact hS.1
  have hlen := hX.size
  obtain ⟨rs, hK, hI⟩ := hX
  obtain ⟨t1, t2, t3⟩ := two_alloc w (.cells #[.int .i64 k.next, .slice A n c] 24) (.cells kz 24)
  obtain ⟨W, hW⟩ : ∃ W, (w.alloc (.cells #[.int .i64 k.next, .slice A n c] 24)).alloc (.cells kz 24) = W := ⟨_, rfl⟩
  have HS : Hid (W.heap.size = w.heap.size + 2) := by rw [← hW, size_alloc, size_alloc]; rfl
  rw [hW] at t1 t2 t3
  have HW := hidT hW
  have HC := hidT (cloneX_any A n c rs W (hK.below t3) hn)
  obtain ⟨g, hg⟩ : ∃ g, w.heap.size = g := ⟨_, rfl⟩
  rw [hg] at t1 t2
  have HG := hidT hg
  obtain ⟨i0, i1⟩ := cells2 t1
  have T1 := hidT t1
  have T2 := hidT t2
  have T3 := hidT t3
  have HK := hidT hK
  have HI := hidT hI
  have HSM := hidT hS
  clear t1 t2 t3 hW hK hI hS
  go_enter Try.func33, Try.ntmps33
  go_wp2_with fail
  rw [HW.out]
  clear hg
  with_reducible refine HC.out.mono ?_
  rintro e w1 ⟨B, d, rfl, ho1, hb1⟩
  have y1 := keepH T1.out hb1
  have y2 := keepH T2.out hb1
  have f1 := no_frozen y1 1
  obtain ⟨u0, u1⟩ := cells2 y1
  have z1 : (w1.setCell ⟨g, 1, none⟩ (.slice B n d)).heap[g]? = some (.cells #[.int .i64 k.next, .slice B n d] 24 (0, 0)) := heap_setCell_same w1 g 1 _ _ _ y1
  have zb : But g w1 (w1.setCell ⟨g, 1, none⟩ (.slice B n d)) := But.setCell w1 g 1 _
  have hgw : w.heap.size ≤ g := by rw [HG.out]; exact Nat.le_refl _
  have hgW : g + 2 = W.heap.size := by rw [HS.out, HG.out]
  have zo := ho1.but (by omega) zb
  have zB : Below w.heap.size w (w1.setCell ⟨g, 1, none⟩ (.slice B n d)) := (bthen T3.out hb1).setCell (p := ⟨g, 1, none⟩) hgw _
  have z2 := (zb.2 (g + 1) (by omega)).trans y2
  have hsz := zb.1
  have hBl : ∀ b o, B = some ⟨b, o, none⟩ → b < w1.heap.size := fun b o hA => (ho1.addr b o hA).2
  obtain ⟨i0, i1⟩ := cells2 z1
  have Z1 := hidT z1
  have Z2 := hidT z2
  have ZO := hidT zo
  have HBL := hidT hBl
  have HGW := hidT hgW
  have HGw := hidT hgw
  have HSZ := hidT hsz
  have HWS := hidT hb1.size
  clear z1 z2 zo zb hBl hgW hgw hsz y1 y2 ho1 hb1 HC
  clear i0 i1
  go_wp2_with fail
  go_loopw [12] (fun i wr => ∃ (j : Nat) (us : List (Array Value)), j ≤ n ∧ i = .int .i64 j ∧ Hid (wr.heap[g]? = some (.cells #[.int .i64 k.next, .slice B n d] 24 (0, 0))) ∧ Hid (wr.heap[g + 1]? = some (.cells kz 24 (0, 0))) ∧ Hid (OwnK 8 wr W.heap.size 28 (.slice B n d) n us) ∧ Hid (HalfF w wr w1.heap.size j us rs k.l) ∧ Hid (w1.heap.size ≤ wr.heap.size) ∧ Hid (Below w.heap.size w wr)) (fun i _ => n - (intOf i).toNat)
  case atStart => exact ⟨0, rs, Nat.zero_le _, rfl, hidT Z1.out, hidT Z2.out, hidT ZO.out, hidT ⟨fun _ _ => rfl, HI.out.1, fun i r x hi => absurd hi (by omega)⟩, hidT (by rw [HSZ.out]; exact Nat.le_refl _), hidT zB⟩
  case round =>
    obtain ⟨j, us, hj, rfl, X1, X2, HO, HH, HL, HB⟩ := hrel
    clear zB
    by_cases hjn : j < n
    · obtain ⟨gB, rfl, hgB, hgBl⟩ := HO.out.form (by omega)
      have hgB1 := HBL.out gB 0 rfl
      have hjl : j < k.l.length := by omega
      obtain ⟨x, hx⟩ : ∃ x, k.l[j]? = some x := ⟨_, List.getElem?_eq_getElem hjl⟩
      have hjr : j < rs.length := by rw [HI.out.1]; exact hjl
      obtain ⟨r, hr⟩ : ∃ r, rs[j]? = some r := ⟨_, List.getElem?_eq_getElem hjr⟩
      have hu : us[j]? = some r := (HH.out.1 j (Nat.le_refl _)).trans hr
      have hi := HI.out.2 j r x hr hx
      have hsm := HSM.out.2 x (List.mem_of_getElem? hx)
      obtain ⟨LA, ln, lc, BA, bn, bc, e, hl, hb⟩ := id hi
      injection e with e
      subst e
      have HOWN : Hid (∀ w', Below w.heap.size w w' → Calls Try.prog 34 #[.agg #[.int .i64 x.k, .int .i64 x.q, .int .i64 x.e, .int .i64 x.i, .int .i64 x.t, .int .i64 x.c, .slice LA ln lc, .slice BA bn bc]] w' (OwnIs w' x)) :=
        hidT fun w' hb' => own_any _ x w' (hi.below hb') hsm.1 hsm.2
      have hc : ∀ (i : Nat) (u : Value), (#[.int .i64 x.k, .int .i64 x.q, .int .i64 x.e, .int .i64 x.i, .int .i64 x.t, .int .i64 x.c, .slice LA ln lc, .slice BA bn bc] : Array Value)[i]? = some u → wr.cell? ⟨gB, 0 + j * 8 + i, none⟩ = some u := fun i u hh => HO.out.same.cell hu hh
      have c0 := hc 0 _ rfl
      have c1 := hc 1 _ rfl
      have c2 := hc 2 _ rfl
      have c3 := hc 3 _ rfl
      have c4 := hc 4 _ rfl
      have c5 := hc 5 _ rfl
      have c6 := hc 6 _ rfl
      have c7 := hc 7 _ rfl
      simp only [Nat.zero_add, Nat.add_zero] at c0 c1 c2 c3 c4 c5 c6 c7
      have x1 : (0 : Int) ≤ (j : Int) := by omega
      have x2 : (j : Int) < (n : Int) := by omega
      have HX := hidT hx
      have HU := hidT hu
      clear hc hx hu hr hi hsm hl hb hjl hjr i0 i1
      go_wp2_with fail
      have n4 := nkeep wr (.cells #[.int .i64 x.k, .int .i64 x.q, .int .i64 x.e, .int .i64 x.i, .int .i64 x.t, .int .i64 x.c, .slice LA ln lc, .slice BA bn bc] 28)
      have y4 := alloc_at wr (.cells #[.int .i64 x.k, .int .i64 x.q, .int .i64 x.e, .int .i64 x.i, .int .i64 x.t, .int .i64 x.c, .slice LA ln lc, .slice BA bn bc] 28) _ rfl
      clear c0 c1 c2 c3 c4 c5 c6 c7
      obtain ⟨e0, e1, e2, e3, e4, e5, e6, e7⟩ := cells8 y4
      obtain ⟨i0, i1⟩ := cells2 (keepH X1.out n4)
      have N4 := hidT n4
      clear y4 n4
      generalize wr.alloc (.cells #[.int .i64 x.k, .int .i64 x.q, .int .i64 x.e, .int .i64 x.i, .int .i64 x.t, .int .i64 x.c, .slice LA ln lc, .slice BA bn bc] 28) = w4 at *
      go_region_law
        (first
          | (go_simp; go_at_call 34; ((with_reducible refine (HOWN.out _ (bthen HB.out N4.out).drew).mono ?_); rintro e5 w5 ⟨v5, rfl, hF5, hb5'⟩; have hb5 : Below w4.heap.size w4 w5 := undrew hb5'; obtain ⟨r5, rfl, hs5, ha5⟩ := hF5.cells; obtain ⟨w6, hrun6, ho6, hbut6, hbel6⟩ := OwnK.setAt (P := Try.prog) (HO.out.later (bthen N4.out hb5)) hjn r5 hs5 ha5; obtain ⟨i0', i1'⟩ := cells2 (keepH X1.out (bthen N4.out hb5))))
          | fail)
      all_goals
        have hgW := HGW.out
        have hgw := HGw.out
        have hlo := HL.out
        have hb45 := bthen N4.out hb5
        have Y1 := hidT ((hbut6.2 g (by omega)).trans (keepH X1.out hb45))
        have Y2 := hidT ((hbut6.2 (g + 1) (by omega)).trans (keepH X2.out hb45))
        have YO := hidT ho6
        have hsz4 := N4.out.size
        have hsz5 : w4.heap.size ≤ w5.heap.size := hb5.size
        have hF6 : FrI w6 w1.heap.size (.agg r5) x := (hF5.mono (show w1.heap.size ≤ w4.heap.size by omega)).but hgB1 hbut6
        have YH := hidT (HH.out.next (fun v y hv => (hv.below hb45).but hgB1 hbut6) HX.out hF6)
        have YL := hidT (show w1.heap.size ≤ w6.heap.size by rw [hbut6.1]; omega)
        have YB := hidT (hbel6 _ _ (bthen HB.out hb45) (by omega))
        clear hF6 hsz4 hsz5 hb45 hgW hgw hlo hbut6 hbel6 hF5 hb5 hb5' ho6 hs5 ha5 hrun6 i0 i1 i0' i1' e0 e1 e2 e3 e4 e5 e6 e7 f1 u0 u1
        go_wp2
        exact ⟨⟨j + 1, us.set j r5, by omega, by go_num, Y1, Y2, YO, YH, YL, YB⟩, by simp [intOf]; omega⟩
    · obtain rfl : n = j := by omega
      obtain ⟨i0, i1⟩ := cells2 X1.out
      go_wp2_with (
        refine wpList_stI rfl 24 _ _ rfl (g + 1) #[.int .i64 k.next, .slice B n d] rfl rfl _ _ X2.out size2 rfl (by simp [Value.oneCell']) ?_
        intro w7 hg7 hbut hbel)
      obtain ⟨e0, e1⟩ := cells2 hg7
      have hgW := HGW.out
      have hgw := HGw.out
      have hlo : w1.heap.size ≤ w7.heap.size := by rw [hbut.1]; exact HL.out
      have hW1 := HWS.out
      exact bodyPost_ret (v := .agg #[.int .i64 k.next, .slice B n d]) (by simp [results, Try.results33, go_sem, e0, e1]) rfl
        ⟨B, n, d, us, w1.heap.size, rfl, (HO.out.but (by omega) hbut).mono (by omega), (HH.out.all HO.out.2.1).but (by omega) hbut, HBL.out, hlo, by omega, hbel _ _ HB.out (by omega)⟩
end Go.Proofs.Ytgnaecifinlnmaa
