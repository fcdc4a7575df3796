/- Packets as the machine holds them; a struct stored into a part of another one; what pkt.within, pkt.beyond and slices.ContainsFunc come to. -/
import Derived.Test.YtahkhideepncfaaDoorPktMath
import Derived.Test.YtahkhideepncfaaDoorID
import Derived.Test.YtahkhideepncfaaDoorIE
import Derived.Test.YtahkhideepncfaaDoorIG
import Derived.Test.YtahkhideepncfaaDoorBA
set_option maxRecDepth 100000
namespace Go.Proofs.YtahkhideepncfaaDoor
open Go.RowKit
set_option linter.unusedVariables false

theorem run_storeCells_off {P : Program} (g off : Nat) (t : TypeId) : ∀ (vs : List Value) (i : Nat) (cur : Array Value) (w : World), w.heap[g]? = some (.cells cur t (0, 0)) → off + i + vs.length ≤ cur.size → (∀ v ∈ vs, v.oneCell' = true) →
    (storeCells ⟨g, off, none⟩ vs i).run P w = .ok () (w.setRow g (cur.toList.take (off + i) ++ vs ++ cur.toList.drop (off + i + vs.length)).toArray)
  | [], i, cur, w, hg, hl, _ => by
    have hlt : g < w.heap.size := (Array.getElem?_eq_some_iff.1 hg).1
    have hv : w.heap[g] = .cells cur t (0, 0) := (Array.getElem?_eq_some_iff.1 hg).2
    simp only [storeCells, List.append_nil, List.length_nil, Nat.add_zero, List.take_append_drop, Array.toArray_toList]
    show Result.ok () w = _
    congr 1
    unfold World.setRow
    cases w with
    | mk heap tape drawn os output =>
      congr 1
      apply Array.ext
      · simp
      · intro k h1 h2
        simp only [Array.getElem_modify]
        split
        · rename_i hk; subst hk; simp at hv; simp [hv]
        · rfl
  | v :: rest, i, cur, w, hg, hl, h1 => by
    have hi : off + i < cur.size := by simp at hl; omega
    have hcell : w.cell? ⟨g, off + i, none⟩ = some cur[off + i] := by simp [World.cell?, hg, hi]
    have hfro : w.frozen? ⟨g, off + i, none⟩ = false := by simp [World.frozen?, hg]
    have hst : (store ((⟨g, off, none⟩ : Addr).add i) v).run P w = .ok () (w.setRow g (cur.setIfInBounds (off + i) v)) := by
      rw [add_eq, run_store P w _ v _ (h1 v (by simp)), hcell]
      simp [hfro, setCell_eq_setRow w g (off + i) cur t (0, 0) v hg]
    have ih := run_storeCells_off (P := P) g off t rest (i + 1) (cur.setIfInBounds (off + i) v) (w.setRow g (cur.setIfInBounds (off + i) v)) (setRow_heap w g cur _ t _ hg) (by simp at hl ⊢; omega) (fun x hx => h1 x (by simp [hx]))
    simp only [storeCells, Sem.run_bind, hst, Result.andThen_ok, ih, setRow_setRow]
    congr 3
    simp only [Array.toList_setIfInBounds]
    have hg1 : (cur.toList.set (off + i) v)[off + i]? = some v := by rw [List.getElem?_set_self (by simpa using hi)]
    rw [show off + (i + 1) = off + i + 1 from by omega, List.take_add_one, List.take_set_of_le (Nat.le_refl _), hg1, List.drop_set_of_lt (by omega), List.length_cons, show off + i + (rest.length + 1) = off + i + 1 + rest.length from by omega]
    simp
/-- A struct is stored into a part of another one. -/
theorem wpList_stP {P : Program} {ops : Array Oper} {rest : List Oper} {o : Oper} {a : Act} {w : World} {Q : Exit → Act → World → Prop} (hgd : o.guard = none) (ty : TypeId) (x y : Operand) (ho : o.op = .store ty x y)
    (g off : Nat) (cells : Array Value) (hx : a.eval x = .pointer (some ⟨g, off, none⟩)) (hy : a.eval y = .agg cells)
    (t : TypeId) (old new : Array Value) (hg : w.heap[g]? = some (.cells old t (0, 0))) (hi : (P.info? ty).map (·.size) = some cells.size)
    (hold : off + cells.size ≤ old.size) (h1 : cells.all (·.oneCell') = true) (hnew : (old.toList.take off ++ cells.toList ++ old.toList.drop (off + cells.size)).toArray = new)
    (h : ∀ w', w'.heap[g]? = some (.cells new t (0, 0)) → But g w w' → (∀ base w0, Below base w0 w → base ≤ g → Below base w0 w') → wpList P ops Q rest (a.put o.dst undef) w') : wpList P ops Q (o :: rest) a w := by
  have hrun := run_storeCells_off (P := P) g off t cells.toList 0 old w hg (by simpa using hold) (fun v hv => (Array.all_eq_true_iff_forall_mem.1 h1) v (by simpa using hv))
  have hsv : (storeVar ty ⟨g, off, none⟩ (.agg cells)).run P w = .ok () (w.setRow g new) := by
    cases hq : P.info? ty with
    | none => simp [hq] at hi
    | some i =>
      have hs : cells.size = i.size := by simp [hq] at hi; omega
      rw [Nat.add_zero, Array.length_toList, hnew] at hrun
      simp [storeVar, sizeOf, typeInfo, hq, Value.cells, hs, hrun]
  refine wpList_plain hgd fun K hK => ?_
  unfold Oper.wp execOp
  simp only [ho, hx, hy, Instr.storeAt, Instr.sureAddr, Sem.run_bind, Sem.run_pure, Result.andThen_ok, hsv]
  exact hK _ _ (h _ (row_setRow w g new old t (0, 0) hg) (But.setRow w g new) fun base w0 hb hbg => below_setRow hb hbg new)

/-- A packet, as the machine holds it. -/
def IsPkt (w : World) (v : Value) (p : Pkt.Pk) : Prop :=
  ∃ LA ln lc BA bn bc PA pn pc, v = .agg #[.int .i64 p.k, .int .i64 p.f, .int .i64 p.it.k, .int .i64 p.it.q, .int .i64 p.it.e, .int .i64 p.it.i, .int .i64 p.it.t, .int .i64 p.it.c, .slice LA ln lc, .slice BA bn bc, .int .i64 p.to, .int .i64 p.lo, .int .i64 p.many, .int .i64 p.top, .slice PA pn pc] ∧
    RdI w LA ln lc p.it.l ∧ Rd w BA bn bc p.it.b ∧ RdI w PA pn pc p.l
theorem IsPkt.below {w w' : World} {v : Value} {p : Pkt.Pk} (h : IsPkt w v p) (hb : Below w.heap.size w w') : IsPkt w' v p := by
  obtain ⟨LA, ln, lc, BA, bn, bc, PA, pn, pc, rfl, h1, h2, h3⟩ := h
  exact ⟨LA, ln, lc, BA, bn, bc, PA, pn, pc, rfl, RdV.below h1 hb, h2.below hb, RdV.below h3 hb⟩
abbrev zpkt : Array Value := #[.int .i64 0, .int .i64 0, .int .i64 0, .int .i64 0, .int .i64 0, .int .i64 0, .int .i64 0, .int .i64 0, .slice none 0 0, .slice none 0 0, .int .i64 0, .int .i64 0, .int .i64 0, .int .i64 0, .slice none 0 0]
theorem zero_pkt (w : World) : IsPkt w (.agg zpkt) Pkt.Pk.zero := ⟨none, 0, 0, none, 0, 0, none, 0, 0, rfl, RdV.nil_ w, Rd.nil_ w, RdV.nil_ w⟩
theorem zero_item (w : World) : IsItem w (.agg zcells) Item.It.zero := ⟨none, 0, 0, none, 0, 0, rfl, RdV.nil_ w, Rd.nil_ w⟩
theorem info37 : (Tryd.prog.info? 27).map (·.size) = some 15 := by kernel_rfl
theorem cells15 {w : World} {g : Nat} {a0 a1 a2 a3 a4 a5 a6 a7 a8 a9 a10 a11 a12 a13 a14 : Value} {t : TypeId} (h : w.heap[g]? = some (.cells #[a0, a1, a2, a3, a4, a5, a6, a7, a8, a9, a10, a11, a12, a13, a14] t (0, 0))) :
    (w.cell? ⟨g, 0, none⟩ = some a0 ∧ w.cell? ⟨g, 1, none⟩ = some a1) ∧ (w.cell? ⟨g, 2, none⟩ = some a2 ∧ w.cell? ⟨g, 3, none⟩ = some a3 ∧ w.cell? ⟨g, 4, none⟩ = some a4 ∧ w.cell? ⟨g, 5, none⟩ = some a5 ∧ w.cell? ⟨g, 6, none⟩ = some a6 ∧ w.cell? ⟨g, 7, none⟩ = some a7 ∧ w.cell? ⟨g, 8, none⟩ = some a8 ∧ w.cell? ⟨g, 9, none⟩ = some a9) ∧
    (w.cell? ⟨g, 10, none⟩ = some a10 ∧ w.cell? ⟨g, 11, none⟩ = some a11 ∧ w.cell? ⟨g, 12, none⟩ = some a12 ∧ w.cell? ⟨g, 13, none⟩ = some a13 ∧ w.cell? ⟨g, 14, none⟩ = some a14) :=
  ⟨⟨cell_at h 0 rfl, cell_at h 1 rfl⟩, ⟨cell_at h 2 rfl, cell_at h 3 rfl, cell_at h 4 rfl, cell_at h 5 rfl, cell_at h 6 rfl, cell_at h 7 rfl, cell_at h 8 rfl, cell_at h 9 rfl⟩, cell_at h 10 rfl, cell_at h 11 rfl, cell_at h 12 rfl, cell_at h 13 rfl, cell_at h 14 rfl⟩
theorem all15 {a0 a1 a2 a3 a4 a5 a6 a7 a8 a9 a10 a11 a12 a13 a14 : Value} (h0 : a0.oneCell' = true) (h1 : a1.oneCell' = true) (h2 : a2.oneCell' = true) (h3 : a3.oneCell' = true) (h4 : a4.oneCell' = true) (h5 : a5.oneCell' = true) (h6 : a6.oneCell' = true) (h7 : a7.oneCell' = true) (h8 : a8.oneCell' = true) (h9 : a9.oneCell' = true) (h10 : a10.oneCell' = true) (h11 : a11.oneCell' = true) (h12 : a12.oneCell' = true) (h13 : a13.oneCell' = true) (h14 : a14.oneCell' = true) :
    (#[a0, a1, a2, a3, a4, a5, a6, a7, a8, a9, a10, a11, a12, a13, a14] : Array Value).all (·.oneCell') = true := by simp [h0, h1, h2, h3, h4, h5, h6, h7, h8, h9, h10, h11, h12, h13, h14]

theorem pwithin_is (n a b : Int) (w : World) :
    Calls Tryd.prog 27 #[.int .i64 n, .int .i64 a, .int .i64 b] w (JustIs w (Item.win n a b)) := by
  by_cases h1 : a ≤ n
  · by_cases h2 : n ≤ b
    · have q1 : decide (a ≤ n) = true := by simpa using h1
      have q2 : decide (n ≤ b) = true := by simpa using h2
      have e : Item.win n a b = true := by simp [Item.win, h1, h2]
      rw [e]
      go_enter Tryd.func27, Tryd.ntmps27
      go_wp2
      go_ret
      exact ⟨rfl, rfl⟩
    · have q1 : decide (a ≤ n) = true := by simpa using h1
      have q2 : decide (n ≤ b) = false := by simpa using h2
      have e : Item.win n a b = false := by simp [Item.win, h1, h2]
      rw [e]
      go_enter Tryd.func27, Tryd.ntmps27
      go_wp2
      go_ret
      exact ⟨rfl, rfl⟩
  · have q1 : decide (a ≤ n) = false := by simpa using h1
    have e : Item.win n a b = false := by simp [Item.win, h1]
    rw [e]
    go_enter Tryd.func27, Tryd.ntmps27
    go_wp2
    go_ret
    exact ⟨rfl, rfl⟩

theorem beyond_is (n : Int) (w : World) :
    Calls Tryd.prog 28 #[.int .i64 n] w (JustIs w (!Item.win n 0 4611686018427387904)) := by
  go_enter Tryd.func28, Tryd.ntmps28
  go_wp2_with fail
  with_reducible refine (pwithin_is n 0 4611686018427387904 _).mono ?_
  rintro e w1 ⟨rfl, rfl⟩
  go_wp2
  go_ret
  exact ⟨rfl, rfl⟩

theorem pindexFunc_is (A : Option Addr) (n c : Nat) (l : List Int) (w : World) (h : RdI w A n c l) :
    Calls Tryd.prog 53 #[.slice A n c, .func (.func 28) #[] #[]] w fun e w' => ∃ r : Int, e = .returned (.int .i64 r) ∧ w = w' ∧ decide (0 ≤ r) = !Item.allIn l 4611686018427387904 := by
  have hn := RdV.le h
  have hl := RdI.size h
  have HL := hidT hl
  clear hl
  go_enter Tryd.func53, Tryd.ntmps53
  go_wp2
  go_loop [8] (fun i => ∃ j : Nat, j ≤ n ∧ i = .int .i64 j ∧ Item.allIn (l.take j) 4611686018427387904 = true) (fun i => n - (intOf i).toNat)
  case atStart => exact ⟨0, Nat.zero_le _, rfl, rfl⟩
  case round =>
    obtain ⟨j, hj, rfl, ha⟩ := hrel
    have HA := hidT ha
    clear ha
    by_cases hjn : j < n
    · obtain ⟨b, o, x, rfl, hx, hc⟩ := RdI.at_ h hjn
      have HX := hidT hx
      clear hx
      cases hw : Item.win x 0 4611686018427387904 with
      | true =>
        have HW := hidT hw
        have hu := beyond_is x w
        rw [hw] at hu
        clear hw
        go_wp2_with fail
        with_reducible refine hu.mono ?_
        rintro e w1 ⟨rfl, rfl⟩
        go_wp2
        go_round
        case rel => exact ⟨j + 1, by omega, by go_num, allIn_succ HX.out HA.out HW.out⟩
        case measure => simp [intOf]; omega
      | false =>
        have HW := hidT hw
        have hu := beyond_is x w
        rw [hw] at hu
        clear hw
        go_wp2_with fail
        with_reducible refine hu.mono ?_
        rintro e w1 ⟨rfl, rfl⟩
        go_wp2
        go_ret
        refine ⟨_, rfl, rfl, ?_⟩
        rw [allIn_not HX.out HW.out]
        simp
    · obtain rfl : j = n := by omega
      go_wp2
      go_ret
      refine ⟨_, rfl, rfl, ?_⟩
      have ha := HA.out
      rw [List.take_of_length_le (by rw [HL.out]; omega)] at ha
      rw [ha]
      rfl

theorem pcontainsFunc_is (A : Option Addr) (n c : Nat) (l : List Int) (w : World) (h : RdI w A n c l) :
    Calls Tryd.prog 29 #[.slice A n c, .func (.func 28) #[] #[]] w (JustIs w (!Item.allIn l 4611686018427387904)) := by
  go_enter Tryd.func29, Tryd.ntmps29
  go_wp2_with fail
  with_reducible refine (pindexFunc_is A n c l w h).mono ?_
  rintro e w1 ⟨r, rfl, rfl, hr⟩
  by_cases h0 : 0 ≤ r
  · have q : decide (0 ≤ r) = true := by simpa using h0
    rw [q] at hr
    rw [← hr]
    go_wp2
    go_ret
    exact ⟨rfl, rfl⟩
  · have q : decide (0 ≤ r) = false := by simpa using h0
    rw [q] at hr
    rw [← hr]
    go_wp2
    go_ret
    exact ⟨rfl, rfl⟩
end Go.Proofs.YtahkhideepncfaaDoor
