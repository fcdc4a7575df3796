/- What the texts of this stage share: rows of structs that are written, clones and comparisons of rows. -/
import Derived.Test.YtmlmkkfieeaejaaMem
import Derived.Test.YtmlmkkfieeaejaaMemV
import Derived.Test.YtmlmkkfieeaejaaCom
import Derived.Test.YtmlmkkfieeaejaaRow
import Derived.Test.YtmlmkkfieeaejaaOpen
import Derived.Test.YtmlmkkfieeaejaaClone
import Derived.Test.YtmlmkkfieeaejaaStruct
import Derived.Test.YtmlmkkfieeaejaaHeap
import Derived.Test.YtmlmkkfieeaejaaSlices
import Derived.Test.YtmlmkkfieeaejaaAppD
import Derived.Test.YtmlmkkfieeaejaaLaneMem
import Derived.Test.YtmlmkkfieeaejaaRefSame
import Derived.Deep.RegionHeldLaw
import Derived.Deep.RegionHeld3
import Derived.Deep.RegionLaw
import Derived.Lib.AppendZeros
import Derived.Lib.SliceRun
import Derived.WalkMore
import Derived.LoopN
set_option maxRecDepth 100000
namespace Go.Proofs.Ytmlmkkfieeaejaa
open Go.RowKit
set_option linter.unusedVariables false

def BoolIs (w : World) (b : Bool) (e : Ending) (w' : World) : Prop := e = .returned (.bool b) ∧ Below w.heap.size w w'
/-- A bool, and nothing turned or made. -/
def JustIs (w : World) (b : Bool) (e : Ending) (w' : World) : Prop := e = .returned (.bool b) ∧ w = w'
theorem BoolIs.of {w w' : World} {a b : Bool} (hb : Below w.heap.size w w') (h : b = a) : BoolIs w a (.returned (.bool b)) w' := by subst h; exact ⟨rfl, hb⟩
/-- The call says so, and leaves all as it was. -/
def JustN (w : World) (k : Int) (e : Ending) (w' : World) : Prop := e = .returned (.int .i64 k) ∧ w' = w
def JustB (w : World) (t : Bool) (e : Ending) (w' : World) : Prop := e = .returned (.bool t) ∧ w' = w
/-- The call says so, and turns nothing that was. -/
def Says (w : World) (t : Bool) (e : Ending) (w' : World) : Prop := e = .returned (.bool t) ∧ Below w.heap.size w w'
theorem cells4 {w : World} {g : Nat} {a0 a1 a2 a3 : Value} {t : TypeId} (h : w.heap[g]? = some (.cells #[a0, a1, a2, a3] t (0, 0))) : w.cell? ⟨g, 0, none⟩ = some a0 ∧ w.cell? ⟨g, 1, none⟩ = some a1 ∧ w.cell? ⟨g, 2, none⟩ = some a2 ∧ w.cell? ⟨g, 3, none⟩ = some a3 :=
  ⟨cell_at h 0 rfl, cell_at h 1 rfl, cell_at h 2 rfl, cell_at h 3 rfl⟩
/-- An item, as the machine holds it. -/
def IsItem (w : World) (v : Value) (x : Item.It) : Prop :=
  ∃ LA ln lc BA bn bc, v = .agg #[.int .i64 x.k, .int .i64 x.q, .int .i64 x.e, .int .i64 x.i, .int .i64 x.t, .int .i64 x.c, .slice LA ln lc, .slice BA bn bc] ∧ RdI w LA ln lc x.l ∧ Rd w BA bn bc x.b
theorem IsItem.below {w w' : World} {v : Value} {x : Item.It} (h : IsItem w v x) (hb : Below w.heap.size w w') : IsItem w' v x := by
  obtain ⟨LA, ln, lc, BA, bn, bc, rfl, h1, h2⟩ := h
  exact ⟨LA, ln, lc, BA, bn, bc, rfl, RdV.below h1 hb, h2.below hb⟩
theorem ask_at {x : Item.It} {j : Int} (h : x.k = j) : Item.ask x = if j = 1 then Item.ask1 x else if j = 2 then Item.askN x 1 0 1 64 63 else if j = 3 then Item.askN x 0 0 0 0 0 else if j = 4 then Item.askN x 1 0 0 0 0
  else if j = 5 then Item.askN x 0 4611686018427387904 0 0 0 else if j = 6 then Item.askN x 0 0 2 64 4611686018427387904 else false := by
  subst h; rfl
theorem ask_none {x : Item.It} (k1 : x.k ≠ 1) (k2 : x.k ≠ 2) (k3 : x.k ≠ 3) (k4 : x.k ≠ 4) (k5 : x.k ≠ 5) (k6 : x.k ≠ 6) : Item.ask x = false := by
  simp [Item.ask, k1, k2, k3, k4, k5, k6]
theorem info3 : (Try.prog.info? 3).map (fun i => (i.zero, i.size, i.bytes)) = some (some (.int .i64 0), 1, 8) := by kernel_rfl
theorem cloneI_any (A : Option Addr) (n c : Nat) (l : List Int) (w : World) (h : RdI w A n c l) (hn : n ≤ 65536) :
    Calls Try.prog 51 #[.slice A n c] w (fun e w' => ∃ B d, e = .returned (.slice B n d) ∧ OwnV w' w.heap.size 3 (.slice B n d) n (is l) ∧ Below w.heap.size w w') := by
  have hq := fun w => Lib.run_eql_slice_nil (P := Try.prog) w 31 3 A n c 0 0 Try.underlying31
  cases A with
  | none =>
    obtain ⟨rfl, rfl, hl⟩ := h.nilA
    go_enter Try.func51, Try.ntmps51
    go_wp2
    go_ret
    rw [hl]
    exact ⟨none, 0, rfl, World.ownsRow_nil _ _ _ _, Below.refl _ _⟩
  | some ad =>
    go_enter Try.func51, Try.ntmps51
    go_wp2_with (
      at_builtin
      refine wpList_appV rfl (.tmp 5) (.tmp 6) 31 rfl w.heap.size 3 (.int .i64 0) 8 info3 rfl (by omega) Try.underlying31 (.slice (some ⟨w.heap.size, 0, none⟩) 0 0) 0 [] rfl ?own (some ad) n c (is l) rfl ?rd (is_one _) ?h63 ?hb ?_
      case own => exact World.ownsRow_made (base := w.heap.size) (e := 3) (size := 1) w #[] 0 (Nat.le_refl _) (Nat.zero_le _) rfl
      case rd => exact h.alloc _
      case h63 => omega
      case hb => simp
      intro v1 w1 hown hb hg)
    go_ret
    rw [Nat.zero_add, List.nil_append] at hown
    obtain ⟨B, d, rfl, _⟩ := OwnV.rd hown
    exact ⟨B, d, rfl, hown, ((Below.refl _ _).alloc (Nat.le_refl _) _).trans hb⟩
theorem RdV.grown {w w' : World} {A : Option Addr} {n c : Nat} {l : List Value} {row : Option Nat} (h : RdV w A n c l) (hg : w.grownBy w' row) (hr : ∀ b o, A = some ⟨b, o, none⟩ → row ≠ some b) : RdV w' A n c l := by
  obtain ⟨h1, h2, h3, h4, h5⟩ := h
  refine ⟨h1, h2, h3, h4, fun h0 => ?_⟩
  obtain ⟨b, o, hA, hc⟩ := h5 h0
  exact ⟨b, o, hA, fun i x hx => hg.cell (hc i x hx) (fun e => hr b o hA e.symm)⟩
theorem flat_set {k : Nat} {us : List (Array Value)} {r : Array Value} (h : AllK k us) {j : Nat} (hj : j < us.length) : flat (us.set j r) = (flat us).take (j * k) ++ r.toList ++ (flat us).drop (j * k + k) := by
  rw [List.set_eq_take_append_cons_drop, if_pos hj, flat_append, flat_cons, flat_take h, flat_drop h, Nat.succ_mul, List.append_assoc]
theorem AllK.set {k : Nat} {us : List (Array Value)} {r : Array Value} (h : AllK k us) (j : Nat) (h1 : r.size = k) (h2 : r.all (·.oneCell') = true) : AllK k (us.set j r) := fun q hq => by
  rcases List.mem_or_eq_of_mem_set hq with hq | rfl
  · exact h q hq
  · exact ⟨h1, h2⟩
theorem run_storeCells_off {P : Program} (g off : Nat) (t : TypeId) : ∀ (vs : List Value) (i : Nat) (cur : Array Value) (w : World), w.heap[g]? = some (.cells cur t (0, 0)) → off + i + vs.length ≤ cur.size → (∀ v ∈ vs, v.oneCell' = true) →
    (storeCells ⟨g, off, none⟩ vs i).run P w = .ok () (w.setRow g (cur.toList.take (off + i) ++ vs ++ cur.toList.drop (off + i + vs.length)).toArray)
  | [], i, cur, w, hg, hl, _ => by
    have hlt : g < w.heap.size := (Array.getElem?_eq_some_iff.1 hg).1
    have hv : w.heap[g] = .cells cur t (0, 0) := (Array.getElem?_eq_some_iff.1 hg).2
    simp only [storeCells, List.append_nil, List.length_nil, Nat.add_zero, List.take_append_drop, Array.toArray_toList]
    show Result.ok () w = _
    congr 1
    unfold World.setRow
    cases w with
    | mk heap tape drawn os output =>
      congr 1
      apply Array.ext
      · simp
      · intro k h1 h2
        simp only [Array.getElem_modify]
        split
        · rename_i hk; subst hk; simp at hv; simp [hv]
        · rfl
  | v :: rest, i, cur, w, hg, hl, h1 => by
    have hi : off + i < cur.size := by simp at hl; omega
    have hcell : w.cell? ⟨g, off + i, none⟩ = some cur[off + i] := by simp [World.cell?, hg, hi]
    have hfro : w.frozen? ⟨g, off + i, none⟩ = false := by simp [World.frozen?, hg]
    have hst : (store ((⟨g, off, none⟩ : Addr).add i) v).run P w = .ok () (w.setRow g (cur.setIfInBounds (off + i) v)) := by
      rw [add_eq, run_store P w _ v _ (h1 v (by simp)), hcell]
      simp [hfro, setCell_eq_setRow w g (off + i) cur t (0, 0) v hg]
    have ih := run_storeCells_off (P := P) g off t rest (i + 1) (cur.setIfInBounds (off + i) v) (w.setRow g (cur.setIfInBounds (off + i) v)) (setRow_heap w g cur _ t _ hg) (by simp at hl ⊢; omega) (fun x hx => h1 x (by simp [hx]))
    simp only [storeCells, Sem.run_bind, hst, Result.andThen_ok, ih, setRow_setRow]
    congr 3
    simp only [Array.toList_setIfInBounds]
    have hg1 : (cur.toList.set (off + i) v)[off + i]? = some v := by rw [List.getElem?_set_self (by simpa using hi)]
    rw [show off + (i + 1) = off + i + 1 from by omega, List.take_add_one, List.take_set_of_le (Nat.le_refl _), hg1, List.drop_set_of_lt (by omega), List.length_cons, show off + i + (rest.length + 1) = off + i + 1 + rest.length from by omega]
    simp
theorem take3 (X R Y : List Value) (N : Nat) (h : X.length + R.length ≤ N) : (X ++ R ++ Y).take N = X ++ R ++ Y.take (N - (X.length + R.length)) := by
  rw [List.take_append, List.take_of_length_le (by rw [List.length_append]; exact h), List.length_append]
/-- A struct of a row of the call's own is put anew. -/
theorem OwnK.setAt {P : Program} {k : Nat} {w : World} {base g n cap : Nat} {e : TypeId} {us : List (Array Value)} (h : OwnK k w base e (.slice (some ⟨g, 0, none⟩) n cap) n us) {j : Nat} (hj : j < n) (r : Array Value) (h1 : r.size = k) (h2 : r.all (·.oneCell') = true) :
    ∃ w', (storeCells ⟨g, j * k, none⟩ r.toList).run P w = .ok () w' ∧ OwnK k w' base e (.slice (some ⟨g, 0, none⟩) n cap) n (us.set j r) ∧ But g w w' ∧ (∀ base' w0, Below base' w0 w → base' ≤ g → Below base' w0 w') := by
  obtain ⟨ha, hl, hlen, ho⟩ := h
  rcases ho with ⟨h0, _⟩ | ⟨g', cap', cur, hv, hb, hh, hn, hm, hs, ht⟩
  · cases h0
  injection hv with hv1 hv2 hv3
  injection hv1 with hv1
  injection hv1 with hv1
  subst hv1
  subst hv3
  have hnk : n * k ≤ cap * k := Nat.mul_le_mul_right k hn
  have hjk : j * k + k ≤ n * k := by rw [← Nat.succ_mul]; exact Nat.mul_le_mul_right k hj
  have hcl : cur.toList.length = cap * k := by rw [Array.length_toList]; exact hs
  have hrl : r.toList.length = k := by rw [Array.length_toList]; exact h1
  have hrun := run_storeCells_off (P := P) g (j * k) e r.toList 0 cur w hh (by rw [hrl, hs]; omega) (fun v hv => (Array.all_eq_true_iff_forall_mem.1 h2) v (by simpa using hv))
  rw [Nat.add_zero, hrl] at hrun
  refine ⟨_, hrun, ⟨ha.set j h1 h2, by rw [List.length_set]; exact hl, by rw [flat_length (ha.set j h1 h2), List.length_set, hl], .inr ⟨g, cap, _, rfl, hb, row_setRow w g _ cur e (0, 0) hh, hn, hm, ?_, ?_⟩⟩, But.setRow w g _, fun base' w0 hb' hbg => below_setRow hb' hbg _⟩
  · rw [List.size_toArray, List.length_append, List.length_append, List.length_take, List.length_drop, hrl, hcl]
    omega
  · rw [flat_set ha (by omega), ← ht, List.take_take, Nat.min_eq_left (by omega), List.drop_take, take3 _ _ _ _ (by rw [List.length_take, hcl, hrl]; omega), List.length_take, hcl, hrl, Nat.min_eq_left (by omega)]
theorem OwnK.but {k : Nat} {w w' : World} {base n g : Nat} {e : TypeId} {v : Value} {us : List (Array Value)} (h : OwnK k w base e v n us) (hg : g < base) (hb : But g w w') : OwnK k w' base e v n us := by
  obtain ⟨h0, hl, h⟩ := h
  refine ⟨h0, hl, h.1, ?_⟩
  rcases h.2 with h2 | ⟨q, cap, cur, hv, hq, hh, r⟩
  · exact .inl h2
  · exact .inr ⟨q, cap, cur, hv, hq, (hb.2 q (by omega)).trans hh, r⟩
theorem OwnK.form {k : Nat} {w : World} {base n c : Nat} {e : TypeId} {A : Option Addr} {us : List (Array Value)} (h : OwnK k w base e (.slice A n c) n us) (h0 : 0 < n) : ∃ g, A = some ⟨g, 0, none⟩ ∧ base ≤ g ∧ g < w.heap.size := by
  have hlt := World.ownsRow.lt h.2.2
  rcases h.2.2.2 with ⟨_, h2⟩ | ⟨g, cap, cur, hv, hb, hh, _⟩
  · omega
  · injection hv with hv
    subst hv
    exact ⟨g, rfl, hb, blk_lt hh⟩
theorem OwnK.addr {k : Nat} {w : World} {base n c : Nat} {e : TypeId} {A : Option Addr} {us : List (Array Value)} (h : OwnK k w base e (.slice A n c) n us) : ∀ b o, A = some ⟨b, o, none⟩ → base ≤ b ∧ b < w.heap.size := fun b o hA => World.ownsRow.lt h.2.2 b (by rw [hA]; rfl)
theorem OwnK.same {k : Nat} {w : World} {base n c : Nat} {e : TypeId} {A : Option Addr} {us : List (Array Value)} (h : OwnK k w base e (.slice A n c) n us) : RdK k w A n c us := by
  obtain ⟨A', c', e, hr⟩ := OwnK.rd h
  injection e with e1 e2 e3
  subst e1; subst e3
  exact hr
theorem OwnK.rowlt {k : Nat} {w : World} {base n c lo : Nat} {e : TypeId} {A : Option Addr} {us : List (Array Value)} (h : OwnK k w base e (.slice A n c) n us) (hl : ∀ b o, A = some ⟨b, o, none⟩ → b < lo) : ∀ b, (Value.slice A n c).ownBlock = some b → b < lo := by
  intro b hb
  rcases h.2.2.2 with ⟨h2, _⟩ | ⟨g, cap, cur, hv, _⟩
  · injection h2 with h2
    subst h2
    simp [Value.ownBlock] at hb
  · injection hv with hv
    subst hv
    simp [Value.ownBlock] at hb
    subst hb
    exact hl g 0 rfl
theorem st8 {w : World} {g : Nat} {old : Array Value} {t : TypeId} (h : w.heap[g]? = some (.cells old t (0, 0))) (cells : Array Value) (hs : old.size = cells.size) (h1 : cells.all (·.oneCell') = true) :
    ∃ (w' : World), (storeCells ⟨g, 0, none⟩ cells.toList).run Try.prog w = .ok () w' ∧ Hid (w'.heap[g]? = some (.cells cells t (0, 0))) ∧ Hid (But g w w') ∧ Hid (∀ base w0, Below base w0 w → base ≤ g → Below base w0 w') := by
  have hrun := run_storeCells_off (P := Try.prog) g 0 t cells.toList 0 old w h (by simp [hs]) (fun v hv => (Array.all_eq_true_iff_forall_mem.1 h1) v (by simpa using hv))
  have e : (old.toList.take (0 + 0) ++ cells.toList ++ old.toList.drop (0 + 0 + cells.toList.length)).toArray = cells := by
    rw [List.drop_of_length_le (by simp [hs])]
    simp
  rw [e] at hrun
  exact ⟨w.setRow g cells, hrun, row_setRow w g cells old t (0, 0) h, But.setRow w g cells, fun base w0 hb hbg => below_setRow hb hbg cells⟩
theorem bytesEqual_is (A : Option Addr) (n c : Nat) (a : List UInt8) (B : Option Addr) (m d : Nat) (b : List UInt8) (w : World) (ha : Rd w A n c a) (hb : Rd w B m d b) (t : Bool) (ht : decide (a = b) = t) :
    Calls Try.prog 59 #[.slice A n c, .slice B m d] w (JustB w t) := by
  have s1 := strs ha w (Below.refl _ _)
  have s2 := strs hb w (Below.refl _ _)
  have q := str_beq a b
  rw [ht] at q
  clear ha hb ht
  cases t
  all_goals
    go_enter Try.func59, Try.ntmps59
    go_wp2
    go_ret
    exact ⟨rfl, rfl⟩
set_option maxHeartbeats 400000 in
theorem equal_any (A : Option Addr) (n c : Nat) (a : List Int) (B : Option Addr) (m d : Nat) (b : List Int) (w : World) (ha : RdI w A n c a) (hb : RdI w B m d b) :
    Calls Try.prog 60 #[.slice A n c, .slice B m d] w fun e w' => e = .returned (.bool (decide (a = b))) ∧ ∃ k, w' = w.drewN k := by
  have hn := RdV.le ha
  have hla := RdI.size ha
  have hlb := RdI.size hb
  by_cases hnm : n = m
  · subst hnm
    have HA := hidT hla
    have HB := hidT hlb
    clear hla hlb
    go_enter Try.func60, Try.ntmps60
    go_wp2
    go_loopw [13] (fun i w' => ∃ j : Nat, j ≤ n ∧ i = .int .i64 j ∧ Hid (a.take j = b.take j) ∧ ∃ k, w' = w.drewN k) (fun i _ => n - (intOf i).toNat)
    case atStart => exact ⟨0, Nat.zero_le _, rfl, hidT rfl, 0, rfl⟩
    case round =>
      obtain ⟨j, hj, rfl, HT, kk, rfl⟩ := hrel
      by_cases hjn : j < n
      · obtain ⟨b1, o1, x, rfl, hx, hcx⟩ := RdI.at_ ha hjn
        obtain ⟨b2, o2, y, rfl, hy, hcy⟩ := RdI.at_ hb hjn
        have HX := hidT hx
        have HY := hidT hy
        clear hx hy
        by_cases hxy : x = y
        · subst hxy
          go_wp2
          go_quiet (fail)
          go_wp2
          exact ⟨⟨j + 1, by omega, by go_num, hidT (take_snocI HX.out HY.out HT.out), _, rfl⟩, by simp [intOf]; omega⟩
        · have q1 : (x != y) = true := by simpa using hxy
          have q2 : (x == y) = false := by simpa using hxy
          go_wp2
          go_quiet (fail)
          have HD := hidT (take_ne HX.out HY.out hxy)
          go_wp2
          go_ret
          rw [HD.out]
          exact ⟨rfl, _, World.drewN_drewN _ _ _⟩
      · obtain rfl : j = n := by omega
        have HD : Hid (decide (a = b) = true) := by
          have h1 := HT.out
          rw [List.take_of_length_le (by rw [HA.out]; omega), List.take_of_length_le (by rw [HB.out]; omega)] at h1
          exact hidT (by simpa using h1)
        go_wp2
        go_ret
        rw [HD.out]
        exact ⟨rfl, _, rfl⟩
  · have HD : Hid (decide (a = b) = false) := by
      refine hidT ?_
      rw [decide_eq_false_iff_not]
      rintro rfl
      omega
    have q1 : ((n : Int) != (m : Int)) = true := by simp; omega
    have q2 : ((n : Int) == (m : Int)) = false := by simp; omega
    have q3 : (n == m) = false := by simpa using hnm
    have q4 : (n != m) = true := by simpa using hnm
    clear hla hlb
    go_enter Try.func60, Try.ntmps60
    go_wp2
    go_ret
    rw [HD.out]
    exact ⟨rfl, 0, rfl⟩
theorem equal_is (A : Option Addr) (n c : Nat) (a : List Int) (B : Option Addr) (m d : Nat) (b : List Int) (w : World) (ha : RdI w A n c a) (hb : RdI w B m d b) (t : Bool) (ht : decide (a = b) = t) :
    Calls Try.prog 60 #[.slice A n c, .slice B m d] w fun e w' => e = .returned (.bool t) ∧ Below w.heap.size w w' := by
  refine (equal_any A n c a B m d b w ha hb).mono ?_
  rintro e w' ⟨rfl, k, rfl⟩
  rw [ht]
  exact ⟨rfl, drawn_below _ _⟩
theorem allIn_succ {l : List Int} {top x : Int} {j : Nat} (hx : l[j]? = some x) (h : Item.allIn (l.take j) top = true) (hw : Item.win x 0 top = true) : Item.allIn (l.take (j + 1)) top = true := by
  unfold Item.allIn at *
  rw [List.take_add_one, List.all_append, h, hx]
  simpa using hw
theorem allIn_not {l : List Int} {top x : Int} {j : Nat} (hx : l[j]? = some x) (hw : Item.win x 0 top = false) : Item.allIn l top = false := by
  unfold Item.allIn
  rw [List.all_eq_false]
  exact ⟨x, List.mem_of_getElem? hx, by simp [hw]⟩
end Go.Proofs.Ytmlmkkfieeaejaa
