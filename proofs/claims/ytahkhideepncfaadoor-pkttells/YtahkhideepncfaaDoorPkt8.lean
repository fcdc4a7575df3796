/- What pkt.takeTail comes to. (Written by wip/gen/pkt8.py.) -/
import Derived.Test.YtahkhideepncfaaDoorPkt0
import Derived.Test.YtahkhideepncfaaDoorItem16
set_option maxRecDepth 100000
namespace Go.Proofs.YtahkhideepncfaaDoor
open Go.RowKit
set_option linter.unusedVariables false

/-- One cell of an elder block is stored. -/
theorem wpList_st1 {P : Program} {ops : Array Oper} {rest : List Oper} {o : Oper} {a : Act} {w : World} {Q : Exit → Act → World → Prop} (hgd : o.guard = none) (ty : TypeId) (x y : Operand) (ho : o.op = .store ty x y)
    (g off : Nat) (v : Value) (hx : a.eval x = .pointer (some ⟨g, off, none⟩)) (hy : a.eval y = v) (hv : v.cells = #[v])
    (t : TypeId) (old new : Array Value) (hg : w.heap[g]? = some (.cells old t (0, 0))) (hi : (P.info? ty).map (·.size) = some 1)
    (hold : off + 1 ≤ old.size) (h1 : v.oneCell' = true) (hnew : (old.toList.take off ++ [v] ++ old.toList.drop (off + 1)).toArray = new)
    (h : ∀ w', w'.heap[g]? = some (.cells new t (0, 0)) → But g w w' → (∀ base w0, Below base w0 w → base ≤ g → Below base w0 w') → wpList P ops Q rest (a.put o.dst undef) w') : wpList P ops Q (o :: rest) a w := by
  have hrun := run_storeCells_off (P := P) g off t [v] 0 old w hg (by simpa using hold) (fun u hu => by simp at hu; subst hu; exact h1)
  have hsv : (storeVar ty ⟨g, off, none⟩ v).run P w = .ok () (w.setRow g new) := by
    cases hq : P.info? ty with
    | none => simp [hq] at hi
    | some i =>
      have hs : i.size = 1 := by simpa [hq] using hi
      rw [Nat.add_zero, List.length_cons, List.length_nil, hnew] at hrun
      simp [storeVar, sizeOf, typeInfo, hq, hv, hs, hrun]
  refine wpList_plain hgd fun K hK => ?_
  unfold Oper.wp execOp
  simp only [ho, hx, hy, Instr.storeAt, Instr.sureAddr, Sem.run_bind, Sem.run_pure, Result.andThen_ok, hsv]
  exact hK _ _ (h _ (row_setRow w g new old t (0, 0) hg) (But.setRow w g new) fun base w0 hb hbg => below_setRow hb hbg new)
theorem infoInt : (Tryd.prog.info? 3).map (·.size) = some 1 := by kernel_rfl
theorem infoInts : (Tryd.prog.info? 22).map (·.size) = some 1 := by kernel_rfl

/-- A packet, where its lists lie, bytes that are left, and a code. -/
def PTail (w : World) (o : Option (Pkt.Pk × List UInt8)) (en : Ending) (w' : World) : Prop :=
  ∃ (p : Pkt.Pk) (r' : List UInt8) (kk : Int) (LA : Option Addr) (ln lc : Nat) (BA : Option Addr) (bn bc : Nat) (PA : Option Addr) (pn pc : Nat) (A : Option Addr) (c : Nat),
    en = .returned (.tuple #[.agg #[.int .i64 p.k, .int .i64 p.f, .int .i64 p.it.k, .int .i64 p.it.q, .int .i64 p.it.e, .int .i64 p.it.i, .int .i64 p.it.t, .int .i64 p.it.c, .slice LA ln lc, .slice BA bn bc, .int .i64 p.to, .int .i64 p.lo, .int .i64 p.many, .int .i64 p.top, .slice PA pn pc], .slice A r'.length c, .int .i64 kk]) ∧
    RdI w' LA ln lc p.it.l ∧ Rd w' BA bn bc p.it.b ∧ RdI w' PA pn pc p.l ∧
    (∀ b o, LA = some ⟨b, o, none⟩ → w.heap.size ≤ b) ∧ (∀ b o, BA = some ⟨b, o, none⟩ → w.heap.size ≤ b) ∧ (∀ b o, PA = some ⟨b, o, none⟩ → w.heap.size ≤ b) ∧
    Below w.heap.size w w' ∧ (match o with | some q => kk = 0 ∧ q = (p, r') | none => kk = 2)

set_option maxHeartbeats 4000000 in
theorem ptake_none (k f : Int) (A : Option Addr) (n c : Nat) (r : List UInt8) (w : World) (hw : Wd w) (h : Rd w A n c r) (hn : n ≤ 65536) (k1 : k ≠ 1) (k2 : k ≠ 2) (k3 : k ≠ 3) (k4 : k ≠ 4) :
    Calls Tryd.prog 21 #[.agg #[.int .i64 k, .int .i64 f, .int .i64 0, .int .i64 0, .int .i64 0, .int .i64 0, .int .i64 0, .int .i64 0, .slice none 0 0, .slice none 0 0, .int .i64 0, .int .i64 0, .int .i64 0, .int .i64 0, .slice none 0 0], .slice A n c] w (PTail w (some (⟨k, f, Item.It.zero, 0, 0, 0, 0, []⟩, r))) := by
  obtain ⟨g0, g1, hb0⟩ := two_alloc w (.cells #[.int .i64 k, .int .i64 f, .int .i64 0, .int .i64 0, .int .i64 0, .int .i64 0, .int .i64 0, .int .i64 0, .slice none 0 0, .slice none 0 0, .int .i64 0, .int .i64 0, .int .i64 0, .int .i64 0, .slice none 0 0] 27) (.cells #[.int .i64 0, .int .i64 0, .int .i64 0, .int .i64 0, .int .i64 0, .int .i64 0, .int .i64 0, .int .i64 0, .slice none 0 0, .slice none 0 0, .int .i64 0, .int .i64 0, .int .i64 0, .int .i64 0, .slice none 0 0] 27)
  obtain ⟨⟨c0, c1⟩, ⟨c2, c3, c4, c5, c6, c7, c8, c9⟩, ⟨c10, c11, c12, c13, c14⟩⟩ := cells15 g0
  have q1 : (k == 1) = false := by simpa using k1
  have q2 : (k == 2) = false := by simpa using k2
  have q3 : (k == 3) = false := by simpa using k3
  have q4 : (k == 4) = false := by simpa using k4
  go_enter Tryd.func21, Tryd.ntmps21
  go_wp2
  obtain ⟨_, hg9, hb9⟩ := two_alloc w (.cells #[.int .i64 k, .int .i64 f, .int .i64 0, .int .i64 0, .int .i64 0, .int .i64 0, .int .i64 0, .int .i64 0, .slice none 0 0, .slice none 0 0, .int .i64 0, .int .i64 0, .int .i64 0, .int .i64 0, .slice none 0 0] 27) (.cells #[.int .i64 k, .int .i64 f, .int .i64 0, .int .i64 0, .int .i64 0, .int .i64 0, .int .i64 0, .int .i64 0, .slice none 0 0, .slice none 0 0, .int .i64 0, .int .i64 0, .int .i64 0, .int .i64 0, .slice none 0 0] 27)
  obtain ⟨⟨y0, y1⟩, ⟨y2, y3, y4, y5, y6, y7, y8, y9⟩, ⟨y10, y11, y12, y13, y14⟩⟩ := cells15 hg9
  exact bodyPost_ret (v := .tuple #[.agg #[.int .i64 k, .int .i64 f, .int .i64 0, .int .i64 0, .int .i64 0, .int .i64 0, .int .i64 0, .int .i64 0, .slice none 0 0, .slice none 0 0, .int .i64 0, .int .i64 0, .int .i64 0, .int .i64 0, .slice none 0 0], .slice A n c, .int .i64 0]) (by simp [results, Tryd.results21, go_sem, y0, y1, y2, y3, y4, y5, y6, y7, y8, y9, y10, y11, y12, y13, y14]) rfl ⟨⟨k, f, Item.It.zero, 0, 0, 0, 0, []⟩, r, 0, none, 0, 0, none, 0, 0, none, 0, 0, A, c, (by rw [h.1]; rfl), RdV.nil_ _, Rd.nil_ _, RdV.nil_ _, no_addr, no_addr, no_addr, hb9, rfl, rfl⟩

set_option maxHeartbeats 4000000 in
theorem ptake_1a (f : Int) (A : Option Addr) (n c : Nat) (r : List UInt8) (w : World) (hw : Wd w) (h : Rd w A n c r) (hn : n ≤ 65536) (x : Item.It) (hx : Item.takeOf r = some x) :
    Calls Tryd.prog 21 #[.agg #[.int .i64 1, .int .i64 f, .int .i64 0, .int .i64 0, .int .i64 0, .int .i64 0, .int .i64 0, .int .i64 0, .slice none 0 0, .slice none 0 0, .int .i64 0, .int .i64 0, .int .i64 0, .int .i64 0, .slice none 0 0], .slice A n c] w (PTail w (some (⟨1, f, x, 0, 0, 0, 0, []⟩, []))) := by
  obtain ⟨g0, g1, hb0⟩ := two_alloc w (.cells #[.int .i64 1, .int .i64 f, .int .i64 0, .int .i64 0, .int .i64 0, .int .i64 0, .int .i64 0, .int .i64 0, .slice none 0 0, .slice none 0 0, .int .i64 0, .int .i64 0, .int .i64 0, .int .i64 0, .slice none 0 0] 27) (.cells #[.int .i64 0, .int .i64 0, .int .i64 0, .int .i64 0, .int .i64 0, .int .i64 0, .int .i64 0, .int .i64 0, .slice none 0 0, .slice none 0 0, .int .i64 0, .int .i64 0, .int .i64 0, .int .i64 0, .slice none 0 0] 27)
  have hs0 : ((w.alloc (.cells #[.int .i64 1, .int .i64 f, .int .i64 0, .int .i64 0, .int .i64 0, .int .i64 0, .int .i64 0, .int .i64 0, .slice none 0 0, .slice none 0 0, .int .i64 0, .int .i64 0, .int .i64 0, .int .i64 0, .slice none 0 0] 27)).alloc (.cells #[.int .i64 0, .int .i64 0, .int .i64 0, .int .i64 0, .int .i64 0, .int .i64 0, .int .i64 0, .int .i64 0, .slice none 0 0, .slice none 0 0, .int .i64 0, .int .i64 0, .int .i64 0, .int .i64 0, .slice none 0 0] 27)).heap.size = w.heap.size + 2 := by rw [size_alloc, size_alloc]
  have sz : w.heap.size ≠ w.heap.size + 1 := by omega
  have sz' : w.heap.size + 1 ≠ w.heap.size := by omega
  have sle : w.heap.size ≤ w.heap.size + 1 := by omega
  have z0 := cell_at g0 0 rfl
  have ht := takeF_any A n c r _ (hw.below hb0) (h.below hb0) hn
  rw [hx] at ht
  go_enter Tryd.func21, Tryd.ntmps21
  go_wp2_with fail
  with_reducible refine ht.mono ?_
  rintro en w1 ⟨LA, ln, lc, BA, bn, bc, rfl, rl, rb, al, ab, hb1⟩
  rw [hs0] at hb1 al ab
  have hb1' : Below w.heap.size w w1 := hb0.trans (hb1.mono (by omega))
  have k0 := (hb1.block _ (by omega)).trans g0
  have k1 := (hb1.block _ (by omega)).trans g1
  clear ht g0 g1 z0 hb0
  go_wp2_with (first
    | (refine wpList_stP rfl 25 (.tmp 23) (.tmp 21) rfl w.heap.size 2 #[.int .i64 x.k, .int .i64 x.q, .int .i64 x.e, .int .i64 x.i, .int .i64 x.t, .int .i64 x.c, .slice LA ln lc, .slice BA bn bc] rfl rfl _ _ #[.int .i64 1, .int .i64 f, .int .i64 x.k, .int .i64 x.q, .int .i64 x.e, .int .i64 x.i, .int .i64 x.t, .int .i64 x.c, .slice LA ln lc, .slice BA bn bc, .int .i64 0, .int .i64 0, .int .i64 0, .int .i64 0, .slice none 0 0] k0 info25 (Nat.le_of_ble_eq_true rfl) (all8 rfl rfl rfl rfl rfl rfl rfl rfl) rfl ?_
       intro w2 hg2 hbut2 hbel2
       have hb2 := hbel2 _ _ hb1' (Nat.le_refl _)
       have k2 := (hbut2.2 _ sz').trans k1
       have rl2 := RdV.but rl (fun b o hA => by have := al b o hA; omega) hbut2
       have rb2 := rb.but (fun b o hA => by have := ab b o hA; omega) hbut2
       obtain ⟨⟨c0, c1⟩, ⟨c2, c3, c4, c5, c6, c7, c8, c9⟩, ⟨c10, c11, c12, c13, c14⟩⟩ := cells15 hg2)
    | (refine wpList_stI rfl 27 (.tmp 4) (.tmp 64) rfl (w.heap.size + 1) #[.int .i64 1, .int .i64 f, .int .i64 x.k, .int .i64 x.q, .int .i64 x.e, .int .i64 x.i, .int .i64 x.t, .int .i64 x.c, .slice LA ln lc, .slice BA bn bc, .int .i64 0, .int .i64 0, .int .i64 0, .int .i64 0, .slice none 0 0] rfl rfl _ _ k2 info37 rfl (all15 rfl rfl rfl rfl rfl rfl rfl rfl rfl rfl rfl rfl rfl rfl rfl) ?_
       intro w9 hg9 hbut9 hbel9
       have hb9 := hbel9 _ _ hb2 sle))
  obtain ⟨⟨y0, y1⟩, ⟨y2, y3, y4, y5, y6, y7, y8, y9⟩, ⟨y10, y11, y12, y13, y14⟩⟩ := cells15 hg9
  exact bodyPost_ret (v := .tuple #[.agg #[.int .i64 1, .int .i64 f, .int .i64 x.k, .int .i64 x.q, .int .i64 x.e, .int .i64 x.i, .int .i64 x.t, .int .i64 x.c, .slice LA ln lc, .slice BA bn bc, .int .i64 0, .int .i64 0, .int .i64 0, .int .i64 0, .slice none 0 0], .slice none 0 0, .int .i64 0]) (by simp [results, Tryd.results21, go_sem, y0, y1, y2, y3, y4, y5, y6, y7, y8, y9, y10, y11, y12, y13, y14]) rfl ⟨⟨1, f, x, 0, 0, 0, 0, []⟩, [], 0, LA, ln, lc, BA, bn, bc, none, 0, 0, none, 0, rfl, RdV.but rl2 (fun b o hA => by have := al b o hA; omega) hbut9, rb2.but (fun b o hA => by have := ab b o hA; omega) hbut9, RdV.nil_ _, (fun b o hA => by have := al b o hA; omega), (fun b o hA => by have := ab b o hA; omega), no_addr, hb9, rfl, rfl⟩

set_option maxHeartbeats 4000000 in
theorem ptake_1b (f : Int) (A : Option Addr) (n c : Nat) (r : List UInt8) (w : World) (hw : Wd w) (h : Rd w A n c r) (hn : n ≤ 65536) (hx : Item.takeOf r = none) :
    Calls Tryd.prog 21 #[.agg #[.int .i64 1, .int .i64 f, .int .i64 0, .int .i64 0, .int .i64 0, .int .i64 0, .int .i64 0, .int .i64 0, .slice none 0 0, .slice none 0 0, .int .i64 0, .int .i64 0, .int .i64 0, .int .i64 0, .slice none 0 0], .slice A n c] w (PTail w none) := by
  obtain ⟨g0, g1, hb0⟩ := two_alloc w (.cells #[.int .i64 1, .int .i64 f, .int .i64 0, .int .i64 0, .int .i64 0, .int .i64 0, .int .i64 0, .int .i64 0, .slice none 0 0, .slice none 0 0, .int .i64 0, .int .i64 0, .int .i64 0, .int .i64 0, .slice none 0 0] 27) (.cells #[.int .i64 0, .int .i64 0, .int .i64 0, .int .i64 0, .int .i64 0, .int .i64 0, .int .i64 0, .int .i64 0, .slice none 0 0, .slice none 0 0, .int .i64 0, .int .i64 0, .int .i64 0, .int .i64 0, .slice none 0 0] 27)
  have hs0 : ((w.alloc (.cells #[.int .i64 1, .int .i64 f, .int .i64 0, .int .i64 0, .int .i64 0, .int .i64 0, .int .i64 0, .int .i64 0, .slice none 0 0, .slice none 0 0, .int .i64 0, .int .i64 0, .int .i64 0, .int .i64 0, .slice none 0 0] 27)).alloc (.cells #[.int .i64 0, .int .i64 0, .int .i64 0, .int .i64 0, .int .i64 0, .int .i64 0, .int .i64 0, .int .i64 0, .slice none 0 0, .slice none 0 0, .int .i64 0, .int .i64 0, .int .i64 0, .int .i64 0, .slice none 0 0] 27)).heap.size = w.heap.size + 2 := by rw [size_alloc, size_alloc]
  have sz : w.heap.size ≠ w.heap.size + 1 := by omega
  have sz' : w.heap.size + 1 ≠ w.heap.size := by omega
  have sle : w.heap.size ≤ w.heap.size + 1 := by omega
  have z0 := cell_at g0 0 rfl
  have ht := takeF_any A n c r _ (hw.below hb0) (h.below hb0) hn
  rw [hx] at ht
  go_enter Tryd.func21, Tryd.ntmps21
  go_wp2_with fail
  with_reducible refine ht.mono ?_
  rintro en w1 ⟨rfl, hb1⟩
  rw [hs0] at hb1
  have hb1' : Below w.heap.size w w1 := hb0.trans (hb1.mono (by omega))
  have k0 := (hb1.block _ (by omega)).trans g0
  have k1 := (hb1.block _ (by omega)).trans g1
  clear ht g0 g1 z0 hb0
  go_wp2_with (first
    | (refine wpList_stP rfl 25 (.tmp 23) (.tmp 21) rfl w.heap.size 2 zcells rfl rfl _ _ #[.int .i64 1, .int .i64 f, .int .i64 0, .int .i64 0, .int .i64 0, .int .i64 0, .int .i64 0, .int .i64 0, .slice none 0 0, .slice none 0 0, .int .i64 0, .int .i64 0, .int .i64 0, .int .i64 0, .slice none 0 0] k0 info25 (Nat.le_of_ble_eq_true rfl) (all8 rfl rfl rfl rfl rfl rfl rfl rfl) rfl ?_
       intro w2 hg2 hbut2 hbel2
       have hb2 := hbel2 _ _ hb1' (Nat.le_refl _)
       have k2 := (hbut2.2 _ sz').trans k1
       obtain ⟨⟨c0, c1⟩, ⟨c2, c3, c4, c5, c6, c7, c8, c9⟩, ⟨c10, c11, c12, c13, c14⟩⟩ := cells15 hg2)
    | (refine wpList_stI rfl 27 (.tmp 4) (.tmp 64) rfl (w.heap.size + 1) #[.int .i64 1, .int .i64 f, .int .i64 0, .int .i64 0, .int .i64 0, .int .i64 0, .int .i64 0, .int .i64 0, .slice none 0 0, .slice none 0 0, .int .i64 0, .int .i64 0, .int .i64 0, .int .i64 0, .slice none 0 0] rfl rfl _ _ k2 info37 rfl (all15 rfl rfl rfl rfl rfl rfl rfl rfl rfl rfl rfl rfl rfl rfl rfl) ?_
       intro w9 hg9 hbut9 hbel9
       have hb9 := hbel9 _ _ hb2 sle))
  obtain ⟨⟨y0, y1⟩, ⟨y2, y3, y4, y5, y6, y7, y8, y9⟩, ⟨y10, y11, y12, y13, y14⟩⟩ := cells15 hg9
  exact bodyPost_ret (v := .tuple #[.agg #[.int .i64 1, .int .i64 f, .int .i64 0, .int .i64 0, .int .i64 0, .int .i64 0, .int .i64 0, .int .i64 0, .slice none 0 0, .slice none 0 0, .int .i64 0, .int .i64 0, .int .i64 0, .int .i64 0, .slice none 0 0], .slice none 0 0, .int .i64 2]) (by simp [results, Tryd.results21, go_sem, y0, y1, y2, y3, y4, y5, y6, y7, y8, y9, y10, y11, y12, y13, y14]) rfl ⟨⟨1, f, Item.It.zero, 0, 0, 0, 0, []⟩, [], 2, none, 0, 0, none, 0, 0, none, 0, 0, none, 0, rfl, RdV.nil_ _, Rd.nil_ _, RdV.nil_ _, no_addr, no_addr, no_addr, hb9, rfl⟩

set_option maxHeartbeats 4000000 in
theorem ptake_2a (f : Int) (A : Option Addr) (n c : Nat) (r : List UInt8) (w : World) (hw : Wd w) (h : Rd w A n c r) (hn : n ≤ 65536) (x : Item.It) (hx : Item.takeOf r = some x) :
    Calls Tryd.prog 21 #[.agg #[.int .i64 2, .int .i64 f, .int .i64 0, .int .i64 0, .int .i64 0, .int .i64 0, .int .i64 0, .int .i64 0, .slice none 0 0, .slice none 0 0, .int .i64 0, .int .i64 0, .int .i64 0, .int .i64 0, .slice none 0 0], .slice A n c] w (PTail w (some (⟨2, f, x, 0, 0, 0, 0, []⟩, []))) := by
  obtain ⟨g0, g1, hb0⟩ := two_alloc w (.cells #[.int .i64 2, .int .i64 f, .int .i64 0, .int .i64 0, .int .i64 0, .int .i64 0, .int .i64 0, .int .i64 0, .slice none 0 0, .slice none 0 0, .int .i64 0, .int .i64 0, .int .i64 0, .int .i64 0, .slice none 0 0] 27) (.cells #[.int .i64 0, .int .i64 0, .int .i64 0, .int .i64 0, .int .i64 0, .int .i64 0, .int .i64 0, .int .i64 0, .slice none 0 0, .slice none 0 0, .int .i64 0, .int .i64 0, .int .i64 0, .int .i64 0, .slice none 0 0] 27)
  have hs0 : ((w.alloc (.cells #[.int .i64 2, .int .i64 f, .int .i64 0, .int .i64 0, .int .i64 0, .int .i64 0, .int .i64 0, .int .i64 0, .slice none 0 0, .slice none 0 0, .int .i64 0, .int .i64 0, .int .i64 0, .int .i64 0, .slice none 0 0] 27)).alloc (.cells #[.int .i64 0, .int .i64 0, .int .i64 0, .int .i64 0, .int .i64 0, .int .i64 0, .int .i64 0, .int .i64 0, .slice none 0 0, .slice none 0 0, .int .i64 0, .int .i64 0, .int .i64 0, .int .i64 0, .slice none 0 0] 27)).heap.size = w.heap.size + 2 := by rw [size_alloc, size_alloc]
  have sz : w.heap.size ≠ w.heap.size + 1 := by omega
  have sz' : w.heap.size + 1 ≠ w.heap.size := by omega
  have sle : w.heap.size ≤ w.heap.size + 1 := by omega
  have z0 := cell_at g0 0 rfl
  have ht := takeF_any A n c r _ (hw.below hb0) (h.below hb0) hn
  rw [hx] at ht
  go_enter Tryd.func21, Tryd.ntmps21
  go_wp2_with fail
  with_reducible refine ht.mono ?_
  rintro en w1 ⟨LA, ln, lc, BA, bn, bc, rfl, rl, rb, al, ab, hb1⟩
  rw [hs0] at hb1 al ab
  have hb1' : Below w.heap.size w w1 := hb0.trans (hb1.mono (by omega))
  have k0 := (hb1.block _ (by omega)).trans g0
  have k1 := (hb1.block _ (by omega)).trans g1
  clear ht g0 g1 z0 hb0
  go_wp2_with (first
    | (refine wpList_stP rfl 25 (.tmp 23) (.tmp 21) rfl w.heap.size 2 #[.int .i64 x.k, .int .i64 x.q, .int .i64 x.e, .int .i64 x.i, .int .i64 x.t, .int .i64 x.c, .slice LA ln lc, .slice BA bn bc] rfl rfl _ _ #[.int .i64 2, .int .i64 f, .int .i64 x.k, .int .i64 x.q, .int .i64 x.e, .int .i64 x.i, .int .i64 x.t, .int .i64 x.c, .slice LA ln lc, .slice BA bn bc, .int .i64 0, .int .i64 0, .int .i64 0, .int .i64 0, .slice none 0 0] k0 info25 (Nat.le_of_ble_eq_true rfl) (all8 rfl rfl rfl rfl rfl rfl rfl rfl) rfl ?_
       intro w2 hg2 hbut2 hbel2
       have hb2 := hbel2 _ _ hb1' (Nat.le_refl _)
       have k2 := (hbut2.2 _ sz').trans k1
       have rl2 := RdV.but rl (fun b o hA => by have := al b o hA; omega) hbut2
       have rb2 := rb.but (fun b o hA => by have := ab b o hA; omega) hbut2
       obtain ⟨⟨c0, c1⟩, ⟨c2, c3, c4, c5, c6, c7, c8, c9⟩, ⟨c10, c11, c12, c13, c14⟩⟩ := cells15 hg2)
    | (refine wpList_stI rfl 27 (.tmp 4) (.tmp 64) rfl (w.heap.size + 1) #[.int .i64 2, .int .i64 f, .int .i64 x.k, .int .i64 x.q, .int .i64 x.e, .int .i64 x.i, .int .i64 x.t, .int .i64 x.c, .slice LA ln lc, .slice BA bn bc, .int .i64 0, .int .i64 0, .int .i64 0, .int .i64 0, .slice none 0 0] rfl rfl _ _ k2 info37 rfl (all15 rfl rfl rfl rfl rfl rfl rfl rfl rfl rfl rfl rfl rfl rfl rfl) ?_
       intro w9 hg9 hbut9 hbel9
       have hb9 := hbel9 _ _ hb2 sle))
  obtain ⟨⟨y0, y1⟩, ⟨y2, y3, y4, y5, y6, y7, y8, y9⟩, ⟨y10, y11, y12, y13, y14⟩⟩ := cells15 hg9
  exact bodyPost_ret (v := .tuple #[.agg #[.int .i64 2, .int .i64 f, .int .i64 x.k, .int .i64 x.q, .int .i64 x.e, .int .i64 x.i, .int .i64 x.t, .int .i64 x.c, .slice LA ln lc, .slice BA bn bc, .int .i64 0, .int .i64 0, .int .i64 0, .int .i64 0, .slice none 0 0], .slice none 0 0, .int .i64 0]) (by simp [results, Tryd.results21, go_sem, y0, y1, y2, y3, y4, y5, y6, y7, y8, y9, y10, y11, y12, y13, y14]) rfl ⟨⟨2, f, x, 0, 0, 0, 0, []⟩, [], 0, LA, ln, lc, BA, bn, bc, none, 0, 0, none, 0, rfl, RdV.but rl2 (fun b o hA => by have := al b o hA; omega) hbut9, rb2.but (fun b o hA => by have := ab b o hA; omega) hbut9, RdV.nil_ _, (fun b o hA => by have := al b o hA; omega), (fun b o hA => by have := ab b o hA; omega), no_addr, hb9, rfl, rfl⟩

set_option maxHeartbeats 4000000 in
theorem ptake_2b (f : Int) (A : Option Addr) (n c : Nat) (r : List UInt8) (w : World) (hw : Wd w) (h : Rd w A n c r) (hn : n ≤ 65536) (hx : Item.takeOf r = none) :
    Calls Tryd.prog 21 #[.agg #[.int .i64 2, .int .i64 f, .int .i64 0, .int .i64 0, .int .i64 0, .int .i64 0, .int .i64 0, .int .i64 0, .slice none 0 0, .slice none 0 0, .int .i64 0, .int .i64 0, .int .i64 0, .int .i64 0, .slice none 0 0], .slice A n c] w (PTail w none) := by
  obtain ⟨g0, g1, hb0⟩ := two_alloc w (.cells #[.int .i64 2, .int .i64 f, .int .i64 0, .int .i64 0, .int .i64 0, .int .i64 0, .int .i64 0, .int .i64 0, .slice none 0 0, .slice none 0 0, .int .i64 0, .int .i64 0, .int .i64 0, .int .i64 0, .slice none 0 0] 27) (.cells #[.int .i64 0, .int .i64 0, .int .i64 0, .int .i64 0, .int .i64 0, .int .i64 0, .int .i64 0, .int .i64 0, .slice none 0 0, .slice none 0 0, .int .i64 0, .int .i64 0, .int .i64 0, .int .i64 0, .slice none 0 0] 27)
  have hs0 : ((w.alloc (.cells #[.int .i64 2, .int .i64 f, .int .i64 0, .int .i64 0, .int .i64 0, .int .i64 0, .int .i64 0, .int .i64 0, .slice none 0 0, .slice none 0 0, .int .i64 0, .int .i64 0, .int .i64 0, .int .i64 0, .slice none 0 0] 27)).alloc (.cells #[.int .i64 0, .int .i64 0, .int .i64 0, .int .i64 0, .int .i64 0, .int .i64 0, .int .i64 0, .int .i64 0, .slice none 0 0, .slice none 0 0, .int .i64 0, .int .i64 0, .int .i64 0, .int .i64 0, .slice none 0 0] 27)).heap.size = w.heap.size + 2 := by rw [size_alloc, size_alloc]
  have sz : w.heap.size ≠ w.heap.size + 1 := by omega
  have sz' : w.heap.size + 1 ≠ w.heap.size := by omega
  have sle : w.heap.size ≤ w.heap.size + 1 := by omega
  have z0 := cell_at g0 0 rfl
  have ht := takeF_any A n c r _ (hw.below hb0) (h.below hb0) hn
  rw [hx] at ht
  go_enter Tryd.func21, Tryd.ntmps21
  go_wp2_with fail
  with_reducible refine ht.mono ?_
  rintro en w1 ⟨rfl, hb1⟩
  rw [hs0] at hb1
  have hb1' : Below w.heap.size w w1 := hb0.trans (hb1.mono (by omega))
  have k0 := (hb1.block _ (by omega)).trans g0
  have k1 := (hb1.block _ (by omega)).trans g1
  clear ht g0 g1 z0 hb0
  go_wp2_with (first
    | (refine wpList_stP rfl 25 (.tmp 23) (.tmp 21) rfl w.heap.size 2 zcells rfl rfl _ _ #[.int .i64 2, .int .i64 f, .int .i64 0, .int .i64 0, .int .i64 0, .int .i64 0, .int .i64 0, .int .i64 0, .slice none 0 0, .slice none 0 0, .int .i64 0, .int .i64 0, .int .i64 0, .int .i64 0, .slice none 0 0] k0 info25 (Nat.le_of_ble_eq_true rfl) (all8 rfl rfl rfl rfl rfl rfl rfl rfl) rfl ?_
       intro w2 hg2 hbut2 hbel2
       have hb2 := hbel2 _ _ hb1' (Nat.le_refl _)
       have k2 := (hbut2.2 _ sz').trans k1
       obtain ⟨⟨c0, c1⟩, ⟨c2, c3, c4, c5, c6, c7, c8, c9⟩, ⟨c10, c11, c12, c13, c14⟩⟩ := cells15 hg2)
    | (refine wpList_stI rfl 27 (.tmp 4) (.tmp 64) rfl (w.heap.size + 1) #[.int .i64 2, .int .i64 f, .int .i64 0, .int .i64 0, .int .i64 0, .int .i64 0, .int .i64 0, .int .i64 0, .slice none 0 0, .slice none 0 0, .int .i64 0, .int .i64 0, .int .i64 0, .int .i64 0, .slice none 0 0] rfl rfl _ _ k2 info37 rfl (all15 rfl rfl rfl rfl rfl rfl rfl rfl rfl rfl rfl rfl rfl rfl rfl) ?_
       intro w9 hg9 hbut9 hbel9
       have hb9 := hbel9 _ _ hb2 sle))
  obtain ⟨⟨y0, y1⟩, ⟨y2, y3, y4, y5, y6, y7, y8, y9⟩, ⟨y10, y11, y12, y13, y14⟩⟩ := cells15 hg9
  exact bodyPost_ret (v := .tuple #[.agg #[.int .i64 2, .int .i64 f, .int .i64 0, .int .i64 0, .int .i64 0, .int .i64 0, .int .i64 0, .int .i64 0, .slice none 0 0, .slice none 0 0, .int .i64 0, .int .i64 0, .int .i64 0, .int .i64 0, .slice none 0 0], .slice none 0 0, .int .i64 2]) (by simp [results, Tryd.results21, go_sem, y0, y1, y2, y3, y4, y5, y6, y7, y8, y9, y10, y11, y12, y13, y14]) rfl ⟨⟨2, f, Item.It.zero, 0, 0, 0, 0, []⟩, [], 2, none, 0, 0, none, 0, 0, none, 0, 0, none, 0, rfl, RdV.nil_ _, Rd.nil_ _, RdV.nil_ _, no_addr, no_addr, no_addr, hb9, rfl⟩

end Go.Proofs.YtahkhideepncfaaDoor
