/- What keep's Push comes to: done. -/
import Derived.Test.YtgnaecifinlnmaaKeep7
set_option maxRecDepth 100000
namespace Go.Proofs.Ytgnaecifinlnmaa
open Go.RowKit
set_option linter.unusedVariables false

/-- Between two places all is as it was. -/
def Mid (lo : Nat) (w w' : World) : Prop := w.heap.size ≤ w'.heap.size ∧ ∀ b, lo ≤ b → b < w.heap.size → w'.heap[b]? = w.heap[b]?
section
variable {w w1 w2 : World} {lo : Nat}
theorem Mid.of (h : Below w.heap.size w w1) : Mid lo w w1 := ⟨h.size, fun b _ hb => h.block b hb⟩
theorem Mid.below (h : Mid lo w w1) (h2 : Below w1.heap.size w1 w2) : Mid lo w w2 := ⟨Nat.le_trans h.1 h2.size, fun b hl hb => (h2.block b (Nat.lt_of_lt_of_le hb h.1)).trans (h.2 b hl hb)⟩
theorem Mid.but (h : Mid lo w w1) {g : Nat} (h2 : But g w1 w2) (hg : g < lo ∨ w.heap.size ≤ g) : Mid lo w w2 := ⟨by rw [h2.1]; exact h.1, fun b hl hb => (h2.2 b (by omega)).trans (h.2 b hl hb)⟩
theorem Mid.grown (h : Mid lo w w1) {row : Option Nat} (h2 : w1.grownBy w2 row) (hg : ∀ b, row = some b → b < lo) : Mid lo w w2 := ⟨Nat.le_trans h.1 h2.size, fun b hl hb => (h2.block b (Nat.lt_of_lt_of_le hb h.1) (fun e => by have := hg b e.symm; omega)).trans (h.2 b hl hb)⟩
theorem Mid.cell (h : Mid lo w w1) {p : Addr} {u : Value} (hu : w.cell? p = some u) (hl : lo ≤ p.block) : w1.cell? p = some u := (cell_congr (h.2 _ hl (World.block_lt_of_cell? w p hu))).trans hu
theorem RdV.mid {A : Option Addr} {n c : Nat} {l : List Value} (h : RdV w A n c l) (hA : ∀ b o, A = some ⟨b, o, none⟩ → lo ≤ b) (hm : Mid lo w w1) : RdV w1 A n c l := by
  obtain ⟨h1, h2, h3, h4, h5⟩ := h
  refine ⟨h1, h2, h3, h4, fun h0 => ?_⟩
  obtain ⟨b, o, e, hc⟩ := h5 h0
  exact ⟨b, o, e, fun i x hx => hm.cell (hc i x hx) (hA b o e)⟩
theorem FrI.mid {v : Value} {x : Item.It} (h : FrI w lo v x) (hm : Mid lo w w1) : FrI w1 lo v x := by
  obtain ⟨LA, ln, lc, BA, bn, bc, rfl, h1, h2, h3, h4⟩ := h
  exact ⟨LA, ln, lc, BA, bn, bc, rfl, RdV.mid h1 h3 hm, RdV.bytes (RdV.mid (Rd.v h2) h4 hm), h3, h4⟩
theorem AreF.mid {us : List (Array Value)} {xs : List Item.It} (h : AreF w lo us xs) (hm : Mid lo w w1) : AreF w1 lo us xs := ⟨h.1, fun i r x h1 h2 => (h.2 i r x h1 h2).mid hm⟩
end
theorem AreF.one {w : World} {lo : Nat} {r : Array Value} {x : Item.It} (h : FrI w lo (.agg r) x) : AreF w lo [r] [x] := by
  refine ⟨rfl, fun i t' x' h1 h2 => ?_⟩
  cases i with
  | zero =>
    simp only [List.getElem?_cons_zero, Option.some.injEq] at h1 h2
    subst h1; subst h2
    exact h
  | succ i => simp at h1
theorem OwnK.rowlt {k : Nat} {w : World} {base n c lo : Nat} {e : TypeId} {A : Option Addr} {us : List (Array Value)} (h : OwnK k w base e (.slice A n c) n us) (hl : ∀ b o, A = some ⟨b, o, none⟩ → b < lo) : ∀ b, (Value.slice A n c).ownBlock = some b → b < lo := by
  intro b hb
  rcases h.2.2.2 with ⟨h2, _⟩ | ⟨g, cap, cur, hv, _⟩
  · injection h2 with h2
    subst h2
    simp [Value.ownBlock] at hb
  · injection hv with hv
    subst hv
    simp [Value.ownBlock] at hb
    subst hb
    exact hl g 0 rfl
theorem OwnK.apart {k : Nat} {w : World} {base n c g : Nat} {e t : TypeId} {A : Option Addr} {us : List (Array Value)} {cs : Array Value} {fr : Nat × Nat} (h : OwnK k w base e (.slice A n c) n us) (hg : w.heap[g]? = some (.cells cs t fr)) (hne : e ≠ t) : ∀ b o, A = some ⟨b, o, none⟩ → b ≠ g := by
  intro b o hA hbg
  subst hbg
  rcases h.2.2.2 with ⟨h2, _⟩ | ⟨g', cap, cur, hv, _, hh, _⟩
  · injection h2 with h2
    rw [hA] at h2; cases h2
  · injection hv with hv
    rw [hA] at hv
    injection hv with hv
    injection hv with hv
    subst hv
    rw [hh] at hg
    injection hg with hg
    injection hg with _ ht
    exact hne ht
theorem st8 {w : World} {g : Nat} {old : Array Value} {t : TypeId} (h : w.heap[g]? = some (.cells old t (0, 0))) (cells : Array Value) (hs : old.size = cells.size) (h1 : cells.all (·.oneCell') = true) :
    ∃ (w' : World), (storeCells ⟨g, 0, none⟩ cells.toList).run Try.prog w = .ok () w' ∧ Hid (w'.heap[g]? = some (.cells cells t (0, 0))) ∧ Hid (But g w w') ∧ Hid (∀ base w0, Below base w0 w → base ≤ g → Below base w0 w') := by
  have hrun := run_storeCells_off (P := Try.prog) g 0 t cells.toList 0 old w h (by simp [hs]) (fun v hv => (Array.all_eq_true_iff_forall_mem.1 h1) v (by simpa using hv))
  have e : (old.toList.take (0 + 0) ++ cells.toList ++ old.toList.drop (0 + 0 + cells.toList.length)).toArray = cells := by
    rw [List.drop_of_length_le (by simp [hs])]
    simp
  rw [e] at hrun
  exact ⟨w.setRow g cells, hrun, row_setRow w g cells old t (0, 0) h, But.setRow w g cells, fun base w0 hb hbg => below_setRow hb hbg cells⟩

set_option maxHeartbeats 4000000 in
theorem push_done (v u : Value) (k : Keep.Kp) (x : Item.It) (buf spare : Int) (w : World) (h : IsKeep w v k) (hx : IsItem w u x) (hS : SmallL k.l) (hL : x.l.length ≤ 65536) (hB : x.b.length ≤ 65536) (hfar : ¬ 4611686018427387904 < k.next) (hm : Item.may (Keep.wq x k.next) = true) (hr : 1 ≤ Keep.room k buf spare) (h1 : 1 ≤ k.next) :
    Calls Try.prog 18 #[v, u, .int .i64 buf, .int .i64 spare] w (PushIs w ⟨⟨k.next + 1, k.l ++ [Keep.wq x k.next]⟩, Keep.wq x k.next, 0⟩) := by
  obtain ⟨A, n, c, rfl, hX⟩ := h
  obtain ⟨LA, ln, lc, BA, bn, bc, rfl, hl, hb⟩ := hx
  obtain ⟨t0, t1, t2, t3, t4, t5⟩ := four_alloc w (.cells #[.int .i64 k.next, .slice A n c] 24) (.cells #[.int .i64 x.k, .int .i64 k.next, .int .i64 x.e, .int .i64 x.i, .int .i64 x.t, .int .i64 x.c, .slice LA ln lc, .slice BA bn bc] 28) (.cells kz 24) (.cells zcells 28)
  obtain ⟨W, hW⟩ : ∃ W, (((w.alloc (.cells #[.int .i64 k.next, .slice A n c] 24)).alloc (.cells #[.int .i64 x.k, .int .i64 k.next, .int .i64 x.e, .int .i64 x.i, .int .i64 x.t, .int .i64 x.c, .slice LA ln lc, .slice BA bn bc] 28)).alloc (.cells kz 24)).alloc (.cells zcells 28) = W := ⟨_, rfl⟩
  rw [hW] at t0 t1 t2 t3 t4 t5
  have hq : decide (4611686018427387904 < k.next) = false := by simpa using hfar
  have hit : IsItem w (.agg #[.int .i64 x.k, .int .i64 k.next, .int .i64 x.e, .int .i64 x.i, .int .i64 x.t, .int .i64 x.c, .slice LA ln lc, .slice BA bn bc]) (Keep.wq x k.next) := ⟨LA, ln, lc, BA, bn, bc, rfl, hl, hb⟩
  have hkp : IsKeep w (.agg #[.int .i64 k.next, .slice A n c]) k := ⟨A, n, c, rfl, hX⟩
  have hf := fresh_any _ k W (hkp.below t4) hS
  obtain ⟨i0, i1⟩ := cells2 t0
  obtain ⟨g, hg⟩ : ∃ g, w.heap.size = g := ⟨_, rfl⟩
  have HG := hidT hg
  rw [hg] at t0 t1 t2 t3 t5 i0 i1
  have HW := hidT hW
  have T0 := hidT t0
  have T1 := hidT t1
  have T2 := hidT t2
  have T3 := hidT t3
  have T4 := hidT t4
  have T5 := hidT t5
  have HIT := hidT hit
  have HKP := hidT hkp
  have HF := hidT hf
  have HLB := hidT (And.intro hL hB)
  clear t0 t1 t2 t3 t4 t5 hW hit hkp hf hX hl hb hS hL hB
  go_enter Try.func18, Try.ntmps18
  go_wp2_with fail
  rw [HW.out]
  clear hg
  with_reducible refine HF.out.mono ?_
  rintro e w5 ⟨A5, n5, c5, us, lo, rfl, ho5, hF5, ha5, hlo5, hbl5, hb5⟩
  have z5 := alloc_at w5 (.cells #[.int .i64 k.next, .slice A5 n5 c5] 24) _ rfl
  have hbA := bthen hb5 (nkeep w5 (.cells #[.int .i64 k.next, .slice A5 n5 c5] 24))
  have y0 := keepH T0.out hbA
  have y1 := keepH T1.out hbA
  have y2 := keepH T2.out hbA
  have y3 := keepH T3.out hbA
  obtain ⟨i0, i1⟩ := cells2 y0
  obtain ⟨j0, j1, j2, j3, j4, j5, j6, j7⟩ := cells8 y1
  obtain ⟨l0, l1⟩ := cells2 z5
  have BA' := nkeep w5 (.cells #[.int .i64 k.next, .slice A5 n5 c5] 24)
  obtain ⟨h, hh⟩ : ∃ h, w5.heap.size = h := ⟨_, rfl⟩
  rw [hh] at z5 l0 l1
  have HO := hidT (ho5.later BA')
  have HFF := hidT (hF5.below BA')
  have HF5 := hidT hF5
  have HBW := hidT BA'
  have HA := hidT ha5
  have HLO := hidT hlo5
  have HBL := hidT hbl5
  have HBA := hidT hbA
  have HH := hidT hh
  have HSZ := hidT (size_alloc w5 (.cells #[.int .i64 k.next, .slice A5 n5 c5] 24))
  obtain ⟨W5, hW5⟩ : ∃ W5, w5.alloc (.cells #[.int .i64 k.next, .slice A5 n5 c5] 24) = W5 := ⟨_, rfl⟩
  rw [hW5] at z5 y0 y1 y2 y3 HO HFF HBA HSZ HBW
  have HW5 := hidT hW5
  have Y0 := hidT y0
  have Y1 := hidT y1
  have Y2 := hidT y2
  have Y3 := hidT y3
  have Z5 := hidT z5
  have hmay := may_any _ (Keep.wq x k.next) W5 (HIT.out.below (bthen T4.out HBA.out))
  have HM := hidT hmay
  clear ho5 hF5 ha5 hlo5 hbl5 hbA hb5 BA' hW5 y0 y1 y2 y3 z5 hmay
  go_wp2_with fail
  rw [HW5.out]
  clear hh i0 i1 j0 j1 j2 j3 j4 j5 j6 j7 l0 l1
  rw [hm] at HM
  clear hm
  with_reducible refine HM.out.mono ?_
  rintro e w6 ⟨rfl, hb6⟩
  have y2 := keepH Y2.out hb6
  have y3 := keepH Y3.out hb6
  obtain ⟨l0, l1⟩ := cells2 (keepH Z5.out hb6)
  obtain ⟨i0, i1⟩ := cells2 (keepH Y0.out hb6)
  have HB6 := hidT hb6
  clear hb6
  have hroom := room_any _ k buf spare w6 (HKP.out.below (bthen T4.out (bthen HBA.out HB6.out)))
  have hrl := (Keep.room_some hr).2
  have hn5 : n5 < 64 := by have e1 := HF5.out.1; have e2 := HO.out.2.1; omega
  have HN5 := hidT (show n5 + 1 ≤ 16777216 by omega)
  generalize Keep.room k buf spare = R at hroom hr
  have q9 : (R == 0) = false := by simp; omega
  have Y2 := hidT y2
  have Y3 := hidT y3
  have Y1 := hidT (keepH Y1.out HB6.out)
  have Z6 := hidT (keepH Z5.out HB6.out)
  clear hr y2 y3 hrl hn5
  go_wp2_with fail
  with_reducible refine hroom.mono ?_
  rintro e w7 ⟨rfl, hb7⟩
  have Y2 := hidT (keepH Y2.out hb7)
  have Y3 := hidT (keepH Y3.out hb7)
  have Y1 := hidT (keepH Y1.out hb7)
  have Z7 := hidT (keepH Z6.out hb7)
  have HB7 := hidT (bthen HB6.out hb7)
  have HOWN : Hid (∀ w', Below w.heap.size w w' → Calls Try.prog 34 #[.agg #[.int .i64 x.k, .int .i64 k.next, .int .i64 x.e, .int .i64 x.i, .int .i64 x.t, .int .i64 x.c, .slice LA ln lc, .slice BA bn bc]] w' (OwnIs w' (Keep.wq x k.next))) := hidT fun w' hb' => own_any _ _ w' (HIT.out.below hb') HLB.out.1 HLB.out.2
  have HBW7 := hidT (bthen T4.out (bthen HBA.out HB7.out))
  have HO7 := hidT (HO.out.later HB7.out)
  obtain ⟨l0, l1⟩ := cells2 Z7.out
  obtain ⟨j0, j1, j2, j3, j4, j5, j6, j7⟩ := cells8 Y1.out
  clear hb7 i0 i1 hroom
  go_wp2_with fail
  go_region_law
    (first
      | (go_simp; go_at_call 34; ((with_reducible refine (HOWN.out _ HBW7.out.drew).mono ?_); rintro e8 w8 ⟨v8, rfl, hF8, hb8'⟩; have hb8 : Below w7.heap.size w7 w8 := undrew hb8'; obtain ⟨LA8, ln8, lc8, BA8, bn8, bc8, ev8, hl8, hbd8, hla8, hba8⟩ := id hF8; have ev8' : v8 = .agg #[.int .i64 x.k, .int .i64 k.next, .int .i64 x.e, .int .i64 x.i, .int .i64 x.t, .int .i64 x.c, .slice LA8 ln8 lc8, .slice BA8 bn8 bc8] := ev8; clear ev8; subst ev8'; obtain ⟨m0, m1⟩ := cells2 (keepH Z7.out hb8); obtain ⟨n0, n1⟩ := cells2 (keepH Z7.out (bthen hb8 (nkeep w8 (.cells #[.int .i64 x.k, .int .i64 k.next, .int .i64 x.e, .int .i64 x.i, .int .i64 x.t, .int .i64 x.c, .slice LA8 ln8 lc8, .slice BA8 bn8 bc8] 28))))))
      | (refine step_appK 8 (by omega) 38 rfl rfl (.tmp 34) (.tmp 37) 22 rfl W.heap.size 28 _ 96 info8 rfl (by omega) Try.underlying22 (.slice A5 n5 c5) n5 us rfl ?hole_own (some ⟨w8.heap.size, 0, none⟩) 1 1 [#[.int .i64 x.k, .int .i64 k.next, .int .i64 x.e, .int .i64 x.i, .int .i64 x.t, .int .i64 x.c, .slice LA8 ln8 lc8, .slice BA8 bn8 bc8]] rfl ?hole_rd ?hole_h63 ?hole_hb ?_
         case hole_own => exact HO7.out.later (bthen hb8 (nkeep w8 (.cells #[.int .i64 x.k, .int .i64 k.next, .int .i64 x.e, .int .i64 x.i, .int .i64 x.t, .int .i64 x.c, .slice LA8 ln8 lc8, .slice BA8 bn8 bc8] 28)))
         case hole_rd => exact RdK.lit w8 28 (0, 0) #[.int .i64 x.k, .int .i64 k.next, .int .i64 x.e, .int .i64 x.i, .int .i64 x.t, .int .i64 x.c, .slice LA8 ln8 lc8, .slice BA8 bn8 bc8] [#[.int .i64 x.k, .int .i64 k.next, .int .i64 x.e, .int .i64 x.i, .int .i64 x.t, .int .i64 x.c, .slice LA8 ln8 lc8, .slice BA8 bn8 bc8]] (AllK.one rfl (by simp [Value.oneCell'])) (by simp [flat]) 1 rfl (by simp only [maxLen]; omega) w8.heap.size rfl
         case hole_h63 => exact HN5.out
         case hole_hb => exact Nat.le_trans HBA.out.size (Nat.le_trans HB7.out.size (Nat.le_trans hb8.size (nkeep w8 (.cells #[.int .i64 x.k, .int .i64 k.next, .int .i64 x.e, .int .i64 x.i, .int .i64 x.t, .int .i64 x.c, .slice LA8 ln8 lc8, .slice BA8 bn8 bc8] 28)).size))
         intro v9 w9 hO9 hb9 hg9
         have hrow := HO7.out.rowlt HA.out
         have hz9 := (hg9.block h (by have := (bthen hb8 (nkeep w8 (.cells #[.int .i64 x.k, .int .i64 k.next, .int .i64 x.e, .int .i64 x.i, .int .i64 x.t, .int .i64 x.c, .slice LA8 ln8 lc8, .slice BA8 bn8 bc8] 28))).size; have := blk_lt Z7.out; exact Nat.lt_of_lt_of_le (blk_lt Z7.out) (bthen hb8 (nkeep w8 (.cells #[.int .i64 x.k, .int .i64 k.next, .int .i64 x.e, .int .i64 x.i, .int .i64 x.t, .int .i64 x.c, .slice LA8 ln8 lc8, .slice BA8 bn8 bc8] 28))).size) (fun e => by have h1 := hrow h e.symm; have h2 := HLO.out; have h3 := HH.out; omega)).trans (keepH Z7.out (bthen hb8 (nkeep w8 (.cells #[.int .i64 x.k, .int .i64 k.next, .int .i64 x.e, .int .i64 x.i, .int .i64 x.t, .int .i64 x.c, .slice LA8 ln8 lc8, .slice BA8 bn8 bc8] 28))))
         obtain ⟨A9, c9, rfl, hrd9⟩ := OwnK.rd hO9
         obtain ⟨p0, p1⟩ := cells2 hz9
         have f0 := no_frozen hz9 0
         have f1 := no_frozen hz9 1)
      | fail)
  all_goals
    have nA := nkeep w8 (.cells #[.int .i64 x.k, .int .i64 k.next, .int .i64 x.e, .int .i64 x.i, .int .i64 x.t, .int .i64 x.c, .slice LA8 ln8 lc8, .slice BA8 bn8 bc8] 28)
    have b8A := bthen hb8 nA
    have s0 := HG.out
    have s5 := T5.out
    have sbl := HBL.out
    have slo := HLO.out
    have shh := HH.out
    have sW5 := HSZ.out
    have sb7 := HB7.out.size
    have sb8 := hb8.size
    have sbA := HBA.out.size
    have hlt7 : h < w7.heap.size := blk_lt Z7.out
    have M5 : Mid lo w5 w9 := (((Mid.of HBW.out).below HB7.out).below b8A).grown hg9 hrow
    have M8 : Mid w7.heap.size w8 w9 := (Mid.of nA).grown hg9 (fun b e => by have := hrow b e; omega)
    have y1 := (hb9.block (g + 1) (by omega)).trans (keepH Y1.out b8A)
    have y2 := (hb9.block (g + 2) (by omega)).trans (keepH Y2.out b8A)
    have y3 := (hb9.block (g + 3) (by omega)).trans (keepH Y3.out b8A)
    have bw9 : Below w.heap.size w w9 := (bthen HBW7.out b8A).trans (hb9.mono (by omega))
    have z10 : (w9.setCell ⟨h, 1, none⟩ (.slice A9 (n5 + 1) c9)).heap[h]? = some (.cells #[.int .i64 k.next, .slice A9 (n5 + 1) c9] 24 (0, 0)) := heap_setCell_same w9 h 1 _ _ _ hz9
    have b10 : But h w9 (w9.setCell ⟨h, 1, none⟩ (.slice A9 (n5 + 1) c9)) := But.setCell w9 h 1 _
    have hap := hO9.apart hz9 (by decide)
    have rd10 := hrd9.but hap b10
    have M5 := M5.but b10 (.inr (by omega))
    have M8 := M8.but b10 (.inl hlt7)
    have y1 := (b10.2 (g + 1) (by omega)).trans y1
    have y2 := (b10.2 (g + 2) (by omega)).trans y2
    have y3 := (b10.2 (g + 3) (by omega)).trans y3
    have bw10 : Below w.heap.size w (w9.setCell ⟨h, 1, none⟩ (.slice A9 (n5 + 1) c9)) := bw9.setCell (p := ⟨h, 1, none⟩) (by show w.heap.size ≤ h; omega) _
    have had : ∀ b o, A9 = some ⟨b, o, none⟩ → W.heap.size ≤ b := fun b o e => (hO9.addr b o e).1
    have HAP := hidT hap
    have HAD := hidT had
    have HF8 := hidT hF8
    have L7 := hidT hlt7
    have L8 := hidT sb8
    have hw57 : w5.heap.size ≤ w7.heap.size := by omega
    have L57 := hidT hw57
    clear i0 i1 l0 l1 j0 j1 j2 j3 j4 j5 j6 j7 m0 m1 n0 n1 p0 p1 f0 f1 hap had hO9 hrd9 hb9 hg9 hrow hz9 hb8 hb8' hl8 hbd8 hla8 hba8 hF8 nA b8A s0 s5 sbl slo shh sW5 sb7 sb8 sbA hlt7 bw9 b10 hw57
    generalize w9.setCell ⟨h, 1, none⟩ (.slice A9 (n5 + 1) c9) = w10 at *
    have z11 : (w10.setCell ⟨h, 0, none⟩ (.int .i64 (k.next + 1))).heap[h]? = some (.cells #[.int .i64 (k.next + 1), .slice A9 (n5 + 1) c9] 24 (0, 0)) := heap_setCell_same w10 h 0 _ _ _ z10
    have b11 : But h w10 (w10.setCell ⟨h, 0, none⟩ (.int .i64 (k.next + 1))) := But.setCell w10 h 0 _
    have f0 := no_frozen z10 0
    obtain ⟨s0, s1⟩ := cells2 z10
    have R11 := hidT (rd10.but HAP.out b11)
    have K1 := hidT (M5.but b11 (.inr (by have := HH.out; omega)))
    have K2 := hidT (M8.but b11 (.inl L7.out))
    have U0 := HG.out
    have U5 := T5.out
    have UH := HH.out
    have UB := HBL.out
    have UL := HLO.out
    have Y1 := hidT ((b11.2 (g + 1) (by omega)).trans y1)
    have Y2 := hidT ((b11.2 (g + 2) (by omega)).trans y2)
    have Y3 := hidT ((b11.2 (g + 3) (by omega)).trans y3)
    have B11 := hidT (bw10.setCell (p := ⟨h, 0, none⟩) (show w.heap.size ≤ h by omega) (.int .i64 (k.next + 1)))
    have Z11 := hidT z11
    clear z10 z11 rd10 M5 M8 y1 y2 y3 bw10 b11 U0 U5 UH UB UL
    go_wp2_with fail
    clear s0 s1 f0
    generalize w10.setCell ⟨h, 0, none⟩ (.int .i64 (k.next + 1)) = w11 at *
    obtain ⟨s0, s1⟩ := cells2 Z11.out
    obtain ⟨j0, j1, j2, j3, j4, j5, j6, j7⟩ := cells8 Y1.out
    go_region_law
      (first
        | (go_simp
           go_at_call 34
           with_reducible refine (HOWN.out _ B11.out.drew).mono ?_
           rintro e12 w12 ⟨v12, rfl, hF12, hb12'⟩
           have hb12 : Below w11.heap.size w11 w12 := undrew hb12'
           obtain ⟨r12, rfl, hs12, ha12⟩ := hF12.cells
           obtain ⟨q0, q1⟩ := cells2 (keepH Z11.out hb12)
           have y2 : w12.heap[g + 1 + 1]? = some (.cells kz 24 (0, 0)) := keepH Y2.out hb12
           have fa0 := no_frozen y2 0
           have fa1 := no_frozen y2 1
           obtain ⟨v0, v1⟩ := cells2 y2
           have x1 : (w12.setCell ⟨g + 1 + 1, 0, none⟩ (.int .i64 (k.next + 1))).heap[g + 1 + 1]? = some (.cells #[.int .i64 (k.next + 1), .slice none 0 0] 24 (0, 0)) := heap_setCell_same w12 (g + 1 + 1) 0 _ _ _ y2
           have x2 : ((w12.setCell ⟨g + 1 + 1, 0, none⟩ (.int .i64 (k.next + 1))).setCell ⟨g + 1 + 1, 1, none⟩ (.slice A9 (n5 + 1) c9)).heap[g + 1 + 1]? = some (.cells #[.int .i64 (k.next + 1), .slice A9 (n5 + 1) c9] 24 (0, 0)) := heap_setCell_same _ (g + 1 + 1) 1 _ _ _ x1
           have bx : But (g + 1 + 1) w12 ((w12.setCell ⟨g + 1 + 1, 0, none⟩ (.int .i64 (k.next + 1))).setCell ⟨g + 1 + 1, 1, none⟩ (.slice A9 (n5 + 1) c9)) := (But.setCell w12 (g + 1 + 1) 0 _).trans (But.setCell _ (g + 1 + 1) 1 _)
           have y3 : ((w12.setCell ⟨g + 1 + 1, 0, none⟩ (.int .i64 (k.next + 1))).setCell ⟨g + 1 + 1, 1, none⟩ (.slice A9 (n5 + 1) c9)).heap[g + 1 + 1 + 1]? = some (.cells zcells 28 (0, 0)) := (bx.2 (g + 1 + 1 + 1) (by omega)).trans (keepH Y3.out hb12)
           obtain ⟨w13, hrun13, G13, BB13, BL13⟩ := st8 y3 r12 hs12.symm ha12)
        | fail)
    all_goals
      obtain ⟨LAz, lnz, lcz, BAz, bnz, bcz, ez, hlz, hbz, hlaz, hbaz⟩ := id hF12
      injection ez with ez
      have ez' : r12 = #[.int .i64 x.k, .int .i64 k.next, .int .i64 x.e, .int .i64 x.i, .int .i64 x.t, .int .i64 x.c, .slice LAz lnz lcz, .slice BAz bnz bcz] := ez
      clear ez hlz hbz hlaz hbaz
      subst ez'
      have x13 := (BB13.out.2 (g + 1 + 1) (by omega)).trans x2
      obtain ⟨e0, e1⟩ := cells2 x13
      obtain ⟨f0, f1, f2, f3, f4, f5, f6, f7⟩ := cells8 G13.out
      have U0 := HG.out
      have U5 := T5.out
      have UH := HH.out
      have UB := HBL.out
      have UL := HLO.out
      have UA := HBA.out.size
      have U7 := HB7.out.size
      have UW := HSZ.out
      have h11 : W.heap.size ≤ w11.heap.size := by have := K1.out.1; omega
      have rd13 := ((R11.out.below hb12).but (fun b o e => by have := HAD.out b o e; omega) bx).but (fun b o e => by have := HAD.out b o e; omega) BB13.out
      have k1 := ((K1.out.below hb12).but bx (.inl (by omega))).but BB13.out (.inl (by omega))
      have k2 := ((K2.out.below hb12).but bx (.inl (by omega))).but BB13.out (.inl (by omega))
      have fi := ((hF12.mono h11).but (by omega) bx).but (by omega) BB13.out
      have fu := (HF5.out.mid k1).mono UB
      have f8 := (AreF.one (HF8.out.mid k2)).mono (show W.heap.size ≤ w7.heap.size by omega)
      have bl := BL13.out _ _ (((bthen B11.out hb12).setCell (p := ⟨g + 1 + 1, 0, none⟩) (show w.heap.size ≤ g + 1 + 1 by omega) (.int .i64 (k.next + 1))).setCell (p := ⟨g + 1 + 1, 1, none⟩) (show w.heap.size ≤ g + 1 + 1 by omega) (.slice A9 (n5 + 1) c9)) (by omega)
      have fin : PushIs w ⟨⟨k.next + 1, k.l ++ [Keep.wq x k.next]⟩, Keep.wq x k.next, 0⟩ (.returned (.tuple #[.agg #[.int .i64 (k.next + 1), .slice A9 (n5 + 1) c9], .agg #[.int .i64 x.k, .int .i64 k.next, .int .i64 x.e, .int .i64 x.i, .int .i64 x.t, .int .i64 x.c, .slice LAz lnz lcz, .slice BAz bnz bcz], .int .i64 0])) w13 :=
        ⟨_, _, rfl, ⟨A9, n5 + 1, c9, us ++ [#[.int .i64 x.k, .int .i64 k.next, .int .i64 x.e, .int .i64 x.i, .int .i64 x.t, .int .i64 x.c, .slice LA8 ln8 lc8, .slice BA8 bn8 bc8]], rfl, rd13, fun b o e => by have := HAD.out b o e; omega, (fu.app f8).mono (by omega)⟩, fi.mono (by omega), bl⟩
      clear rd13 k1 k2 fi fu f8 bl bx x13 x2 x1 y2 y3 hb12 hb12' hF12 U0 U5 UH UB UL UA U7 UW h11 hrun13 v0 v1 fa0 fa1 q0 q1 s0 s1 j0 j1 j2 j3 j4 j5 j6 j7
      go_wp2_with fail
      exact bodyPost_ret (v := .tuple #[.agg #[.int .i64 (k.next + 1), .slice A9 (n5 + 1) c9], .agg #[.int .i64 x.k, .int .i64 k.next, .int .i64 x.e, .int .i64 x.i, .int .i64 x.t, .int .i64 x.c, .slice LAz lnz lcz, .slice BAz bnz bcz], .int .i64 0]) (by simp [results, Try.results18, go_sem, e0, e1, f0, f1, f2, f3, f4, f5, f6, f7]) rfl fin
end Go.Proofs.Ytgnaecifinlnmaa
