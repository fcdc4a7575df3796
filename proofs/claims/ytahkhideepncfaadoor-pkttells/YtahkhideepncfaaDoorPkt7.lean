/- What pkt.Bytes comes to. (Written by wip/gen/pkt6.py.) -/
import Derived.Test.YtahkhideepncfaaDoorPkt5
import Derived.Test.YtahkhideepncfaaDoorPkt6
import Derived.Test.YtahkhideepncfaaDoorCA
import Derived.Test.YtahkhideepncfaaDoorBA
import Derived.Deep.RegionHeldLaw
set_option maxRecDepth 100000
namespace Go.Proofs.YtahkhideepncfaaDoor
open Go.RowKit
set_option linter.unusedVariables false

set_option maxHeartbeats 8000000 in
theorem pbytes_yes (p : Pkt.Pk) (LA : Option Addr) (ln lc : Nat) (BA : Option Addr) (bn bc : Nat) (PA : Option Addr) (pn pc : Nat) (w : World) (hw : Wd w) (hl : RdI w LA ln lc p.it.l) (hb : Rd w BA bn bc p.it.b) (hp : RdI w PA pn pc p.l) (hm : Pkt.may p = true) :
    Calls Tryd.prog 15 #[.agg #[.int .i64 p.k, .int .i64 p.f, .int .i64 p.it.k, .int .i64 p.it.q, .int .i64 p.it.e, .int .i64 p.it.i, .int .i64 p.it.t, .int .i64 p.it.c, .slice LA ln lc, .slice BA bn bc, .int .i64 p.to, .int .i64 p.lo, .int .i64 p.many, .int .i64 p.top, .slice PA pn pc]] w (Gives w 5 (Crc.sealB (Pkt.raw p))) := by
  obtain ⟨r, HR⟩ : ∃ r, Hid (Crc.sealB (Num.putRow [165, p.k, p.f] 1 ++ Pkt.tail p) = r) := ⟨_, hidT rfl⟩
  have HR2 : Crc.sealB (Pkt.raw p) = r := HR.out
  rw [HR2]
  clear HR2
  have HT : Hid ((Num.putRow [165, p.k, p.f] 1).length + (Pkt.tail p).length ≤ 1100) := by
    refine hidT ?_
    have := (Pkt.raw_len hm).2.2.2.1
    unfold Pkt.raw at this
    rwa [List.length_append] at this
  have hg := alloc_at w (.cells #[.int .i64 p.k, .int .i64 p.f, .int .i64 p.it.k, .int .i64 p.it.q, .int .i64 p.it.e, .int .i64 p.it.i, .int .i64 p.it.t, .int .i64 p.it.c, .slice LA ln lc, .slice BA bn bc, .int .i64 p.to, .int .i64 p.lo, .int .i64 p.many, .int .i64 p.top, .slice PA pn pc] 27) _ rfl
  have hb0 : Below w.heap.size w (w.alloc (.cells #[.int .i64 p.k, .int .i64 p.f, .int .i64 p.it.k, .int .i64 p.it.q, .int .i64 p.it.e, .int .i64 p.it.i, .int .i64 p.it.t, .int .i64 p.it.c, .slice LA ln lc, .slice BA bn bc, .int .i64 p.to, .int .i64 p.lo, .int .i64 p.many, .int .i64 p.top, .slice PA pn pc] 27)) := (Below.refl _ _).alloc (Nat.le_refl _) _
  have hmay := pmay_any (.agg #[.int .i64 p.k, .int .i64 p.f, .int .i64 p.it.k, .int .i64 p.it.q, .int .i64 p.it.e, .int .i64 p.it.i, .int .i64 p.it.t, .int .i64 p.it.c, .slice LA ln lc, .slice BA bn bc, .int .i64 p.to, .int .i64 p.lo, .int .i64 p.many, .int .i64 p.top, .slice PA pn pc]) p _ ⟨LA, ln, lc, BA, bn, bc, PA, pn, pc, rfl, RdV.below hl hb0, hb.below hb0, RdV.below hp hb0⟩
  rw [hm] at hmay
  have c0 := cell_at hg 0 rfl
  have c1 := cell_at hg 1 rfl
  have c2 := cell_at hg 2 rfl
  have c3 := cell_at hg 3 rfl
  have c4 := cell_at hg 4 rfl
  have c5 := cell_at hg 5 rfl
  have c6 := cell_at hg 6 rfl
  have c7 := cell_at hg 7 rfl
  have c8 := cell_at hg 8 rfl
  have c9 := cell_at hg 9 rfl
  have c10 := cell_at hg 10 rfl
  have c11 := cell_at hg 11 rfl
  have c12 := cell_at hg 12 rfl
  have c13 := cell_at hg 13 rfl
  have c14 := cell_at hg 14 rfl
  clear hg
  have HM := hidT hm
  clear hm
  go_enter Tryd.func15, Tryd.ntmps15
  go_wp2_with fail
  with_reducible refine hmay.mono ?_
  rintro e w1 ⟨rfl, hb1⟩
  have d0 := keepC hb1 c0
  have d1 := keepC hb1 c1
  have d2 := keepC hb1 c2
  have d3 := keepC hb1 c3
  have d4 := keepC hb1 c4
  have d5 := keepC hb1 c5
  have d6 := keepC hb1 c6
  have d7 := keepC hb1 c7
  have d8 := keepC hb1 c8
  have d9 := keepC hb1 c9
  have d10 := keepC hb1 c10
  have d11 := keepC hb1 c11
  have d12 := keepC hb1 c12
  have d13 := keepC hb1 c13
  have d14 := keepC hb1 c14
  have hb01 := bthen hb0 hb1
  clear c0 c1 c2 c3 c4 c5 c6 c7 c8 c9 c10 c11 c12 c13 c14 hmay hb1 hb0
  go_wp2
  generalize w1 = W0 at hb01 d0 d1 d2 d3 d4 d5 d6 d7 d8 d9 d10 d11 d12 d13 d14 ⊢
  have hw0 := hw.below hb01
  have hit : Hid (∀ w', Below W0.heap.size W0 w' → IsPkt w' (.agg #[.int .i64 p.k, .int .i64 p.f, .int .i64 p.it.k, .int .i64 p.it.q, .int .i64 p.it.e, .int .i64 p.it.i, .int .i64 p.it.t, .int .i64 p.it.c, .slice LA ln lc, .slice BA bn bc, .int .i64 p.to, .int .i64 p.lo, .int .i64 p.many, .int .i64 p.top, .slice PA pn pc]) p) := hidT fun w' h => ⟨LA, ln, lc, BA, bn, bc, PA, pn, pc, rfl, RdV.below hl (bthen hb01 h), hb.below (bthen hb01 h), RdV.below hp (bthen hb01 h)⟩
  clear hl hb hp hw
  have KS : Hid (∀ w', Below W0.heap.size W0 w' → w'.cell? ⟨w.heap.size, 0, none⟩ = some (.int .i64 p.k) ∧ w'.cell? ⟨w.heap.size, 1, none⟩ = some (.int .i64 p.f) ∧ w'.cell? ⟨w.heap.size, 2, none⟩ = some (.int .i64 p.it.k) ∧ w'.cell? ⟨w.heap.size, 3, none⟩ = some (.int .i64 p.it.q) ∧ w'.cell? ⟨w.heap.size, 4, none⟩ = some (.int .i64 p.it.e) ∧ w'.cell? ⟨w.heap.size, 5, none⟩ = some (.int .i64 p.it.i) ∧ w'.cell? ⟨w.heap.size, 6, none⟩ = some (.int .i64 p.it.t) ∧ w'.cell? ⟨w.heap.size, 7, none⟩ = some (.int .i64 p.it.c) ∧ w'.cell? ⟨w.heap.size, 8, none⟩ = some (.slice LA ln lc) ∧ w'.cell? ⟨w.heap.size, 9, none⟩ = some (.slice BA bn bc) ∧ w'.cell? ⟨w.heap.size, 10, none⟩ = some (.int .i64 p.to) ∧ w'.cell? ⟨w.heap.size, 11, none⟩ = some (.int .i64 p.lo) ∧ w'.cell? ⟨w.heap.size, 12, none⟩ = some (.int .i64 p.many) ∧ w'.cell? ⟨w.heap.size, 13, none⟩ = some (.int .i64 p.top) ∧ w'.cell? ⟨w.heap.size, 14, none⟩ = some (.slice PA pn pc) ∧ Below W0.heap.size W0 w') := hidT fun w' h => ⟨keepC h d0, keepC h d1, keepC h d2, keepC h d3, keepC h d4, keepC h d5, keepC h d6, keepC h d7, keepC h d8, keepC h d9, keepC h d10, keepC h d11, keepC h d12, keepC h d13, keepC h d14, h⟩
  have KB : Hid (∀ w', (w'.cell? ⟨w.heap.size, 0, none⟩ = some (.int .i64 p.k) ∧ w'.cell? ⟨w.heap.size, 1, none⟩ = some (.int .i64 p.f) ∧ w'.cell? ⟨w.heap.size, 2, none⟩ = some (.int .i64 p.it.k) ∧ w'.cell? ⟨w.heap.size, 3, none⟩ = some (.int .i64 p.it.q) ∧ w'.cell? ⟨w.heap.size, 4, none⟩ = some (.int .i64 p.it.e) ∧ w'.cell? ⟨w.heap.size, 5, none⟩ = some (.int .i64 p.it.i) ∧ w'.cell? ⟨w.heap.size, 6, none⟩ = some (.int .i64 p.it.t) ∧ w'.cell? ⟨w.heap.size, 7, none⟩ = some (.int .i64 p.it.c) ∧ w'.cell? ⟨w.heap.size, 8, none⟩ = some (.slice LA ln lc) ∧ w'.cell? ⟨w.heap.size, 9, none⟩ = some (.slice BA bn bc) ∧ w'.cell? ⟨w.heap.size, 10, none⟩ = some (.int .i64 p.to) ∧ w'.cell? ⟨w.heap.size, 11, none⟩ = some (.int .i64 p.lo) ∧ w'.cell? ⟨w.heap.size, 12, none⟩ = some (.int .i64 p.many) ∧ w'.cell? ⟨w.heap.size, 13, none⟩ = some (.int .i64 p.top) ∧ w'.cell? ⟨w.heap.size, 14, none⟩ = some (.slice PA pn pc) ∧ Below W0.heap.size W0 w') → Below W0.heap.size W0 w') := hidT fun w' h => h.2.2.2.2.2.2.2.2.2.2.2.2.2.2.2
  have KA : Hid (∀ (w' : World) (o : Obj), (w'.cell? ⟨w.heap.size, 0, none⟩ = some (.int .i64 p.k) ∧ w'.cell? ⟨w.heap.size, 1, none⟩ = some (.int .i64 p.f) ∧ w'.cell? ⟨w.heap.size, 2, none⟩ = some (.int .i64 p.it.k) ∧ w'.cell? ⟨w.heap.size, 3, none⟩ = some (.int .i64 p.it.q) ∧ w'.cell? ⟨w.heap.size, 4, none⟩ = some (.int .i64 p.it.e) ∧ w'.cell? ⟨w.heap.size, 5, none⟩ = some (.int .i64 p.it.i) ∧ w'.cell? ⟨w.heap.size, 6, none⟩ = some (.int .i64 p.it.t) ∧ w'.cell? ⟨w.heap.size, 7, none⟩ = some (.int .i64 p.it.c) ∧ w'.cell? ⟨w.heap.size, 8, none⟩ = some (.slice LA ln lc) ∧ w'.cell? ⟨w.heap.size, 9, none⟩ = some (.slice BA bn bc) ∧ w'.cell? ⟨w.heap.size, 10, none⟩ = some (.int .i64 p.to) ∧ w'.cell? ⟨w.heap.size, 11, none⟩ = some (.int .i64 p.lo) ∧ w'.cell? ⟨w.heap.size, 12, none⟩ = some (.int .i64 p.many) ∧ w'.cell? ⟨w.heap.size, 13, none⟩ = some (.int .i64 p.top) ∧ w'.cell? ⟨w.heap.size, 14, none⟩ = some (.slice PA pn pc) ∧ Below W0.heap.size W0 w') → (w'.alloc o).cell? ⟨w.heap.size, 0, none⟩ = some (.int .i64 p.k) ∧ (w'.alloc o).cell? ⟨w.heap.size, 1, none⟩ = some (.int .i64 p.f) ∧ (w'.alloc o).cell? ⟨w.heap.size, 2, none⟩ = some (.int .i64 p.it.k) ∧ (w'.alloc o).cell? ⟨w.heap.size, 3, none⟩ = some (.int .i64 p.it.q) ∧ (w'.alloc o).cell? ⟨w.heap.size, 4, none⟩ = some (.int .i64 p.it.e) ∧ (w'.alloc o).cell? ⟨w.heap.size, 5, none⟩ = some (.int .i64 p.it.i) ∧ (w'.alloc o).cell? ⟨w.heap.size, 6, none⟩ = some (.int .i64 p.it.t) ∧ (w'.alloc o).cell? ⟨w.heap.size, 7, none⟩ = some (.int .i64 p.it.c) ∧ (w'.alloc o).cell? ⟨w.heap.size, 8, none⟩ = some (.slice LA ln lc) ∧ (w'.alloc o).cell? ⟨w.heap.size, 9, none⟩ = some (.slice BA bn bc) ∧ (w'.alloc o).cell? ⟨w.heap.size, 10, none⟩ = some (.int .i64 p.to) ∧ (w'.alloc o).cell? ⟨w.heap.size, 11, none⟩ = some (.int .i64 p.lo) ∧ (w'.alloc o).cell? ⟨w.heap.size, 12, none⟩ = some (.int .i64 p.many) ∧ (w'.alloc o).cell? ⟨w.heap.size, 13, none⟩ = some (.int .i64 p.top) ∧ (w'.alloc o).cell? ⟨w.heap.size, 14, none⟩ = some (.slice PA pn pc) ∧ Below W0.heap.size W0 (w'.alloc o)) := hidT fun w' o h => KS.out _ ((KB.out _ h).alloc (KB.out _ h).size o)
  have KC : Hid (∀ (u v : World), (u.cell? ⟨w.heap.size, 0, none⟩ = some (.int .i64 p.k) ∧ u.cell? ⟨w.heap.size, 1, none⟩ = some (.int .i64 p.f) ∧ u.cell? ⟨w.heap.size, 2, none⟩ = some (.int .i64 p.it.k) ∧ u.cell? ⟨w.heap.size, 3, none⟩ = some (.int .i64 p.it.q) ∧ u.cell? ⟨w.heap.size, 4, none⟩ = some (.int .i64 p.it.e) ∧ u.cell? ⟨w.heap.size, 5, none⟩ = some (.int .i64 p.it.i) ∧ u.cell? ⟨w.heap.size, 6, none⟩ = some (.int .i64 p.it.t) ∧ u.cell? ⟨w.heap.size, 7, none⟩ = some (.int .i64 p.it.c) ∧ u.cell? ⟨w.heap.size, 8, none⟩ = some (.slice LA ln lc) ∧ u.cell? ⟨w.heap.size, 9, none⟩ = some (.slice BA bn bc) ∧ u.cell? ⟨w.heap.size, 10, none⟩ = some (.int .i64 p.to) ∧ u.cell? ⟨w.heap.size, 11, none⟩ = some (.int .i64 p.lo) ∧ u.cell? ⟨w.heap.size, 12, none⟩ = some (.int .i64 p.many) ∧ u.cell? ⟨w.heap.size, 13, none⟩ = some (.int .i64 p.top) ∧ u.cell? ⟨w.heap.size, 14, none⟩ = some (.slice PA pn pc) ∧ Below W0.heap.size W0 u) → Below u.heap.size u v → v.cell? ⟨w.heap.size, 0, none⟩ = some (.int .i64 p.k) ∧ v.cell? ⟨w.heap.size, 1, none⟩ = some (.int .i64 p.f) ∧ v.cell? ⟨w.heap.size, 2, none⟩ = some (.int .i64 p.it.k) ∧ v.cell? ⟨w.heap.size, 3, none⟩ = some (.int .i64 p.it.q) ∧ v.cell? ⟨w.heap.size, 4, none⟩ = some (.int .i64 p.it.e) ∧ v.cell? ⟨w.heap.size, 5, none⟩ = some (.int .i64 p.it.i) ∧ v.cell? ⟨w.heap.size, 6, none⟩ = some (.int .i64 p.it.t) ∧ v.cell? ⟨w.heap.size, 7, none⟩ = some (.int .i64 p.it.c) ∧ v.cell? ⟨w.heap.size, 8, none⟩ = some (.slice LA ln lc) ∧ v.cell? ⟨w.heap.size, 9, none⟩ = some (.slice BA bn bc) ∧ v.cell? ⟨w.heap.size, 10, none⟩ = some (.int .i64 p.to) ∧ v.cell? ⟨w.heap.size, 11, none⟩ = some (.int .i64 p.lo) ∧ v.cell? ⟨w.heap.size, 12, none⟩ = some (.int .i64 p.many) ∧ v.cell? ⟨w.heap.size, 13, none⟩ = some (.int .i64 p.top) ∧ v.cell? ⟨w.heap.size, 14, none⟩ = some (.slice PA pn pc) ∧ Below W0.heap.size W0 v) := hidT fun u v h hb => KS.out _ (bthen (KB.out _ h) hb)
  have LIT : Hid (∀ u : World, RdI (u.alloc (.cells #[.int .i64 165, .int .i64 p.k, .int .i64 p.f] 3)) (some ⟨u.heap.size, 0, none⟩) 3 3 [165, p.k, p.f]) := hidT fun u => RdV.lit u 3 (0, 0) _ _ rfl 3 rfl (by decide) _ rfl
  have LITD : Hid (RdI (W0.alloc (.cells #[.int .i64 165, .int .i64 p.k, .int .i64 p.f] 3)).drew (some ⟨W0.heap.size, 0, none⟩) 3 3 [165, p.k, p.f]) := hidT (RdV.drew (LIT.out W0))
  go_region_held_law (fun w' => w'.cell? ⟨w.heap.size, 0, none⟩ = some (.int .i64 p.k) ∧ w'.cell? ⟨w.heap.size, 1, none⟩ = some (.int .i64 p.f) ∧ w'.cell? ⟨w.heap.size, 2, none⟩ = some (.int .i64 p.it.k) ∧ w'.cell? ⟨w.heap.size, 3, none⟩ = some (.int .i64 p.it.q) ∧ w'.cell? ⟨w.heap.size, 4, none⟩ = some (.int .i64 p.it.e) ∧ w'.cell? ⟨w.heap.size, 5, none⟩ = some (.int .i64 p.it.i) ∧ w'.cell? ⟨w.heap.size, 6, none⟩ = some (.int .i64 p.it.t) ∧ w'.cell? ⟨w.heap.size, 7, none⟩ = some (.int .i64 p.it.c) ∧ w'.cell? ⟨w.heap.size, 8, none⟩ = some (.slice LA ln lc) ∧ w'.cell? ⟨w.heap.size, 9, none⟩ = some (.slice BA bn bc) ∧ w'.cell? ⟨w.heap.size, 10, none⟩ = some (.int .i64 p.to) ∧ w'.cell? ⟨w.heap.size, 11, none⟩ = some (.int .i64 p.lo) ∧ w'.cell? ⟨w.heap.size, 12, none⟩ = some (.int .i64 p.many) ∧ w'.cell? ⟨w.heap.size, 13, none⟩ = some (.int .i64 p.top) ∧ w'.cell? ⟨w.heap.size, 14, none⟩ = some (.slice PA pn pc) ∧ Below W0.heap.size W0 w')
    (first | exact KS.out _ (Below.refl _ _).drew | exact KC.out _ _ (by assumption) hz | exact KS.out _ hc | exact KC.out _ _ (by assumption) ht | exact KC.out _ _ (by assumption) hb | exact KA.out _ _ (by assumption) | exact KA.out W0.drew _ (by assumption) | assumption)
    (first
      | (go_at_call 36; ((with_reducible refine (putRow_any _ _ _ [165, p.k, p.f] 1 _ (hw0.below (KB.out _ (by assumption))) (by first | exact (LIT.out _) | exact (RdV.below (LIT.out _) ht) | exact LITD.out | exact (RdV.below LITD.out ht)) (by omega)).mono ?_); rintro e wb ⟨Ab, db, rfl, sb, hb⟩; have sb' := sb.mono (KB.out _ (by assumption)).size))
      | (go_at_call 37; ((with_reducible refine (ptail_any _ p _ (hw0.below (KB.out _ (by assumption))) (hit.out _ (KB.out _ (by assumption))) HM.out).mono ?_); rintro e wt ⟨At, dt, rfl, st, ht⟩))
      | (refine step_appD 14 rfl rfl (.tmp 11) (.tmp 13) 23 rfl W0.heap.size 5 info5 Tryd.underlying23 (.slice Ab (Num.putRow [165, p.k, p.f] 1).length db) (Num.putRow [165, p.k, p.f] 1).length (Num.putRow [165, p.k, p.f] 1) rfl (by first | exact sb' | exact sb'.later ht) At (Pkt.tail p).length dt (Pkt.tail p) rfl (by first | exact st.same | exact st.same.below hb | exact (st.same.alloc _).below hb) (by have := HT.out; omega) (KB.out _ (by assumption)).size ?_
         intro v3 w3 ho3 hb3
         have hc : Below W0.heap.size W0 w3 := (KB.out _ (by assumption)).trans hb3
         obtain ⟨A3, c3, rfl, hr3⟩ := ho3.rd)
      | (go_at_call 35; ((with_reducible refine (seal_any A3 _ c3 (Num.putRow [165, p.k, p.f] 1 ++ Pkt.tail p) _ hr3 (by have := HT.out; omega)).mono ?_); rw [HR.out]; rintro e wz ⟨Az, dz, rfl, sz, hz⟩)))
  all_goals
    go_wp2
    go_ret
    exact ⟨_, _, rfl, sz.mono (bthen hb01 hc).size, bthen hb01 (bthen hc hz)⟩

theorem pbytes_any (v : Value) (p : Pkt.Pk) (w : World) (hw : Wd w) (h : IsPkt w v p) : Calls Tryd.prog 15 #[v] w (Gives w 5 (Pkt.bytes p)) := by
  obtain ⟨LA, ln, lc, BA, bn, bc, PA, pn, pc, rfl, hl, hb, hp⟩ := h
  unfold Pkt.bytes
  cases hm : Pkt.may p with
  | true =>
    rw [if_pos rfl]
    exact pbytes_yes p LA ln lc BA bn bc PA pn pc w hw hl hb hp hm
  | false =>
    rw [if_neg (by simp)]
    have hg := alloc_at w (.cells #[.int .i64 p.k, .int .i64 p.f, .int .i64 p.it.k, .int .i64 p.it.q, .int .i64 p.it.e, .int .i64 p.it.i, .int .i64 p.it.t, .int .i64 p.it.c, .slice LA ln lc, .slice BA bn bc, .int .i64 p.to, .int .i64 p.lo, .int .i64 p.many, .int .i64 p.top, .slice PA pn pc] 27) _ rfl
    have hb0 : Below w.heap.size w (w.alloc (.cells #[.int .i64 p.k, .int .i64 p.f, .int .i64 p.it.k, .int .i64 p.it.q, .int .i64 p.it.e, .int .i64 p.it.i, .int .i64 p.it.t, .int .i64 p.it.c, .slice LA ln lc, .slice BA bn bc, .int .i64 p.to, .int .i64 p.lo, .int .i64 p.many, .int .i64 p.top, .slice PA pn pc] 27)) := (Below.refl _ _).alloc (Nat.le_refl _) _
    have hmay := pmay_any (.agg #[.int .i64 p.k, .int .i64 p.f, .int .i64 p.it.k, .int .i64 p.it.q, .int .i64 p.it.e, .int .i64 p.it.i, .int .i64 p.it.t, .int .i64 p.it.c, .slice LA ln lc, .slice BA bn bc, .int .i64 p.to, .int .i64 p.lo, .int .i64 p.many, .int .i64 p.top, .slice PA pn pc]) p _ ⟨LA, ln, lc, BA, bn, bc, PA, pn, pc, rfl, RdV.below hl hb0, hb.below hb0, RdV.below hp hb0⟩
    rw [hm] at hmay
    have c0 := cell_at hg 0 rfl
    have c1 := cell_at hg 1 rfl
    have c2 := cell_at hg 2 rfl
    have c3 := cell_at hg 3 rfl
    have c4 := cell_at hg 4 rfl
    have c5 := cell_at hg 5 rfl
    have c6 := cell_at hg 6 rfl
    have c7 := cell_at hg 7 rfl
    have c8 := cell_at hg 8 rfl
    have c9 := cell_at hg 9 rfl
    have c10 := cell_at hg 10 rfl
    have c11 := cell_at hg 11 rfl
    have c12 := cell_at hg 12 rfl
    have c13 := cell_at hg 13 rfl
    have c14 := cell_at hg 14 rfl
    clear hg
    go_enter Tryd.func15, Tryd.ntmps15
    go_wp2_with fail
    with_reducible refine hmay.mono ?_
    rintro e w1 ⟨rfl, hb1⟩
    go_wp2
    go_ret
    exact ⟨none, 0, rfl, World.ownsRow_nil _ _ _ _, bthen hb0 hb1⟩
end Go.Proofs.YtahkhideepncfaaDoor
