/- What pkt.tail comes to. (Written by wip/gen/pkt6.py.) -/
import Derived.Test.YtahkhideepncfaaDoorPkt0
import Derived.Test.YtahkhideepncfaaDoorIF
import Derived.Test.YtahkhideepncfaaDoorNA
import Derived.Test.YtahkhideepncfaaDoorBA
import Derived.Deep.RegionHeldLaw
set_option maxRecDepth 100000
namespace Go.Proofs.YtahkhideepncfaaDoor
open Go.RowKit
set_option linter.unusedVariables false

set_option maxHeartbeats 2000000 in
theorem ptail1 (f : Int) (to lo many top : Int) (l : List Int) (ik iq ie ii it ic : Int) (il : List Int) (ib : List UInt8) (LA : Option Addr) (ln lc : Nat) (BA : Option Addr) (bn bc : Nat) (PA : Option Addr) (pn pc : Nat) (w : World) (hw : Wd w) (hl : RdI w LA ln lc il) (hb : Rd w BA bn bc ib) :
    Calls Tryd.prog 37 #[.agg #[.int .i64 1, .int .i64 f, .int .i64 ik, .int .i64 iq, .int .i64 ie, .int .i64 ii, .int .i64 it, .int .i64 ic, .slice LA ln lc, .slice BA bn bc, .int .i64 to, .int .i64 lo, .int .i64 many, .int .i64 top, .slice PA pn pc]] w (Gives w 5 (Item.bytes ⟨ik, iq, ie, ii, it, ic, il, ib⟩)) := by
  have hg := alloc_at w (.cells #[.int .i64 1, .int .i64 f, .int .i64 ik, .int .i64 iq, .int .i64 ie, .int .i64 ii, .int .i64 it, .int .i64 ic, .slice LA ln lc, .slice BA bn bc, .int .i64 to, .int .i64 lo, .int .i64 many, .int .i64 top, .slice PA pn pc] 27) _ rfl
  have hb0 : Below w.heap.size w (w.alloc (.cells #[.int .i64 1, .int .i64 f, .int .i64 ik, .int .i64 iq, .int .i64 ie, .int .i64 ii, .int .i64 it, .int .i64 ic, .slice LA ln lc, .slice BA bn bc, .int .i64 to, .int .i64 lo, .int .i64 many, .int .i64 top, .slice PA pn pc] 27)) := (Below.refl _ _).alloc (Nat.le_refl _) _
  have c0 := cell_at hg 0 rfl
  have c1 := cell_at hg 1 rfl
  have c2 := cell_at hg 2 rfl
  have c3 := cell_at hg 3 rfl
  have c4 := cell_at hg 4 rfl
  have c5 := cell_at hg 5 rfl
  have c6 := cell_at hg 6 rfl
  have c7 := cell_at hg 7 rfl
  have c8 := cell_at hg 8 rfl
  have c9 := cell_at hg 9 rfl
  have c10 := cell_at hg 10 rfl
  have c11 := cell_at hg 11 rfl
  have c12 := cell_at hg 12 rfl
  have c13 := cell_at hg 13 rfl
  have c14 := cell_at hg 14 rfl
  clear hg
  have hby := bytes_any (.agg #[.int .i64 ik, .int .i64 iq, .int .i64 ie, .int .i64 ii, .int .i64 it, .int .i64 ic, .slice LA ln lc, .slice BA bn bc]) ⟨ik, iq, ie, ii, it, ic, il, ib⟩ _ (hw.below hb0) ⟨LA, ln, lc, BA, bn, bc, rfl, RdV.below hl hb0, hb.below hb0⟩
  go_enter Tryd.func37, Tryd.ntmps37
  go_wp2_with fail
  with_reducible refine hby.mono ?_
  rintro e w1 ⟨A1, d1, rfl, s1, h1⟩
  go_wp2
  go_ret
  exact ⟨_, _, rfl, s1.mono hb0.size, bthen hb0 h1⟩

set_option maxHeartbeats 2000000 in
theorem ptail2 (f : Int) (to lo many top : Int) (l : List Int) (ik iq ie ii it ic : Int) (il : List Int) (ib : List UInt8) (LA : Option Addr) (ln lc : Nat) (BA : Option Addr) (bn bc : Nat) (PA : Option Addr) (pn pc : Nat) (w : World) (hw : Wd w) (hl : RdI w LA ln lc il) (hb : Rd w BA bn bc ib) :
    Calls Tryd.prog 37 #[.agg #[.int .i64 2, .int .i64 f, .int .i64 ik, .int .i64 iq, .int .i64 ie, .int .i64 ii, .int .i64 it, .int .i64 ic, .slice LA ln lc, .slice BA bn bc, .int .i64 to, .int .i64 lo, .int .i64 many, .int .i64 top, .slice PA pn pc]] w (Gives w 5 (Item.bytes ⟨ik, iq, ie, ii, it, ic, il, ib⟩)) := by
  have hg := alloc_at w (.cells #[.int .i64 2, .int .i64 f, .int .i64 ik, .int .i64 iq, .int .i64 ie, .int .i64 ii, .int .i64 it, .int .i64 ic, .slice LA ln lc, .slice BA bn bc, .int .i64 to, .int .i64 lo, .int .i64 many, .int .i64 top, .slice PA pn pc] 27) _ rfl
  have hb0 : Below w.heap.size w (w.alloc (.cells #[.int .i64 2, .int .i64 f, .int .i64 ik, .int .i64 iq, .int .i64 ie, .int .i64 ii, .int .i64 it, .int .i64 ic, .slice LA ln lc, .slice BA bn bc, .int .i64 to, .int .i64 lo, .int .i64 many, .int .i64 top, .slice PA pn pc] 27)) := (Below.refl _ _).alloc (Nat.le_refl _) _
  have c0 := cell_at hg 0 rfl
  have c1 := cell_at hg 1 rfl
  have c2 := cell_at hg 2 rfl
  have c3 := cell_at hg 3 rfl
  have c4 := cell_at hg 4 rfl
  have c5 := cell_at hg 5 rfl
  have c6 := cell_at hg 6 rfl
  have c7 := cell_at hg 7 rfl
  have c8 := cell_at hg 8 rfl
  have c9 := cell_at hg 9 rfl
  have c10 := cell_at hg 10 rfl
  have c11 := cell_at hg 11 rfl
  have c12 := cell_at hg 12 rfl
  have c13 := cell_at hg 13 rfl
  have c14 := cell_at hg 14 rfl
  clear hg
  have hby := bytes_any (.agg #[.int .i64 ik, .int .i64 iq, .int .i64 ie, .int .i64 ii, .int .i64 it, .int .i64 ic, .slice LA ln lc, .slice BA bn bc]) ⟨ik, iq, ie, ii, it, ic, il, ib⟩ _ (hw.below hb0) ⟨LA, ln, lc, BA, bn, bc, rfl, RdV.below hl hb0, hb.below hb0⟩
  go_enter Tryd.func37, Tryd.ntmps37
  go_wp2_with fail
  with_reducible refine hby.mono ?_
  rintro e w1 ⟨A1, d1, rfl, s1, h1⟩
  go_wp2
  go_ret
  exact ⟨_, _, rfl, s1.mono hb0.size, bthen hb0 h1⟩

set_option maxHeartbeats 4000000 in
theorem ptail3 (f : Int) (to lo many top : Int) (l : List Int) (ik iq ie ii it ic : Int) (il : List Int) (ib : List UInt8) (LA : Option Addr) (ln lc : Nat) (BA : Option Addr) (bn bc : Nat) (PA : Option Addr) (pn pc : Nat) (w : World) (hw : Wd w) :
    Calls Tryd.prog 37 #[.agg #[.int .i64 3, .int .i64 f, .int .i64 ik, .int .i64 iq, .int .i64 ie, .int .i64 ii, .int .i64 it, .int .i64 ic, .slice LA ln lc, .slice BA bn bc, .int .i64 to, .int .i64 lo, .int .i64 many, .int .i64 top, .slice PA pn pc]] w (Gives w 5 ((Num.put to 1 ++ Num.put lo 8) ++ Num.put many 1)) := by
  obtain ⟨r, HR⟩ : ∃ r, Hid ((Num.put to 1 ++ Num.put lo 8) ++ Num.put many 1 = r) := ⟨_, hidT rfl⟩
  rw [HR.out]
  have hg := alloc_at w (.cells #[.int .i64 3, .int .i64 f, .int .i64 ik, .int .i64 iq, .int .i64 ie, .int .i64 ii, .int .i64 it, .int .i64 ic, .slice LA ln lc, .slice BA bn bc, .int .i64 to, .int .i64 lo, .int .i64 many, .int .i64 top, .slice PA pn pc] 27) _ rfl
  have hb0 : Below w.heap.size w (w.alloc (.cells #[.int .i64 3, .int .i64 f, .int .i64 ik, .int .i64 iq, .int .i64 ie, .int .i64 ii, .int .i64 it, .int .i64 ic, .slice LA ln lc, .slice BA bn bc, .int .i64 to, .int .i64 lo, .int .i64 many, .int .i64 top, .slice PA pn pc] 27)) := (Below.refl _ _).alloc (Nat.le_refl _) _
  have c0 := cell_at hg 0 rfl
  have c10 := cell_at hg 10 rfl
  have c11 := cell_at hg 11 rfl
  have c12 := cell_at hg 12 rfl
  clear hg
  have hlen1 := put_len1 to
  have hlen2 := put_len8 lo
  have hlen3 := put_len1 many
  go_enter Tryd.func37, Tryd.ntmps37
  go_wp2
  generalize w.alloc (.cells #[.int .i64 3, .int .i64 f, .int .i64 ik, .int .i64 iq, .int .i64 ie, .int .i64 ii, .int .i64 it, .int .i64 ic, .slice LA ln lc, .slice BA bn bc, .int .i64 to, .int .i64 lo, .int .i64 many, .int .i64 top, .slice PA pn pc] 27) = W0 at hb0 c0 c10 c11 c12 ⊢
  have hw0 := hw.below hb0
  clear hw c0
  have KS : ∀ w', Below W0.heap.size W0 w' → w'.cell? ⟨w.heap.size, 10, none⟩ = some (.int .i64 to) ∧ w'.cell? ⟨w.heap.size, 11, none⟩ = some (.int .i64 lo) ∧ w'.cell? ⟨w.heap.size, 12, none⟩ = some (.int .i64 many) ∧ Below W0.heap.size W0 w' := fun w' h => ⟨keepC h c10, keepC h c11, keepC h c12, h⟩
  have KB : ∀ w', (w'.cell? ⟨w.heap.size, 10, none⟩ = some (.int .i64 to) ∧ w'.cell? ⟨w.heap.size, 11, none⟩ = some (.int .i64 lo) ∧ w'.cell? ⟨w.heap.size, 12, none⟩ = some (.int .i64 many) ∧ Below W0.heap.size W0 w') → Below W0.heap.size W0 w' := fun w' h => h.2.2.2
  have KA : ∀ (w' : World) (o : Obj), (w'.cell? ⟨w.heap.size, 10, none⟩ = some (.int .i64 to) ∧ w'.cell? ⟨w.heap.size, 11, none⟩ = some (.int .i64 lo) ∧ w'.cell? ⟨w.heap.size, 12, none⟩ = some (.int .i64 many) ∧ Below W0.heap.size W0 w') → (w'.alloc o).cell? ⟨w.heap.size, 10, none⟩ = some (.int .i64 to) ∧ (w'.alloc o).cell? ⟨w.heap.size, 11, none⟩ = some (.int .i64 lo) ∧ (w'.alloc o).cell? ⟨w.heap.size, 12, none⟩ = some (.int .i64 many) ∧ Below W0.heap.size W0 (w'.alloc o) := fun w' o h => KS _ ((KB _ h).alloc (KB _ h).size o)
  have KC : ∀ (u v : World), (u.cell? ⟨w.heap.size, 10, none⟩ = some (.int .i64 to) ∧ u.cell? ⟨w.heap.size, 11, none⟩ = some (.int .i64 lo) ∧ u.cell? ⟨w.heap.size, 12, none⟩ = some (.int .i64 many) ∧ Below W0.heap.size W0 u) → Below u.heap.size u v → v.cell? ⟨w.heap.size, 10, none⟩ = some (.int .i64 to) ∧ v.cell? ⟨w.heap.size, 11, none⟩ = some (.int .i64 lo) ∧ v.cell? ⟨w.heap.size, 12, none⟩ = some (.int .i64 many) ∧ Below W0.heap.size W0 v := fun u v h hb => KS _ (bthen (KB _ h) hb)
  have KD : ∀ (u v : World), (u.cell? ⟨w.heap.size, 10, none⟩ = some (.int .i64 to) ∧ u.cell? ⟨w.heap.size, 11, none⟩ = some (.int .i64 lo) ∧ u.cell? ⟨w.heap.size, 12, none⟩ = some (.int .i64 many) ∧ Below W0.heap.size W0 u) → Below u.heap.size u v → w.heap.size ≤ u.heap.size := fun u v h _ => (bthen hb0 (KB _ h)).size
  have CEL0 : ∀ (u : World) (s1 s2 s3 : Value), (u.alloc (.cells #[s1, s2, s3] 23)).cell? ⟨u.heap.size, 0, none⟩ = some s1 := fun u s1 s2 s3 => cell_at (alloc_at _ _ _ rfl) 0 rfl
  have CEL1 : ∀ (u : World) (s1 s2 s3 : Value), (u.alloc (.cells #[s1, s2, s3] 23)).cell? ⟨u.heap.size, 1, none⟩ = some s2 := fun u s1 s2 s3 => cell_at (alloc_at _ _ _ rfl) 1 rfl
  have CEL2 : ∀ (u : World) (s1 s2 s3 : Value), (u.alloc (.cells #[s1, s2, s3] 23)).cell? ⟨u.heap.size, 2, none⟩ = some s3 := fun u s1 s2 s3 => cell_at (alloc_at _ _ _ rfl) 2 rfl
  go_region_held_law (fun w' => w'.cell? ⟨w.heap.size, 10, none⟩ = some (.int .i64 to) ∧ w'.cell? ⟨w.heap.size, 11, none⟩ = some (.int .i64 lo) ∧ w'.cell? ⟨w.heap.size, 12, none⟩ = some (.int .i64 many) ∧ Below W0.heap.size W0 w')
    (first | exact KS _ (Below.refl _ _).drew | exact KC _ _ (by assumption) hz | exact KC _ _ (by assumption) hc | exact KC _ _ (by assumption) hb | exact KC _ _ (by assumption) ha | exact KA _ _ (by assumption) | exact KA W0.drew _ (by assumption) | assumption)
    (first
      | (go_at_call 59; ((with_reducible refine (put_any to 1 _ (hw0.below (KB _ (by assumption)))).mono ?_); rintro e wa ⟨Aa, da, rfl, sa, ha⟩))
      | (go_at_call 59; ((with_reducible refine (put_any lo 8 _ (hw0.below (KB _ (by assumption)))).mono ?_); rintro e wb ⟨Ab, db, rfl, sb, hb⟩))
      | (go_at_call 59; ((with_reducible refine (put_any many 1 _ (hw0.below (KB _ (by assumption)))).mono ?_); rintro e wc ⟨Ac, dc, rfl, sc, hc⟩))
      | (go_at_call 58; ((with_reducible refine (concat3 _ Aa (Num.put to 1).length da (Num.put to 1) Ab (Num.put lo 8).length db (Num.put lo 8) Ac (Num.put many 1).length dc (Num.put many 1) _ (CEL0 _ _ _ _) (CEL1 _ _ _ _) (CEL2 _ _ _ _)
          (by first | exact (Rd.alloc (sa.same) _) | exact (Rd.alloc (Rd.below (sa.same) hb) _) | exact (Rd.alloc (Rd.below (sa.same) hc) _) | exact (Rd.alloc (Rd.below (Rd.below (sa.same) hb) hc) _) | exact (Rd.alloc (Rd.below (Rd.below (sa.same) hc) hb) _)) (by first | exact (Rd.alloc (sb.same) _) | exact (Rd.alloc (Rd.below (sb.same) ha) _) | exact (Rd.alloc (Rd.below (sb.same) hc) _) | exact (Rd.alloc (Rd.below (Rd.below (sb.same) ha) hc) _) | exact (Rd.alloc (Rd.below (Rd.below (sb.same) hc) ha) _)) (by first | exact (Rd.alloc (sc.same) _) | exact (Rd.alloc (Rd.below (sc.same) ha) _) | exact (Rd.alloc (Rd.below (sc.same) hb) _) | exact (Rd.alloc (Rd.below (Rd.below (sc.same) ha) hb) _) | exact (Rd.alloc (Rd.below (Rd.below (sc.same) hb) ha) _)) (by omega) (by omega) (by omega)).mono ?_); rw [HR.out]; rintro e wz ⟨Az, dz, rfl, sz, hz⟩; have hzz := KB _ (KC _ _ (by assumption) hz); have hzs := KD _ _ (by assumption) hz)))
  all_goals
    go_wp2
    go_ret
    exact ⟨_, _, rfl, sz.mono hzs, bthen hb0 hzz⟩

set_option maxHeartbeats 4000000 in
theorem ptail4 (f : Int) (to lo many top : Int) (l : List Int) (ik iq ie ii it ic : Int) (il : List Int) (ib : List UInt8) (LA : Option Addr) (ln lc : Nat) (BA : Option Addr) (bn bc : Nat) (PA : Option Addr) (pn pc : Nat) (w : World) (hw : Wd w) (hp : RdI w PA pn pc l) (hpn : pn ≤ 65536) :
    Calls Tryd.prog 37 #[.agg #[.int .i64 4, .int .i64 f, .int .i64 ik, .int .i64 iq, .int .i64 ie, .int .i64 ii, .int .i64 it, .int .i64 ic, .slice LA ln lc, .slice BA bn bc, .int .i64 to, .int .i64 lo, .int .i64 many, .int .i64 top, .slice PA pn pc]] w (Gives w 5 (Num.put top 8 ++ Num.putRow l 8)) := by
  have hg := alloc_at w (.cells #[.int .i64 4, .int .i64 f, .int .i64 ik, .int .i64 iq, .int .i64 ie, .int .i64 ii, .int .i64 it, .int .i64 ic, .slice LA ln lc, .slice BA bn bc, .int .i64 to, .int .i64 lo, .int .i64 many, .int .i64 top, .slice PA pn pc] 27) _ rfl
  have hb0 : Below w.heap.size w (w.alloc (.cells #[.int .i64 4, .int .i64 f, .int .i64 ik, .int .i64 iq, .int .i64 ie, .int .i64 ii, .int .i64 it, .int .i64 ic, .slice LA ln lc, .slice BA bn bc, .int .i64 to, .int .i64 lo, .int .i64 many, .int .i64 top, .slice PA pn pc] 27)) := (Below.refl _ _).alloc (Nat.le_refl _) _
  have c0 := cell_at hg 0 rfl
  have c13 := cell_at hg 13 rfl
  have c14 := cell_at hg 14 rfl
  clear hg
  have hlen1 := put_len8 top
  have hlen2 : (Num.putRow l 8).length ≤ 8 * pn := by
    have := RdI.size hp
    exact putRow_len l 8 _ (by simp; omega)
  go_enter Tryd.func37, Tryd.ntmps37
  go_wp2
  generalize w.alloc (.cells #[.int .i64 4, .int .i64 f, .int .i64 ik, .int .i64 iq, .int .i64 ie, .int .i64 ii, .int .i64 it, .int .i64 ic, .slice LA ln lc, .slice BA bn bc, .int .i64 to, .int .i64 lo, .int .i64 many, .int .i64 top, .slice PA pn pc] 27) = W0 at hb0 c0 c13 c14 ⊢
  have hll := RdV.below hp hb0
  have hw0 := hw.below hb0
  clear hw c0
  have KS : ∀ w', Below W0.heap.size W0 w' → w'.cell? ⟨w.heap.size, 13, none⟩ = some (.int .i64 top) ∧ w'.cell? ⟨w.heap.size, 14, none⟩ = some (.slice PA pn pc) ∧ Below W0.heap.size W0 w' :=
    fun w' h => ⟨keepC h c13, keepC h c14, h⟩
  go_region_held_law (fun w' => w'.cell? ⟨w.heap.size, 13, none⟩ = some (.int .i64 top) ∧ w'.cell? ⟨w.heap.size, 14, none⟩ = some (.slice PA pn pc) ∧ Below W0.heap.size W0 w')
    (first | exact KS _ (Below.refl _ _).drew | exact KS _ hb3' | exact KS _ hb2' | exact KS _ hb1' | assumption)
    (first
      | (go_at_call 59; ((with_reducible refine (put_any top 8 _ (hw0.below hb1')).mono ?_); rintro e w2 ⟨A2, d2, rfl, ho2, hb2⟩; have hb2' : Below W0.heap.size W0 w2 := bthen hb1' hb2; have hB := hb2; have hr1 := ho1.same.below hb2; have hbL := hb1'.size; have hbM := hb2'.size; have ho2' := ho2.mono hbL))
      | (go_at_call 36; ((with_reducible refine (putRow_any PA pn pc l 8 _ (hw0.below hb1') (RdV.below hll hb1') hpn).mono ?_); rintro e w2 ⟨A2, d2, rfl, ho2, hb2⟩; have hb2' : Below W0.heap.size W0 w2 := bthen hb1' hb2; have ho2' := (ho1.mono (Nat.le_refl _)).later hb2; have hr1 := ho2.same; have hbM := hb2'.size))
      | (go_at_call 59; ((with_reducible refine (put_any top 8 _ hw0.drew).mono ?_); rintro e w1 ⟨A1, d1, rfl, ho1, hb1⟩; have hb1' : Below W0.heap.size W0 w1 := undrew hb1))
      | (go_at_call 36; ((with_reducible refine (putRow_any PA pn pc l 8 _ hw0.drew (RdV.drew hll) hpn).mono ?_); rintro e w1 ⟨A1, d1, rfl, ho1, hb1⟩; have hb1' : Below W0.heap.size W0 w1 := undrew hb1))
      | (refine step_app rfl (.tmp 29) (.tmp 32) 23 rfl W0.heap.size 5 info5 Tryd.underlying23 _ (Num.put top 8).length (Num.put top 8) rfl ho2' _ (Num.putRow l 8).length _ (Num.putRow l 8) rfl hr1 (by omega) hbM ?_
         intro v3 w3 ho3 hb3
         have hb3' : Below W0.heap.size W0 w3 := hb2'.trans hb3))
  all_goals
    go_wp2
    go_ret
    rename_i dst d heq
    obtain rfl : 33 = d := Option.some.inj heq
    exact Own.gives (ho3.mono hb0.size) (bthen hb0 hb3')

theorem ptail_any (v : Value) (p : Pkt.Pk) (w : World) (hw : Wd w) (h : IsPkt w v p) (hm : Pkt.may p = true) : Calls Tryd.prog 37 #[v] w (Gives w 5 (Pkt.tail p)) := by
  obtain ⟨LA, ln, lc, BA, bn, bc, PA, pn, pc, rfl, hl, hb, hp⟩ := h
  cases Pkt.may_kinds hm with
  | item k f it hk h1 h2 h3 =>
    obtain ⟨ik, iq, ie, ii, it, ic, il, ib⟩ := it
    rcases hk with rfl | rfl
    · exact ptail1 f 0 0 0 0 [] ik iq ie ii it ic il ib LA ln lc BA bn bc PA pn pc w hw hl hb
    · exact ptail2 f 0 0 0 0 [] ik iq ie ii it ic il ib LA ln lc BA bn bc PA pn pc w hw hl hb
  | nak f to lo many => exact ptail3 f to lo many 0 [] 0 0 0 0 0 0 [] [] LA ln lc BA bn bc PA pn pc w hw
  | stable f top l h1 h2 h3 h4 h5 =>
    have hn := (Item.listN h5).1
    have hs := RdI.size hp
    dsimp only at hs
    exact ptail4 f 0 0 0 top l 0 0 0 0 0 0 [] [] LA ln lc BA bn bc PA pn pc w hw hp (by omega)
end Go.Proofs.YtahkhideepncfaaDoor
