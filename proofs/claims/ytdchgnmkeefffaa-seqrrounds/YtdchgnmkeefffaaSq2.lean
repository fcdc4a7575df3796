/- What seqr.fresh comes to. -/
import Derived.Test.YtdchgnmkeefffaaSqOwn
import Derived.Test.YtdchgnmkeefffaaSq1
import Derived.Test.YtdchgnmkeefffaaLPX
import Derived.Deep.RegionHeld
set_option maxRecDepth 100000
namespace Go.Proofs.Ytdchgnmkeefffaa
open Go.RowKit
set_option linter.unusedVariables false

/-- So many lanes are copied, the others as they were. -/
def HalfL (w : World) (lo j : Nat) (us rs : List (Array Value)) (xs : List Lane.Ln) : Prop := (∀ i, j ≤ i → us[i]? = rs[i]?) ∧ us.length = xs.length ∧ ∀ (i : Nat) (r : Array Value) (x : Lane.Ln), i < j → us[i]? = some r → xs[i]? = some x → IsLane (Hi lo) w (.agg r) x
theorem HalfL.all {w : World} {lo n : Nat} {us rs : List (Array Value)} {xs : List Lane.Ln} (h : HalfL w lo n us rs xs) (hn : us.length = n) : AreL (Hi lo) w us xs := ⟨h.2.1, fun i r x h1 h2 => h.2.2 i r x (by
  rcases Nat.lt_or_ge i us.length with h | h
  · omega
  · rw [List.getElem?_eq_none h] at h1; cases h1) h1 h2⟩
theorem HalfL.next {w w' : World} {lo j : Nat} {us rs : List (Array Value)} {xs : List Lane.Ln} {r : Array Value} {x : Lane.Ln} (h : HalfL w lo j us rs xs) (hk : ∀ v y, IsLane (Hi lo) w v y → IsLane (Hi lo) w' v y) (hx : xs[j]? = some x) (hr : IsLane (Hi lo) w' (.agg r) x) : HalfL w' lo (j + 1) (us.set j r) rs xs := by
  obtain ⟨h1, h2, h3⟩ := h
  refine ⟨fun i hi => ?_, by rw [List.length_set]; exact h2, fun i q y hi hq hy => ?_⟩
  · rw [List.getElem?_set_ne (by omega)]
    exact h1 i (by omega)
  · by_cases hij : j = i
    · subst hij
      have hlt : j < us.length := by
        rcases Nat.lt_or_ge j us.length with h | h
        · exact h
        · rw [List.getElem?_eq_none (by rw [List.length_set]; exact h)] at hq; cases hq
      rw [List.getElem?_set_self hlt] at hq
      injection hq with hq
      subst hq
      rw [hx] at hy
      injection hy with hy
      subst hy
      exact hr
    · rw [List.getElem?_set_ne hij] at hq
      exact hk _ _ (h3 i q y (by omega) hq hy)
/-- Lanes that are the call's own. -/
def FreshLs (w : World) (ls : List Lane.Ln) (e : Ending) (w' : World) : Prop :=
  ∃ A n c us lo, e = .returned (.slice A n c) ∧ OwnK 5 w' w.heap.size 51 (.slice A n c) n us ∧ AreL (Hi lo) w' us ls ∧ (∀ b o, A = some ⟨b, o, none⟩ → b < lo) ∧ w.heap.size ≤ lo ∧ lo ≤ w'.heap.size ∧ Below w.heap.size w w'

set_option maxHeartbeats 8000000 in
theorem sqFresh_any {S : Nat → Prop} (A : Option Addr) (n c : Nat) (ls : List Lane.Ln) (w : World) (h : RdL S w A n c ls) (hS : SmallLs ls) (hn : n ≤ 64) : Calls Try.prog 25 #[.slice A n c] w (FreshLs w ls) := by
  have HLEN := hidT h.size
  obtain ⟨rs, hK, hI, _⟩ := h
  have HC := hidT (cloneL_any A n c rs w hK (by omega))
  have HI := hidT hI
  have HSM := hidT hS
  clear hK hI hS
  go_enter Try.func25, Try.ntmps25
  go_wp2_with fail
  with_reducible refine HC.out.mono ?_
  rintro e w1 ⟨G1, c1, rfl, ho1, hb1⟩
  have HBL : Hid (∀ b o, G1 = some ⟨b, o, none⟩ → b < w1.heap.size) := hidT fun b o hA => (ho1.addr b o hA).2
  have HW1 : Hid (w.heap.size ≤ w1.heap.size) := hidT hb1.size
  have HO1 := hidT ho1
  have HB1 := hidT hb1
  clear ho1 hb1 HC
  go_wp2_with fail
  go_loopw [10] (fun i wr => ∃ (j : Nat) (us : List (Array Value)), j ≤ n ∧ i = .int .i64 j ∧ Hid (OwnK 5 wr w.heap.size 51 (.slice G1 n c1) n us) ∧ Hid (HalfL wr w1.heap.size j us rs ls) ∧ Hid (w1.heap.size ≤ wr.heap.size) ∧ Hid (Below w.heap.size w wr)) (fun i _ => n - (intOf i).toNat)
  case atStart => exact ⟨0, rs, Nat.zero_le _, rfl, HO1, hidT ⟨fun _ _ => rfl, HI.out.1, fun i r x hi => absurd hi (by omega)⟩, hidT (Nat.le_refl _), HB1⟩
  case round =>
    obtain ⟨j, us, hj, rfl, HO, HH, HL, HB⟩ := hrel
    obtain ⟨wo, rfl⟩ : ∃ wo, wo = wr := ⟨_, rfl⟩
    by_cases hjn : j < n
    · obtain ⟨g, rfl, hgB, hgBl⟩ := HO.out.form (by omega)
      have hg1 := HBL.out g 0 rfl
      have hjl : j < ls.length := by have := HLEN.out; omega
      obtain ⟨l, hx⟩ : ∃ l, ls[j]? = some l := ⟨_, List.getElem?_eq_getElem hjl⟩
      obtain ⟨r, hr⟩ : ∃ r, rs[j]? = some r := ⟨_, List.getElem?_eq_getElem (show j < rs.length by rw [HI.out.1]; exact hjl)⟩
      have hu : us[j]? = some r := (HH.out.1 j (Nat.le_refl _)).trans hr
      have hi := HI.out.2 j r l hr hx
      have hsm := HSM.out l (List.mem_of_getElem? hx)
      obtain ⟨EA, en, ec, B, m, d, e, hE, hBb, _⟩ := id hi
      injection e with e
      subst e
      have hen : en ≤ 65536 := by rw [← hE.size]; exact hsm.1
      have HELEN := hidT hE.size
      obtain ⟨ers, heK, heI, _⟩ := hE
      have hc : ∀ (i : Nat) (u : Value), (#[.slice EA en ec, .int .i64 l.p.seq, .int .i64 l.p.total, .int .i64 l.p.got, .slice B m d] : Array Value)[i]? = some u → wo.cell? ⟨g, 0 + j * 5 + i, none⟩ = some u := fun i u hh => HO.out.same.cell hu hh
      have c0 := hc 0 _ rfl
      simp only [Nat.zero_add, Nat.add_zero] at c0
      have x1 : (0 : Int) ≤ (j : Int) := by omega
      have x2 : (j : Int) < (n : Int) := by omega
      have HX := hidT hx
      have HU := hidT hu
      have HEI := hidT heI
      have HEL := hidT heI.1
      have HELN := hidT heK.size
      have HSL := hidT hsm
      have HBB := hidT hBb
      have HMM : Hid (m ≤ 65536) := hidT (by have := hBb.1; have := hsm.2.2; omega)
      have HCE := hidT (cloneE_any EA en ec ers wo (heK.below HB.out) hen)
      have HG1 := hidT hg1
      have HGW := hidT hgB
      have HGL := hidT hgBl
      have hle := heK.cap
      have hle2 := heK.cmax
      clear hc hx hu hr hi hsm hBb hjl heI heK hg1 hgB hgBl
      go_wp2_with fail
      with_reducible refine HCE.out.mono ?_
      rintro e w5 ⟨GE, ed, rfl, ho5, hb5⟩
      have c0w := cellC hb5 c0
      have f0w := (HO.out.later hb5).frozen (j * 5)
      have y6 : OwnK 5 (w5.setCell ⟨g, j * 5, none⟩ (.slice GE en ed)) w.heap.size 51 (.slice (some ⟨g, 0, none⟩) n c1) n (us.set j #[.slice GE en ed, .int .i64 l.p.seq, .int .i64 l.p.total, .int .i64 l.p.got, .slice B m d]) := (HO.out.later hb5).cellAt HU.out (show 0 < 5 by omega) (.slice GE en ed) rfl
      have hbut6 : But g w5 (w5.setCell ⟨g, j * 5, none⟩ (.slice GE en ed)) := But.setCell w5 g _ _
      have hg5 := HGL.out
      have hs5 : wo.heap.size ≤ w5.heap.size := hb5.size
      have HE6 := hidT (ho5.but hg5 hbut6)
      have HB6 := hidT ((bthen HB.out hb5).setCell (p := ⟨g, j * 5, none⟩) HGW.out (.slice GE en ed))
      have HK6 : Hid (∀ v y, IsLane (Hi w1.heap.size) wo v y → IsLane (fun b => Hi w1.heap.size b ∧ b < wo.heap.size) (w5.setCell ⟨g, j * 5, none⟩ (.slice GE en ed)) v y) := hidT fun v y hv => (hv.ltS'.below hb5).keptS (KeptS.but hbut6 fun b hb e => by subst e; exact absurd hb.1 (Nat.not_le.2 HG1.out))
      have HO6 := hidT y6
      have HS6 : Hid (w5.heap.size = (w5.setCell ⟨g, j * 5, none⟩ (.slice GE en ed)).heap.size) := hidT hbut6.1.symm
      have HS5 := hidT hs5
      have HES : Hid (∀ b o, GE = some ⟨b, o, none⟩ → wo.heap.size ≤ b ∧ b < w5.heap.size) := hidT ho5.addr
      have c06 : (w5.setCell ⟨g, j * 5, none⟩ (.slice GE en ed)).cell? ⟨g, j * 5, none⟩ = some (.slice GE en ed) := by
        have hjl : j < us.length := (List.getElem?_eq_some_iff.1 HU.out).1
        have hc6 : ∀ (i : Nat) (u : Value), (#[.slice GE en ed, .int .i64 l.p.seq, .int .i64 l.p.total, .int .i64 l.p.got, .slice B m d] : Array Value)[i]? = some u → (w5.setCell ⟨g, j * 5, none⟩ (.slice GE en ed)).cell? ⟨g, 0 + j * 5 + i, none⟩ = some u := fun i u hh => y6.same.cell (by rw [List.getElem?_set_self hjl]) hh
        have h0 := hc6 0 _ rfl
        simp only [Nat.zero_add, Nat.add_zero] at h0
        exact h0
      have HXS : Hid (w5.heap.size ≤ (w5.setCell ⟨g, j * 5, none⟩ (.slice GE en ed)).heap.size) := hidT (by rw [HS6.out]; exact Nat.le_refl _)
      have HE0 : Hid (HalfE (w5.setCell ⟨g, j * 5, none⟩ (.slice GE en ed)) w5.heap.size 0 ers ers l.es) := hidT ⟨fun _ _ => rfl, HEL.out, fun i r x hi => absurd hi (by omega)⟩
      clear y6 hbut6 hg5 hb5 ho5 hs5 HCE HO
      go_wp2_with fail
      clear c0 c0w c06 f0w
      generalize w5.setCell ⟨g, j * 5, none⟩ (.slice GE en ed) = X6 at *
      go_loopw [29] (fun i wq => ∃ (k : Nat) (us2 : List (Array Value)), k ≤ en ∧ i = .int .i64 k ∧ Hid (OwnK 5 wq wo.heap.size 59 (.slice GE en ed) en us2) ∧ Hid (HalfE wq w5.heap.size k us2 ers l.es) ∧ Hid (w5.heap.size ≤ wq.heap.size) ∧ Hid (Below wo.heap.size X6 wq)) (fun i _ => en - (intOf i).toNat)
      case atStart => exact ⟨0, ers, Nat.zero_le _, rfl, HE6, HE0, HXS, hidT (Below.refl _ _)⟩
      case round =>
        obtain ⟨k, us2, hk, rfl, XO, XH, XL, XB⟩ := hrel
        have hrow := HO6.out.low XB.out HGL.out
        have hjl : j < us.length := (List.getElem?_eq_some_iff.1 HU.out).1
        have hcr : ∀ (i : Nat) (u : Value), (#[.slice GE en ed, .int .i64 l.p.seq, .int .i64 l.p.total, .int .i64 l.p.got, .slice B m d] : Array Value)[i]? = some u → wr.cell? ⟨g, 0 + j * 5 + i, none⟩ = some u := fun i u hh => hrow.same.cell (by rw [List.getElem?_set_self hjl]) hh
        have r0 := hcr 0 _ rfl
        have r4 := hcr 4 _ rfl
        simp only [Nat.zero_add, Nat.add_zero] at r0 r4
        have fr4 := hrow.frozen (j * 5 + 4)
        have HROW := hidT hrow
        have HBW : Hid (Below w.heap.size w wr) := hidT (HB6.out.trans (XB.out.mono HB.out.size))
        clear hrow hcr hjl
        by_cases hkn : k < en
        · obtain ⟨gE, rfl, hgE, hgEl⟩ := XO.out.form (by omega)
          have hgE5 := (HES.out gE 0 rfl).2
          have hkl : k < l.es.length := by have := HELEN.out; omega
          obtain ⟨x, hx⟩ : ∃ x, l.es[k]? = some x := ⟨_, List.getElem?_eq_getElem hkl⟩
          obtain ⟨q, hq⟩ : ∃ q, ers[k]? = some q := ⟨_, List.getElem?_eq_getElem (show k < ers.length by rw [HEL.out]; exact hkl)⟩
          have hu2 : us2[k]? = some q := (XH.out.1 k (Nat.le_refl _)).trans hq
          have hie := HEI.out.2 k q x hq hx
          have hsx := HSL.out.2.1 x (List.mem_of_getElem? hx)
          obtain ⟨BA, bn, bc, LA, ln, lc, e, hb, hl, _, _⟩ := id hie
          injection e with e
          subst e
          have hbn := hb.1
          have hln := RdI.size hl
          have H5 : Hid (∀ w', Below w.heap.size w w' → Calls Try.prog 44 #[.slice BA bn bc] w' (Gives w' 5 x.b)) :=
            hidT fun w' hb' => clone_any BA bn bc x.b w' (hb.below hb') (by have := hsx.2; omega)
          have H6 : Hid (∀ w', Below w.heap.size w w' → Calls Try.prog 45 #[.slice LA ln lc] w' (fun e w2 => ∃ B d, e = .returned (.slice B ln d) ∧ OwnV w2 w'.heap.size 3 (.slice B ln d) ln (is x.l) ∧ Below w'.heap.size w' w2)) :=
            hidT fun w' hb' => cloneI_any LA ln lc x.l w' (RdV.below hl hb') (by have := hsx.1; omega)
          have hce : ∀ (i : Nat) (u : Value), (#[.int .i64 x.k, .int .i64 x.q, .slice BA bn bc, .slice LA ln lc, .bool x.h] : Array Value)[i]? = some u → wr.cell? ⟨gE, 0 + k * 5 + i, none⟩ = some u := fun i u hh => XO.out.same.cell hu2 hh
          have c0 := hce 0 _ rfl
          have c1' := hce 1 _ rfl
          have c2 := hce 2 _ rfl
          have c3 := hce 3 _ rfl
          have c4 := hce 4 _ rfl
          simp only [Nat.zero_add, Nat.add_zero] at c0 c1' c2 c3 c4
          have y1 : (0 : Int) ≤ (k : Int) := by omega
          have y2 : (k : Int) < (en : Int) := by omega
          have HXX := hidT hx
          have HU2 := hidT hu2
          have HGE := hidT hgE
          have HGE5 := hidT hgE5
          clear hce hx hu2 hq hie hsx hl hb hkl hbn hln hgE hgEl hgE5
          go_wp2_with fail
          have n4 := nkeep wr (.cells #[.int .i64 x.k, .int .i64 x.q, .slice BA bn bc, .slice LA ln lc, .bool x.h] 59)
          have y4 := alloc_at wr (.cells #[.int .i64 x.k, .int .i64 x.q, .slice BA bn bc, .slice LA ln lc, .bool x.h] 59) _ rfl
          obtain ⟨p, hp⟩ : ∃ p, wr.heap.size = p := ⟨_, rfl⟩
          rw [hp] at y4
          obtain ⟨e0, e1, e2, e3, e4⟩ := cells5 y4
          have r0n := cellC n4 r0
          have c2n := cellC n4 c2
          have c3n := cellC n4 c3
          have N4 := hidT n4
          have Y4 := hidT y4
          have R0 := hidT r0n
          have C2 := hidT c2n
          have C3 := hidT c3n
          have HPP := hidT hp
          have XO4 := hidT (XO.out.later n4)
          have HSP : Hid (wr.heap.size ≤ (wr.alloc (.cells #[.int .i64 x.k, .int .i64 x.q, .slice BA bn bc, .slice LA ln lc, .bool x.h] 59)).heap.size) := hidT n4.size
          clear r0 r4 fr4 c0 c1' c2 c3 c4 y4 n4
          rw [hp]
          clear hp
          generalize wr.alloc (.cells #[.int .i64 x.k, .int .i64 x.q, .slice BA bn bc, .slice LA ln lc, .bool x.h] 59) = w4 at *
          have hne1 : g ≠ gE := by have := HGL.out; have := HGE.out; omega
          have hne2 : p ≠ gE := by
            have h1 := HGE5.out
            have h2 := XL.out
            have h3 := HPP.out
            omega
          have K0 := fun w' (hb : KeptBut gE w4 w') => hb.cell (p := ⟨g, j * 5, none⟩) hne1 R0.out
          have K2 := fun w' (hb : KeptBut gE w4 w') => hb.cell (p := ⟨p, 2, none⟩) hne2 e2
          have K3 := fun w' (hb : KeptBut gE w4 w') => hb.cell (p := ⟨p, 3, none⟩) hne2 e3
          have D0 : KeptBut gE w4 w4 := KeptBut.refl _ _
          clear e0 e1 e2 e3 e4 r0n c2n c3n hne1 hne2
          go_region_held (fun w' => KeptBut gE w4 w')
            (first | exact D0.drew | exact D0 | exact KeptBut.of hb7 | exact KeptBut.of hb8 | exact (KeptBut.of hb8).set _ _ | exact ((KeptBut.of hb8).set _ _).set _ _ | assumption)
            (first
              | (go_at_call 44; ((with_reducible refine (H5.out _ (bthen HBW.out N4.out).drew).mono ?_); rintro e7 w7 ⟨A7, c7, rfl, ho7, hb7'⟩; have hb7 : Below w4.heap.size w4 w7 := undrew hb7'))
              | (go_at_call 45; ((with_reducible refine (H6.out _ (bthen (bthen HBW.out N4.out) hb7)).mono ?_); rintro e8 w8 ⟨A8, c8, rfl, ho8, hb8'⟩; have hb8 : Below w4.heap.size w4 w8 := bthen hb7 hb8'; have d2 := cellC hb8 C2.out; have d3 := cellC hb8 C3.out; have g2 := (XO4.out.later hb8).frozen (k * 5 + 2); have g3 := (XO4.out.later hb8).frozen (k * 5 + 3); have d3' : (w8.setCell ⟨gE, k * 5 + 2, none⟩ (.slice A7 x.b.length c7)).cell? ⟨gE, k * 5 + 3, none⟩ = some (.slice LA ln lc) := cellS3 d3; have g3' : (w8.setCell ⟨gE, k * 5 + 2, none⟩ (.slice A7 x.b.length c7)).frozen? ⟨gE, k * 5 + 3, none⟩ = false := ((XO4.out.later hb8).cellAt HU2.out (show 2 < 5 by omega) (.slice A7 x.b.length c7) rfl).frozen _))
              | fail)
          all_goals
            have z1 : OwnK 5 (w8.setCell ⟨gE, k * 5 + 2, none⟩ (.slice A7 x.b.length c7)) wo.heap.size 59 (.slice (some ⟨gE, 0, none⟩) en ed) en (us2.set k #[.int .i64 x.k, .int .i64 x.q, .slice A7 x.b.length c7, .slice LA ln lc, .bool x.h]) := (XO4.out.later hb8).cellAt HU2.out (show 2 < 5 by omega) (.slice A7 x.b.length c7) rfl
            have hkl2 : k < us2.length := (List.getElem?_eq_some_iff.1 HU2.out).1
            have z2 : OwnK 5 ((w8.setCell ⟨gE, k * 5 + 2, none⟩ (.slice A7 x.b.length c7)).setCell ⟨gE, k * 5 + 3, none⟩ (.slice A8 ln c8)) wo.heap.size 59 (.slice (some ⟨gE, 0, none⟩) en ed) en ((us2.set k #[.int .i64 x.k, .int .i64 x.q, .slice A7 x.b.length c7, .slice LA ln lc, .bool x.h]).set k #[.int .i64 x.k, .int .i64 x.q, .slice A7 x.b.length c7, .slice A8 ln c8, .bool x.h]) := z1.cellAt (List.getElem?_set_self hkl2) (show 3 < 5 by omega) (.slice A8 ln c8) rfl
            rw [List.set_set] at z2
            have zb : But gE w8 ((w8.setCell ⟨gE, k * 5 + 2, none⟩ (.slice A7 x.b.length c7)).setCell ⟨gE, k * 5 + 3, none⟩ (.slice A8 ln c8)) := (But.setCell w8 gE _ _).trans (But.setCell _ gE _ _)
            have hsp := HSP.out
            have hxl := XL.out
            have hs7 := hb7.size
            have hE5 := HGE5.out
            have q7 : ∀ b o, A7 = some ⟨b, o, none⟩ → w5.heap.size ≤ b := addrB ho7 (by show w5.heap.size ≤ w4.heap.size; omega)
            have q8 : ∀ b o, A8 = some ⟨b, o, none⟩ → w5.heap.size ≤ b := addrV ho8 (by omega)
            have k7 := ((ho7.same).below hb8').but (fun b o e => by have := q7 b o e; omega) zb
            have k8 := RdV.but (OwnV.same ho8) (fun b o e => by have := q8 b o e; omega) zb
            have hF : IsEn (Hi w5.heap.size) ((w8.setCell ⟨gE, k * 5 + 2, none⟩ (.slice A7 x.b.length c7)).setCell ⟨gE, k * 5 + 3, none⟩ (.slice A8 ln c8)) (.agg #[.int .i64 x.k, .int .i64 x.q, .slice A7 x.b.length c7, .slice A8 ln c8, .bool x.h]) x := ⟨A7, x.b.length, c7, A8, ln, c8, rfl, k7, k8, Within.of q7, Within.of q8⟩
            have YO := hidT z2
            have YH := hidT (XH.out.next (fun v y hv => (hv.below (bthen N4.out hb8)).keptS (KeptS.hi zb hE5)) HXX.out hF)
            have hs8 := hb8.size
            have YL := hidT (show w5.heap.size ≤ ((w8.setCell ⟨gE, k * 5 + 2, none⟩ (.slice A7 x.b.length c7)).setCell ⟨gE, k * 5 + 3, none⟩ (.slice A8 ln c8)).heap.size by rw [zb.1]; omega)
            have hgo := HGE.out
            have hs5 := HS5.out
            have YB : Hid (Below wo.heap.size X6 ((w8.setCell ⟨gE, k * 5 + 2, none⟩ (.slice A7 x.b.length c7)).setCell ⟨gE, k * 5 + 3, none⟩ (.slice A8 ln c8))) := hidT (((XB.out.trans ((bthen N4.out hb8).mono (by omega))).setCell (p := ⟨gE, k * 5 + 2, none⟩) hgo _).setCell (p := ⟨gE, k * 5 + 3, none⟩) hgo _)
            clear z1 z2 zb hkl2 hsp hxl hs7 hE5 q7 q8 k7 k8 hF hs8 hgo hs5 hb7 hb8 hb7' hb8' ho7 ho8 d2 d3 g2 g3 d3' g3' K0 K2 K3 D0
            go_wp2
            exact ⟨⟨k + 1, us2.set k #[.int .i64 x.k, .int .i64 x.q, .slice A7 x.b.length c7, .slice A8 ln c8, .bool x.h], by omega, by go_num, YO, YH, YL, YB⟩, by simp [intOf]; omega⟩
        · obtain rfl : en = k := by omega
          have hcl := clone_any B m d l.p.b wr (HBB.out.below HBW.out) HMM.out
          have r4b : wr.cell? ⟨g, j * 5 + 1 + 3, none⟩ = some (.slice B m d) := r4
          go_wp2_with fail
          with_reducible refine hcl.mono ?_
          rintro e w7 ⟨B7, d7, rfl, ho7, hb7⟩
          have r47 := cellC hb7 r4
          have r47b := cellC hb7 r4b
          have f47 := (HROW.out.later hb7).frozen (j * 5 + 4)
          have f47b : w7.frozen? ⟨g, j * 5 + 1 + 3, none⟩ = false := f47
          have hbm := HBB.out.1
          obtain ⟨M, hM⟩ : ∃ M, l.p.b.length = M := ⟨_, rfl⟩
          rw [hM] at ho7 hbm ⊢
          have hjl : j < us.length := (List.getElem?_eq_some_iff.1 HU.out).1
          have y8 : OwnK 5 (w7.setCell ⟨g, j * 5 + 4, none⟩ (.slice B7 M d7)) w.heap.size 51 (.slice (some ⟨g, 0, none⟩) n c1) n ((us.set j #[.slice GE en ed, .int .i64 l.p.seq, .int .i64 l.p.total, .int .i64 l.p.got, .slice B m d]).set j #[.slice GE en ed, .int .i64 l.p.seq, .int .i64 l.p.total, .int .i64 l.p.got, .slice B7 M d7]) := (HROW.out.later hb7).cellAt (List.getElem?_set_self hjl) (show 4 < 5 by omega) (.slice B7 M d7) rfl
          rw [List.set_set] at y8
          have zb : But g w7 (w7.setCell ⟨g, j * 5 + 4, none⟩ (.slice B7 M d7)) := But.setCell w7 g _ _
          have hg1 := HG1.out
          have hgl := HGL.out
          have hs5 := HS5.out
          have hl1 := HL.out
          have hxl := XL.out
          have q7 : ∀ b o, B7 = some ⟨b, o, none⟩ → w1.heap.size ≤ b := addrB ho7 (by omega)
          have hEr := (XO.out.later hb7).but hgl zb
          have hEa : AreE (Hi w5.heap.size) (w7.setCell ⟨g, j * 5 + 4, none⟩ (.slice B7 M d7)) us2 l.es := ((XH.out.all XO.out.2.1).below hb7).keptS (KeptS.hi zb (by omega))
          have hln : IsLane (Hi w1.heap.size) (w7.setCell ⟨g, j * 5 + 4, none⟩ (.slice B7 M d7)) (.agg #[.slice GE en ed, .int .i64 l.p.seq, .int .i64 l.p.total, .int .i64 l.p.got, .slice B7 M d7]) l :=
            ⟨GE, en, ed, B7, M, d7, rfl, ⟨us2, hEr.same, hEa.hi (by omega), Within.of fun b o e => by have := (HES.out b o e).1; omega⟩, ho7.same.but (fun b o e => by have := q7 b o e; omega) zb, Within.of q7⟩
          have YO := hidT y8
          have YH := hidT (HH.out.next (fun v y hv => ((((HK6.out v y hv).keptS (KeptS.low XB.out fun b hb => hb.2)).below hb7).keptS (KeptS.but zb fun b hb e => by subst e; exact absurd hb.1 (Nat.not_le.2 hg1))).mono fun b hb => hb.1) HX.out hln)
          have YL := hidT (show w1.heap.size ≤ (w7.setCell ⟨g, j * 5 + 4, none⟩ (.slice B7 M d7)).heap.size by rw [zb.1]; have := hb7.size; omega)
          have YB := hidT ((bthen HBW.out hb7).setCell (p := ⟨g, j * 5 + 4, none⟩) HGW.out (.slice B7 M d7))
          clear y8 zb hg1 hgl hs5 hl1 hxl q7 hEr hEa hln hcl hbm hjl hb7 ho7 hM
          go_wp2
          exact ⟨⟨j + 1, us.set j #[.slice GE en ed, .int .i64 l.p.seq, .int .i64 l.p.total, .int .i64 l.p.got, .slice B7 M d7], by omega, by go_num, YO, YH, YL, YB⟩, by simp [intOf]; omega⟩
    · obtain rfl : n = j := by omega
      go_wp2
      go_ret
      exact ⟨G1, n, c1, us, w1.heap.size, rfl, HO.out, HH.out.all HO.out.2.1, HBL.out, HW1.out, HL.out, HB.out⟩
end Go.Proofs.Ytdchgnmkeefffaa
