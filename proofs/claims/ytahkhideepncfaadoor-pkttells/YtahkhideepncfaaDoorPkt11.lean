/- What pkt.Read comes to, where the head is read. (Written by wip/gen/pkt10.py.) -/
import Derived.Test.YtahkhideepncfaaDoorPkt10
set_option maxRecDepth 100000
namespace Go.Proofs.YtahkhideepncfaaDoor
open Go.RowKit
set_option linter.unusedVariables false

set_option maxHeartbeats 16000000 in
theorem pread_r (A : Option Addr) (n c : Nat) (l : List UInt8) (w : World) (hw : Wd w) (h : Rd w A n c l) (hn : n ≤ 65536) (hc : openCode l = 0) (m k f : Int) (r : List UInt8) (ht0 : Num.takes 1 3 (opened l) = some ([m, k, f], r)) (o : Option Pkt.Pk) (code : Int) (HO : Hid ((match Pkt.tailC k f r with | some q => Pkt.lastC m q | none => none) = o)) (HC : Hid (code = if o.isSome = true then 0 else 2)) :
    Calls Tryd.prog 9 #[.slice A n c] w (PRead w (o.getD Pkt.Pk.zero) code) := by
  obtain ⟨g0, g1, hb0⟩ := two_alloc w (.cells #[.int .i64 0, .int .i64 0, .int .i64 0, .int .i64 0, .int .i64 0, .int .i64 0, .int .i64 0, .int .i64 0, .slice none 0 0, .slice none 0 0, .int .i64 0, .int .i64 0, .int .i64 0, .int .i64 0, .slice none 0 0] 27) (.cells #[.int .i64 0, .int .i64 0, .int .i64 0, .int .i64 0, .int .i64 0, .int .i64 0, .int .i64 0, .int .i64 0, .slice none 0 0, .slice none 0 0, .int .i64 0, .int .i64 0, .int .i64 0, .int .i64 0, .slice none 0 0] 27)
  have hs0 : ((w.alloc (.cells #[.int .i64 0, .int .i64 0, .int .i64 0, .int .i64 0, .int .i64 0, .int .i64 0, .int .i64 0, .int .i64 0, .slice none 0 0, .slice none 0 0, .int .i64 0, .int .i64 0, .int .i64 0, .int .i64 0, .slice none 0 0] 27)).alloc (.cells #[.int .i64 0, .int .i64 0, .int .i64 0, .int .i64 0, .int .i64 0, .int .i64 0, .int .i64 0, .int .i64 0, .slice none 0 0, .slice none 0 0, .int .i64 0, .int .i64 0, .int .i64 0, .int .i64 0, .slice none 0 0] 27)).heap.size = w.heap.size + 2 := by rw [size_alloc, size_alloc]
  have sz' : w.heap.size + 1 ≠ w.heap.size := by omega
  have sz : w.heap.size ≠ w.heap.size + 1 := by omega
  have sle : w.heap.size ≤ w.heap.size + 1 := by omega
  have ho := open_any A n c l _ (h.below hb0) hn
  have hrn := h.1
  have hol : (opened l).length ≤ 65536 := by
    unfold opened
    split
    · simp
    · split
      · rw [List.length_take]; omega
      · simp
  rw [hc] at ho
  clear hc
  generalize opened l = cb at ho ht0 hol ⊢
  have htr := fun (B : Option Addr) (d : Nat) (w' : World) (hw' : Wd w') (hb' : Rd w' B cb.length d cb) => takeRow_any B cb.length d cb 3 1 w' hw' hb' hol
  have hrl : r.length ≤ 65536 := by
    have := Num.takes_rest ht0
    omega
  have hrow : Num.rowOf cb 3 1 = ([m, k, f], r, 0) := Num.rowOf_some (l := cb) (m := 3) (k := 1) (by decide) ht0
  rw [hrow] at htr
  clear ht0 hrow
  go_enter Tryd.func9, Tryd.ntmps9
  go_wp2
  refine wp_scope_jumps 0 (fun a' w' => At55 w.heap.size 2 a' ∧ w'.heap[w.heap.size]? = some (.cells zpkt 27 (0, 0)) ∧ Below w.heap.size w w' ∧ o = none ∧ code = 2) (fun _ _ => 0) rfl ?_ ?_
  ·
    go_wp2_with fail
    with_reducible refine ho.mono ?_
    rintro e w1 ⟨A1, d1, rfl, r1, b1⟩
    rw [hs0] at b1
    have hb1 : Below w.heap.size w w1 := hb0.trans (b1.mono (by omega))
    have z1 := b1.size
    have k0 := (b1.block _ (by omega)).trans g0
    have k1 := (b1.block _ (by omega)).trans g1
    clear ho g0 g1 hb0 b1
    have t2 := htr A1 d1 w1 (hw.below hb1) r1
    go_wp2_with fail
    with_reducible refine t2.mono ?_
    rintro en w2 ⟨A2, c2, B2, d2, rfl, i2, o2, b2⟩
    have hb2 := bthen hb1 b2
    have z2 := b2.size
    have k0' := (b2.block _ (by omega)).trans k0
    have k1' := (b2.block _ (by omega)).trans k1
    have i2' : OwnV w2 w1.heap.size 3 (.slice A2 3 c2) 3 (is [m, k, f]) := i2
    obtain ⟨g2, cap2, hv2, hgb2, hgl2, hn2, hm2⟩ := OwnV.form i2' (by omega)
    injection hv2 with hA2 _ hc2
    subst hA2
    subst hc2
    have rI : RdI w2 (some ⟨g2, 0, none⟩) 3 c2 [m, k, f] := OwnV.same i2'
    have x0 := rI.cells_later (k := 0) rfl w2 (Below.refl _ _)
    have x1 := rI.cells_later (k := 1) rfl w2 (Below.refl _ _)
    have x2 := rI.cells_later (k := 2) rfl w2 (Below.refl _ _)
    rw [Nat.zero_add] at x0 x1 x2
    have gne : g2 ≠ w.heap.size + 1 := by omega
    have tt := ptake_any k f B2 r.length d2 r _ (hw.below hb2).drew o2.same.drew hrl
    clear t2 htr b2 k0 k1 hb1 i2 i2' o2 r1 rI
    go_wp2
    go_region_held_law (fun w' => w'.cell? ⟨g2, 1, none⟩ = some (.int .i64 k) ∧ w'.cell? ⟨g2, 2, none⟩ = some (.int .i64 f))
      (first | exact ⟨x1, x2⟩ | exact ⟨keepC b4 x1, keepC b4 x2⟩ | exact ⟨hbut5.out.cell gne (keepC b4 x1), hbut5.out.cell gne (keepC b4 x2)⟩ | assumption)
      (first
        | (go_at_call 21; ((with_reducible refine tt.mono ?_); rintro en w4 ⟨p, r', kk, LA, ln, lc, BA, bn, bc, PA, pn, pc, A4, c4, hen, rl, rb, rp, al, ab, ap, b4', hq⟩; have b4 := undrew b4'; have hb4 := bthen hb2 b4; have k0w := (b4.block _ (by omega)).trans k0'; have k1w := (b4.block _ (by omega)).trans k1'; have x0w := keepC b4 x0; obtain ⟨w5, cs5, hv, hvs, hst, hg5, hbut5, hbel5⟩ := st15 k1w #[.int .i64 p.k, .int .i64 p.f, .int .i64 p.it.k, .int .i64 p.it.q, .int .i64 p.it.e, .int .i64 p.it.i, .int .i64 p.it.t, .int .i64 p.it.c, .slice LA ln lc, .slice BA bn bc, .int .i64 p.to, .int .i64 p.lo, .int .i64 p.many, .int .i64 p.top, .slice PA pn pc] rfl (all15 rfl rfl rfl rfl rfl rfl rfl rfl rfl rfl rfl rfl rfl rfl rfl); rw [← hv] at hen; subst hen; clear hv; have hv15 : cs5.size = 15 := hvs; clear hvs)))
    all_goals
      have hg5 := hg5.out
      have hbut5 := hbut5.out
      have hbel5 := hbel5.out
      clear hv15 hst
      have hb5 := hbel5 _ _ hb4 sle
      have k0v := (hbut5.2 _ sz).trans k0w
      have x0v := hbut5.cell gne x0w
      clear x0 x1 x2 tt k0' k1' hb2 k1w hbel5 k0w x0w
      have hq2 := hidT hq
      clear hq
      cases htc : Pkt.tailC k f r with
      | none =>
        have HO2 : Hid (o = none ∧ code = 2) := by
          have e : o = none := by rw [← HO.out, htc]
          exact ⟨e, by rw [HC.out, e]; rfl⟩
        have hk2 : kk = 2 := by have := hq2.out; rw [htc] at this; exact this
        subst hk2
        clear htc hq2 x0v rl rb rp al ab ap hg5 hbut5
        go_wp2
        go_step3
        exact ⟨rfl, ⟨_, _, _, _, _, _, _, _, _, _, _, _, _, _, _, _, _, _, _, _, _, _, _, _, _, _, _, _, _, _, _, _, _, _, _, _, _, _, _, _, _, _, _, _, _, _, _, _, _, _, _, _, _, _, _, rfl, rfl, rfl⟩, k0v, hb5, HO2.out.1, HO2.out.2⟩
      | some q =>
        obtain ⟨p0, r0⟩ := q
        obtain ⟨rfl, hpr⟩ : kk = 0 ∧ (p0, r0) = (p, r') := by have := hq2.out; rw [htc] at this; exact this
        obtain ⟨hp1, hr1⟩ : p0 = p ∧ r0 = r' := by simpa using hpr
        rw [hp1, hr1] at htc
        clear hpr hq2 hp1 hr1 p0 r0
        have HL : Hid (Pkt.lastC m (p, r') = o) := by rw [← HO.out, htc]; exact hidT rfl
        clear htc HO
        by_cases hm : m = 165
        case neg =>
          have HO2 : Hid (o = none ∧ code = 2) := by
            have e : o = none := by rw [← HL.out, Pkt.lastC, if_neg (by simp [hm])]
            exact ⟨e, by rw [HC.out, e]; rfl⟩
          have q1 : (m != 165) = true := by simpa using hm
          have q2 : (m == 165) = false := by simpa using hm
          clear hm HL rl rb rp al ab ap hg5 hbut5
          go_wp2
          go_step3
          exact ⟨rfl, ⟨_, _, _, _, _, _, _, _, _, _, _, _, _, _, _, _, _, _, _, _, _, _, _, _, _, _, _, _, _, _, _, _, _, _, _, _, _, _, _, _, _, _, _, _, _, _, _, _, _, _, _, _, _, _, _, rfl, rfl, rfl⟩, k0v, hb5, HO2.out.1, HO2.out.2⟩
        subst hm
        by_cases hr0 : r' = []
        case neg =>
          have HO2 : Hid (o = none ∧ code = 2) := by
            have e : o = none := by rw [← HL.out, Pkt.lastC, if_neg (by simp [hr0])]
            exact ⟨e, by rw [HC.out, e]; rfl⟩
          have q3 : 0 < r'.length := List.length_pos_iff.2 hr0
          have q4 : decide ((0 : Int) < (r'.length : Int)) = true := by simpa using q3
          clear hr0 HL rl rb rp al ab ap hg5 hbut5
          go_wp2
          go_step3
          exact ⟨rfl, ⟨_, _, _, _, _, _, _, _, _, _, _, _, _, _, _, _, _, _, _, _, _, _, _, _, _, _, _, _, _, _, _, _, _, _, _, _, _, _, _, _, _, _, _, _, _, _, _, _, _, _, _, _, _, _, _, rfl, rfl, rfl⟩, k0v, hb5, HO2.out.1, HO2.out.2⟩
        subst hr0
        obtain ⟨⟨v0, v1⟩, ⟨v2, v3, v4, v5, v6, v7, v8, v9⟩, v10, v11, v12, v13, v14⟩ := cells15 hg5
        have al' : ∀ b o, LA = some ⟨b, o, none⟩ → w2.heap.size ≤ b := al
        have ab' : ∀ b o, BA = some ⟨b, o, none⟩ → w2.heap.size ≤ b := ab
        have ap' : ∀ b o, PA = some ⟨b, o, none⟩ → w2.heap.size ≤ b := ap
        have rl5 := RdV.but rl (fun b o hA => by have := al' b o hA; omega) hbut5
        have rb5 := rb.but (fun b o hA => by have := ab' b o hA; omega) hbut5
        have rp5 := RdV.but rp (fun b o hA => by have := ap' b o hA; omega) hbut5
        have hmay := pmay_any (.agg #[.int .i64 p.k, .int .i64 p.f, .int .i64 p.it.k, .int .i64 p.it.q, .int .i64 p.it.e, .int .i64 p.it.i, .int .i64 p.it.t, .int .i64 p.it.c, .slice LA ln lc, .slice BA bn bc, .int .i64 p.to, .int .i64 p.lo, .int .i64 p.many, .int .i64 p.top, .slice PA pn pc]) p w5 ⟨LA, ln, lc, BA, bn, bc, PA, pn, pc, rfl, rl5, rb5, rp5⟩
        have z5 := hbut5.1
        have z4 := b4.size
        clear rl rb rp al ab ap
        clear hb4
        go_wp2_with fail
        with_reducible refine hmay.mono ?_
        rintro en w6 ⟨rfl, b6⟩
        have k0u := (b6.block _ (by omega)).trans k0v
        have hg6 := (b6.block _ (by omega)).trans hg5
        have hb6 := bthen hb5 b6
        have rl6 := RdV.below rl5 b6
        have rb6 := rb5.below b6
        have rp6 := RdV.below rp5 b6
        have z6 := b6.size
        clear hmay b6 hb5 k0v v0 v1 v2 v3 v4 v5 v6 v7 v8 v9 v10 v11 v12 v13 v14 hg5 rl5 rb5 rp5 hbut5 x0v
        cases hm0 : Pkt.may p with
        | false =>
          have HO2 : Hid (o = none ∧ code = 2) := by
            have e : o = none := by rw [← HL.out, Pkt.lastC, if_neg (by simp [hm0])]
            exact ⟨e, by rw [HC.out, e]; rfl⟩
          clear hm0 HL
          go_wp2
          go_step3
          exact ⟨rfl, ⟨_, _, _, _, _, _, _, _, _, _, _, _, _, _, _, _, _, _, _, _, _, _, _, _, _, _, _, _, _, _, _, _, _, _, _, _, _, _, _, _, _, _, _, _, _, _, _, _, _, _, _, _, _, _, _, rfl, rfl, rfl⟩, k0u, hb6, HO2.out.1, HO2.out.2⟩
        | true =>
          have HO2 : Hid (o = some p ∧ code = 0) := by
            have e : o = some p := by rw [← HL.out, Pkt.lastC, if_pos ⟨rfl, rfl, hm0⟩]
            exact ⟨e, by rw [HC.out, e]; rfl⟩
          clear hm0 HL
          obtain ⟨⟨v0, v1⟩, ⟨v2, v3, v4, v5, v6, v7, v8, v9⟩, v10, v11, v12, v13, v14⟩ := cells15 hg6
          go_wp2_with (
            refine wpList_stI rfl 27 (.tmp 2) (.tmp 52) rfl w.heap.size #[.int .i64 p.k, .int .i64 p.f, .int .i64 p.it.k, .int .i64 p.it.q, .int .i64 p.it.e, .int .i64 p.it.i, .int .i64 p.it.t, .int .i64 p.it.c, .slice LA ln lc, .slice BA bn bc, .int .i64 p.to, .int .i64 p.lo, .int .i64 p.many, .int .i64 p.top, .slice PA pn pc] rfl rfl _ _ k0u info37 rfl (all15 rfl rfl rfl rfl rfl rfl rfl rfl rfl rfl rfl rfl rfl rfl rfl) ?_
            intro w9 hg9 hbut9 hbel9
            have hb9 := hbel9 _ _ hb6 (Nat.le_refl _))
          simp only [Exit.jump]
          obtain ⟨⟨y0, y1⟩, ⟨y2, y3, y4, y5, y6, y7, y8, y9⟩, ⟨y10, y11, y12, y13, y14⟩⟩ := cells15 hg9
          rw [HO2.out.1, HO2.out.2]
          exact bodyPost_ret (v := .tuple #[.agg #[.int .i64 p.k, .int .i64 p.f, .int .i64 p.it.k, .int .i64 p.it.q, .int .i64 p.it.e, .int .i64 p.it.i, .int .i64 p.it.t, .int .i64 p.it.c, .slice LA ln lc, .slice BA bn bc, .int .i64 p.to, .int .i64 p.lo, .int .i64 p.many, .int .i64 p.top, .slice PA pn pc], .int .i64 0]) (by simp [results, Tryd.results9, go_sem, y0, y1, y2, y3, y4, y5, y6, y7, y8, y9, y10, y11, y12, y13, y14]) rfl ⟨_, rfl, ⟨LA, ln, lc, BA, bn, bc, PA, pn, pc, rfl, RdV.but rl6 (fun b o hA => by have := al' b o hA; omega) hbut9, rb6.but (fun b o hA => by have := ab' b o hA; omega) hbut9, RdV.but rp6 (fun b o hA => by have := ap' b o hA; omega) hbut9⟩, hb9⟩
  · rintro a' w' ⟨⟨u0, u1, u2, u3, u4, u5, u6, u7, u8, u9, u10, u11, u12, u13, u14, u15, u16, u17, u18, u19, u20, u21, u22, u23, u24, u25, u26, u27, u28, u29, u30, u31, u32, u33, u34, u35, u36, u37, u38, u39, u40, u41, u42, u43, u44, u45, u46, u47, u48, u49, u50, u51, u52, u53, u54, rfl, rfl, rfl⟩, hg, hb, rfl, rfl⟩
    go_wp2_with (
      refine wpList_stI rfl 27 (.tmp 2) (.tmp 53) rfl w.heap.size zpkt rfl rfl _ _ hg info37 rfl (all15 rfl rfl rfl rfl rfl rfl rfl rfl rfl rfl rfl rfl rfl rfl rfl) ?_
      intro w9 hg9 hbut9 hbel9
      have hb9 := hbel9 _ _ hb (Nat.le_refl _))
    simp only [Exit.jump]
    obtain ⟨⟨y0, y1⟩, ⟨y2, y3, y4, y5, y6, y7, y8, y9⟩, ⟨y10, y11, y12, y13, y14⟩⟩ := cells15 hg9
    exact bodyPost_ret (v := .tuple #[.agg zpkt, .int .i64 (2)]) (by simp [results, Tryd.results9, go_sem, y0, y1, y2, y3, y4, y5, y6, y7, y8, y9, y10, y11, y12, y13, y14]) rfl ⟨_, rfl, zero_pkt _, hb9⟩

end Go.Proofs.YtahkhideepncfaaDoor
