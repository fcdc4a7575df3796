/- The law LaneOrder. (Written by wip/gen/lnorder.py.) -/
import Derived.Test.YtmlmkkfieeaejaaLnO
import Derived.Test.YtmlmkkfieeaejaaLaneRun
import Derived.Test.YtmlmkkfieeaejaaLnOpen
import Derived.Test.YtmlmkkfieeaejaaLF5
import Derived.Test.YtmlmkkfieeaejaaLnV
set_option maxRecDepth 100000
namespace Go.Proofs.Ytmlmkkfieeaejaa
open Go.RowKit
set_option linter.unusedVariables false

theorem infoI : (Try.prog.info? 3).map (fun i => (i.zero, i.size, i.bytes)) = some (some (.int .i64 0), 1, 8) := by kernel_rfl
set_option maxHeartbeats 8000000 in
theorem order_any (A : Option Addr) (n c : Nat) (rs : List Bw) (mb : Int) (H : Option Addr) (hn hc : Nat) (hs : List Bool) (w : World) (hA : RdB w A n c rs) (hm : 0 ≤ mb ∧ mb < 256) (hH : RdV w H hn hc (bos hs)) : Calls Try.prog 6 #[.slice A n c, .int .u8 mb, .slice H hn hc] w (Yes w) := by
  have B_0 := hidT (Below.refl w.heap.size w)
  have hnl := hA.le
  have hrs := hA.size
  have hhs := hH.1
  have HA := hidT hA
  have HH := hidT hH
  have HRS := hidT hrs
  have HHS := hidT hhs
  obtain ⟨hm0, hm1⟩ := hm
  clear hA hH hrs hhs
  go_enter Try.func6, Try.ntmps6
  go_wp2_with fail
  with_reducible refine (shown_any _).mono ?_
  rintro e y0 ⟨rfl, hb⟩
  have B_1 := hidT (bthen B_0.out hb)
  clear B_0
  clear hb
  by_cases h20 : n ≤ 20
  rotate_left
  · have t1 : decide (20 < n) = true := by simpa using h20
    have t2 : decide ((20 : Int) < (n : Int)) = true := by simp; omega
    go_wp2
    go_ret
    exact ⟨rfl, B_1.out⟩
  have t1 : decide (20 < n) = false := by simpa using h20
  have t2 : decide ((20 : Int) < (n : Int)) = false := by simp; omega
  by_cases hne : hn = n
  rotate_left
  · have t3 : ((hn : Int) != (n : Int)) = true := by rw [bne_iff_ne]; omega
    go_wp2
    go_ret
    exact ⟨rfl, B_1.out⟩
  have t3 : ((hn : Int) != (n : Int)) = false := by rw [bne_eq_false_iff_eq]; omega
  obtain ⟨xs, hxs⟩ : ∃ xs, (rs.map Bw.b).zip hs = xs := ⟨_, rfl⟩
  have HXS := hidT hxs
  have HNE := hidT hne
  have e1 : Int.tmod mb 40 = mb % 40 := Int.tmod_eq_emod_of_nonneg hm0
  obtain ⟨N, hN⟩ : ∃ N, mb % 40 = N := ⟨_, rfl⟩
  have N0 : 0 ≤ N := by omega
  have N1 : N < 40 := by omega
  rw [hN] at e1
  obtain ⟨M, aM⟩ : ∃ M : Nat, 2 + N = (M : Int) := ⟨(2 + N).toNat, by omega⟩
  have M0 : 2 ≤ M := by omega
  have M1 : M ≤ 41 := by omega
  clear hxs hne N0 N1 hN
  have p1 : wrap64 mb = mb := IntWalk.wrap64_in _ (by omega)
  have p2 : IntKind.i64.wrap (M : Int) = (M : Int) := IntWalk.i64_in _ (by omega)
  have hw0 := B_1.out.size
  have t1 := alloc_at y0 (.cells #[.slice none 0 0, .int .i64 0, .int .i64 0, .int .i64 0, .slice none 0 0] 27) _ rfl
  have t3 := nkeep y0 (.cells #[.slice none 0 0, .int .i64 0, .int .i64 0, .int .i64 0, .slice none 0 0] 27)
  obtain ⟨Vy0, hVy0⟩ : ∃ W, y0.alloc (.cells #[.slice none 0 0, .int .i64 0, .int .i64 0, .int .i64 0, .slice none 0 0] 27) = W := ⟨_, rfl⟩
  rw [hVy0] at t1 t3
  have HVy0 := hidT hVy0
  have B_2 := hidT (bthen B_1.out t3)
  clear B_1
  obtain ⟨gy0, hgy0⟩ : ∃ p, y0.heap.size = p := ⟨_, rfl⟩
  rw [hgy0] at t1
  have G_0 := hidT (t1)
  clear t1 t3 hVy0
  rw [hgy0] at hw0
  have HW0 := hidT hw0
  clear hw0
  go_wp2_with fail
  rw [HVy0.out]
  clear hgy0
  clear t1 t2 t3 e1 p1 p2 aM
  have hG := G_0.out
  have hgs := blk_lt hG
  clear hG
  go_loopw [10, 11, 12] (fun sv fv iv wr => ∃ (i : Nat) (s : Int), i ≤ n ∧ iv = .int .i64 i ∧ sv = .int .i64 s ∧ Hid (s = Lane.seqOf M 1 (xs.take i)) ∧ Hid (∀ x ∈ xs.take i, x.1.length ≤ 60) ∧ Hid (OwnV wr (gy0 + 1) 3 fv i (is (firsts M xs i))) ∧ ∃ (L : Lane.Ln) (A9 : Option Addr) (n9 c9 : Nat) (B9 : Option Addr) (m9 d9 : Nat), Hid (L = ⟨Lane.ents M 1 (xs.take i), none_⟩) ∧ Hid (wr.heap[gy0]? = some (.cells #[.slice A9 n9 c9, .int .i64 L.p.seq, .int .i64 L.p.total, .int .i64 L.p.got, .slice B9 m9 d9] 27 (0, 0))) ∧ Hid (IsLane (Apart gy0 fv) wr (.agg #[.slice A9 n9 c9, .int .i64 L.p.seq, .int .i64 L.p.total, .int .i64 L.p.got, .slice B9 m9 d9]) L) ∧ Hid (Below w.heap.size w wr)) (fun _ _ i _ => n - (intOf i).toNat)
  case atStart => exact ⟨0, 1, Nat.zero_le _, rfl, rfl, hidT rfl, hidT (fun x hx => by cases hx), hidT ⟨rfl, .inl ⟨rfl, rfl⟩⟩, Lane.Ln.zero, none, 0, 0, none, 0, 0, hidT rfl, hidT G_0.out, hidT (IsLane.zero _ _), hidT B_2.out⟩
  case round =>
    obtain ⟨i, s, hi, rfl, rfl, HSQ, HSM, XO, L, A9, n9, c9, B9, m9, d9, HLL, XG, XL, XB⟩ := hrel
    have G_1 := hidT (XG.out)
    have X_0 := hidT (XL.out)
    have B_3 := hidT (XB.out)
    have O_0 := hidT (XO.out)
    by_cases hin : i < n
    · skip
      obtain ⟨b, o, r, rfl, hr, hrd, hcell⟩ := (HA.out.below B_3.out).at_ hin
      obtain ⟨RA, rn, rc, rb⟩ := r
      have hrd2 : Rd wr RA rn rc rb := hrd
      have d0 : wr.cell? ⟨b, o + i, none⟩ = some (.slice RA rn rc) := hcell wr (Below.refl _ _)
      have HR := hidT hr
      have HRD := hidT hrd2
      have hrl := hrd2.1
      have HRL := hidT hrl
      have x1 : (0 : Int) ≤ (i : Int) := by omega
      have x2 : (i : Int) < (n : Int) := by omega
      clear hcell hrd hrd2 hr hrl
      by_cases h60 : rn ≤ 60
      rotate_left
      · have t1 : decide (60 < rn) = true := by simpa using h60
        have t2 : decide ((60 : Int) < (rn : Int)) = true := by simp; omega
        go_wp2
        go_ret
        exact ⟨rfl, B_3.out⟩
      have t1 : decide (60 < rn) = false := by simpa using h60
      have t2 : decide ((60 : Int) < (rn : Int)) = false := by simp; omega
      have HC := hidT (rcut_some RA rn rc rb M wr HRD.out (by omega) (by omega) (by omega))
      go_wp2_with fail
      with_reducible refine HC.out.mono ?_
      rintro e_ y1 ⟨PA, pn, pc, ps, rfl, hP, hps, hb, hPa, hPr⟩
      have hfb : ∀ bb, u11.ownBlock = some bb → bb < wr.heap.size := fun bb hbb => (OwnV.blk O_0.out bb hbb).1
      have HFB := hidT hfb
      have hgw := blk_lt G_1.out
      have HGW := hidT hgw
      have G_2 := hidT (keepH G_1.out hb)
      have X_1 := hidT (X_0.out.below hb)
      have B_4 := hidT (bthen B_3.out hb)
      have O_1 := hidT (OwnV.later O_0.out hb)
      clear G_1 X_0 B_3 O_0
      clear hb d0 t1 t2 x1 x2 HC hfb hgw
      obtain ⟨K, hK⟩ : ∃ K, manyN rb.length M = K := ⟨_, rfl⟩
      have hpn : pn = K := by rw [← hP.size, ← hK, ← cutOf_length rb M, ← hps, List.length_map]
      subst hpn
      have HKK := hidT hK
      have hK30 : pn ≤ 30 := by rw [← hK]; exact (Lane.sz_le (m := M) (x := (rb, true)) M0 (by show rb.length ≤ 60; rw [HRL.out]; exact h60)).1
      have hK1 : 1 ≤ pn := by rw [← hK]; exact manyN_pos _ _
      have HP := hidT hP
      have HPS := hidT hps
      have HPA := hidT hPa
      have HPR := hidT hPr
      clear hK hP hps hPa hPr
      have z3 := nkeep y1 (.cells #[.int .i64 s] 3)
      obtain ⟨gz, hgz⟩ : ∃ g, y1.heap.size = g := ⟨_, rfl⟩
      have hsrc : RdV (y1.alloc (.cells #[.int .i64 s] 3)) (some ⟨gz, 0, none⟩) 1 1 [.int .i64 s] := RdV.lit y1 3 (0, 0) #[.int .i64 s] [.int .i64 s] rfl 1 rfl (by simp only [maxLen]; omega) gz hgz
      have hown := OwnV.later O_1.out z3
      have hbase : gy0 + 1 ≤ (y1.alloc (.cells #[.int .i64 s] 3)).heap.size := by rw [size_alloc]; have := blk_lt G_2.out; omega
      have G_3 := hidT (keepH G_2.out z3)
      have X_2 := hidT (X_1.out.below z3)
      have B_5 := hidT (bthen B_4.out z3)
      have O_2 := hidT (OwnV.later O_1.out z3)
      go_wp2_with (
        refine wpList_appW rfl (.tmp 62) (.tmp 64) 31 rfl (gy0 + 1) 3 (.int .i64 0) 8 infoI rfl (by omega) Try.underlying31 u11 i (is (firsts M xs i)) rfl hown (some ⟨gz, 0, none⟩) 1 1 [.int .i64 s] rfl hsrc (by simp [Value.oneCell']) (by omega) hbase ?_
        intro fv5 w5 hown5 hb5 hg5 ho5)
      have G5 := (hb5.block gy0 (by omega)).trans G_3.out
      have B5 := B_5.out.trans (hb5.mono (Nat.le_succ_of_le HW0.out))
      have X5 := X_2.out.apartGrown hg5 ho5
      have O5 : OwnV w5 (gy0 + 1) 3 fv5 (i + 1) (is (firsts M xs (i + 1))) := by rw [firsts_snoc, ← HSQ.out]; simpa [is] using hown5
      have P5 := RdB.hi (HP.out.below z3) HPA.out HPR.out (KeptS.hig hg5 HFB.out)
      obtain ⟨lo, hlo⟩ : ∃ lo, wr.heap.size = lo := ⟨_, rfl⟩
      rw [hlo] at HPA HPR HGW
      have hse : 1 ≤ s ∧ s ≤ 621 := by
        have h1 := Lane.seqOf_le M 1 (xs.take i)
        have h2 := Lane.seqOf_top M0 1 (xs.take i) HSM.out
        have h3 := List.length_take_le i xs
        rw [← HSQ.out] at h1 h2
        omega
      obtain ⟨s0, s1⟩ := hse
      have hrise := Lane.ents_rises (m := M) (s := 1) (low := 0) (xs.take i) (by omega) (by omega)
      rw [← HSQ.out] at hrise
      have HRISE := hidT hrise
      have hyl : (xs.take i).length ≤ 20 := by have := List.length_take_le i xs; omega
      have HYL := hidT hyl
      have HRB : Hid (rb.length ≤ 60) := hidT (by rw [HRL.out]; exact h60)
      have HG5 := hidT G5
      have HB5 := hidT B5
      have HX5 := hidT X5
      have HO5 := hidT O5
      have HP5 := hidT P5
      clear G5 B5 X5 O5 P5 hb5 hg5 ho5 hown5 hown hsrc hbase hgz z3 hlo hrise hyl HFB HP
      obtain ⟨E, hE⟩ : ∃ E, Lane.ents M 1 (xs.take i) = E := ⟨_, rfl⟩
      rw [hE] at HRISE HLL
      have HEE := hidT hE
      clear hE
      go_loopw [10, 14] (fun sv kv wr => ∃ (k : Nat) (sk : Int) (L : Lane.Ln) (A9 : Option Addr) (n9 c9 : Nat) (B9 : Option Addr) (m9 d9 : Nat), k ≤ pn ∧ kv = .int .i64 k ∧ sv = .int .i64 sk ∧ sk = s + k ∧ Hid (L = stK E s rb M k) ∧ Hid (wr.heap[gy0]? = some (.cells #[.slice A9 n9 c9, .int .i64 L.p.seq, .int .i64 L.p.total, .int .i64 L.p.got, .slice B9 m9 d9] 27 (0, 0))) ∧ Hid (IsLane (Apart gy0 fv5) wr (.agg #[.slice A9 n9 c9, .int .i64 L.p.seq, .int .i64 L.p.total, .int .i64 L.p.got, .slice B9 m9 d9]) L) ∧ Hid (OwnV wr (gy0 + 1) 3 fv5 (i + 1) (is (firsts M xs (i + 1)))) ∧ Hid (RdB wr PA pn pc ps) ∧ Hid (Below w.heap.size w wr)) (fun _ k _ => pn - (intOf k).toNat)
      case atStart => exact ⟨0, s, L, A9, n9, c9, B9, m9, d9, Nat.zero_le _, rfl, rfl, by simp, by rw [stK_zero]; exact HLL, HG5, HX5, HO5, HP5, HB5⟩
      case round =>
        clear HLL HG5 HX5 HO5 HP5 HB5 XO XG XL XB
        obtain ⟨k, sk, L, A9, n9, c9, B9, m9, d9, hk, rfl, rfl, hsk, HLL, XG, XL, XO, XP, XB⟩ := hrel
        have HSK := hidT hsk
        have sk0 : 1 ≤ sk := by omega
        have sk1 : sk ≤ 700 := by omega
        clear hsk
        by_cases hkn : k < pn
        · skip
          obtain ⟨b2, o2, r2, rfl, hr2, hrd2, hcell2⟩ := XP.out.at_ hkn
          obtain ⟨SA, sn, sc, sb⟩ := r2
          have hrd3 : Rd wr SA sn sc sb := hrd2
          have hcell3 : ∀ w', Below wr.heap.size wr w' → w'.cell? ⟨b2, o2 + k, none⟩ = some (.slice SA sn sc) := hcell2
          have hsb : sb = piece rb M k := by
            have h1 : (ps.map Bw.b)[k]? = some sb := by rw [List.getElem?_map, hr2]; rfl
            rw [HPS.out, cutOf_at rb M k (by rw [HKK.out]; exact hkn)] at h1
            injection h1 with h1
            exact h1.symm
          have hsl : sb.length ≤ 65536 := by rw [hsb, piece_length]; omega
          have HSB := hidT hsb
          have HSL := hidT hsl
          have HRD3 := hidT hrd3
          obtain ⟨L', hL'⟩ : ∃ L', stK E s rb M (k + 1) = L' := ⟨_, rfl⟩
          have HL' := hidT hL'
          have HPU : Hid (∀ w', Below wr.heap.size wr w' → Calls Try.prog 27 #[.agg #[.slice A9 n9 c9, .int .i64 L.p.seq, .int .i64 L.p.total, .int .i64 L.p.got, .slice B9 m9 d9], .agg #[.int .i64 1, .int .i64 sk, .int .i64 0, .int .i64 k, .int .i64 pn, .int .i64 0, .slice none 0 0, .slice SA sn sc]] w' (ReadIs w' (L', 0))) := hidT fun w' hb => by
            have hc := read_any (.agg #[.slice A9 n9 c9, .int .i64 L.p.seq, .int .i64 L.p.total, .int .i64 L.p.got, .slice B9 m9 d9]) (.agg #[.int .i64 1, .int .i64 sk, .int .i64 0, .int .i64 k, .int .i64 pn, .int .i64 0, .slice none 0 0, .slice SA sn sc]) L ⟨1, sk, 0, k, pn, 0, [], sb⟩ w' (XL.out.below hb) ⟨none, 0, 0, SA, sn, sc, rfl, RdV.nil_ _, HRD3.out.below hb⟩ (by rw [HLL.out, ← HEE.out]; exact stK_small HSM.out HYL.out HRB.out k) (by rw [HLL.out]; exact stK_got _ _ _ _ _) (by simp) HSL.out
            rw [HLL.out, stK_read (by omega) (by rw [HKK.out]; omega) (by rw [HKK.out]; exact hkn) HRISE.out.1 HRISE.out.2 rfl HSK.out rfl (by rw [HKK.out]) HSB.out, HL'.out] at hc
            exact (by rw [HLL.out]; exact hc)
          clear hr2 hrd2 hrd3 hcell2 hsb hsl hL'
          have k0 := fun w' (hb : Below wr.heap.size wr w') => (cells5 (keepH XG.out hb)).1
          have k1 := fun w' (hb : Below wr.heap.size wr w') => (cells5 (keepH XG.out hb)).2.1
          have k2 := fun w' (hb : Below wr.heap.size wr w') => (cells5 (keepH XG.out hb)).2.2.1
          have k3 := fun w' (hb : Below wr.heap.size wr w') => (cells5 (keepH XG.out hb)).2.2.2.1
          have k4 := fun w' (hb : Below wr.heap.size wr w') => (cells5 (keepH XG.out hb)).2.2.2.2
          have kb := hcell3
          clear hcell3
          have x1 : (0 : Int) ≤ (k : Int) := by omega
          have x2 : (k : Int) < (pn : Int) := by omega
          have D1 : Below wr.heap.size wr (wr.alloc (.cells #[.slice none 0 0, .int .i64 0, .int .i64 0, .int .i64 0, .slice none 0 0] 27)) := nkeep wr _
          go_wp2_with fail
          go_region_held_law (fun w' => Below wr.heap.size wr w')
            (first | exact (Below.refl _ _).drew | exact Below.refl _ _ | exact hbX | exact hb5 | exact D1.drew | exact D1 | exact nkeep_alloc hb5 _)
            (first
              | (go_at_call 27
                 with_reducible refine (HPU.out _ (Below.refl _ _).drew).mono ?_
                 rintro e5 w5 ⟨v5, rfl, hK5, hb5'⟩
                 have hb5 : Below wr.heap.size wr w5 := undrew hb5'
                 obtain ⟨A5, n5, c5, B5, m5, d5, ev5, -, -, -⟩ := id hK5
                 have ev5' : v5 = .agg #[.slice A5 n5 c5, .int .i64 L'.p.seq, .int .i64 L'.p.total, .int .i64 L'.p.got, .slice B5 m5 d5] := ev5
                 clear ev5
                 subst ev5'
                 have TA : True := trivial)
              | (go_at_call 27
                 with_reducible refine (HPU.out _ D1.drew).mono ?_
                 rintro e5 w5 ⟨v5, rfl, hK5, hb5'⟩
                 have hb5 : Below wr.heap.size wr w5 := bthen D1 (undrew hb5')
                 have hx3 := keepH (alloc_at wr (.cells #[.slice none 0 0, .int .i64 0, .int .i64 0, .int .i64 0, .slice none 0 0] 27) _ rfl) (undrew hb5')
                 obtain ⟨A5, n5, c5, B5, m5, d5, ev5, -, -, -⟩ := id hK5
                 have ev5' : v5 = .agg #[.slice A5 n5 c5, .int .i64 L'.p.seq, .int .i64 L'.p.total, .int .i64 L'.p.got, .slice B5 m5 d5] := ev5
                 clear ev5
                 subst ev5'
                 have f30 := no_frozen hx3 0
                 have f31 := no_frozen hx3 1
                 have f32 := no_frozen hx3 2
                 have f33 := no_frozen hx3 3
                 have f34 := no_frozen hx3 4
                 obtain ⟨c30, c31, c32, c33, c34⟩ := cells5 hx3
                 have hbX : Below wr.heap.size wr (((((w5.setCell ⟨wr.heap.size, 0, none⟩ (.slice A5 n5 c5)).setCell ⟨wr.heap.size, 1, none⟩ (.int .i64 L'.p.seq)).setCell ⟨wr.heap.size, 2, none⟩ (.int .i64 L'.p.total)).setCell ⟨wr.heap.size, 3, none⟩ (.int .i64 L'.p.got)).setCell ⟨wr.heap.size, 4, none⟩ (.slice B5 m5 d5)) := (set5w hx3 (.slice A5 n5 c5) (.int .i64 L'.p.seq) (.int .i64 L'.p.total) (.int .i64 L'.p.got) (.slice B5 m5 d5)).2.2 _ _ hb5 (Nat.le_refl _)
                 have TB : True := trivial)
              | fail)
          · have hZ := alloc_at w5 (.cells #[.slice A5 n5 c5, .int .i64 L'.p.seq, .int .i64 L'.p.total, .int .i64 L'.p.got, .slice B5 m5 d5] 27) _ rfl
            have hK := (hK5.below (nkeep w5 (.cells #[.slice A5 n5 c5, .int .i64 L'.p.seq, .int .i64 L'.p.total, .int .i64 L'.p.got, .slice B5 m5 d5] 27))).apartHi (g := gy0) (f := fv5) (blk_lt XG.out) (fun bb h => (OwnV.blk XO.out bb h).1)
            have hB := nkeep_alloc hb5 (.cells #[.slice A5 n5 c5, .int .i64 L'.p.seq, .int .i64 L'.p.total, .int .i64 L'.p.got, .slice B5 m5 d5] 27)
            have P5 := hidT hZ
            have K5 := hidT hK
            have B5_ := hidT hB
            obtain ⟨pv, hpv⟩ : ∃ pv, w5.heap.size = pv := ⟨_, rfl⟩
            rw [hpv] at P5 ⊢
            clear TA hZ hK hB hK5 hb5 hb5' hpv D1 k0 k1 k2 k3 k4 kb
            generalize w5.alloc (.cells #[.slice A5 n5 c5, .int .i64 L'.p.seq, .int .i64 L'.p.total, .int .i64 L'.p.got, .slice B5 m5 d5] 27) = V5 at *
            obtain ⟨z0, z1, z2, z3, z4⟩ := cells5 P5.out
            have yg := keepH XG.out B5_.out
            have v1 : ((0 : Int) != (0 : Int)) = false := by simp
            have w2 : wrap64 (sk + 1) = sk + 1 := IntWalk.wrap64_in _ (by omega)
            go_wp2_with (
              refine wpList_stI rfl 27 _ _ rfl gy0 #[.slice A5 n5 c5, .int .i64 L'.p.seq, .int .i64 L'.p.total, .int .i64 L'.p.got, .slice B5 m5 d5] rfl rfl _ _ yg sizeL rfl (by simp [Value.oneCell']) ?_
              intro w8 hg8 hbut hbel)
            exact ⟨⟨k + 1, sk + 1, L', A5, n5, c5, B5, m5, d5, by omega, by go_num, by first | rfl | go_num, by have := HSK.out; push_cast; omega, hidT HL'.out.symm, hidT hg8, hidT (K5.out.apartBut hbut), hidT (OwnV.but (OwnV.later XO.out B5_.out) (Nat.lt_succ_self _) hbut), hidT (RdB.hi (XP.out.below B5_.out) HPA.out HPR.out (KeptS.hi hbut HGW.out)), hidT (hbel _ _ (bthen XB.out B5_.out) HW0.out)⟩, by simp [intOf]; omega⟩
          · have hst := set5w hx3 (.slice A5 n5 c5) (.int .i64 L'.p.seq) (.int .i64 L'.p.total) (.int .i64 L'.p.got) (.slice B5 m5 d5)
            have hlt : wr.heap.size < (wr.alloc (.cells #[.slice none 0 0, .int .i64 0, .int .i64 0, .int .i64 0, .slice none 0 0] 27)).drew.heap.size := by show wr.heap.size < (wr.alloc (.cells #[.slice none 0 0, .int .i64 0, .int .i64 0, .int .i64 0, .slice none 0 0] 27)).heap.size; rw [size_alloc]; omega
            have hK := (hK5.keptS (KeptS.hi hst.2.1 hlt)).apartHi (g := gy0) (f := fv5) (Nat.lt_trans (blk_lt XG.out) hlt) (fun bb h => Nat.lt_trans (OwnV.blk XO.out bb h).1 hlt)
            have P5 := hidT hst.1
            have K5 := hidT hK
            have B5_ := hidT hbX
            obtain ⟨pv, hpv⟩ : ∃ pv, wr.heap.size = pv := ⟨_, rfl⟩
            clear TB hst hlt hK hK5 hb5 hb5' hx3 D1 k0 k1 k2 k3 k4 kb f30 f31 f32 f33 f34 c30 c31 c32 c33 c34 hbX
            generalize ((((w5.setCell ⟨wr.heap.size, 0, none⟩ (.slice A5 n5 c5)).setCell ⟨wr.heap.size, 1, none⟩ (.int .i64 L'.p.seq)).setCell ⟨wr.heap.size, 2, none⟩ (.int .i64 L'.p.total)).setCell ⟨wr.heap.size, 3, none⟩ (.int .i64 L'.p.got)).setCell ⟨wr.heap.size, 4, none⟩ (.slice B5 m5 d5) = V5 at *
            rw [hpv] at P5 ⊢
            clear hpv
            obtain ⟨z0, z1, z2, z3, z4⟩ := cells5 P5.out
            have yg := keepH XG.out B5_.out
            have v1 : ((0 : Int) != (0 : Int)) = false := by simp
            have w2 : wrap64 (sk + 1) = sk + 1 := IntWalk.wrap64_in _ (by omega)
            go_wp2_with (
              refine wpList_stI rfl 27 _ _ rfl gy0 #[.slice A5 n5 c5, .int .i64 L'.p.seq, .int .i64 L'.p.total, .int .i64 L'.p.got, .slice B5 m5 d5] rfl rfl _ _ yg sizeL rfl (by simp [Value.oneCell']) ?_
              intro w8 hg8 hbut hbel)
            exact ⟨⟨k + 1, sk + 1, L', A5, n5, c5, B5, m5, d5, by omega, by go_num, by first | rfl | go_num, by have := HSK.out; push_cast; omega, hidT HL'.out.symm, hidT hg8, hidT (K5.out.apartBut hbut), hidT (OwnV.but (OwnV.later XO.out B5_.out) (Nat.lt_succ_self _) hbut), hidT (RdB.hi (XP.out.below B5_.out) HPA.out HPR.out (KeptS.hi hbut HGW.out)), hidT (hbel _ _ (bthen XB.out B5_.out) HW0.out)⟩, by simp [intOf]; omega⟩
        · have hke : k = pn := by omega
          have hLx : L = ⟨E ++ [Lane.msg s rb], none_⟩ := by rw [HLL.out, hke, ← HKK.out, stK_all]
          have hskk : sk = s + pn := by have := HSK.out; rw [hke] at this; exact this
          have HLX := hidT hLx
          have HSKK := hidT hskk
          subst hke
          clear hLx hskk
          obtain ⟨b3, o3, u3_, rfl, hu3, hc3⟩ := RdV.at_ (RdV.below HH.out XB.out) (show i < hn by rw [HNE.out]; exact hin)
          simp only [bos, List.getElem?_map, Option.map_eq_some_iff] at hu3
          obtain ⟨hh, hhx, rfl⟩ := hu3
          have hxi : xs[i]? = some (rb, hh) := by rw [← HXS.out]; exact zip_at HR.out hhx
          have HXI := hidT hxi
          have HSMN : Hid (∀ x ∈ xs.take (i + 1), x.1.length ≤ 60) := hidT (by
            rw [take_snoc HXI.out]
            intro x hx
            rcases List.mem_append.1 hx with hx | hx
            · exact HSM.out x hx
            · rw [List.mem_singleton.1 hx]; exact HRB.out)
          have HSQN : Hid (Lane.seqOf M 1 (xs.take (i + 1)) = s + Lane.sz M (rb, hh)) := hidT (by rw [take_snoc HXI.out, Lane.seqOf_snoc, ← HSQ.out])
          have HEN : Hid (Lane.ents M 1 (xs.take (i + 1)) = E ++ Lane.ents1 M s (rb, hh)) := hidT (by rw [take_snoc HXI.out, Lane.ents_snoc, ← HSQ.out, HEE.out])
          have x1 : (0 : Int) ≤ (i : Int) := by omega
          have x2 : (i : Int) < (hn : Int) := by have := HNE.out; omega
          clear hxi hhx
          cases hh with
          | false =>
            go_wp2
            exact ⟨⟨i + 1, sk, by omega, by go_num, rfl, hidT (by rw [HSQN.out, HSKK.out, ← HKK.out]; show _ = s + (((manyN rb.length M : Nat) : Int) + 0); omega), HSMN, XO, L, A9, n9, c9, B9, m9, d9, hidT (by rw [HLX.out, HEN.out]; rfl), XG, XL, XB⟩, by simp [intOf]; omega⟩
          | true =>
            have ht : Lane.top 0 (E ++ [Lane.msg s rb]) < sk := by rw [Lane.top_snoc]; show s < sk; have := HSKK.out; omega
            have hc := read_any (.agg #[.slice A9 n9 c9, .int .i64 L.p.seq, .int .i64 L.p.total, .int .i64 L.p.got, .slice B9 m9 d9]) (.agg #[.int .i64 3, .int .i64 sk, .int .i64 0, .int .i64 0, .int .i64 0, .int .i64 0, .slice none 0 0, .slice none 0 0]) L ⟨3, sk, 0, 0, 0, 0, [], []⟩ wr XL.out ⟨none, 0, 0, none, 0, 0, rfl, RdV.nil_ _, Rd.nil_ _⟩ (by rw [HLL.out, ← HEE.out]; exact stK_small HSM.out HYL.out HRB.out _) (by rw [HLL.out]; exact stK_got _ _ _ _ _) (by simp) (by simp)
            rw [show Lane.read L ⟨3, sk, 0, 0, 0, 0, [], []⟩ = (⟨(E ++ [Lane.msg s rb]) ++ [Lane.tok sk], none_⟩, 0) by rw [HLX.out]; exact Lane.read_token ht rfl rfl] at hc
            obtain ⟨L', hL'⟩ : ∃ L' : Lane.Ln, ⟨(E ++ [Lane.msg s rb]) ++ [Lane.tok sk], none_⟩ = L' := ⟨_, rfl⟩
            rw [hL'] at hc
            have HL' := hidT hL'
            have HCR := hidT hc
            clear hc hL' ht
            have G_4 := hidT (XG.out)
            have B_6 := hidT (XB.out)
            have O_3 := hidT (XO.out)
            obtain ⟨i0, i1, i2, i3, i4⟩ := cells5 G_4.out
            go_wp2_with fail
            with_reducible refine HCR.out.mono ?_
            rintro e_ y7 ⟨v7, rfl, hl, hb⟩
            have hly := blk_lt G_4.out
            have hlo := fun bb h => (OwnV.blk O_3.out bb h).1
            have G_5 := hidT (keepH G_4.out hb)
            have B_7 := hidT (bthen B_6.out hb)
            have O_4 := hidT (OwnV.later O_3.out hb)
            clear G_4 B_6 O_3
            clear hb HCR i0 i1 i2 i3 i4 hc3
            obtain ⟨A7, n7, c7, B7, m7, d7, ev7, hE7, -, -⟩ := id hl
            have ev7' : v7 = .agg #[.slice A7 n7 c7, .int .i64 L'.p.seq, .int .i64 L'.p.total, .int .i64 L'.p.got, .slice B7 m7 d7] := ev7
            clear ev7
            subst ev7'
            have t1 := alloc_at y7 (.cells #[.slice A7 n7 c7, .int .i64 L'.p.seq, .int .i64 L'.p.total, .int .i64 L'.p.got, .slice B7 m7 d7] 27) _ rfl
            have t3 := nkeep y7 (.cells #[.slice A7 n7 c7, .int .i64 L'.p.seq, .int .i64 L'.p.total, .int .i64 L'.p.got, .slice B7 m7 d7] 27)
            obtain ⟨Vy7, hVy7⟩ : ∃ W, y7.alloc (.cells #[.slice A7 n7 c7, .int .i64 L'.p.seq, .int .i64 L'.p.total, .int .i64 L'.p.got, .slice B7 m7 d7] 27) = W := ⟨_, rfl⟩
            rw [hVy7] at t1 t3
            have HVy7 := hidT hVy7
            have G_6 := hidT (keepH G_5.out t3)
            have B_8 := hidT (bthen B_7.out t3)
            have O_5 := hidT (OwnV.later O_4.out t3)
            clear G_5 B_7 O_4
            have A_0 := hidT ((hl.apartHi (f := _) hly hlo).below t3)
            obtain ⟨gy7, hgy7⟩ : ∃ p, y7.heap.size = p := ⟨_, rfl⟩
            rw [hgy7] at t1
            have Z_0 := hidT (t1)
            clear t1 t3 hVy7
            clear hl hE7 hly hlo
            obtain ⟨z0, z1, z2, z3, z4⟩ := cells5 Z_0.out
            rw [← HVy7.out] at z0 z1 z2 z3 z4
            have yg := G_6.out
            have v1 : ((0 : Int) != (0 : Int)) = false := by simp
            have w2 : wrap64 (sk + 1) = sk + 1 := IntWalk.wrap64_in _ (by omega)
            rw [← HVy7.out] at yg
            go_wp2_with (
              refine wpList_stI rfl 27 _ _ rfl gy0 #[.slice A7 n7 c7, .int .i64 L'.p.seq, .int .i64 L'.p.total, .int .i64 L'.p.got, .slice B7 m7 d7] rfl rfl _ _ yg sizeL rfl (by simp [Value.oneCell']) ?_
              intro w8 hg8 hbut hbel)
            rw [HVy7.out] at hbut hbel
            exact ⟨⟨i + 1, sk + 1, by omega, by go_num, by first | rfl | go_num, hidT (by rw [HSQN.out, HSKK.out, ← HKK.out]; show _ = s + (((manyN rb.length M : Nat) : Int) + 1); omega), HSMN, hidT (OwnV.but O_5.out (Nat.lt_succ_self _) hbut), L', A7, n7, c7, B7, m7, d7, hidT (by rw [← HL'.out, HEN.out, HSKK.out, ← HKK.out]; simp [Lane.ents1]), hidT hg8, hidT (A_0.out.apartBut hbut), hidT (hbel _ _ B_8.out HW0.out)⟩, by simp [intOf]; omega⟩
    · have hie : i = n := by omega
      subst hie
      have hxl : xs.length = i := by
        have h1 := HRS.out
        have h2 := HHS.out
        have h3 := HNE.out
        simp only [bos, List.length_map] at h2
        rw [← HXS.out, List.length_zip, List.length_map]
        omega
      have htk : xs.take i = xs := List.take_of_length_le (by omega)
      rw [htk] at HSQ HSM HLL
      have HXL := hidT hxl
      have hmany : Lane.many L = i := by rw [HLL.out, Lane.ents_many, hxl]
      have HMANY := hidT hmany
      clear hxl htk hmany
      have hse : 1 ≤ s ∧ s ≤ 621 := by
        have h1 := Lane.seqOf_le M 1 xs
        have h2 := Lane.seqOf_top M0 1 xs HSM.out
        have h3 := HXL.out
        rw [← HSQ.out] at h1 h2
        omega
      obtain ⟨s0, s1⟩ := hse
      obtain ⟨FA, fc, rfl, hF⟩ := (OwnV.rd XO.out)
      have HF := hidT hF
      have HFA : Hid (∀ bb oo, FA = some ⟨bb, oo, none⟩ → bb ≠ gy0) := hidT (fun bb oo e => by have := (OwnV.blk XO.out bb (by rw [e]; rfl)).2; omega)
      clear hF
      have G_7 := hidT (XG.out)
      have X_3 := hidT ((XL.out.mono fun b hb => hb.1 : IsLane (Off gy0) wr _ L))
      have B_9 := hidT (XB.out)
      have F_0 := hidT ((HF.out : RdI wr FA i fc (firsts M xs i)))
      have hc := many_any _ L wr X_3.out
      rw [HMANY.out] at hc
      have HC := hidT hc
      clear hc
      have v1 : ((i : Int) != (i : Int)) = false := by simp
      obtain ⟨i0, i1, i2, i3, i4⟩ := cells5 G_7.out
      go_wp2_with fail
      with_reducible refine HC.out.mono ?_
      rintro e_ y8 ⟨rfl, hb⟩
      have G_8 := hidT (keepH G_7.out hb)
      have X_4 := hidT (X_3.out.below hb)
      have B_10 := hidT (bthen B_9.out hb)
      have F_1 := hidT (F_0.out.below hb)
      clear G_7 X_3 B_9 F_0
      clear hb HC i0 i1 i2 i3 i4
      obtain ⟨i0, i1, i2, i3, i4⟩ := cells5 G_8.out
      go_wp2_with fail
      clear v1 i0 i1 i2 i3 i4
      clear XG XL XO XB HF
      go_loopw [19] (fun jv wr => ∃ (j : Nat) (L : Lane.Ln) (A9 : Option Addr) (n9 c9 : Nat) (B9 : Option Addr) (m9 d9 : Nat), j ≤ i ∧ jv = .int .i64 j ∧ Hid (L = ⟨Lane.ents M (Lane.seqOf M 1 (xs.take j)) (xs.drop j), none_⟩) ∧ Hid (wr.heap[gy0]? = some (.cells #[.slice A9 n9 c9, .int .i64 L.p.seq, .int .i64 L.p.total, .int .i64 L.p.got, .slice B9 m9 d9] 27 (0, 0))) ∧ Hid (IsLane (Off gy0) wr (.agg #[.slice A9 n9 c9, .int .i64 L.p.seq, .int .i64 L.p.total, .int .i64 L.p.got, .slice B9 m9 d9]) L) ∧ Hid (RdI wr FA i fc (firsts M xs i)) ∧ Hid (Below w.heap.size w wr)) (fun j _ => i - (intOf j).toNat)
      case atStart => exact ⟨0, L, A9, n9, c9, B9, m9, d9, Nat.zero_le _, rfl, HLL, hidT G_8.out, hidT X_4.out, hidT F_1.out, hidT B_10.out⟩
      case round =>
        clear HLL
        obtain ⟨j, L, A9, n9, c9, B9, m9, d9, hj, rfl, HLL, XG, XL, XF, XB⟩ := hrel
        have G_9 := hidT (XG.out)
        have X_5 := hidT (XL.out)
        have B_11 := hidT (XB.out)
        have F_2 := hidT (XF.out)
        have T_0 := hidT (Below.refl wr.heap.size wr)
        by_cases hjn : j < i
        · skip
          obtain ⟨⟨tl, th⟩, hxj⟩ : ∃ x, xs[j]? = some x := ⟨_, List.getElem?_eq_getElem (by rw [HXL.out]; exact hjn)⟩
          obtain ⟨b4, o4, r4, rfl, hr4, hrd4, hcell4⟩ := (HA.out.below B_11.out).at_ hjn
          obtain ⟨RA, rn, rc, rb⟩ := r4
          have hrd5 : Rd wr RA rn rc rb := hrd4
          have hcell5 : ∀ w', Below wr.heap.size wr w' → w'.cell? ⟨b4, o4 + j, none⟩ = some (.slice RA rn rc) := hcell4
          obtain ⟨b5, o5, u5_, rfl, hu5, hc5⟩ := RdV.at_ HH.out (show j < hn by rw [HNE.out]; exact hjn)
          simp only [bos, List.getElem?_map, Option.map_eq_some_iff] at hu5
          obtain ⟨hh, hhx, rfl⟩ := hu5
          have hxe : rb = tl ∧ hh = th := by
            have h1 : xs[j]? = some (rb, hh) := by rw [← HXS.out]; exact zip_at hr4 hhx
            rw [hxj] at h1
            injection h1 with h1
            injection h1 with h1 h2
            exact ⟨h1.symm, h2.symm⟩
          obtain ⟨rfl, rfl⟩ := hxe
          obtain ⟨b6, o6, f6, rfl, hf6, hc6⟩ := RdI.at_ F_2.out hjn
          rw [firsts_at M xs hjn] at hf6
          injection hf6 with hf6
          obtain ⟨rest, hrest⟩ : ∃ rest, xs.drop (j + 1) = rest := ⟨_, rfl⟩
          have hdrop : xs.drop j = (rb, hh) :: rest := by
            rw [← hrest, List.drop_eq_getElem_cons (by rw [HXL.out]; exact hjn)]
            congr 1
            exact (List.getElem?_eq_some_iff.1 hxj).2
          have hq0 : 1 ≤ f6 ∧ f6 ≤ 621 := by
            have h1 := Lane.seqOf_le M 1 (xs.take j)
            have h2 := Lane.seqOf_top M0 1 (xs.take j) (fun x hx => HSM.out x (List.mem_of_mem_take hx))
            have h3 := List.length_take_le j xs
            rw [hf6] at h1 h2
            omega
          obtain ⟨q0, q1⟩ := hq0
          have hnx : Lane.seqOf M 1 (xs.take (j + 1)) = f6 + Lane.sz M (rb, hh) := by rw [take_snoc hxj, Lane.seqOf_snoc, hf6]
          rw [hf6, hdrop] at HLL
          have hrise := Lane.ents_rises (m := M) (s := f6) (low := 0) ((rb, hh) :: rest) q0 (by omega)
          have hsm : SmallL L := by rw [HLL.out]; exact ⟨by
              have h1 := (ents_small (m := M) (s := f6) (ys := (rb, hh) :: rest) (fun x hx => HSM.out x (List.mem_of_mem_drop (by rw [hdrop]; exact hx)))).1
              have h2 : ((rb, hh) :: rest).length ≤ i := by rw [← hdrop, List.length_drop]; have := HXL.out; omega
              show (Lane.ents M f6 ((rb, hh) :: rest)).length ≤ 65536
              omega, fun x hx => (ents_small (m := M) (s := f6) (ys := (rb, hh) :: rest) (fun x hx => HSM.out x (List.mem_of_mem_drop (by rw [hdrop]; exact hx)))).2 x hx, by simp [none_]⟩
          have HSMALL := hidT hsm
          have HDROP := hidT hdrop
          have HRISE := hidT hrise
          have HNX := hidT hnx
          have HREST := hidT hrest
          have HRD5 := hidT hrd5
          have HC5 := hidT hcell5
          have HC6 := hidT hc6
          have HC8 := hidT hc5
          obtain ⟨Y, hY⟩ : ∃ Y : Lane.En, Lane.msg f6 rb = Y := ⟨_, rfl⟩
          have hyq : Y.q = f6 := by rw [← hY]; rfl
          have hyb : Y.b = rb := by rw [← hY]; rfl
          have HYQ := hidT hyq
          have HYB := hidT hyb
          have hc := message_any _ L wr X_5.out hsm
          rw [show Lane.message L = some Y by rw [HLL.out, ← hY]; rfl] at hc
          have HC := hidT hc
          have x1 : (0 : Int) ≤ (j : Int) := by omega
          have x2 : (j : Int) < (i : Int) := by omega
          have x3 : (j : Int) < (hn : Int) := by have := HNE.out; omega
          clear hc hY hyq hyb hsm hrise hnx hrest hrd5 hcell5 hcell4 hrd4 hr4 hhx hxj hdrop hc5 hc6 hf6
          obtain ⟨i0, i1, i2, i3, i4⟩ := cells5 G_9.out
          go_wp2_with fail
          with_reducible refine (HC.out).mono ?_
          rintro e y9 ⟨v, rfl, hl, hb⟩
          have G_10 := hidT (keepH G_9.out hb)
          have X_6 := hidT (X_5.out.below hb)
          have B_12 := hidT (bthen B_11.out hb)
          have F_3 := hidT (F_2.out.below hb)
          have T_1 := hidT (bthen T_0.out hb)
          clear G_9 X_5 B_11 F_2 T_0
          clear hb i0 i1 i2 i3 i4
          obtain ⟨BAy, bny, bcy, LAy, lny, lcy, evy, -, -, -, -⟩ := id hl
          have evy' : v = .agg #[.int .i64 Y.k, .int .i64 Y.q, .slice BAy bny bcy, .slice LAy lny lcy, .bool Y.h] := evy
          clear evy
          subst evy'
          have t1 := alloc_at y9 (.cells #[.int .i64 Y.k, .int .i64 Y.q, .slice BAy bny bcy, .slice LAy lny lcy, .bool Y.h] 33) _ rfl
          have t3 := nkeep y9 (.cells #[.int .i64 Y.k, .int .i64 Y.q, .slice BAy bny bcy, .slice LAy lny lcy, .bool Y.h] 33)
          obtain ⟨Vy9, hVy9⟩ : ∃ W, y9.alloc (.cells #[.int .i64 Y.k, .int .i64 Y.q, .slice BAy bny bcy, .slice LAy lny lcy, .bool Y.h] 33) = W := ⟨_, rfl⟩
          rw [hVy9] at t1 t3
          have HVy9 := hidT hVy9
          have G_11 := hidT (keepH G_10.out t3)
          have X_7 := hidT (X_6.out.below t3)
          have B_13 := hidT (bthen B_12.out t3)
          have F_4 := hidT (F_3.out.below t3)
          have T_2 := hidT (bthen T_1.out t3)
          clear G_10 X_6 B_12 F_3 T_1
          have Iy_0 := hidT (hl.below t3)
          obtain ⟨gy9, hgy9⟩ : ∃ p, y9.heap.size = p := ⟨_, rfl⟩
          rw [hgy9] at t1
          have Ey_0 := hidT (t1)
          clear t1 t3 hVy9
          clear hl
          go_wp2_with fail
          rw [HVy9.out]
          clear hgy9
          have NE := Later.ne Vy9
          obtain ⟨z0, z1, z2, z3, z4⟩ := cells5 G_11.out
          have kx0 := Later.cell z0
          have kx1 := Later.cell z1
          have kx2 := Later.cell z2
          have kx3 := Later.cell z3
          have kx4 := Later.cell z4
          clear z0 z1 z2 z3 z4
          obtain ⟨z0, z1, z2, z3, z4⟩ := cells5 Ey_0.out
          have ke0 := Later.cell z0
          have ke1 := Later.cell z1
          have ke2 := Later.cell z2
          have ke3 := Later.cell z3
          have ke4 := Later.cell z4
          clear z0 z1 z2 z3 z4
          have ks1 : ∀ m : Later Vy9, Sem.run Try.prog (convert 23 9 (.slice BAy bny bcy)) m.w = .ok (.string (str rb)) m.w := fun m => by
            have h : Sem.run Try.prog (convert 23 9 (.slice BAy bny bcy)) m.w = .ok (.string (str Y.b)) m.w := strs (Iy_0.out).parts.1 m.w m.h
            rw [HYB.out] at h
            exact h
          have ks2 := fun m : Later Vy9 => strs (HRD5.out.below T_2.out) m.w m.h
          have kc := fun m : Later Vy9 => HC5.out m.w (bthen T_2.out m.h)
          have kf := fun m : Later Vy9 => ((bthen T_2.out m.h).cell (World.block_lt_of_cell? _ _ HC6.out)).trans HC6.out
          have CD := hidT fun m : Later Vy9 => done_any _ L (s - 1) m.w (X_7.out.below m.h) (by rw [HLL.out]; exact Int.le_refl _) (fun x hx => by rw [HLL.out] at hx; have h1 := Lane.rises_mem HRISE.out.1 hx; have h2 := Lane.seqOf_top M0 f6 ((rb, hh) :: rest) (fun y hy => HSM.out y (List.mem_of_mem_drop (i := j) (by rw [HDROP.out]; exact hy))); have h3 : ((rb, hh) :: rest).length ≤ i := (by rw [← HDROP.out, List.length_drop]; have h5 := HXL.out; omega); have h4 := HRISE.out.2; omega) (fun h => absurd (by rw [HLL.out]; rfl) h) (f6 - 1) (by rw [HLL.out]; rfl)
          have yq := HYQ.out
          have g1 : (f6 != f6) = false := by simp
          have g2 : decide (f6 - 1 < f6 - 1) = false := by simp
          have w3 : wrap64 (s - 1) = s - 1 := IntWalk.wrap64_in _ (by omega)
          have w4 : wrap64 (f6 - 1) = f6 - 1 := IntWalk.wrap64_in _ (by omega)
          refine wp_later (by kernel_rfl) (by kernel_rfl) ?_
          repeat (go_big_quiet_step ((first | (go_at_call 24; with_reducible exact Later.int (CD.out _)) | fail)))
          refine wpQuiet_nil ?_
          intro w9 hw9
          obtain ⟨⟨_, hb9⟩, rfl⟩ := hw9
          have G_12 := hidT (keepH G_11.out hb9)
          have X_8 := hidT (X_7.out.below hb9)
          have B_14 := hidT (bthen B_13.out hb9)
          have F_5 := hidT (F_4.out.below hb9)
          have T_3 := hidT (bthen T_2.out hb9)
          have Iy_1 := hidT (Iy_0.out.below hb9)
          have Ey_1 := hidT (keepH Ey_0.out hb9)
          clear G_11 X_7 B_13 F_4 T_2 Iy_0 Ey_0
          clear hb9 NE CD ks1 ks2 kc kf g1 g2 w3 w4 kx0 ke0 kx1 ke1 kx2 ke2 kx3 ke3 kx4 ke4
          have hc := pop_any _ L Y.q w9 X_8.out HSMALL.out (by rw [HLL.out]; exact HRISE.out.1)
          rw [show Lane.pop L Y.q = ⟨Lane.behind M f6 (rb, hh) rest, none_⟩ by rw [HLL.out, HYQ.out]; exact Lane.stream_pop _ _ _ q0] at hc
          rw [HYQ.out] at hc
          obtain ⟨L2, hL2⟩ : ∃ L' : Lane.Ln, ⟨Lane.behind M f6 (rb, hh) rest, none_⟩ = L' := ⟨_, rfl⟩
          rw [hL2] at hc
          have HL2 := hidT hL2
          have HPC := hidT hc
          have HPOP : Hid (Lane.pop L Y.q = L2) := hidT (by rw [← HL2.out, HLL.out, HYQ.out]; exact Lane.stream_pop _ _ _ q0)
          have HS2 : Hid (SmallL L2) := hidT (by rw [← HPOP.out]; exact HSMALL.out.sub List.filter_sublist)
          have HR2 : Hid (Lane.rises 0 L2.es = true) := hidT (by rw [← HPOP.out]; exact Lane.rises_filter (by rw [HLL.out]; exact HRISE.out.1) _)
          clear hc hL2
          obtain ⟨k0, k1, k2, k3, k4⟩ := cells5 G_12.out
          obtain ⟨f0, f1, f2, f3, f4⟩ := cells5 Ey_1.out
          go_wp2_with fail
          with_reducible refine HPC.out.mono ?_
          rintro e_ yb ⟨v, rfl, hl, hb⟩
          have hly : gy0 < w9.heap.size := blk_lt G_12.out
          have G_13 := hidT (keepH G_12.out hb)
          have X_9 := hidT (X_8.out.below hb)
          have B_15 := hidT (bthen B_14.out hb)
          have F_6 := hidT (F_5.out.below hb)
          have T_4 := hidT (bthen T_3.out hb)
          have Iy_2 := hidT (Iy_1.out.below hb)
          have Ey_2 := hidT (keepH Ey_1.out hb)
          clear G_12 X_8 B_14 F_5 T_3 Iy_1 Ey_1
          clear hb HPC yq k0 k1 k2 k3 k4 f0 f1 f2 f3 f4
          obtain ⟨A2, n2, c2, B2, m2, d2, ev2, hE2, -, -⟩ := id hl
          have ev2' : v = .agg #[.slice A2 n2 c2, .int .i64 L2.p.seq, .int .i64 L2.p.total, .int .i64 L2.p.got, .slice B2 m2 d2] := ev2
          clear ev2
          subst ev2'
          cases hh with
          | false =>
            obtain ⟨oc, hoc⟩ : ∃ oc, Lane.control L2 = oc := ⟨_, rfl⟩
            obtain ⟨t, htk⟩ : ∃ t, oc.getD Lane.En.zero = t := ⟨_, rfl⟩
            obtain ⟨so, hso⟩ : ∃ so, oc.isSome = so := ⟨_, rfl⟩
            have HCO := hidT hoc
            have HTK := hidT htk
            have HSO := hidT hso
            clear hoc htk hso
            have yg := G_13.out
            have HLO := hidT (hl.offHi (g := gy0) hly)
            have HBB := hidT B_15.out
            have HFF := hidT F_6.out
            clear hl hE2 hly
            go_wp2_with (
              refine wpList_stI rfl 27 _ _ rfl gy0 #[.slice A2 n2 c2, .int .i64 L2.p.seq, .int .i64 L2.p.total, .int .i64 L2.p.got, .slice B2 m2 d2] rfl rfl _ _ yg sizeL rfl (by simp [Value.oneCell']) ?_
              intro w8 hg8 hbut hbel
              have XG8 := hidT hg8
              have XL8 := hidT (HLO.out.butOff hbut)
              have XF8 : Hid (RdI w8 _ i fc (firsts M xs i)) := hidT (RdV.keptS HFF.out (fun _ bb oo e => HFA.out bb oo e) (KeptS.but hbut fun bb h => h))
              have XB8 := hidT (hbel _ _ HBB.out HW0.out)
              obtain ⟨k0, k1, k2, k3, k4⟩ := cells5 hg8
              clear hg8 hbut hbel)
            clear yg HLO HBB HFF
            have G_14 := hidT (XG8.out)
            have X_10 := hidT (XL8.out)
            have B_16 := hidT (XB8.out)
            have F_7 := hidT (XF8.out)
            have hc := control_any _ L2 w8 X_10.out HS2.out
            rw [HCO.out] at hc
            unfold GetE at hc
            rw [HTK.out, HSO.out] at hc
            have HC2 := hidT hc
            clear hc
            with_reducible refine HC2.out.mono ?_
            rintro e_ yc ⟨v, rfl, hl, hb⟩
            have G_15 := hidT (keepH G_14.out hb)
            have X_11 := hidT (X_10.out.below hb)
            have B_17 := hidT (bthen B_16.out hb)
            have F_8 := hidT (F_7.out.below hb)
            clear G_14 X_10 B_16 F_7
            clear hb HC2 k0 k1 k2 k3 k4
            obtain ⟨BAt, bnt, bct, LAt, lnt, lct, evt, -, -, -, -⟩ := id hl
            have evt' : v = .agg #[.int .i64 t.k, .int .i64 t.q, .slice BAt bnt bct, .slice LAt lnt lct, .bool t.h] := evt
            clear evt
            subst evt'
            have t1 := alloc_at yc (.cells #[.int .i64 t.k, .int .i64 t.q, .slice BAt bnt bct, .slice LAt lnt lct, .bool t.h] 33) _ rfl
            have t3 := nkeep yc (.cells #[.int .i64 t.k, .int .i64 t.q, .slice BAt bnt bct, .slice LAt lnt lct, .bool t.h] 33)
            obtain ⟨Vyc, hVyc⟩ : ∃ W, yc.alloc (.cells #[.int .i64 t.k, .int .i64 t.q, .slice BAt bnt bct, .slice LAt lnt lct, .bool t.h] 33) = W := ⟨_, rfl⟩
            rw [hVyc] at t1 t3
            have HVyc := hidT hVyc
            have G_16 := hidT (keepH G_15.out t3)
            have X_12 := hidT (X_11.out.below t3)
            have B_18 := hidT (bthen B_17.out t3)
            have F_9 := hidT (F_8.out.below t3)
            clear G_15 X_11 B_17 F_8
            obtain ⟨gyc, hgyc⟩ : ∃ p, yc.heap.size = p := ⟨_, rfl⟩
            rw [hgyc] at t1
            have Et_0 := hidT (t1)
            clear t1 t3 hVyc
            clear hl
            have kh := ((B_18.out).cell (World.block_lt_of_cell? _ _ HC8.out)).trans HC8.out
            rw [← HVyc.out] at kh
            go_wp2
            rw [HVyc.out]
            exact ⟨⟨j + 1, L2, A2, n2, c2, B2, m2, d2, by omega, by go_num, hidT (by rw [← HL2.out, HNX.out, HREST.out]; rfl), hidT G_16.out, hidT X_12.out, hidT F_9.out, hidT B_18.out⟩, by simp [intOf]; omega⟩
          | true =>
            have hco : Lane.control L2 = some (Lane.tok (f6 + manyN rb.length M)) := by rw [← HL2.out]; rfl
            obtain ⟨t, htk⟩ : ∃ t, Lane.tok (f6 + manyN rb.length M) = t := ⟨_, rfl⟩
            rw [htk] at hco
            have HCO := hidT hco
            have HTK := hidT htk
            clear hco htk
            have yg := G_13.out
            have HLO := hidT (hl.offHi (g := gy0) hly)
            have HBB := hidT B_15.out
            have HFF := hidT F_6.out
            clear hl hE2 hly
            go_wp2_with (
              refine wpList_stI rfl 27 _ _ rfl gy0 #[.slice A2 n2 c2, .int .i64 L2.p.seq, .int .i64 L2.p.total, .int .i64 L2.p.got, .slice B2 m2 d2] rfl rfl _ _ yg sizeL rfl (by simp [Value.oneCell']) ?_
              intro w8 hg8 hbut hbel
              have XG8 := hidT hg8
              have XL8 := hidT (HLO.out.butOff hbut)
              have XF8 : Hid (RdI w8 _ i fc (firsts M xs i)) := hidT (RdV.keptS HFF.out (fun _ bb oo e => HFA.out bb oo e) (KeptS.but hbut fun bb h => h))
              have XB8 := hidT (hbel _ _ HBB.out HW0.out)
              obtain ⟨k0, k1, k2, k3, k4⟩ := cells5 hg8
              clear hg8 hbut hbel)
            clear yg HLO HBB HFF
            have G_14 := hidT (XG8.out)
            have X_10 := hidT (XL8.out)
            have B_16 := hidT (XB8.out)
            have F_7 := hidT (XF8.out)
            have hc := control_any _ L2 w8 X_10.out HS2.out
            rw [HCO.out] at hc
            have HC2 := hidT hc
            clear hc
            with_reducible refine HC2.out.mono ?_
            rintro e_ yc ⟨v, rfl, hl, hb⟩
            have G_15 := hidT (keepH G_14.out hb)
            have X_11 := hidT (X_10.out.below hb)
            have B_17 := hidT (bthen B_16.out hb)
            have F_8 := hidT (F_7.out.below hb)
            clear G_14 X_10 B_16 F_7
            clear hb HC2 k0 k1 k2 k3 k4
            obtain ⟨BAt, bnt, bct, LAt, lnt, lct, evt, -, -, -, -⟩ := id hl
            have evt' : v = .agg #[.int .i64 t.k, .int .i64 t.q, .slice BAt bnt bct, .slice LAt lnt lct, .bool t.h] := evt
            clear evt
            subst evt'
            have t1 := alloc_at yc (.cells #[.int .i64 t.k, .int .i64 t.q, .slice BAt bnt bct, .slice LAt lnt lct, .bool t.h] 33) _ rfl
            have t3 := nkeep yc (.cells #[.int .i64 t.k, .int .i64 t.q, .slice BAt bnt bct, .slice LAt lnt lct, .bool t.h] 33)
            obtain ⟨Vyc, hVyc⟩ : ∃ W, yc.alloc (.cells #[.int .i64 t.k, .int .i64 t.q, .slice BAt bnt bct, .slice LAt lnt lct, .bool t.h] 33) = W := ⟨_, rfl⟩
            rw [hVyc] at t1 t3
            have HVyc := hidT hVyc
            have G_16 := hidT (keepH G_15.out t3)
            have X_12 := hidT (X_11.out.below t3)
            have B_18 := hidT (bthen B_17.out t3)
            have F_9 := hidT (F_8.out.below t3)
            clear G_15 X_11 B_17 F_8
            obtain ⟨gyc, hgyc⟩ : ∃ p, yc.heap.size = p := ⟨_, rfl⟩
            rw [hgyc] at t1
            have Et_0 := hidT (t1)
            clear t1 t3 hVyc
            clear hl
            have kh := ((B_18.out).cell (World.block_lt_of_cell? _ _ HC8.out)).trans HC8.out
            have htq : t.q = f6 + manyN rb.length M := by rw [← HTK.out]; rfl
            have HTQ := hidT htq
            clear htq
            have hc := pop_any _ L2 t.q Vyc X_12.out HS2.out HR2.out
            rw [show Lane.pop L2 t.q = ⟨Lane.ents M (f6 + Lane.sz M (rb, true)) rest, none_⟩ by rw [← HL2.out, HTQ.out]; exact Lane.stream_behind _ _ _ q0] at hc
            obtain ⟨L3, hL3⟩ : ∃ L' : Lane.Ln, ⟨Lane.ents M (f6 + Lane.sz M (rb, true)) rest, none_⟩ = L' := ⟨_, rfl⟩
            rw [hL3] at hc
            have HL3 := hidT hL3
            have HPC := hidT hc
            clear hc hL3
            obtain ⟨k0, k1, k2, k3, k4⟩ := cells5 G_16.out
            obtain ⟨f0, f1, f2, f3, f4⟩ := cells5 Et_0.out
            rw [← HVyc.out] at k0 k1 k2 k3 k4 f0 f1 f2 f3 f4 kh
            go_wp2_with fail
            rw [HVyc.out]
            clear hgyc
            with_reducible refine HPC.out.mono ?_
            rintro e_ yd ⟨v, rfl, hl, hb⟩
            have hly : gy0 < Vyc.heap.size := blk_lt G_16.out
            have G_17 := hidT (keepH G_16.out hb)
            have X_13 := hidT (X_12.out.below hb)
            have B_19 := hidT (bthen B_18.out hb)
            have F_10 := hidT (F_9.out.below hb)
            have Et_1 := hidT (keepH Et_0.out hb)
            clear G_16 X_12 B_18 F_9 Et_0
            clear hb HPC k0 k1 k2 k3 k4 f0 f1 f2 f3 f4 kh
            obtain ⟨A3, n3, c3, B3, m3, d3, ev3, hE3, -, -⟩ := id hl
            have ev3' : v = .agg #[.slice A3 n3 c3, .int .i64 L3.p.seq, .int .i64 L3.p.total, .int .i64 L3.p.got, .slice B3 m3 d3] := ev3
            clear ev3
            subst ev3'
            have yg := G_17.out
            have HLO := hidT (hl.offHi (g := gy0) hly)
            have HBB := hidT B_19.out
            have HFF := hidT F_10.out
            clear hl hE3 hly
            go_wp2_with (
              refine wpList_stI rfl 27 _ _ rfl gy0 #[.slice A3 n3 c3, .int .i64 L3.p.seq, .int .i64 L3.p.total, .int .i64 L3.p.got, .slice B3 m3 d3] rfl rfl _ _ yg sizeL rfl (by simp [Value.oneCell']) ?_
              intro w8 hg8 hbut hbel
              have XG8 := hidT hg8
              have XL8 := hidT (HLO.out.butOff hbut)
              have XF8 : Hid (RdI w8 _ i fc (firsts M xs i)) := hidT (RdV.keptS HFF.out (fun _ bb oo e => HFA.out bb oo e) (KeptS.but hbut fun bb h => h))
              have XB8 := hidT (hbel _ _ HBB.out HW0.out)
              obtain ⟨k0, k1, k2, k3, k4⟩ := cells5 hg8
              clear hg8 hbut hbel)
            clear yg HLO HBB HFF
            have G_18 := hidT (XG8.out)
            have X_14 := hidT (XL8.out)
            have B_20 := hidT (XB8.out)
            have F_11 := hidT (XF8.out)
            exact ⟨⟨j + 1, L3, A3, n3, c3, B3, m3, d3, by omega, by go_num, hidT (by rw [← HL3.out, HNX.out, HREST.out]), XG8, XL8, XF8, XB8⟩, by simp [intOf]; omega⟩
        · have hje : j = i := by omega
          subst hje
          have G_14 := hidT (XG.out)
          have X_10 := hidT (XL.out)
          have B_16 := hidT (XB.out)
          have F_7 := hidT (XF.out)
          have T_5 := hidT (Below.refl wr.heap.size wr)
          have hLz : L = ⟨[], none_⟩ := by rw [HLL.out, List.drop_of_length_le (by rw [HXL.out]; exact Nat.le_refl _)]; rfl
          subst hLz
          have hc := first_any _ (⟨[], none_⟩ : Lane.Ln) wr X_10.out ⟨by simp, fun x hx => (by cases hx), by simp [none_]⟩
          have HC := hidT hc
          clear hc
          obtain ⟨i0, i1, i2, i3, i4⟩ := cells5 G_14.out
          go_wp2_with fail
          with_reducible refine HC.out.mono ?_
          rintro e_ ye ⟨v, rfl, hl, hb⟩
          have G_15 := hidT (keepH G_14.out hb)
          have X_11 := hidT (X_10.out.below hb)
          have B_17 := hidT (bthen B_16.out hb)
          have F_8 := hidT (F_7.out.below hb)
          have T_6 := hidT (bthen T_5.out hb)
          clear G_14 X_10 B_16 F_7 T_5
          clear hb HC i0 i1 i2 i3 i4
          obtain ⟨BAu, bnu, bcu, LAu, lnu, lcu, evu, -, -, -, -⟩ := id hl
          have evu' : v = .agg #[.int .i64 Lane.En.zero.k, .int .i64 Lane.En.zero.q, .slice BAu bnu bcu, .slice LAu lnu lcu, .bool Lane.En.zero.h] := evu
          clear evu
          subst evu'
          have t1 := alloc_at ye (.cells #[.int .i64 Lane.En.zero.k, .int .i64 Lane.En.zero.q, .slice BAu bnu bcu, .slice LAu lnu lcu, .bool Lane.En.zero.h] 33) _ rfl
          have t3 := nkeep ye (.cells #[.int .i64 Lane.En.zero.k, .int .i64 Lane.En.zero.q, .slice BAu bnu bcu, .slice LAu lnu lcu, .bool Lane.En.zero.h] 33)
          obtain ⟨Vye, hVye⟩ : ∃ W, ye.alloc (.cells #[.int .i64 Lane.En.zero.k, .int .i64 Lane.En.zero.q, .slice BAu bnu bcu, .slice LAu lnu lcu, .bool Lane.En.zero.h] 33) = W := ⟨_, rfl⟩
          rw [hVye] at t1 t3
          have HVye := hidT hVye
          have G_16 := hidT (keepH G_15.out t3)
          have X_12 := hidT (X_11.out.below t3)
          have B_18 := hidT (bthen B_17.out t3)
          have F_9 := hidT (F_8.out.below t3)
          have T_7 := hidT (bthen T_6.out t3)
          clear G_15 X_11 B_17 F_8 T_6
          obtain ⟨gye, hgye⟩ : ∃ p, ye.heap.size = p := ⟨_, rfl⟩
          rw [hgye] at t1
          have Eu_0 := hidT (t1)
          clear t1 t3 hVye
          clear hl
          have hc := done_any _ (⟨[], none_⟩ : Lane.Ln) (s - 1) Vye X_12.out (Int.le_refl _) (fun x hx => by cases hx) (fun h => absurd rfl h) (s - 1) rfl
          have HC := hidT hc
          clear hc
          have g1 : (s - 1 == s - 1) = true := by simp
          have w3 : wrap64 (s - 1) = s - 1 := IntWalk.wrap64_in _ (by omega)
          obtain ⟨i0, i1, i2, i3, i4⟩ := cells5 G_16.out
          rw [← HVye.out] at i0 i1 i2 i3 i4
          go_wp2_with fail
          rw [HVye.out]
          clear hgye
          with_reducible refine HC.out.mono ?_
          rintro e_ yf ⟨rfl, hb⟩
          have G_17 := hidT (keepH G_16.out hb)
          have X_13 := hidT (X_12.out.below hb)
          have B_19 := hidT (bthen B_18.out hb)
          have F_10 := hidT (F_9.out.below hb)
          have T_8 := hidT (bthen T_7.out hb)
          have Eu_1 := hidT (keepH Eu_0.out hb)
          clear G_16 X_12 B_18 F_9 T_7 Eu_0
          clear hb i0 i1 i2 i3 i4
          go_wp2
          go_ret
          exact ⟨rfl, B_19.out⟩
end Go.Proofs.Ytmlmkkfieeaejaa
