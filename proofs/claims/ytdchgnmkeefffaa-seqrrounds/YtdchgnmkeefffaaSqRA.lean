/- What the document's ReadAll comes to. -/
import Derived.Test.YtdchgnmkeefffaaSqIt
import Derived.Test.YtdchgnmkeefffaaSqReadM
import Derived.Test.YtdchgnmkeefffaaSqOwn
import Derived.Test.YtdchgnmkeefffaaQRd
import Derived.Deep.CutRange
import Derived.Deep.QuietTactic
import Derived.BigQuiet
import Derived.Deep.RegionHeldLaw
import Derived.Deep.RegionLaw
set_option maxRecDepth 100000
namespace Go.Proofs.Ytdchgnmkeefffaa
open Go.RowKit
set_option linter.unusedVariables false

set_option maxHeartbeats 2000000 in
theorem OwnK.put5 {w : World} {base g n cap : Nat} {e : TypeId} {us : List (Array Value)} (h : OwnK 5 w base e (.slice (some ⟨g, 0, none⟩) n cap) n us) {j : Nat} (hj : j < n) {a0 a1 a2 a3 a4 : Value} (h0 : a0.oneCell' = true) (h1 : a1.oneCell' = true) (h2 : a2.oneCell' = true) (h3 : a3.oneCell' = true) (h4 : a4.oneCell' = true) :
    OwnK 5 (((((w.setCell ⟨g, j * 5, none⟩ a0).setCell ⟨g, j * 5 + 1, none⟩ a1).setCell ⟨g, j * 5 + 2, none⟩ a2).setCell ⟨g, j * 5 + 3, none⟩ a3).setCell ⟨g, j * 5 + 4, none⟩ a4) base e (.slice (some ⟨g, 0, none⟩) n cap) n (us.set j #[a0, a1, a2, a3, a4]) ∧
      But g w (((((w.setCell ⟨g, j * 5, none⟩ a0).setCell ⟨g, j * 5 + 1, none⟩ a1).setCell ⟨g, j * 5 + 2, none⟩ a2).setCell ⟨g, j * 5 + 3, none⟩ a3).setCell ⟨g, j * 5 + 4, none⟩ a4) ∧
      (∀ base' w0, Below base' w0 w → base' ≤ g → Below base' w0 (((((w.setCell ⟨g, j * 5, none⟩ a0).setCell ⟨g, j * 5 + 1, none⟩ a1).setCell ⟨g, j * 5 + 2, none⟩ a2).setCell ⟨g, j * 5 + 3, none⟩ a3).setCell ⟨g, j * 5 + 4, none⟩ a4)) := by
  have hlen : us.length = n := h.2.1
  obtain ⟨r, hr⟩ : ∃ r, us[j]? = some r := ⟨_, List.getElem?_eq_getElem (by omega)⟩
  have hr5 := (h.1 r (List.mem_of_getElem? hr)).1
  have hs : ∀ (vs : List (Array Value)) (x : Array Value), vs.length = n → (vs.set j x)[j]? = some x := fun vs x hv => by rw [List.getElem?_set_self (by omega)]
  have k0 := h.cellAt hr (f := 0) (by omega) a0 h0
  have k1 := k0.cellAt (hs _ _ hlen) (f := 1) (by omega) a1 h1
  have k2 := k1.cellAt (hs _ _ (by rw [List.length_set]; exact hlen)) (f := 2) (by omega) a2 h2
  have k3 := k2.cellAt (hs _ _ (by rw [List.length_set, List.length_set]; exact hlen)) (f := 3) (by omega) a3 h3
  have k4 := k3.cellAt (hs _ _ (by rw [List.length_set, List.length_set, List.length_set]; exact hlen)) (f := 4) (by omega) a4 h4
  simp only [List.set_set] at k4
  have hre : ((((r.setIfInBounds 0 a0).setIfInBounds 1 a1).setIfInBounds 2 a2).setIfInBounds 3 a3).setIfInBounds 4 a4 = #[a0, a1, a2, a3, a4] := by
    obtain ⟨l⟩ := r
    match l, hr5 with
    | [_, _, _, _, _], _ => simp [Array.setIfInBounds]
  rw [hre] at k4
  refine ⟨k4, ((((But.setCell w g (j * 5) a0).trans (But.setCell _ g (j * 5 + 1) a1)).trans (But.setCell _ g (j * 5 + 2) a2)).trans (But.setCell _ g (j * 5 + 3) a3)).trans (But.setCell _ g (j * 5 + 4) a4), fun base' w0 hb hg => ?_⟩
  exact ((((hb.setCell (p := ⟨g, j * 5, none⟩) hg a0).setCell (p := ⟨g, j * 5 + 1, none⟩) hg a1).setCell (p := ⟨g, j * 5 + 2, none⟩) hg a2).setCell (p := ⟨g, j * 5 + 3, none⟩) hg a3).setCell (p := ⟨g, j * 5 + 4, none⟩) hg a4
/-- Lanes in a row of the call's own. -/
def ReadJ (g cap n base : Nat) (w : World) (ls : List Lane.Ln) : Prop := ∃ rs, OwnK 5 w base 51 (.slice (some ⟨g, 0, none⟩) n cap) n rs ∧ AreL (fun b => b ≠ g) w rs ls
theorem ReadJ.rdl {g cap n base : Nat} {w : World} {ls : List Lane.Ln} (h : ReadJ g cap n base w ls) : RdL (fun _ => True) w (some ⟨g, 0, none⟩) n cap ls := by
  obtain ⟨rs, h1, h2⟩ := h
  exact ⟨rs, h1.same, h2.mono fun _ _ => trivial, Within.any _ _⟩
theorem ReadJ.at_ {g cap n base : Nat} {w : World} {ls : List Lane.Ln} (h : ReadJ g cap n base w ls) {i : Nat} (hi : i < n) : ∃ l EA en ec B m d, ls[i]? = some l ∧ IsLane (fun b => b ≠ g) w (.agg #[.slice EA en ec, .int .i64 (Lane.Ln.p l).seq, .int .i64 l.p.total, .int .i64 l.p.got, .slice B m d]) l ∧
      ∀ w', Below w.heap.size w w' → w'.cell? ⟨g, i * 5, none⟩ = some (.slice EA en ec) ∧ w'.cell? ⟨g, i * 5 + 1, none⟩ = some (.int .i64 l.p.seq) ∧ w'.cell? ⟨g, i * 5 + 2, none⟩ = some (.int .i64 l.p.total) ∧
        w'.cell? ⟨g, i * 5 + 3, none⟩ = some (.int .i64 l.p.got) ∧ w'.cell? ⟨g, i * 5 + 4, none⟩ = some (.slice B m d) := by
  obtain ⟨rs, h1, h2⟩ := h
  obtain ⟨b, o, r, hA, hr, hsz, hc⟩ := h1.same.at_ hi
  injection hA with hA
  injection hA with e1 e2
  subst e1 e2
  have hl : rs.length = n := h1.2.1
  obtain ⟨l, hx⟩ : ∃ l, ls[i]? = some l := ⟨_, List.getElem?_eq_getElem (by have := h2.1; omega)⟩
  have hi2 := h2.2 i r l hr hx
  obtain ⟨EA, en, ec, B, m, d, hv, _, _, _⟩ := id hi2
  injection hv with hv
  subst hv
  refine ⟨l, EA, en, ec, B, m, d, hx, hi2, fun w' hb => ?_⟩
  simp only [Nat.zero_add] at hc
  have kk : ∀ j u, (#[Value.slice EA en ec, .int .i64 l.p.seq, .int .i64 l.p.total, .int .i64 l.p.got, .slice B m d] : Array Value)[j]? = some u → w'.cell? ⟨g, i * 5 + j, none⟩ = some u := fun j u hu => (hb.cell (World.block_lt_of_cell? w _ (hc j u hu))).trans (hc j u hu)
  exact ⟨kk 0 _ rfl, kk 1 _ rfl, kk 2 _ rfl, kk 3 _ rfl, kk 4 _ rfl⟩
/-- Lanes, all in memory. -/
def LanesAre (w : World) (n : Nat) (ls : List Lane.Ln) (e : Ending) (w' : World) : Prop := ∃ A c, e = .returned (.slice A n c) ∧ RdL (fun _ => True) w' A n c ls ∧ Below w.heap.size w w'

set_option maxHeartbeats 8000000 in
theorem readAll_any {S : Nat → Prop} (A : Option Addr) (n c : Nat) (ls : List Lane.Ln) (WA : Option Addr) (m wc : Nat) (who : List Int) (IA : Option Addr) (ic : Nat) (items : List Item.It) (w : World) (h : RdL S w A n c ls) (hw : RdI w WA m wc who) (hi : RdX (fun _ => True) w IA m ic items)
    (hin : ∀ x ∈ who, 0 ≤ x ∧ x < (n : Int)) (hsm : ∀ k, k ≤ m → SmallLs (Seqr.readAll ls ((who.zip items).take k))) (hit : ∀ x ∈ items, x.b.length ≤ 65536 ∧ x.l.length ≤ 65536) (hn : n ≤ 64) (hn0 : 0 < n) :
    Calls Try.prog 20 #[.slice A n c, .slice WA m wc, .slice IA m ic] w (LanesAre w n (Seqr.readAll ls (who.zip items))) := by
  have hmle := hi.le
  have HLEN := hidT h.size
  have HML := hidT hi.size
  have HWL := hidT (RdI.size hw)
  have HH := hidT (h.mono (T := fun _ => True) fun _ _ => trivial)
  have HWH := hidT hw
  have HI := hidT hi
  have HIN := hidT hin
  have HSM := hidT hsm
  have HIT := hidT hit
  obtain ⟨rs, hrk, hra, _⟩ := id h
  have n0 := nkeep w (.cells #[] 51)
  have HRK := hidT (RdK.below hrk n0)
  have HRA := hidT hra
  have HO0 := hidT (OwnK.made 5 w w.heap.size (Nat.le_refl _) 51 w.heap.size rfl)
  have hsz0 : w.heap.size ≤ (w.alloc (.cells #[] 51)).heap.size := by rw [size_alloc]; omega
  have HN0 := hidT n0
  clear h hw hi hin hsm hit hrk hra n0
  go_enter Try.func20, Try.ntmps20
  go_wp2_with (
    at_builtin
    refine wpList_appK 5 (by omega) rfl (.tmp 11) (.tmp 12) 24 rfl w.heap.size 51 _ 72 infoL rfl (by omega) Try.underlying24 (.slice (some ⟨w.heap.size, 0, none⟩) 0 0) 0 [] rfl HO0.out A n c rs rfl HRK.out (by omega) hsz0 ?_
    intro v4 w4 ho4 hb4 hg4
    rw [Nat.zero_add, List.nil_append] at ho4
    obtain ⟨A4, c4, rfl, hrd4⟩ := OwnK.rd ho4
    have HO4 := hidT ho4
    have HB4 := hidT (HN0.out.trans hb4)
    clear ho4 hb4 hg4 hrd4 hsz0)
  obtain ⟨g, rfl, hg1, hg2⟩ := OwnK.form HO4.out hn0
  have HG1 := hidT hg1
  have HJ0 : Hid (ReadJ g c4 n w.heap.size w4 (Seqr.readAll ls ((who.zip items).take 0))) := hidT ⟨rs, HO4.out, (HRA.out.ltS.keptS (KeptS.low (HB4.out) fun b hb => hb.2)).mono fun b hb => by have := hb.2; omega⟩
  clear hg1 hg2
  go_loopw [8] (fun i wr => ∃ k : Nat, k ≤ m ∧ i = .int .i64 k ∧ Hid (ReadJ g c4 n w.heap.size wr (Seqr.readAll ls ((who.zip items).take k))) ∧ Hid (Below w.heap.size w wr)) (fun i _ => m - (intOf i).toNat)
  case atStart => exact ⟨0, Nat.zero_le _, rfl, HJ0, HB4⟩
  case round =>
    obtain ⟨k, hk, rfl, HJ, HB⟩ := hrel
    obtain ⟨X, rfl⟩ : ∃ X, X = wr := ⟨_, rfl⟩
    by_cases hkm : k < m
    · obtain ⟨bw, ow, x, hWA, hx, hcw⟩ := RdI.at_ (RdV.below HWH.out HB.out) hkm
      subst hWA
      obtain ⟨x0, x1⟩ := HIN.out x (List.mem_of_getElem? hx)
      obtain ⟨pn, rfl⟩ : ∃ pn : Nat, x = (pn : Int) := ⟨x.toNat, by omega⟩
      have hpn : pn < n := by omega
      obtain ⟨bi, oi, it, LA, ln, lc, BA, bn, bc, rfl, hit, hii, hci⟩ := (HI.out.below HB.out).told hkm
      obtain ⟨l, EA, en, ec, B, m', d, hl, hil, hcl⟩ := HJ.out.at_ hpn
      have hlane : Seqr.laneAt (Seqr.readAll ls ((who.zip items).take k)) pn = l := Seqr.laneAt_of hl
      have HSUC := hidT (Seqr.readAll_succ ls (Seqr.zip_some hx hit))
      have hsml : SmallL l := by rw [← hlane]; exact (HSM.out k hk).at_ _
      have hsz := HIT.out it (List.mem_of_getElem? hit)
      have HC : Hid (∀ w', Below X.heap.size X w' → Calls Try.prog 39 #[.agg #[.slice EA en ec, .int .i64 (Lane.Ln.p l).seq, .int .i64 l.p.total, .int .i64 l.p.got, .slice B m' d], .agg #[.int .i64 it.k, .int .i64 it.q, .int .i64 it.e, .int .i64 it.i, .int .i64 it.t, .int .i64 it.c, .slice LA ln lc, .slice BA bn bc]] w' (QReadIs (fun b => b ≠ g ∧ b < X.heap.size) w' (Lane.read l it))) :=
        hidT fun w' hb => qread_any _ _ l it w' (hil.ltB.below hb) (hii.item.below hb) hsml hsz.1 hsz.2
      have D1 := nkeep X (.cells lz 51)
      have kw := fun w' (hb : Below X.heap.size X w') => cellC hb hcw
      have c0 := fun w' (hb : Below X.heap.size X w') => (hcl w' hb).1
      have c1 := fun w' (hb : Below X.heap.size X w') => (hcl w' hb).2.1
      have c2 := fun w' (hb : Below X.heap.size X w') => (hcl w' hb).2.2.1
      have c3 := fun w' (hb : Below X.heap.size X w') => (hcl w' hb).2.2.2.1
      have c4' := fun w' (hb : Below X.heap.size X w') => (hcl w' hb).2.2.2.2
      have i0 := fun w' (hb : Below X.heap.size X w') => (hci w' hb).1
      have i1 := fun w' (hb : Below X.heap.size X w') => (hci w' hb).2.1
      have i2 := fun w' (hb : Below X.heap.size X w') => (hci w' hb).2.2.1
      have i3 := fun w' (hb : Below X.heap.size X w') => (hci w' hb).2.2.2.1
      have i4 := fun w' (hb : Below X.heap.size X w') => (hci w' hb).2.2.2.2.1
      have i5 := fun w' (hb : Below X.heap.size X w') => (hci w' hb).2.2.2.2.2.1
      have i6 := fun w' (hb : Below X.heap.size X w') => (hci w' hb).2.2.2.2.2.2.1
      have i7 := fun w' (hb : Below X.heap.size X w') => (hci w' hb).2.2.2.2.2.2.2
      obtain ⟨r2, hr2⟩ : ∃ r2, Lane.read l it = r2 := ⟨_, rfl⟩
      obtain ⟨l2, code⟩ := r2
      rw [hr2] at HC
      have HR2 := hidT hr2
      have HLANE := hidT hlane
      have y1 : (0 : Int) ≤ (k : Int) := by omega
      have y2 : (k : Int) < (m : Int) := by omega
      have y3 : (0 : Int) ≤ (pn : Int) := by omega
      have y4 : (pn : Int) < (n : Int) := by omega
      have q1 : decide (0 ≤ (pn : Int)) = true := by simp
      have q2 : decide ((pn : Int) < (n : Int)) = true := by simpa using hpn
      have q2' : decide (pn < n) = true := by simpa using hpn
      have HPN := hidT hpn
      have hgX : g < X.heap.size := (World.ownsRow.lt HJ.out.choose_spec.1.2.2 g rfl).2
      have HGX := hidT hgX
      have s0 := kw X (Below.refl _ _)
      clear hl hil hcl hlane hsml hsz hit hii hci hr2 hx hcw x0 x1 hpn hgX
      go_upto_region 6 with fail
      clear s0
      go_cut [9] from 40 to 54 (fun x9 wc => ∃ pe EA2 en2 ec2 B2 m2 d2, x9 = .pointer (some ⟨pe, 0, none⟩) ∧ wc.heap[pe]? = some (.cells #[.slice EA2 en2 ec2, .int .i64 l2.p.seq, .int .i64 l2.p.total, .int .i64 l2.p.got, .slice B2 m2 d2] 51 (0, 0)) ∧ IsLane (fun b => b ≠ g) wc (.agg #[.slice EA2 en2 ec2, .int .i64 l2.p.seq, .int .i64 l2.p.total, .int .i64 l2.p.got, .slice B2 m2 d2]) l2 ∧ Below X.heap.size X wc)
      case first =>
        go_region_held_law (fun w' => Below X.heap.size X w')
          (first | exact (Below.refl _ _).drew | exact hbF | exact hb4 | exact D1.drew | exact D1 | exact bthen hb4 (nkeep _ _))
          (first
            | (go_at_call 39; ((with_reducible refine (HC.out _ (Below.refl _ _).drew).mono ?_); rintro e4 w4 ⟨v4, rfl, hi4, hb4'⟩; have hb4 : Below X.heap.size X w4 := undrew hb4'; obtain ⟨r4, rfl, hs4, ha4⟩ := hi4.cells; obtain ⟨wx, hrunx, hgx, hbutx, hbelx⟩ := st8 (alloc_at w4 (.cells lz 51) _ rfl) r4 (by rw [hs4]; rfl) ha4; have hbF : Below X.heap.size X wx := hbelx.out _ _ (bthen hb4 (nkeep _ _)) hb4.size))
            | (go_at_call 39; ((with_reducible refine (HC.out _ D1.drew).mono ?_); rintro e4 w4 ⟨v4, rfl, hi4, hb4'⟩; have hb4 : Below X.heap.size X w4 := bthen D1 (undrew hb4'); have y4 := keepH (alloc_at X (.cells lz 51) _ rfl) (undrew hb4'); obtain ⟨r4, rfl, hs4, ha4⟩ := hi4.cells; obtain ⟨wx, hrunx, hgx, hbutx, hbelx⟩ := st8 y4 r4 (by rw [hs4]; rfl) ha4; have hbF : Below X.heap.size X wx := hbelx.out _ _ hb4 (Nat.le_refl _)))
            | fail)
        · have hbx : Below w4.heap.size w4 wx := hbelx.out _ _ (nkeep _ _) (Nat.le_refl _)
          have hfin : IsLane (fun b => b ≠ g) wx (.agg r4) l2 := (hi4.below hbx).mono fun b hb => by
            have := HGX.out
            rcases hb with hb | hb
            · exact hb.1
            · have hb : X.heap.size ≤ b := hb
              omega
          obtain ⟨EA2, en2, ec2, B2, m2, d2, ev, _, _, _⟩ := id hfin
          injection ev with ev
          subst ev
          have HGXX := hgx.out
          have HF := hidT hfin
          clear hbx hrunx hgx hbutx hbelx hi4 hfin
          go_wp2_with fail
          go_meet
          exact ⟨_, _, _, _, _, _, _, rfl, HGXX, HF.out, hbF⟩
        · have hfin : IsLane (fun b => b ≠ g) wx (.agg r4) l2 := ((hi4.mono (T := fun b => b ≠ g ∧ b ≠ X.heap.size) fun b hb => by
            have := HGX.out
            rcases hb with hb | hb
            · exact ⟨hb.1, by have := hb.2; omega⟩
            · have hb : (X.alloc (.cells lz 51)).heap.size ≤ b := hb
              rw [size_alloc] at hb
              exact ⟨by omega, by omega⟩).keptS (KeptS.but hbutx.out fun b hb => hb.2)).mono fun b hb => hb.1
          obtain ⟨EA2, en2, ec2, B2, m2, d2, ev, _, _, _⟩ := id hfin
          injection ev with ev
          subst ev
          have HGXX := hgx.out
          have HF := hidT hfin
          clear hrunx hgx hbutx hbelx hi4 hfin
          go_wp2_with fail
          go_meet
          exact ⟨_, _, _, _, _, _, _, rfl, HGXX, HF.out, hbF⟩
      case rest =>
        obtain ⟨pe, EA2, en2, ec2, B2, m2, d2, rfl, hpe, hf2, hbc⟩ := hcut
        obtain ⟨Y, rfl⟩ : ∃ Y, Y = wc := ⟨_, rfl⟩
        obtain ⟨rsk, ho, ha⟩ := HJ.out
        have hoY := ho.later hbc
        have haY := ha.below hbc
        have HOY := hidT hoY
        have HAY := hidT haY
        have HF2 := hidT hf2
        have HBY := hidT (bthen HB.out hbc)
        obtain ⟨z0, z1, z2, z3, z4⟩ := cells5 hpe
        have s0 := kw Y hbc
        have o0 := c0 Y hbc
        have o1 := c1 Y hbc
        have o2 := c2 Y hbc
        have o3 := c3 Y hbc
        have o4 := c4' Y hbc
        have f0 := HOY.out.frozen (pn * 5)
        have f1 := HOY.out.frozen (pn * 5 + 1)
        have f2 := HOY.out.frozen (pn * 5 + 2)
        have f3 := HOY.out.frozen (pn * 5 + 3)
        have f4 := HOY.out.frozen (pn * 5 + 4)
        obtain ⟨hput, hbut, hbel⟩ := OwnK.put5 HOY.out HPN.out (a0 := .slice EA2 en2 ec2) (a1 := .int .i64 l2.p.seq) (a2 := .int .i64 l2.p.total) (a3 := .int .i64 l2.p.got) (a4 := .slice B2 m2 d2) rfl rfl rfl rfl rfl
        have HJN := hidT hput
        have HBUT := hidT hbut
        have HBEL := hidT hbel
        clear hoY haY ho ha hpe hf2 hbc hput hbut hbel kw c0 c1 c2 c3 c4' i0 i1 i2 i3 i4 i5 i6 i7 D1
        go_wp2_with fail
        go_region
        generalize (((((Y.setCell ⟨g, pn * 5, none⟩ (.slice EA2 en2 ec2)).setCell ⟨g, pn * 5 + 1, none⟩ (.int .i64 l2.p.seq)).setCell ⟨g, pn * 5 + 2, none⟩ (.int .i64 l2.p.total)).setCell ⟨g, pn * 5 + 3, none⟩ (.int .i64 l2.p.got)).setCell ⟨g, pn * 5 + 4, none⟩ (.slice B2 m2 d2)) = Z at HJN HBUT HBEL ⊢
        have hkk := KeptS.but (S := fun b => b ≠ g) HBUT.out fun b hb => hb
        have hjz : ReadJ g c4 n w.heap.size Z (Seqr.readAll ls ((who.zip items).take (k + 1))) := ⟨_, HJN.out, by
          rw [HSUC.out]
          unfold Seqr.readOne
          simp only [Int.toNat_natCast]
          rw [HLANE.out, HR2.out]
          exact (HAY.out.keptS hkk).set pn (HF2.out.keptS hkk)⟩
        have HZ := hidT hjz
        have HBZ : Hid (Below w.heap.size w Z) := hidT (HBEL.out _ _ HBY.out HG1.out)
        have HBD : Hid (Below Z.heap.size Z Z.drew) := hidT (Below.refl _ _).drew
        have HZD : Hid (ReadJ g c4 n w.heap.size Z.drew (Seqr.readAll ls ((who.zip items).take (k + 1)))) := hidT (by
          obtain ⟨rz, hz1, hz2⟩ := HZ.out
          exact ⟨rz, hz1.later HBD.out, hz2.below HBD.out⟩)
        have HBZD : Hid (Below w.heap.size w Z.drew) := hidT HBZ.out.drew
        clear z0 z1 z2 z3 z4 s0 o0 o1 o2 o3 o4 f0 f1 f2 f3 f4 hjz hkk
        go_wp2
        exact ⟨⟨k + 1, by omega, by go_num, HZD, HBZD⟩, by simp [intOf]; omega⟩
    · obtain rfl : m = k := by omega
      have hall : (who.zip items).take m = who.zip items := List.take_of_length_le (by rw [List.length_zip, HWL.out, HML.out]; omega)
      have HJF := HJ.out.rdl
      rw [hall] at HJF
      go_wp2
      go_ret
      exact ⟨_, _, rfl, HJF, HB.out⟩
end Go.Proofs.Ytdchgnmkeefffaa
