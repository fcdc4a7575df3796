/- What a walk over its own lanes comes to. -/
import Derived.Test.YtdchgnmkeefffaaSqApp
import Derived.Test.YtdchgnmkeefffaaSq3
set_option maxRecDepth 100000
namespace Go.Proofs.Ytdchgnmkeefffaa
open Go.RowKit
set_option linter.unusedVariables false

/-- What a walk comes to in memory. -/
def WalkIs (q g n cap base : Nat) (S : Nat → Prop) (w : World) (t : Seqr.Tn) (ls : List Lane.Ln) (e : Ending) (w' : World) : Prop :=
  ∃ A m c rs, e = .returned (.slice A m c) ∧ w'.heap[q]? = some (.cells (tc (Seqr.walk t ls).1) 23 (0, 0)) ∧ OwnK 5 w' base 51 (.slice (some ⟨g, 0, none⟩) n cap) n rs ∧ AreL S w' rs (Seqr.walk t ls).2.1 ∧
    RdD (Hi w.heap.size) w' A m c (Seqr.walk t ls).2.2 ∧ Kept2 g q w w'
/-- What holds ahead of each round. -/
def WalkR (p0 p1 q g n cap base : Nat) (S : Nat → Prop) (w : World) (t0 : Seqr.Tn) (ls0 : List Lane.Ln) (k : Nat) (x6 x7 x8 : Value) (wr : World) : Prop :=
  ∃ (A : Option Addr) (m c : Nat) (rows : List (Array Value)) (pd : Nat) (o : Option Seqr.Dv) (t : Seqr.Tn) (ls : List Lane.Ln) (d : List Seqr.Dv) (BA : Option Addr) (bn bc : Nat),
    x6 = .slice A m c ∧ x7 = .pointer (some ⟨pd, 0, none⟩) ∧ x8 = .bool o.isSome ∧ OwnK 2 wr (w.heap.size + 2) 55 (.slice A m c) m rows ∧ (Value.slice A m c).ownBlock ≠ some pd ∧ AreD (fun b => w.heap.size ≤ b ∧ (Value.slice A m c).ownBlock ≠ some b) wr rows d ∧ Seqr.Goes t0 ls0 (d ++ o.toList) t ls ∧ (o = none → Seqr.step t ls = none) ∧
      SqState p0 p1 q g n cap base (fun b => S b ∧ (Value.slice A m c).ownBlock ≠ some b) wr t ls ∧ Kept2 g q w wr ∧ wr.heap[pd]? = some (.cells #[.int .i64 (o.getD Seqr.Dv.zero).src, .slice BA bn bc] 55 (0, 0)) ∧ Rd wr BA bn bc (o.getD Seqr.Dv.zero).b ∧ Within (fun b => w.heap.size ≤ b ∧ (Value.slice A m c).ownBlock ≠ some b) BA bn ∧
      2 * Seqr.mu ls + (if o.isSome = true then 1 else 0) = k ∧ w.heap.size + 2 ≤ wr.heap.size

set_option maxHeartbeats 16000000 in
theorem sqWalk_any (q g n cap base : Nat) (S : Nat → Prop) (w : World) (t0 : Seqr.Tn) (ls0 : List Lane.Ln) (rs0 : List (Array Value)) (hq : w.heap[q]? = some (.cells (tc t0) 23 (0, 0))) (ho : OwnK 5 w base 51 (.slice (some ⟨g, 0, none⟩) n cap) n rs0) (ha : AreL S w rs0 ls0)
    (hok : Seqr.Ok t0 ls0) (hsm : SmallLs ls0) (hn : n ≤ 64) (hu0 : 0 ≤ t0.used) (hu1 : t0.used ≤ 2305843009213693952) (hmu : Seqr.mu ls0 ≤ 1000000) (hSg : ¬ S g) (hSq : ¬ S q) (hSn : ∀ b, w.heap.size ≤ b → S b) (hqg : q ≠ g) :
    Calls Try.prog 29 #[.pointer (some ⟨q, 0, none⟩), .slice (some ⟨g, 0, none⟩) n cap] w (WalkIs q g n cap base S w t0 ls0) := by
  have hqlt := blk_lt hq
  have hglt : g < w.heap.size := (World.ownsRow.lt ho.2.2 g rfl).2
  obtain ⟨t1, t2, t3⟩ := two_alloc w (.cells #[.pointer (some ⟨q, 0, none⟩)] 67) (.cells #[.slice (some ⟨g, 0, none⟩) n cap] 24)
  obtain ⟨W, hW⟩ : ∃ W, (w.alloc (.cells #[.pointer (some ⟨q, 0, none⟩)] 67)).alloc (.cells #[.slice (some ⟨g, 0, none⟩) n cap] 24) = W := ⟨_, rfl⟩
  have HSW : Hid (W.heap.size = w.heap.size + 2) := by rw [← hW, size_alloc, size_alloc]; exact hidT rfl
  rw [hW] at t1 t2 t3
  have HW := hidT hW
  obtain ⟨p0, hp0⟩ : ∃ p, w.heap.size = p := ⟨_, rfl⟩
  have HP0 := hidT hp0
  rw [hp0] at t1 t2
  have HSTW : Hid (SqState p0 (p0 + 1) q g n cap base S W t0 ls0) := hidT ⟨cell_at t1 0 rfl, cell_at t2 0 rfl, keepH hq t3, rs0, ho.later t3, ha.below t3⟩
  have hnext := fun (S' : Nat → Prop) (w' : World) (t : Seqr.Tn) (ls : List Lane.Ln) (d : List Seqr.Dv) (hg : Seqr.Goes t0 ls0 d t ls) (hst : SqState p0 (p0 + 1) q g n cap base S' w' t ls) (hsz : W.heap.size ≤ w'.heap.size) (h1 : ¬ S' g) (h2 : ¬ S' q) (h3 : ∀ b, w'.heap.size ≤ b → S' b) =>
    sqNext_any p0 (p0 + 1) q g n cap base S' w' t ls hst (hg.ok hok).1 (goes_small hg hsm) hn (hg.used hok hu0).1 (by have := (hg.used hok hu0).2; omega) h1 h2 h3 (by omega) (by omega) (by omega) (by omega) hqg (by have := HSW.out; omega)
  have HNEXT := hidT hnext
  have HN0 : Hid (NextIs p0 (p0 + 1) q g n cap base S W t0 ls0 = NextIs p0 (p0 + 1) q g n cap base S W t0 ls0) := hidT rfl
  have hc0 := hnext S W t0 ls0 [] (.refl _ _) HSTW.out (Nat.le_refl _) hSg hSq (fun b hb => hSn b (by have := HSW.out; omega))
  have HC0 := hidT hc0
  have HOK := hidT hok
  have HSG := hidT hSg
  have HSQ := hidT hSq
  have HSN := hidT hSn
  have HMU := hidT hmu
  have HT3 := hidT t3
  have HQL := hidT hqlt
  have HGL := hidT hglt
  clear hnext hc0 t1 t2 t3 hW hq ho ha hok hsm hu0 hu1 hmu hSg hSq hSn hqlt hglt
  go_enter Try.func29, Try.ntmps29
  go_wp2_with fail
  rw [HW.out]
  clear hp0
  with_reducible refine HC0.out.mono ?_
  rintro e1 w1 ⟨o1, v1, tt1, l1, rfl, hg1, hs1, hst1, hk1, hd1⟩
  obtain ⟨BA1, bn1, bc1, rfl, hrd1, hwd1⟩ := id hd1
  have hw1 := hk1.1.size
  have y1 := alloc_at w1 (.cells #[.int .i64 (o1.getD Seqr.Dv.zero).src, .slice BA1 bn1 bc1] 55) _ rfl
  have n1 := nkeep w1 (.cells #[.int .i64 (o1.getD Seqr.Dv.zero).src, .slice BA1 bn1 bc1] 55)
  have HR1 : Hid (WalkR p0 (p0 + 1) q g n cap base S w t0 ls0 (2 * Seqr.mu l1 + (if o1.isSome = true then 1 else 0)) (.slice none 0 0) (.pointer (some ⟨w1.heap.size, 0, none⟩)) (.bool o1.isSome) (w1.alloc (.cells #[.int .i64 (o1.getD Seqr.Dv.zero).src, .slice BA1 bn1 bc1] 55))) :=
    hidT ⟨none, 0, 0, [], w1.heap.size, o1, tt1, l1, [], BA1, bn1, bc1, rfl, rfl, rfl, OwnK.nil_ _ _ _ _, (fun e => by cases e), AreD.nil_ _ _, hg1, hs1, (hst1.below n1).mono fun b hb => ⟨hb, fun e => by cases e⟩, ((Kept2.of HT3.out).trans hk1).trans (Kept2.of n1), y1, hrd1.below n1, hwd1.mono fun b hb => ⟨by have h1 : W.heap.size ≤ b := hb; have := HSW.out; omega, fun e => by cases e⟩, rfl, by rw [size_alloc]; have := HSW.out; omega⟩
  clear y1 n1 hw1 hg1 hs1 hst1 hk1 hd1 hrd1 hwd1
  go_wp2_with fail
  go_loopw [6, 7, 8] (fun x6 x7 x8 wr => ∃ k, WalkR p0 (p0 + 1) q g n cap base S w t0 ls0 k x6 x7 x8 wr) (fun x6 x7 x8 wr => least fun k => WalkR p0 (p0 + 1) q g n cap base S w t0 ls0 k x6 x7 x8 wr)
  case atStart => exact ⟨_, HR1.out⟩
  case round =>
    obtain ⟨k0, hrel0⟩ := hrel
    have hrel := least_is (R := fun k => WalkR p0 (p0 + 1) q g n cap base S w t0 ls0 k u6 u7 u8 wr) ⟨k0, hrel0⟩
    clear hrel0
    obtain ⟨lk, HLK⟩ : ∃ lk, Hid (least (fun k => WalkR p0 (p0 + 1) q g n cap base S w t0 ls0 k u6 u7 u8 wr) = lk) := ⟨_, rfl⟩
    rw [HLK.out] at hrel
    obtain ⟨A, m, c, rows, pd, o, t, ls, d, BA, bn, bc, e6, e7, e8, hro, hpo, hra, hgo, hse, hst, hkp, hpd, hrb, hwb, hkk, hsz⟩ := hrel
    subst e6 e7 e8
    have HRO := hidT hro
    have HPO := hidT hpo
    have HRA := hidT hra
    have HGO := hidT hgo
    have HSE := hidT hse
    have HST := hidT hst
    have HKP := hidT hkp
    have HPD := hidT hpd
    have HRB := hidT hrb
    have HWB := hidT hwb
    have HKK := hidT hkk
    have HSZ := hidT hsz
    have hml : m ≤ 1000000 := by
      have h1 := (hgo.mu HOK.out)
      have h2 := hra.1
      have h3 := hro.2.1
      have h4 := HMU.out
      rw [List.length_append] at h1
      omega
    clear hro hpo hra hgo hse hst hkp hpd hrb hwb hkk hsz
    cases o with
    | none =>
      go_wp2
      go_ret
      have e := Seqr.walk_is HOK.out (by have := HGO.out; rwa [show d ++ (none : Option Seqr.Dv).toList = d from List.append_nil d] at this) (HSE.out (by first | rfl | trivial))
      obtain ⟨s0, s1, s2, rs, s3, s4⟩ := HST.out
      refine ⟨A, m, c, rs, rfl, ?_, s3, ?_, ?_, HKP.out⟩
      · rw [e]; exact s2
      · rw [e]; exact s4.mono fun b hb => hb.1
      · rw [e]
        exact ⟨rows, HRO.out.same, HRA.out.mono fun b hb => hb.1, Within.of fun b o' e' => by have := (HRO.out.addr b o' e').1; omega⟩
    | some x =>
      obtain ⟨c0, c1⟩ := cells2 HPD.out
      have nL := nkeep wr (.cells #[.int .i64 x.src, .slice BA bn bc] 55)
      have HLIT := hidT (RdK.lit (k := 2) wr 55 (0, 0) #[.int .i64 x.src, .slice BA bn bc] [#[.int .i64 x.src, .slice BA bn bc]] (fun r hr => by rw [List.mem_singleton.1 hr]; exact ⟨rfl, by simp [Value.oneCell']⟩) (by simp [flat]) 1 rfl (by decide) wr.heap.size rfl)
      have HN := hidT nL
      have HLS : Hid (wr.heap.size < (wr.alloc (.cells #[.int .i64 x.src, .slice BA bn bc] 55)).heap.size) := hidT (by rw [size_alloc]; omega)
      have hro2 := hidT (HRO.out.later nL)
      have hwsz : w.heap.size + 2 ≤ (wr.alloc (.cells #[.int .i64 x.src, .slice BA bn bc] 55)).heap.size := by have := HLS.out; have := HSZ.out; omega
      have HWSZ := hidT hwsz
      clear nL hwsz
      go_wp2_with (first
        | (at_builtin
           refine wpList_appKW 2 (by omega) rfl (.tmp 21) (.tmp 23) 29 rfl (w.heap.size + 2) 55 _ 32 infoDv rfl (by omega) Try.underlying29 (.slice A m c) m rows rfl hro2.out (some ⟨wr.heap.size, 0, none⟩) 1 1 [#[.int .i64 x.src, .slice BA bn bc]] rfl HLIT.out (by omega) HWSZ.out ?_
           intro v9 w9 hown hb9 hg9 ho9
           obtain ⟨A9, c9, rfl, hrd9⟩ := OwnK.rd hown
           have hpd9 : w9.heap[pd]? = some (.cells #[.int .i64 x.src, .slice BA bn bc] 55 (0, 0)) := by
             rw [hg9.block pd (Nat.lt_of_lt_of_le (blk_lt HPD.out) HN.out.size) (fun e => HPO.out e.symm)]
             exact keepH HPD.out HN.out
           obtain ⟨d0, d1⟩ := cells2 hpd9
           have HOWN := hidT hown
           have HG9 := hidT hg9
           have HO9 := hidT ho9
           clear hown hb9 hg9 ho9 hrd9 hpd9 c0 c1)
        | fail)
      have hgl := HGL.out
      have hql := HQL.out
      have hp0 := HP0.out
      have hno : ∀ b, (Value.slice A m c).ownBlock = some b → w.heap.size + 2 ≤ b ∧ b < wr.heap.size := HRO.out.blk
      have hn9 : ∀ b, (Value.slice A9 (m + 1) c9).ownBlock = some b → w.heap.size + 2 ≤ b ∧ b < w9.heap.size := HOWN.out.blk
      have hls := HLS.out
      have hs9 : (wr.alloc (.cells #[.int .i64 x.src, .slice BA bn bc] 55)).heap.size ≤ w9.heap.size := HG9.out.size
      have hsz := HSZ.out
      have hap : ∀ b, b < wr.heap.size → (Value.slice A m c).ownBlock ≠ some b → (Value.slice A9 (m + 1) c9).ownBlock ≠ some b := fun b hb h1 e => by
        rcases HO9.out with h2 | h2
        · exact h1 (h2 ▸ e)
        · rw [h2] at e; injection e with e; omega
      have st9 : SqState p0 (p0 + 1) q g n cap base (fun b => (S b ∧ (Value.slice A9 (m + 1) c9).ownBlock ≠ some b) ∧ b < w9.heap.size) w9 t ls :=
        (((HST.out.ltS.below HN.out).keptS HG9.out (fun e => by have := (hno _ e).1; omega) (fun e => by have := (hno _ e).1; omega) (fun e => by have := (hno _ e).1; omega) (fun e => by have := (hno _ e).1; omega) (fun b hb => hb.1.2)).mono fun b hb => ⟨hb.1.1, hap b hb.2 hb.1.2⟩).ltS
      have ad9 : AreD (fun b => (w.heap.size ≤ b ∧ (Value.slice A9 (m + 1) c9).ownBlock ≠ some b) ∧ b < w9.heap.size) w9 (rows ++ [#[.int .i64 x.src, .slice BA bn bc]]) (d ++ [x]) := by
        have h1 := ((HRA.out.app (AreD.one (x := x) (r := #[.int .i64 x.src, .slice BA bn bc]) ⟨BA, bn, bc, rfl, HRB.out, HWB.out⟩)).ltS.below HN.out).keptS (KeptS.grown HG9.out fun b hb => hb.1.2)
        exact (h1.mono fun b hb => ⟨hb.1.1, hap b hb.2 hb.1.2⟩).ltS
      have n9 := nkeep w9 (.cells #[.int .i64 x.src, .slice BA bn bc] 55)
      have y9 := alloc_at w9 (.cells #[.int .i64 x.src, .slice BA bn bc] 55) _ rfl
      have hs10 := size_alloc w9 (.cells #[.int .i64 x.src, .slice BA bn bc] 55)
      have hk9 : Kept2 g q w (w9.alloc (.cells #[.int .i64 x.src, .slice BA bn bc] 55)) := ((HKP.out.trans (Kept2.of HN.out)).grown HG9.out fun b e => by have := (hno _ e).1; omega).trans (Kept2.of n9)
      have hc9 := HNEXT.out (fun b => (S b ∧ (Value.slice A9 (m + 1) c9).ownBlock ≠ some b) ∧ b ≠ w9.heap.size) (w9.alloc (.cells #[.int .i64 x.src, .slice BA bn bc] 55)) t ls (d ++ [x]) HGO.out ((st9.below n9).mono fun b hb => ⟨hb.1, by omega⟩) (by have := HSW.out; omega) (fun h => HSG.out h.1.1) (fun h => HSQ.out h.1.1)
        (fun b hb => ⟨⟨HSN.out b (by omega), fun e => by have := (hn9 _ e).2; omega⟩, by omega⟩)
      have HC9 := hidT hc9
      have HAD9 := hidT (ad9.below n9)
      have HOW9 := hidT (HOWN.out.later n9)
      have HK9 := hidT hk9
      have HY9 := hidT y9
      have HN9 := hidT hn9
      have HS10 := hidT hs10
      have HS9 := hidT hs9
      clear hgl hql hp0 hno hn9 hls hs9 hsz hap st9 ad9 n9 y9 hs10 hk9 hc9
      go_wp2_with fail
      obtain ⟨p9, hp9⟩ : ∃ p, w9.heap.size = p := ⟨_, rfl⟩
      have HP9 := hidT hp9
      clear d0 d1
      with_reducible refine HC9.out.mono ?_
      rintro e5 w5 ⟨o5, v5, tt5, l5, rfl, hg5, hs5, hst5, hk5, hd5⟩
      obtain ⟨BA5, bn5, bc5, rfl, hrd5, hwd5⟩ := id hd5
      have hgl := HGL.out
      have hql := HQL.out
      have h9 := HS9.out
      have hls := HLS.out
      have hsz := HSZ.out
      have y5 := hk5.block HY9.out (by omega) (by omega)
      rw [hp9] at y5
      have HST5 := hidT hst5
      have HK5 := hidT hk5
      have HG5 := hidT hg5
      have HS5 := hidT hs5
      have HRD5 := hidT hrd5
      have HWD5 := hidT hwd5
      clear hg5 hs5 hst5 hk5 hd5 hrd5 hwd5 hgl hql h9 hls hsz
      rw [hp9]
      clear hp9
      go_wp2_with (
        refine wpList_stI rfl 55 _ _ rfl p9 #[.int .i64 (o5.getD Seqr.Dv.zero).src, .slice BA5 bn5 bc5] rfl rfl _ _ y5 sizeDv rfl (by simp [Value.oneCell']) ?_
        intro w7 hg7 hbut hbel)
      have hgl := HGL.out
      have hql := HQL.out
      have hp9 := HP9.out
      have hn9 := HN9.out
      have h10 := HS10.out
      have hls := HLS.out
      have hsz := HSZ.out
      have hs9 := HS9.out
      have hp0 := HP0.out
      have hws := HSW.out
      have hs5 := HK5.out.1.size
      have hrel : WalkR p0 (p0 + 1) q g n cap base S w t0 ls0 (2 * Seqr.mu l5 + (if o5.isSome = true then 1 else 0)) (.slice A9 (m + 1) c9) (.pointer (some ⟨p9, 0, none⟩)) (.bool o5.isSome) w7 := by
        refine ⟨A9, m + 1, c9, _, p9, o5, tt5, l5, d ++ [x], BA5, bn5, bc5, rfl, rfl, rfl, (HOW9.out.kept2 HK5.out fun b hb => ?_).butV hbut fun b hb => ?_, fun e => ?_, ?_, HGO.out.trans HG5.out, HS5.out, ?_, (HK9.out.trans HK5.out).new hbut hbel (by omega), hg7, ?_, ?_, rfl, by rw [hbut.1]; omega⟩
        · have := hn9 b hb; omega
        · have := hn9 b hb; omega
        · have := hn9 _ e; omega
        · exact ((HAD9.out.keptS (KeptS.kept2 HK5.out (fun h => by have := h.1.1; omega) (fun h => by have := h.1.1; omega))).keptS (KeptS.but hbut fun b hb => by have := hb.2; omega)).mono fun b hb => hb.1
        · exact (HST5.out.butNe hbut (fun h => h.2 hp9.symm) (by omega) (by omega) (by omega) (by omega)).mono fun b hb => hb.1
        · exact HRD5.out.keptS HWD5.out (KeptS.hi hbut (by omega))
        · exact HWD5.out.mono fun b hb => ⟨by have h1 : (w9.alloc (.cells #[.int .i64 x.src, .slice BA bn bc] 55)).heap.size ≤ b := hb; omega, fun e => by have h1 : (w9.alloc (.cells #[.int .i64 x.src, .slice BA bn bc] 55)).heap.size ≤ b := hb; have := hn9 _ e; omega⟩
      have hmm : 2 * Seqr.mu l5 + (if o5.isSome = true then 1 else 0) < lk := by
        have h1 := HG5.out.mu (HGO.out.ok HOK.out).1
        have h2 := HKK.out
        simp only [Option.isSome_some, if_true] at h2
        cases o5 with
        | none => simp only [Option.isSome_none, Bool.false_eq_true, if_false, Option.toList_none, List.length_nil] at h1 ⊢; omega
        | some y => simp only [Option.isSome_some, if_true, Option.toList_some, List.length_singleton] at h1 ⊢; omega
      have HREL := hidT hrel
      have HMM := hidT hmm
      clear hgl hql hp9 hn9 h10 hls hsz hs9 hp0 hws hs5 hrel hmm hg7 hbut hbel y5
      go_roundw
      case rel => exact ⟨_, HREL.out⟩
      case measure =>
        have h1 := least_le (R := fun k => WalkR p0 (p0 + 1) q g n cap base S w t0 ls0 k (.slice A9 (m + 1) c9) (.pointer (some ⟨p9, 0, none⟩)) (.bool o5.isSome) w7) HREL.out
        have h2 := HMM.out
        have h3 := HLK.out
        omega
end Go.Proofs.Ytdchgnmkeefffaa
