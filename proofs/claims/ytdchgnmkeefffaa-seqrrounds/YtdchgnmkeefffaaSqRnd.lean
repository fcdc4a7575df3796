/- The pieces of SeqrRounds. -/
import Derived.Test.YtdchgnmkeefffaaSqPt
import Derived.Test.YtdchgnmkeefffaaSqRoundM
import Derived.Test.YtdchgnmkeefffaaRwSt
set_option maxRecDepth 100000
namespace Go.Proofs.Ytdchgnmkeefffaa
open Go.RowKit
set_option linter.unusedVariables false

theorem AreL.app1 {w w' : World} {A A' : Option Addr} {m c m' c' : Nat} {rows : List (Array Value)} {r : Array Value} {ls : List Lane.Ln} {l : Lane.Ln} (ha : AreL (fun b => (Value.slice A m c).ownBlock ≠ some b) w rows ls) (hl : IsLane (fun b => (Value.slice A m c).ownBlock ≠ some b) w (.agg r) l) (hg : w.grownBy w' (Value.slice A m c).ownBlock)
    (ho : (Value.slice A' m' c').ownBlock = (Value.slice A m c).ownBlock ∨ (Value.slice A' m' c').ownBlock = some w.heap.size) : AreL (fun b => (Value.slice A' m' c').ownBlock ≠ some b) w' (rows ++ [r]) (ls ++ [l]) := by
  have hk : KeptS (fun b => (Value.slice A m c).ownBlock ≠ some b ∧ b < w.heap.size) w w' := KeptS.grown hg fun b hb => hb.1
  refine (((ha.app (AreL.one hl)).ltS).keptS hk).mono fun b hb e => ?_
  rcases ho with h2 | h2
  · exact hb.1 (h2 ▸ e)
  · rw [h2] at e; injection e with e; have := hb.2; omega
theorem AreE.ltS2 {S : Nat → Prop} {w : World} {rs : List (Array Value)} {xs : List Lane.En} (h : AreE S w rs xs) : AreE (fun b => S b ∧ b < w.heap.size) w rs xs := ⟨h.1, fun i r x h1 h2 => (h.2 i r x h1 h2).ltS⟩
theorem AreE.app1 {p : Nat} {w w' : World} {A A' : Option Addr} {m c m' c' : Nat} {rows : List (Array Value)} {r : Array Value} {xs : List Lane.En} {x : Lane.En} (ha : AreE (fun b => p < b ∧ (Value.slice A m c).ownBlock ≠ some b) w rows xs) (hl : IsEn (fun b => p < b ∧ (Value.slice A m c).ownBlock ≠ some b) w (.agg r) x) (hg : w.grownBy w' (Value.slice A m c).ownBlock)
    (ho : (Value.slice A' m' c').ownBlock = (Value.slice A m c).ownBlock ∨ (Value.slice A' m' c').ownBlock = some w.heap.size) : AreE (fun b => p < b ∧ (Value.slice A' m' c').ownBlock ≠ some b) w' (rows ++ [r]) (xs ++ [x]) := by
  have hk : KeptS (fun b => (p < b ∧ (Value.slice A m c).ownBlock ≠ some b) ∧ b < w.heap.size) w w' := KeptS.grown hg fun b hb => hb.1.2
  refine (((ha.app (AreE.one hl)).ltS2).keptS hk).mono fun b hb => ⟨hb.1.1, fun e => ?_⟩
  rcases ho with h2 | h2
  · exact hb.1.2 (h2 ▸ e)
  · rw [h2] at e; injection e with e; have := hb.2; omega
/-- Two bytes, laid out. -/
theorem two_bytes {i k : Nat} (hi : i < 256) (hk : k < 256) : (#[.int .u8 (i : Int), .int .u8 (k : Int)] : Array Value) = (bs [UInt8.ofNat i, UInt8.ofNat k]).toArray := by
  have e : ∀ n : Nat, n < 256 → ((UInt8.ofNat n).toNat : Int) = (n : Int) := fun n hn => by rw [UInt8.toNat_ofNat', Nat.mod_eq_of_lt (by omega)]
  simp only [bs, List.map_cons, List.map_nil, e i hi, e k hk]
theorem sumFrom_le {c : Nat → Nat} {b : Nat} (h : ∀ i, c i ≤ b) (a : Nat) : ∀ k, Seqr.sumFrom c a k ≤ b * k
  | 0 => Nat.zero_le _
  | k + 1 => by
    show Seqr.sumFrom c a k + c (a + k) ≤ b * (k + 1)
    have h1 := sumFrom_le h a k
    have h2 := h (a + k)
    rw [Nat.mul_add, Nat.mul_one]; omega
theorem rdI_one {w : World} {a : Nat} {x : Int} {t : TypeId} (h : w.heap[a]? = some (.cells #[.int .i64 x] t (0, 0))) : RdI w (some ⟨a, 0, none⟩) 1 1 [x] :=
  ⟨rfl, Nat.le_refl _, by simp only [maxLen]; omega, (fun h => by cases h), fun _ => ⟨a, 0, rfl, fun i u hu => by
    cases i with
    | zero =>
      simp only [is, List.map_cons, List.map_nil, List.getElem?_cons_zero, Option.some.injEq] at hu
      subst hu
      exact cell_at h 0 rfl
    | succ i => simp [is] at hu⟩⟩
theorem rdX_one {w : World} {b : Nat} {r : Array Value} {x : Item.It} {t : TypeId} (h : w.heap[b]? = some (.cells r t (0, 0))) (hi : IsItem w (.agg r) x) : RdX (fun _ => True) w (some ⟨b, 0, none⟩) 1 1 [x] := by
  obtain ⟨LA, ln, lc, BA, bn, bc, ev, h1, h2⟩ := hi
  injection ev with ev
  subst ev
  refine ⟨[_], ⟨fun r hr => ?_, rfl, Nat.le_refl _, by simp only [maxLen]; omega, (fun h => by cases h), fun _ => ⟨b, 0, rfl, fun i u hu => ?_⟩⟩, AreX.one ⟨LA, ln, lc, BA, bn, bc, rfl, h1, h2, Within.any _ _, Within.any _ _⟩, Within.any _ _⟩
  · rw [List.mem_singleton.1 hr]; exact ⟨rfl, by simp [Value.oneCell']⟩
  · rw [Nat.zero_add]
    have hu2 : (#[.int .i64 x.k, .int .i64 x.q, .int .i64 x.e, .int .i64 x.i, .int .i64 x.t, .int .i64 x.c, .slice LA ln lc, .slice BA bn bc] : Array Value)[i]? = some u := by simpa [flat] using hu
    exact cell_at h i hu2
/-- A part of a walk, in slots; its lists are new. -/
def PartH (X : World) (n : Nat) (q : Array Value) (ls : List Lane.Ln) (d : List Seqr.Dv) (x y z : Value) (wc : World) : Prop :=
  ∃ p A c D m k, x = .pointer (some ⟨p, 0, none⟩) ∧ y = .slice A n c ∧ z = .slice D m k ∧ wc.heap[p]? = some (.cells q 23 (0, 0)) ∧ RdL (Hi X.heap.size) wc A n c ls ∧ RdD (Hi X.heap.size) wc D m k d ∧ Below X.heap.size X wc
section
variable {X w5 : World} {n : Nat} {q : Array Value} {ls : List Lane.Ln} {d : List Seqr.Dv} {A D : Option Addr} {c m k base g : Nat}
theorem finH_a (hs : q.size = 2) (ha : q.all (·.oneCell') = true) (hb : Below X.heap.size X w5) (hXb : X.heap.size ≤ base) (hl : RdL (Hi base) w5 A n c ls) (hd : RdD (Hi base) w5 D m k d) :
    ∃ wx, (storeCells ⟨w5.heap.size, 0, none⟩ q.toList).run Try.prog (w5.alloc (.cells #[.int .i64 0, .int .i64 0] 23)) = .ok () wx ∧ Hid (wx.heap[w5.heap.size]? = some (.cells q 23 (0, 0))) ∧ Hid (RdL (Hi X.heap.size) wx A n c ls) ∧ Hid (RdD (Hi X.heap.size) wx D m k d) ∧ Below X.heap.size X wx := by
  obtain ⟨wx, h1, h2, h3, h4⟩ := st8 (alloc_at w5 (.cells #[.int .i64 0, .int .i64 0] 23) _ rfl) q (by rw [hs]; rfl) ha
  have hbx : Below w5.heap.size w5 wx := h4.out _ _ (nkeep _ _) (Nat.le_refl _)
  exact ⟨wx, h1, h2, hidT ((hl.below hbx).mono fun b hb => Nat.le_trans hXb hb), hidT ((hd.below hbx).mono fun b hb => Nat.le_trans hXb hb), bthen hb hbx⟩
theorem finH_b (hs : q.size = 2) (ha : q.all (·.oneCell') = true) (hb : Below X.heap.size X w5) (hg : w5.heap[g]? = some (.cells #[.int .i64 0, .int .i64 0] 23 (0, 0))) (hXg : X.heap.size ≤ g) (hgb : g < base) (hl : RdL (Hi base) w5 A n c ls) (hd : RdD (Hi base) w5 D m k d) :
    ∃ wx, (storeCells ⟨g, 0, none⟩ q.toList).run Try.prog w5 = .ok () wx ∧ Hid (wx.heap[g]? = some (.cells q 23 (0, 0))) ∧ Hid (RdL (Hi X.heap.size) wx A n c ls) ∧ Hid (RdD (Hi X.heap.size) wx D m k d) ∧ Below X.heap.size X wx := by
  obtain ⟨wx, h1, h2, h3, h4⟩ := st8 hg q (by rw [hs]; rfl) ha
  have hk : KeptS (Hi base) w5 wx := KeptS.hi h3.out hgb
  exact ⟨wx, h1, h2, hidT ((hl.keptS hk).mono fun b hb => Nat.le_trans (by omega) hb), hidT ((hd.keptS hk).mono fun b hb => Nat.le_trans (by omega) hb), h4.out _ _ hb hXg⟩
end
/-- Blocks that are neither the turn's nor the row's of what is delivered. -/
def SD (pt : Nat) (D : Option Addr) (m d : Nat) (b : Nat) : Prop := b ≠ pt ∧ (Value.slice D m d).ownBlock ≠ some b
/-- What lies in memory between the rounds. -/
def RR (pt b2 : Nat) (w0 : World) (A : Option Addr) (n c : Nat) (ls : List Lane.Ln) (D : Option Addr) (m d : Nat) (rows : List (Array Value)) (all : List Seqr.Dv) (t : Seqr.Tn) (w : World) : Prop :=
  w.heap[pt]? = some (.cells (tc t) 23 (0, 0)) ∧ RdL (SD pt D m d) w A n c ls ∧ OwnK 2 w b2 55 (.slice D m d) m rows ∧ AreD (SD pt D m d) w rows all ∧ Below w0.heap.size w0 w ∧ (w0.heap.size ≤ pt ∧ pt < b2 ∧ b2 ≤ w.heap.size)
section
variable {pt b2 : Nat} {w0 : World} {A : Option Addr} {n c : Nat} {ls : List Lane.Ln} {D : Option Addr} {m d : Nat} {rows : List (Array Value)} {all : List Seqr.Dv} {t : Seqr.Tn} {w w' : World}
theorem RR.below (h : RR pt b2 w0 A n c ls D m d rows all t w) (hb : Below w.heap.size w w') : RR pt b2 w0 A n c ls D m d rows all t w' := by
  obtain ⟨h1, h2, h3, h4, h5, h6⟩ := h
  exact ⟨keepH h1 hb, h2.below hb, h3.later hb, h4.below hb, bthen h5 hb, h6.1, h6.2.1, Nat.le_trans h6.2.2 hb.size⟩
theorem RR.rd (h : RR pt b2 w0 A n c ls D m d rows all t w) : RdL (fun _ => True) w A n c ls := h.2.1.mono fun _ _ => trivial
theorem RR.fresh (h : RR pt b2 w0 A n c ls D m d rows all t w) {b : Nat} (hb : w.heap.size ≤ b) : SD pt D m d b := by
  obtain ⟨h1, h2, h3, h4, h5, h6⟩ := h
  exact ⟨by have := blk_lt h1; omega, fun e => by have := (h3.blk b e).2; omega⟩
/-- Other lanes. -/
theorem RR.lanes (h : RR pt b2 w0 A n c ls D m d rows all t w) {A' : Option Addr} {c' : Nat} {ls' : List Lane.Ln} (hl : RdL (SD pt D m d) w A' n c' ls') : RR pt b2 w0 A' n c' ls' D m d rows all t w := by
  obtain ⟨h1, h2, h3, h4, h5, h6⟩ := h
  exact ⟨h1, hl, h3, h4, h5, h6⟩
/-- Another turn. -/
theorem RR.turn (h : RR pt b2 w0 A n c ls D m d rows all t w) (t' : Seqr.Tn) (hb : But pt w w') (hz : ∀ base w0, Below base w0 w → base ≤ pt → Below base w0 w') (hh : w'.heap[pt]? = some (.cells (tc t') 23 (0, 0))) : RR pt b2 w0 A n c ls D m d rows all t' w' := by
  obtain ⟨h1, h2, h3, h4, h5, h6⟩ := h
  have hk : KeptS (SD pt D m d) w w' := KeptS.but hb fun b hb => hb.1
  exact ⟨hh, h2.keptS hk, h3.butV hb (fun b e => by have := (h3.blk b e).1; omega), h4.keptS hk, hz _ _ h5 h6.1, h6.1, h6.2.1, by rw [hb.1]; exact h6.2.2⟩
theorem RdK.ltA {k : Nat} (hk : 0 < k) {w : World} {A : Option Addr} {n c : Nat} {rs : List (Array Value)} (h : RdK k w A n c rs) : Within (fun b => b < w.heap.size) A n := fun h0 b o e => by
  obtain ⟨b', o', r, hA, hr, hsz, hc⟩ := h.at_ h0
  rw [e] at hA
  injection hA with hA
  injection hA with e1 e2
  subst e1
  exact World.block_lt_of_cell? w _ (hc 0 _ (Array.getElem?_eq_getElem (show 0 < r.size by omega)))
/-- More is delivered. -/
theorem RR.app (h : RR pt b2 w0 A n c ls D m d rows all t w) {D' : Option Addr} {m' d' : Nat} {rs : List (Array Value)} {ds : List Seqr.Dv} (hown : OwnK 2 w' b2 55 (.slice D' m' d') m' (rows ++ rs)) (hg : w.grownBy w' (Value.slice D m d).ownBlock)
    (ho : (Value.slice D' m' d').ownBlock = (Value.slice D m d).ownBlock ∨ (Value.slice D' m' d').ownBlock = some w.heap.size) (hx : AreD (SD pt D m d) w rs ds) (hb : Below b2 w w') : RR pt b2 w0 A n c ls D' m' d' (rows ++ rs) (all ++ ds) t w' := by
  obtain ⟨h1, ⟨ra, k1, k2, k3⟩, h3, h4, h5, h6⟩ := h
  have hno : ∀ b, (Value.slice D m d).ownBlock = some b → b2 ≤ b ∧ b < w.heap.size := h3.blk
  have hap : ∀ b, SD pt D m d b ∧ b < w.heap.size → SD pt D' m' d' b := fun b hb => ⟨hb.1.1, fun e => by
    rcases ho with h2 | h2
    · exact hb.1.2 (h2 ▸ e)
    · rw [h2] at e; injection e with e; have := hb.2; omega⟩
  have hk : KeptS (fun b => SD pt D m d b ∧ b < w.heap.size) w w' := KeptS.grown hg fun b hb => hb.1.2
  have hwi := k3.and (RdK.ltA (by omega) k1)
  refine ⟨?_, ⟨ra, k1.keptS hwi hk, (k2.ltS.keptS hk).mono hap, hwi.mono hap⟩, hown, (((h4.app hx).ltS).keptS hk).mono hap, h5.trans (hb.mono (by omega)), h6.1, h6.2.1, Nat.le_trans h6.2.2 hg.size⟩
  rw [hg.block pt (blk_lt h1) (fun e => by have := (hno pt e.symm).1; omega)]; exact h1
end
/-- Small lanes between the rounds. -/
theorem rinv_small {c : Nat → Nat} {n Q : Nat} {t : Seqr.Tn} {ls : List Lane.Ln} {all : List Seqr.Dv} (h : Seqr.RInv (Seqr.lanes0 c n) Q t ls all) (hc : ∀ i, c i ≤ 8) (hn : n ≤ 6) : Seqr.BigK 0 ls ∧ (∀ i, Lane.last (Seqr.laneAt ls i) ≤ 8) ∧ all.length + Seqr.total ls ≤ 48 ∧ ls.length = n := by
  obtain ⟨ho, hlen, hl, hmsgs, hsrc, htot, hwho, hused⟩ := h
  rw [Seqr.lanes0_length] at hlen
  have htt : Seqr.total (Seqr.lanes0 c n) ≤ 48 := by
    rw [Seqr.lanes0_total]
    have := sumFrom_le hc 0 n
    omega
  have hin : ∀ i, ∀ x ∈ (Seqr.laneAt ls i).es, 1 ≤ x.q ∧ x.q ≤ 8 ∧ x.l = [] ∧ x.b.length = 2 := fun i x hx => by
    have h1 := (hl i).2.2 x hx
    by_cases hi : i < n
    · rw [Seqr.lanes0_at c hi] at h1
      obtain ⟨_, h2, h3, h4, h5⟩ := Seqr.roundL_msg i (c i) x h1
      have := hc i
      exact ⟨h2, by omega, h4, h5⟩
    · rw [Seqr.laneAt_out (by rw [Seqr.lanes0_length]; exact hi)] at h1; cases h1
  have hmany : ∀ i, (Seqr.laneAt ls i).es.length ≤ 48 := fun i => by
    rw [← Seqr.msgs_all (hl i).1]
    by_cases hi : i < ls.length
    · have h1 : ∀ (l : List Lane.Ln), ∀ x ∈ l, Lane.many x ≤ (l.map Lane.many).sum := by
        intro l
        induction l with
        | nil => intro x hx; cases hx
        | cons a l ih =>
          intro x hx
          rw [List.map_cons, List.sum_cons]
          rcases List.mem_cons.1 hx with rfl | hx
          · omega
          · have := ih x hx; omega
      have h2 := h1 ls _ (Seqr.laneAt_mem hi)
      have h3 : (ls.map Lane.many).sum = Seqr.total ls := rfl
      show Lane.many (Seqr.laneAt ls i) ≤ 48
      omega
    · rw [Seqr.laneAt_out hi]; exact Nat.zero_le _
  refine ⟨fun l hlm => ?_, fun i => ?_, by omega, hlen⟩
  · obtain ⟨i, hi⟩ := List.getElem?_of_mem hlm
    have e := Seqr.laneAt_of hi
    subst e
    have hp := (hl i).2.1
    refine ⟨by have := hmany i; omega, fun x hx => ?_, by rw [hp]; exact Nat.zero_le _⟩
    obtain ⟨_, _, h4, h5⟩ := hin i x hx
    exact ⟨by rw [h4]; exact Nat.zero_le _, by omega⟩
  · unfold Lane.last
    rw [(hl i).2.1, if_neg (by show ¬ (0 : Int) < 0; omega)]
    exact Seqr.top_le (fun x hx => (hin i x hx).2.1) 0 (by omega)

theorem OwnV.frz {w : World} {base n g cap : Nat} {e : TypeId} {l : List Value} (h : OwnV w base e (.slice (some ⟨g, 0, none⟩) n cap) n l) (i : Nat) : w.frozen? ⟨g, i, none⟩ = false := World.ownsRow.frozenAt h i
theorem OwnV.cellAt {w : World} {base n g cap : Nat} {e : TypeId} {l : List Value} (h : OwnV w base e (.slice (some ⟨g, 0, none⟩) n cap) n l) {i : Nat} {x : Value} (hx : l[i]? = some x) : w.cell? ⟨g, i, none⟩ = some x := by
  have := World.ownsRow.cells (g := g) h rfl i _ hx
  rw [show (⟨g, 0, none⟩ : Addr).add i = ⟨g, i, none⟩ from by unfold Addr.add; split <;> simp_all] at this
  exact this
theorem OwnV.put {w : World} {base n g cap : Nat} {e : TypeId} {l : List Int} (h : OwnV w base e (.slice (some ⟨g, 0, none⟩) n cap) n (is l)) (i : Nat) (x : Int) : OwnV (w.setCell ⟨g, i, none⟩ (.int .i64 x)) base e (.slice (some ⟨g, 0, none⟩) n cap) n (is (l.set i x)) := by
  rw [is_set]
  exact (World.ownsRow.stored h i _).1
/-- How many messages of each member are among the first. -/
def cnts (all : List Seqr.Dv) (n p : Nat) : List Int := (List.range n).map fun s => (((Seqr.delsOf s (all.take p)).length : Nat) : Int)
theorem cnts_zero (all : List Seqr.Dv) (n : Nat) : List.replicate n (Value.int .i64 0) = is (cnts all n 0) := by
  have e : cnts all n 0 = List.replicate n 0 := by
    unfold cnts
    rw [List.eq_replicate_iff]
    refine ⟨by rw [List.length_map, List.length_range], fun x hx => ?_⟩
    obtain ⟨s, _, rfl⟩ := List.mem_map.1 hx
    rfl
  rw [e]
  simp [is]
theorem cnts_at (all : List Seqr.Dv) {n p i : Nat} (hi : i < n) : (cnts all n p)[i]? = some (((Seqr.delsOf i (all.take p)).length : Nat) : Int) := by
  unfold cnts
  rw [List.getElem?_map, List.getElem?_range hi]; rfl
theorem cnts_succ {all : List Seqr.Dv} {n p i k : Nat} {y : Seqr.Dv} (hy : all[p]? = some y) (hs : y.src = (i : Int)) (hi : i < n) (hk : (Seqr.delsOf i (all.take p)).length = k) : cnts all n (p + 1) = (cnts all n p).set i ((k : Int) + 1) := by
  have hlen : ∀ q, (cnts all n q).length = n := fun q => by unfold cnts; rw [List.length_map, List.length_range]
  apply List.ext_getElem?
  intro s
  by_cases hsn : s < n
  · rw [cnts_at all hsn, List.getElem?_set, Seqr.delsOf_succ hy, hs]
    by_cases h : i = s
    · subst h
      rw [if_pos rfl, if_pos rfl, if_pos (by rw [hlen]; exact hi), hk]
      rfl
    · rw [if_neg h, if_neg (by omega), Nat.add_zero, cnts_at all hsn]
  · rw [List.getElem?_eq_none (by rw [hlen]; omega), List.getElem?_eq_none (by rw [List.length_set, hlen]; omega)]
theorem may_order {s IX : Int} {L : List Int} (hs : 1 ≤ s ∧ s ≤ 1000) (hi : IX = 0 ∨ IX = 1) (hne : L ≠ []) (hl : L.length ≤ 64) (hm : ∀ x ∈ L, 0 ≤ x ∧ x ≤ 63) : Item.may ⟨2, s, 0, IX, 0, 0, L, []⟩ = true := by
  have hp : 0 < L.length := List.length_pos_iff.2 hne
  have h1 : Item.allIn L 63 = true := by
    unfold Item.allIn
    rw [List.all_eq_true]
    intro x hx
    exact Item.win_iff.2 (hm x hx)
  unfold Item.may Item.ask
  rw [if_neg (by show ¬ (2 : Int) = 1; omega), if_pos rfl]
  unfold Item.askN Item.list Item.body
  simp only [Bool.and_eq_true, Item.win_iff, h1, decide_eq_true_eq, List.length_nil]
  refine ⟨⟨hs.1, by omega⟩, ⟨by omega, by omega⟩, ⟨by omega, by omega⟩, ⟨by omega, by omega⟩, ⟨by omega, by omega⟩, ⟨⟨by omega, by omega⟩, trivial⟩, by omega⟩
end Go.Proofs.Ytdchgnmkeefffaa
