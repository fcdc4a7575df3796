/- The state of the document's walk in memory. -/
import Derived.Test.YtdchgnmkeefffaaSqApp
import Derived.Test.YtdchgnmkeefffaaQPop
import Derived.Test.YtdchgnmkeefffaaRBX
import Derived.Test.YtdchgnmkeefffaaSqW
set_option maxRecDepth 100000
namespace Go.Proofs.Ytdchgnmkeefffaa
open Go.RowKit
set_option linter.unusedVariables false

/-- Blocks that are none of the walk's own. -/
def SB (q p4 g : Nat) (A : Option Addr) (m c : Nat) (b : Nat) : Prop := b ≠ q ∧ b ≠ p4 ∧ b ≠ g ∧ (Value.slice A m c).ownBlock ≠ some b
/-- A turn, lanes, and what is delivered, as the document's walk holds them. -/
def RB (q p4 g n cap base b2 : Nat) (w0 : World) (A : Option Addr) (m c : Nat) (rows : List (Array Value)) (d : List Seqr.Dv) (t : Seqr.Tn) (ls : List Lane.Ln) (w : World) : Prop :=
  w.heap[q]? = some (.cells (tc t) 23 (0, 0)) ∧ w.heap[p4]? = some (.cells #[.int .i64 0, .int .i64 0] 23 (0, 0)) ∧
    (∃ rs, OwnK 5 w base 51 (.slice (some ⟨g, 0, none⟩) n cap) n rs ∧ AreL (SB q p4 g A m c) w rs ls) ∧ OwnK 2 w b2 55 (.slice A m c) m rows ∧ AreD (SB q p4 g A m c) w rows d ∧ Below w0.heap.size w0 w ∧
    (w0.heap.size ≤ q ∧ q < p4 ∧ p4 < g ∧ g < b2 ∧ b2 ≤ w.heap.size)
section
variable {q p4 g n cap base b2 : Nat} {w0 : World} {A : Option Addr} {m c : Nat} {rows : List (Array Value)} {d : List Seqr.Dv} {t : Seqr.Tn} {ls : List Lane.Ln} {w w' : World}
theorem RB.rdl (h : RB q p4 g n cap base b2 w0 A m c rows d t ls w) : RdL (SB q p4 g A m c) w (some ⟨g, 0, none⟩) n cap ls ∨ RdL (fun _ => True) w (some ⟨g, 0, none⟩) n cap ls := by
  obtain ⟨_, _, ⟨rs, ho, ha⟩, _⟩ := h
  exact .inr ⟨rs, ho.same, ha.mono fun _ _ => trivial, Within.any _ _⟩
theorem RB.rd (h : RB q p4 g n cap base b2 w0 A m c rows d t ls w) : RdL (fun _ => True) w (some ⟨g, 0, none⟩) n cap ls := by
  obtain ⟨_, _, ⟨rs, ho, ha⟩, _⟩ := h
  exact ⟨rs, ho.same, ha.mono fun _ _ => trivial, Within.any _ _⟩
/-- One of the lanes, its cells in every later world. -/
theorem RB.at_ (h : RB q p4 g n cap base b2 w0 A m c rows d t ls w) {i : Nat} (hi : i < n) : ∃ l EA en ec B mm dd, ls[i]? = some l ∧ IsLane (SB q p4 g A m c) w (.agg #[.slice EA en ec, .int .i64 (Lane.Ln.p l).seq, .int .i64 l.p.total, .int .i64 l.p.got, .slice B mm dd]) l ∧
      ∀ w', Below w.heap.size w w' → w'.cell? ⟨g, i * 5, none⟩ = some (.slice EA en ec) ∧ w'.cell? ⟨g, i * 5 + 1, none⟩ = some (.int .i64 l.p.seq) ∧ w'.cell? ⟨g, i * 5 + 2, none⟩ = some (.int .i64 l.p.total) ∧
        w'.cell? ⟨g, i * 5 + 3, none⟩ = some (.int .i64 l.p.got) ∧ w'.cell? ⟨g, i * 5 + 4, none⟩ = some (.slice B mm dd) := by
  obtain ⟨_, _, ⟨rs, h1, h2⟩, _⟩ := h
  obtain ⟨b, o, r, hA, hr, hsz, hc⟩ := h1.same.at_ hi
  injection hA with hA
  injection hA with e1 e2
  subst e1 e2
  have hl : rs.length = n := h1.2.1
  obtain ⟨l, hx⟩ : ∃ l, ls[i]? = some l := ⟨_, List.getElem?_eq_getElem (by have := h2.1; omega)⟩
  have hi2 := h2.2 i r l hr hx
  obtain ⟨EA, en, ec, B, m, d, hv, _, _, _⟩ := id hi2
  injection hv with hv
  subst hv
  refine ⟨l, EA, en, ec, B, m, d, hx, hi2, fun w' hb => ?_⟩
  simp only [Nat.zero_add] at hc
  have kk : ∀ j u, (#[Value.slice EA en ec, .int .i64 l.p.seq, .int .i64 l.p.total, .int .i64 l.p.got, .slice B m d] : Array Value)[j]? = some u → w'.cell? ⟨g, i * 5 + j, none⟩ = some u := fun j u hu => (hb.cell (World.block_lt_of_cell? w _ (hc j u hu))).trans (hc j u hu)
  exact ⟨kk 0 _ rfl, kk 1 _ rfl, kk 2 _ rfl, kk 3 _ rfl, kk 4 _ rfl⟩
theorem RB.below (h : RB q p4 g n cap base b2 w0 A m c rows d t ls w) (hb : Below w.heap.size w w') : RB q p4 g n cap base b2 w0 A m c rows d t ls w' := by
  obtain ⟨h1, h2, ⟨rs, h3, h4⟩, h5, h6, h7, h8⟩ := h
  exact ⟨keepH h1 hb, keepH h2 hb, ⟨rs, h3.later hb, h4.below hb⟩, h5.later hb, h6.below hb, bthen h7 hb, h8.1, h8.2.1, h8.2.2.1, h8.2.2.2.1, Nat.le_trans h8.2.2.2.2 hb.size⟩
theorem RB.lt (h : RB q p4 g n cap base b2 w0 A m c rows d t ls w) : g < w.heap.size := by
  obtain ⟨_, _, ⟨rs, h3, _⟩, _⟩ := h
  exact (World.ownsRow.lt h3.2.2 g rfl).2
theorem RB.fresh (h : RB q p4 g n cap base b2 w0 A m c rows d t ls w) {b : Nat} (hb : w.heap.size ≤ b) : SB q p4 g A m c b := by
  have hg := h.lt
  obtain ⟨_, _, _, h5, _, _, h8⟩ := h
  exact ⟨by omega, by omega, by omega, fun e => by have := (h5.blk _ e).2; omega⟩
/-- A lane is put anew. -/
theorem RB.put (h : RB q p4 g n cap base b2 w0 A m c rows d t ls w) (hb : Below w.heap.size w w') {i : Nat} (hi : i < n) {r : Array Value} {l : Lane.Ln} (hl : IsLane (SB q p4 g A m c) w' (.agg r) l) (h1 : r.size = 5) (h2 : r.all (·.oneCell') = true) :
    ∃ wx, (storeCells ⟨g, i * 5, none⟩ r.toList).run Try.prog w' = .ok () wx ∧ RB q p4 g n cap base b2 w0 A m c rows d t (ls.set i l) wx ∧ But g w' wx := by
  obtain ⟨k1, k2, ⟨rs, k3, k4⟩, k5, k6, k7, k8⟩ := h.below hb
  obtain ⟨wx, hr, ho, hbt, hbl⟩ := OwnK.setAt (P := Try.prog) k3 hi r h1 h2
  have hk : KeptS (SB q p4 g A m c) w' wx := KeptS.but hbt fun b hb => hb.2.2.1
  exact ⟨wx, hr, ⟨(hbt.2 q (by omega)).trans k1, (hbt.2 p4 (by omega)).trans k2, ⟨_, ho, (k4.keptS hk).set i (hl.keptS hk)⟩, k5.butV hbt (fun b e => by have := (k5.blk b e).1; omega), k6.keptS hk, hbl _ _ k7 (by omega), k8.1, k8.2.1, k8.2.2.1, k8.2.2.2.1, by rw [hbt.1]; exact k8.2.2.2.2⟩, hbt⟩
/-- The turn is put anew. -/
theorem RB.turn (h : RB q p4 g n cap base b2 w0 A m c rows d t ls w) (t' : Seqr.Tn) (hb : But q w w') (hz : ∀ base w0, Below base w0 w → base ≤ q → Below base w0 w') (hh : w'.heap[q]? = some (.cells (tc t') 23 (0, 0))) : RB q p4 g n cap base b2 w0 A m c rows d t' ls w' := by
  obtain ⟨k1, k2, ⟨rs, k3, k4⟩, k5, k6, k7, k8⟩ := h
  have hk : KeptS (SB q p4 g A m c) w w' := KeptS.but hb fun b hb => hb.1
  exact ⟨hh, (hb.2 p4 (by omega)).trans k2, ⟨rs, k3.butNe hb (by omega), k4.keptS hk⟩, k5.butV hb (fun b e => by have := (k5.blk b e).1; omega), k6.keptS hk, hz _ _ k7 (by omega), k8.1, k8.2.1, k8.2.2.1, k8.2.2.2.1, by rw [hb.1]; exact k8.2.2.2.2⟩
/-- Something more is delivered. -/
theorem RB.app (h : RB q p4 g n cap base b2 w0 A m c rows d t ls w) {A' : Option Addr} {m' c' : Nat} {r : Array Value} {x : Seqr.Dv} (hown : OwnK 2 w' b2 55 (.slice A' m' c') m' (rows ++ [r])) (hg : w.grownBy w' (Value.slice A m c).ownBlock)
    (ho : (Value.slice A' m' c').ownBlock = (Value.slice A m c).ownBlock ∨ (Value.slice A' m' c').ownBlock = some w.heap.size) (hx : IsDv (SB q p4 g A m c) w (.agg r) x) (hb : Below b2 w w') : RB q p4 g n cap base b2 w0 A' m' c' (rows ++ [r]) (d ++ [x]) t ls w' := by
  obtain ⟨k1, k2, ⟨rs, k3, k4⟩, k5, k6, k7, k8⟩ := h
  have hno : ∀ b, (Value.slice A m c).ownBlock = some b → b2 ≤ b ∧ b < w.heap.size := k5.blk
  have hglt : g < w.heap.size := (World.ownsRow.lt k3.2.2 g rfl).2
  have hap : ∀ b, SB q p4 g A m c b ∧ b < w.heap.size → SB q p4 g A' m' c' b := fun b hb => ⟨hb.1.1, hb.1.2.1, hb.1.2.2.1, fun e => by
    rcases ho with h2 | h2
    · exact hb.1.2.2.2 (h2 ▸ e)
    · rw [h2] at e; injection e with e; omega⟩
  have hk : KeptS (fun b => SB q p4 g A m c b ∧ b < w.heap.size) w w' := KeptS.grown hg fun b hb => hb.1.2.2.2
  have hne : ∀ b, b < b2 → (Value.slice A m c).ownBlock ≠ some b := fun b hb e => by have := (hno b e).1; omega
  refine ⟨?_, ?_, ⟨rs, ?_, (k4.ltS.keptS hk).mono hap⟩, hown, ?_, ?_, k8.1, k8.2.1, k8.2.2.1, k8.2.2.2.1, Nat.le_trans k8.2.2.2.2 hg.size⟩
  · rw [hg.block q (blk_lt k1) (fun e => hne q (by omega) e.symm)]; exact k1
  · rw [hg.block p4 (blk_lt k2) (fun e => hne p4 (by omega) e.symm)]; exact k2
  · exact k3.low hb (by omega)
  · exact (((k6.app (AreD.one hx)).ltS).keptS hk).mono hap
  · exact k7.trans (hb.mono (by omega))
theorem IsEn.ltS {S : Nat → Prop} {w : World} {v : Value} {x : Lane.En} (h : IsEn S w v x) : IsEn (fun b => S b ∧ b < w.heap.size) w v x := by
  obtain ⟨BA, bn, bc, LA, ln, lc, rfl, h1, h2, h3, h4⟩ := h
  exact ⟨BA, bn, bc, LA, ln, lc, rfl, h1, h2, h3.and h1.lt, h4.and (RdI.lt h2)⟩
theorem RB.appE (h : RB q p4 g n cap base b2 w0 A m c rows d t ls w) {A' : Option Addr} {m' c' : Nat} {v : Value} {x : Lane.En} (he : IsEn (SB q p4 g A m c) w v x) (hg : w.grownBy w' (Value.slice A m c).ownBlock)
    (ho : (Value.slice A' m' c').ownBlock = (Value.slice A m c).ownBlock ∨ (Value.slice A' m' c').ownBlock = some w.heap.size) : IsEn (SB q p4 g A' m' c') w' v x := by
  have hk : KeptS (fun b => SB q p4 g A m c b ∧ b < w.heap.size) w w' := KeptS.grown hg fun b hb => hb.1.2.2.2
  exact (he.ltS.keptS hk).mono fun b hb => ⟨hb.1.1, hb.1.2.1, hb.1.2.2.1, fun e => by
    rcases ho with h2 | h2
    · exact hb.1.2.2.2 (h2 ▸ e)
    · rw [h2] at e; injection e with e; omega⟩
theorem en_tail {S : Nat → Prop} {k s : Int} {r : List Int} {BA : Option Addr} {bn bc bL oL ln lc : Nat} {x : Lane.En} (h : IsEn S w (.agg #[.int .i64 k, .int .i64 x.q, .slice BA bn bc, .slice (some ⟨bL, oL, none⟩) ln lc, .bool x.h]) x) (hl : x.l = s :: r)
    (Q : Option Addr) (hQ : (if lc = 1 then some ⟨bL, oL, none⟩ else some ⟨bL, oL + 1, none⟩) = Q) : IsEn S w (.agg #[.int .i64 2, .int .i64 x.q, .slice none 0 0, .slice Q (ln - 1) (lc - 1), .bool x.h]) (Seqr.order x r) := by
  obtain ⟨BA', bn', bc', LA', ln', lc', ev, h1, h2, h3, h4⟩ := h
  simp only [Value.agg.injEq, Array.mk.injEq, List.cons.injEq, Value.slice.injEq, and_true, true_and] at ev
  obtain ⟨_, _, e1, e2, e3⟩ := ev
  subst e1 e2 e3
  rw [hl] at h2
  have htl := RdI.tail h2 Q hQ
  have hsz := RdI.size h2
  refine ⟨none, 0, 0, Q, ln - 1, lc - 1, rfl, Rd.nil_ _, htl, Within.zero _ _, fun h0 b o e => ?_⟩
  have hb : b = bL := by
    rw [← hQ] at e
    split at e
    · injection e with e; injection e with e1 e2; exact e1.symm
    · injection e with e; injection e with e1 e2; exact e1.symm
  rw [hb]
  exact h4 (by omega) bL oL rfl
end
/-- What holds ahead of each round of the document's walk. -/
def RWR (q p4 g n cap base b2 : Nat) (w0 : World) (t0 : Seqr.Tn) (ls0 : List Lane.Ln) (k : Nat) (x8 : Value) (wr : World) : Prop :=
  ∃ A m c rows d t ls, x8 = .slice A m c ∧ Seqr.Goes t0 ls0 d t ls ∧ RB q p4 g n cap base b2 w0 A m c rows d t ls wr ∧ Seqr.mu ls = k
/-- What the document's Walk tells. -/
def RWalkIs (w : World) (r : Seqr.Tn × List Lane.Ln × List Seqr.Dv) (n : Nat) (e : Ending) (w' : World) : Prop :=
  ∃ A c D m d, e = .returned (.tuple #[.agg #[.int .i64 (r.1.who : Int), .int .i64 r.1.used], .slice A n c, .slice D m d]) ∧ RdL (fun _ => True) w' A n c r.2.1 ∧ RdD (fun _ => True) w' D m d r.2.2 ∧ Below w.heap.size w w'
end Go.Proofs.Ytdchgnmkeefffaa
