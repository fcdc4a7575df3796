/- Rows that are appended to beside what a walk holds. -/
import Derived.Test.YtdchgnmkeefffaaSqSt
set_option maxRecDepth 100000
namespace Go.Proofs.Ytdchgnmkeefffaa
open Go.RowKit
set_option linter.unusedVariables false

theorem wpList_appKW {P : Program} {w : World} {ops : Array Oper} {rest : List Oper} {o : Oper} {a : Act} {Q : Exit → Act → World → Prop} (k : Nat) (hk0 : 0 < k) (hgd : Region.wanted o (yielded ops a.tmps) = true) (s x : Operand) (t : TypeId)
    (ho : o.op = .call { callee := .builtin .append, args := #[s, x], argTypes := #[t, t] })
    (base : Nat) (e : TypeId) (z : Value) (bytes : Nat) (hi : (P.info? e).map (fun i => (i.zero, i.size, i.bytes)) = some (some z, k, bytes)) (hzc : z.cells.size = k) (hb128 : bytes ≤ 65536) (ht : P.underlying t = some (.slice e))
    (v : Value) (n : Nat) (xs : List (Array Value)) (hs : a.eval s = v) (hown : OwnK k w base e v n xs)
    (A : Option Addr) (m c : Nat) (l : List (Array Value)) (hx : a.eval x = .slice A m c) (hr : RdK k w A m c l)
    (h63 : n + m ≤ 16777216) (hbase : base ≤ w.heap.size)
    (h : ∀ v' w', OwnK k w' base e v' (n + m) (xs ++ l) → Below base w w' → w.grownBy w' v.ownBlock → (v'.ownBlock = v.ownBlock ∨ v'.ownBlock = some w.heap.size) → wpList P ops Q rest (a.put o.dst v') w') : wpList P ops Q (o :: rest) a w := by
  obtain ⟨i0, hi0, hz0, hz1, hz2⟩ := info_parts hi
  refine wpList_step fun K hK => ?_
  rw [if_pos hgd]
  obtain ⟨v', w', hrun, h2, h3, h4⟩ := run_appK (P := P) k hk0 w base t o.type e i0 ht hi0 z hz0 hz1 bytes hz2 hzc v n xs hown A m c l hr h63 hb128 hbase
  unfold Oper.wp execOp
  simp only [ho, resolve, invoke, builtin, Sem.run_bind, Sem.run_pure, Result.andThen_ok, List.map_toArray, List.map_cons, List.map_nil, hs, hx, hrun]
  exact hK _ _ (h v' w' h2 (OwnK.below hown h3 hbase) h3 h4)

theorem OwnK.kept2 {k : Nat} {w w' : World} {base n g q : Nat} {e : TypeId} {v : Value} {us : List (Array Value)} (h : OwnK k w base e v n us) (hk : Kept2 g q w w') (hne : ∀ b, v.ownBlock = some b → b ≠ g ∧ b ≠ q) : OwnK k w' base e v n us := by
  obtain ⟨h0, hl, h⟩ := h
  refine ⟨h0, hl, h.1, ?_⟩
  rcases h.2 with h2 | ⟨p, cap', cur, hv, hq, hh, r⟩
  · exact .inl h2
  · refine .inr ⟨p, cap', cur, hv, hq, ?_, r⟩
    have := hne p (by rw [hv]; rfl)
    exact hk.block hh this.1 this.2
theorem OwnK.butV {k : Nat} {w w' : World} {base n p : Nat} {e : TypeId} {v : Value} {us : List (Array Value)} (h : OwnK k w base e v n us) (hb : But p w w') (hne : ∀ b, v.ownBlock = some b → b ≠ p) : OwnK k w' base e v n us := by
  obtain ⟨h0, hl, h⟩ := h
  refine ⟨h0, hl, h.1, ?_⟩
  rcases h.2 with h2 | ⟨q, cap', cur, hv, hq, hh, r⟩
  · exact .inl h2
  · exact .inr ⟨q, cap', cur, hv, hq, (hb.2 q (hne q (by rw [hv]; rfl))).trans hh, r⟩
theorem SqState.ltS {p0 p1 q g n cap base : Nat} {S : Nat → Prop} {w : World} {t : Seqr.Tn} {ls : List Lane.Ln} (h : SqState p0 p1 q g n cap base S w t ls) : SqState p0 p1 q g n cap base (fun b => S b ∧ b < w.heap.size) w t ls := by
  obtain ⟨s0, s1, s2, rs, s3, s4⟩ := h
  exact ⟨s0, s1, s2, rs, s3, s4.ltS⟩
theorem OwnK.blk {k : Nat} {w : World} {base n : Nat} {e : TypeId} {v : Value} {us : List (Array Value)} (h : OwnK k w base e v n us) : ∀ b, v.ownBlock = some b → base ≤ b ∧ b < w.heap.size := fun b hb => World.ownsRow.lt h.2.2 b hb
theorem SqState.keptS {p0 p1 q g n cap base : Nat} {S : Nat → Prop} {w w' : World} {t : Seqr.Tn} {ls : List Lane.Ln} (h : SqState p0 p1 q g n cap base S w t ls) {row : Option Nat} (hg : w.grownBy w' row) (h0 : row ≠ some p0) (h1 : row ≠ some p1) (hq : row ≠ some q) (hgg : row ≠ some g) (hS : ∀ b, S b → row ≠ some b) : SqState p0 p1 q g n cap base S w' t ls := by
  obtain ⟨s0, s1, s2, rs, s3, s4⟩ := h
  refine ⟨hg.cell s0 (fun e => h0 e.symm), hg.cell s1 (fun e => h1 e.symm), ?_, rs, ?_, s4.keptS (KeptS.grown hg hS)⟩
  · rw [hg.block q (blk_lt s2) (fun e => hq e.symm)]; exact s2
  · obtain ⟨a0, a1, ho⟩ := s3
    refine ⟨a0, a1, ho.1, ?_⟩
    rcases ho.2 with h2 | ⟨p, cap', cur, hv, hb, hh, r⟩
    · exact .inl h2
    · refine .inr ⟨p, cap', cur, hv, hb, ?_, r⟩
      injection hv with hv
      injection hv with hv
      injection hv with hv
      subst hv
      rw [hg.block g (blk_lt hh) (fun e => hgg e.symm)]; exact hh
theorem Kept2.grown {g q : Nat} {w w' wx : World} (h : Kept2 g q w w') {row : Option Nat} (hg : w'.grownBy wx row) (hr : ∀ b, row = some b → w.heap.size ≤ b) : Kept2 g q w wx :=
  ⟨h.1.trans ⟨hg.os, hg.tape, hg.output, hg.size, fun k hk => absurd hk (Nat.not_lt_zero _)⟩, fun i hi h1 h2 => by
    rw [hg.block i (Nat.lt_of_lt_of_le hi h.1.size) (fun e => by have := hr i e.symm; omega)]; exact h.2 i hi h1 h2⟩
end Go.Proofs.Ytdchgnmkeefffaa
