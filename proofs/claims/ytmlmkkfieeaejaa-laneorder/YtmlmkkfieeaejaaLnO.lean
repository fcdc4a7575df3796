/- What LaneOrder wants beside. -/
import Derived.Test.YtmlmkkfieeaejaaLnW
import Derived.Test.YtmlmkkfieeaejaaLnOpen
import Derived.Test.YtmlmkkfieeaejaaMemV
import Derived.Test.YtmlmkkfieeaejaaLn10
import Derived.Test.YtmlmkkfieeaejaaLF5
set_option maxRecDepth 100000
namespace Go.Proofs.Ytmlmkkfieeaejaa
open Go.RowKit
set_option linter.unusedVariables false

theorem wpList_appW {P : Program} {w : World} {ops : Array Oper} {rest : List Oper} {o : Oper} {a : Act} {Q : Exit → Act → World → Prop} (hgd : Region.wanted o (yielded ops a.tmps) = true) (s x : Operand) (t : TypeId)
    (ho : o.op = .call { callee := .builtin .append, args := #[s, x], argTypes := #[t, t] })
    (base : Nat) (e : TypeId) (z : Value) (bytes : Nat) (hi : (P.info? e).map (fun i => (i.zero, i.size, i.bytes)) = some (some z, 1, bytes)) (hzc : z.cells.size = 1) (hb128 : bytes ≤ 128) (ht : P.underlying t = some (.slice e))
    (v : Value) (n : Nat) (xs : List Value) (hs : a.eval s = v) (hown : OwnV w base e v n xs)
    (A : Option Addr) (m c : Nat) (l : List Value) (hx : a.eval x = .slice A m c) (hr : RdV w A m c l) (h1 : ∀ u ∈ l, u.oneCell' = true)
    (h63 : n + m ≤ 1099511627776) (hbase : base ≤ w.heap.size)
    (h : ∀ v' w', OwnV w' base e v' (n + m) (xs ++ l) → Below base w w' → w.grownBy w' v.ownBlock → (v'.ownBlock = v.ownBlock ∨ v'.ownBlock = some w.heap.size) → wpList P ops Q rest (a.put o.dst v') w') : wpList P ops Q (o :: rest) a w := by
  obtain ⟨i0, hi0, hz0, hz1, hz2⟩ := info_parts hi
  refine wpList_step fun K hK => ?_
  rw [if_pos hgd]
  obtain ⟨v', w', hrun, h2, h3, h4⟩ := run_appV (P := P) w base t o.type e i0 ht hi0 z hz0 hz1 bytes hz2 hzc v n xs hown A m c l hr h1 h63 hb128 hbase
  unfold Oper.wp execOp
  simp only [ho, resolve, invoke, builtin, Sem.run_bind, Sem.run_pure, Result.andThen_ok, List.map_toArray, List.map_cons, List.map_nil, hs, hx, hrun]
  exact hK _ _ (h v' w' h2 (hown.below h3 hbase) h3 h4)
theorem OwnV.blk {w : World} {base n : Nat} {e : TypeId} {v : Value} {l : List Value} (h : OwnV w base e v n l) : ∀ b, v.ownBlock = some b → b < w.heap.size ∧ base ≤ b := fun b hb => by
  rcases h.2 with ⟨rfl, _⟩ | ⟨g, cap, cur, rfl, hg, hh, _⟩
  · cases hb
  · injection hb with hb
    subst hb
    exact ⟨blk_lt hh, hg⟩
/-- Lists that lie beside a box and beside a value's row. -/
abbrev Apart (g : Nat) (f : Value) : Nat → Prop := fun b => b ≠ g ∧ f.ownBlock ≠ some b
theorem RdE.ltS {S : Nat → Prop} {w : World} {A : Option Addr} {n c : Nat} {xs : List Lane.En} (h : RdE S w A n c xs) : RdE (fun b => S b ∧ b < w.heap.size) w A n c xs := by
  obtain ⟨_, _, _, h4⟩ := h.lt
  obtain ⟨rs, h1, h2, h3⟩ := h
  exact ⟨rs, h1, h2.lt, h3.and h4⟩
theorem IsLane.ltS {S : Nat → Prop} {w : World} {v : Value} {l : Lane.Ln} (h : IsLane S w v l) : IsLane (fun b => S b ∧ b < w.heap.size) w v l := by
  obtain ⟨A, n, c, B, m, d, rfl, h1, h2, h3⟩ := h
  exact ⟨A, n, c, B, m, d, rfl, h1.ltS, h2, h3.and h2.lt⟩
section
variable {w w' : World} {v f f' : Value} {l : Lane.Ln} {g lo : Nat}
theorem IsLane.apartHi (h : IsLane (Hi lo) w v l) (hg : g < lo) (hf : ∀ b, f.ownBlock = some b → b < lo) : IsLane (Apart g f) w v l :=
  h.mono fun b hb => ⟨fun e => by subst e; exact absurd hb (Nat.not_le.2 hg), fun e => absurd hb (Nat.not_le.2 (hf b e))⟩
theorem IsLane.apartBut (h : IsLane (Apart g f) w v l) (hb : But g w w') : IsLane (Apart g f) w' v l := h.keptS (KeptS.but hb fun b h => h.1)
theorem IsLane.apartGrown (h : IsLane (Apart g f) w v l) (hg : w.grownBy w' f.ownBlock) (ho : f'.ownBlock = f.ownBlock ∨ f'.ownBlock = some w.heap.size) : IsLane (Apart g f') w' v l :=
  (h.ltS.keptS (KeptS.grown hg fun b hb => hb.1.2)).mono fun b hb => ⟨hb.1.1, by
    rcases ho with e | e
    · rw [e]; exact hb.1.2
    · rw [e]; intro e2; injection e2 with e2; exact absurd hb.2 (by omega)⟩
end
/-- The numbers of the first pieces. -/
def firsts (m : Nat) (xs : List (List UInt8 × Bool)) (i : Nat) : List Int := (List.range i).map fun k => Lane.seqOf m 1 (xs.take k)
theorem firsts_snoc (m : Nat) (xs : List (List UInt8 × Bool)) (i : Nat) : firsts m xs (i + 1) = firsts m xs i ++ [Lane.seqOf m 1 (xs.take i)] := by
  unfold firsts
  rw [List.range_succ, List.map_append]
  rfl
theorem firsts_at (m : Nat) (xs : List (List UInt8 × Bool)) {i k : Nat} (h : k < i) : (firsts m xs i)[k]? = some (Lane.seqOf m 1 (xs.take k)) := by
  unfold firsts
  rw [List.getElem?_map, List.getElem?_range h]
  rfl
theorem take_snoc {α : Type} {xs : List α} {i : Nat} {x : α} (h : xs[i]? = some x) : xs.take (i + 1) = xs.take i ++ [x] := by
  rw [List.take_add_one, h]; rfl
/-- A lane while a message's pieces come in. -/
def stK (E : List Lane.En) (s : Int) (l : List UInt8) (m k : Nat) : Lane.Ln := if k = manyN l.length m then ⟨E ++ [Lane.msg s l], none_⟩ else ⟨E, Lane.under s (manyN l.length m) l m k⟩
theorem stK_zero (E : List Lane.En) (s : Int) (l : List UInt8) (m : Nat) : stK E s l m 0 = ⟨E, none_⟩ := by
  have := manyN_pos l.length m
  unfold stK
  rw [if_neg (by omega)]
  rfl
theorem stK_all (E : List Lane.En) (s : Int) (l : List UInt8) (m : Nat) : stK E s l m (manyN l.length m) = ⟨E ++ [Lane.msg s l], none_⟩ := by unfold stK; rw [if_pos rfl]
theorem stK_read {E : List Lane.En} {s : Int} {l : List UInt8} {m k : Nat} (hm : 1 ≤ m) (hK : manyN l.length m ≤ 32) (hk : k < manyN l.length m) (hes : Lane.rises 0 E = true) (hs : Lane.top 0 E < s) {it : Item.It}
    (e1 : it.k = 1) (e2 : it.q = s + k) (e3 : it.i = k) (e4 : it.t = (manyN l.length m : Nat)) (e5 : it.b = piece l m k) : Lane.read (stK E s l m k) it = (stK E s l m (k + 1), 0) := by
  have h := Lane.read_piece hm hK hk hes hs e1 e2 e3 e4 e5
  have e : stK E s l m k = ⟨E, Lane.under s (manyN l.length m) l m k⟩ := by unfold stK; rw [if_neg (by omega)]
  rw [e, h]
  unfold stK
  split <;> rfl
theorem ents_small {m : Nat} {s : Int} {ys : List (List UInt8 × Bool)} (h : ∀ x ∈ ys, x.1.length ≤ 60) : (Lane.ents m s ys).length ≤ 2 * ys.length ∧ ∀ e ∈ Lane.ents m s ys, SmallE e := by
  induction ys generalizing s with
  | nil => exact ⟨Nat.le_refl _, fun e he => by cases he⟩
  | cons x xs ih =>
    obtain ⟨h1, h2⟩ := ih (s := s + Lane.sz m x) fun y hy => h y (List.mem_cons_of_mem _ hy)
    have hx := h x List.mem_cons_self
    obtain ⟨l, o⟩ := x
    have e : Lane.ents m s ((l, o) :: xs) = Lane.ents1 m s (l, o) ++ Lane.ents m (s + Lane.sz m (l, o)) xs := rfl
    rw [e]
    refine ⟨?_, fun y hy => ?_⟩
    · rw [List.length_append]
      have : (Lane.ents1 m s (l, o)).length ≤ 2 := by cases o <;> simp [Lane.ents1]
      simp only [List.length_cons]
      omega
    · rcases List.mem_append.1 hy with hy | hy
      · have hl : l.length ≤ 60 := hx
        cases o with
        | true =>
          simp only [Lane.ents1, List.mem_cons, if_true, List.not_mem_nil, or_false] at hy
          rcases hy with rfl | rfl
          · exact ⟨by simp [Lane.msg], by show l.length ≤ 65536; omega⟩
          · exact ⟨by simp [Lane.tok], by simp [Lane.tok]⟩
        | false =>
          simp only [Lane.ents1, List.mem_cons, Bool.false_eq_true, if_false, List.not_mem_nil, or_false] at hy
          subst hy
          exact ⟨by simp [Lane.msg], by show l.length ≤ 65536; omega⟩
      · exact h2 y hy
theorem under_small (s : Int) (K : Nat) (l : List UInt8) (m k : Nat) : (Lane.under s K l m k).b.length ≤ l.length := by
  unfold Lane.under
  split
  · exact Nat.zero_le _
  · show (l.take (k * m)).length ≤ l.length
    rw [List.length_take]
    exact Nat.min_le_right _ _
theorem stK_small {m : Nat} {s s0 : Int} {ys : List (List UInt8 × Bool)} (h : ∀ x ∈ ys, x.1.length ≤ 60) (hy : ys.length ≤ 20) {l : List UInt8} (hl : l.length ≤ 60) (k : Nat) : SmallL (stK (Lane.ents m s0 ys) s l m k) := by
  obtain ⟨h1, h2⟩ := ents_small (m := m) (s := s0) h
  unfold stK
  split
  · refine ⟨by simp; omega, fun x hx => ?_, by simp [none_]⟩
    rcases List.mem_append.1 hx with hx | hx
    · exact h2 x hx
    · rw [List.mem_singleton.1 hx]
      exact ⟨by simp [Lane.msg], by show l.length ≤ 65536; omega⟩
  · refine ⟨by show (Lane.ents m s0 ys).length ≤ 65536; omega, h2, ?_⟩
    show (Lane.under s (manyN l.length m) l m k).b.length ≤ 65536
    have := under_small s (manyN l.length m) l m k
    omega
theorem stK_got (E : List Lane.En) (s : Int) (l : List UInt8) (m k : Nat) : 0 ≤ (stK E s l m k).p.got := by
  unfold stK
  split
  · exact Int.le_refl _
  · show 0 ≤ (Lane.under s (manyN l.length m) l m k).got
    rw [Lane.under_got]
    omega
theorem RdB.hi {lo : Nat} {w w' : World} {A : Option Addr} {n c : Nat} {rs : List Bw} (h : RdB w A n c rs) (ha : ∀ b o, A = some ⟨b, o, none⟩ → lo ≤ b) (hr : ∀ r ∈ rs, ∀ b o, r.A = some ⟨b, o, none⟩ → lo ≤ b) (hk : KeptS (Hi lo) w w') : RdB w' A n c rs :=
  ⟨RdV.keptS h.1 (Within.of ha) hk, fun r hr' => Rd.keptS (h.2 r hr') (Within.of (hr r hr')) hk⟩
theorem set5w {w : World} {g : Nat} {b0 b1 b2 b3 b4 : Value} {t : TypeId} (h : w.heap[g]? = some (.cells #[b0, b1, b2, b3, b4] t (0, 0))) (a0 a1 a2 a3 a4 : Value) :
    (((((w.setCell ⟨g, 0, none⟩ a0).setCell ⟨g, 1, none⟩ a1).setCell ⟨g, 2, none⟩ a2).setCell ⟨g, 3, none⟩ a3).setCell ⟨g, 4, none⟩ a4).heap[g]? = some (.cells #[a0, a1, a2, a3, a4] t (0, 0)) ∧ But g w (((((w.setCell ⟨g, 0, none⟩ a0).setCell ⟨g, 1, none⟩ a1).setCell ⟨g, 2, none⟩ a2).setCell ⟨g, 3, none⟩ a3).setCell ⟨g, 4, none⟩ a4) ∧
    (∀ base w0, Below base w0 w → base ≤ g → Below base w0 (((((w.setCell ⟨g, 0, none⟩ a0).setCell ⟨g, 1, none⟩ a1).setCell ⟨g, 2, none⟩ a2).setCell ⟨g, 3, none⟩ a3).setCell ⟨g, 4, none⟩ a4)) := by
  have s0 : (w.setCell ⟨g, 0, none⟩ a0).heap[g]? = some (.cells #[a0, b1, b2, b3, b4] t (0, 0)) := heap_setCell_same w g 0 _ t a0 h
  obtain ⟨h1, h2, h3⟩ := set4p s0 a1 a2 a3 a4
  exact ⟨h1, (But.setCell w g 0 a0).trans h2, fun base w0 hb hg => h3 base w0 (hb.setCell (p := ⟨g, 0, none⟩) hg a0) hg⟩
theorem zip_at {rs : List Bw} {hs : List Bool} {i : Nat} {r : Bw} {h : Bool} (h1 : rs[i]? = some r) (h2 : hs[i]? = some h) : ((rs.map Bw.b).zip hs)[i]? = some (r.b, h) := by
  rw [List.getElem?_zip_eq_some]
  exact ⟨by rw [List.getElem?_map, h1]; rfl, h2⟩
end Go.Proofs.Ytmlmkkfieeaejaa
