/- What comes in of chapter 16's laws of structs, opened to its parts. -/
import Derived.Test.YtdchgnmkeefffaaSqOpen
import Derived.Test.YtdchgnmkeefffaaSqIt
set_option maxRecDepth 100000
namespace Go.Proofs.Ytdchgnmkeefffaa
open Go.RowKit
set_option linter.unusedVariables false

open Go.ChangeShapes Go.WideShapes Go.ChangeAt

theorem Tr.items {w : World} {cs : List Value} (h : Tr Try.prog w 42 cs) : ∃ A n c xs, cs = [.slice A n c] ∧ RdX (fun _ => True) w A n c xs := by
  obtain ⟨A, n, c, rfl, hn, hc, hA, hE⟩ := h.slice Try.underlying42 (k := 8) (by kernel_rfl) (by omega)
  by_cases h0 : 0 < n
  · obtain ⟨b, o, rfl, hE2⟩ := hE h0
    obtain ⟨l, hl, hF⟩ := list_of (n := n) (fun i (p : Array Value × Item.It) => IsItS (fun _ => True) w (.agg p.1) p.2 ∧ (p.1.size = 8 ∧ p.1.all (·.oneCell') = true) ∧ ∀ j u, p.1[j]? = some u → w.cell? ⟨b, o + (i * 8 + j), none⟩ = some u) (fun i hi => by
      obtain ⟨ys, _, hT, hc⟩ := hE2 i hi
      obtain ⟨LA, ln, lc, BA, bn, bc, x, rfl, rl, rb⟩ := hT.item
      exact ⟨(#[.int .i64 x.k, .int .i64 x.q, .int .i64 x.e, .int .i64 x.i, .int .i64 x.t, .int .i64 x.c, .slice LA ln lc, .slice BA bn bc], x), ⟨LA, ln, lc, BA, bn, bc, rfl, rl, rb, Within.any _ _, Within.any _ _⟩, ⟨rfl, by simp [Value.oneCell']⟩, fun j u hu => hc j u (by simpa using hu)⟩)
    have hall : AllK 8 (l.map (·.1)) := by
      intro r hr
      obtain ⟨p, hp, rfl⟩ := List.mem_map.1 hr
      obtain ⟨i, hi⟩ := List.getElem?_of_mem hp
      exact (hF i p hi).2.1
    refine ⟨some ⟨b, o, none⟩, n, c, l.map (·.2), rfl, l.map (·.1), ⟨hall, by simpa using hl, hn, hc, (fun h => by cases h), fun _ => ⟨b, o, rfl, fun i u hu => ?_⟩⟩, ⟨by simp, fun i t x h1 h2 => ?_⟩, Within.any _ _⟩
    · obtain ⟨t, h1, h2⟩ := flat_div (by omega) hall hu
      rw [List.getElem?_map, Option.map_eq_some_iff] at h1
      obtain ⟨p, hp, rfl⟩ := h1
      have := (hF _ p hp).2.2 _ u h2
      rwa [show i / 8 * 8 + i % 8 = i from by omega] at this
    · rw [List.getElem?_map, Option.map_eq_some_iff] at h1 h2
      obtain ⟨p, hp, rfl⟩ := h1
      obtain ⟨p', hp', rfl⟩ := h2
      rw [hp] at hp'
      injection hp' with hp'
      subst hp'
      exact (hF i p hp).1
  · have hn0 : n = 0 := by omega
    subst hn0
    exact ⟨A, 0, c, [], rfl, [], ⟨AllK.nil_ 8, rfl, hn, hc, hA, fun h => absurd h (by omega)⟩, AreX.nil_ _ w, Within.any _ _⟩
theorem parts_open {W : World} {r : Reach} {b0 : Nat} {v : Value} (o : Value.okWide Try.prog W r b0 44 v) (h : Tr Try.prog W 44 v.cells.toList) :
    ∃ (a b : Int) (A : Option Addr) (n c : Nat) (ls : List Lane.Ln) (WA : Option Addr) (m wc : Nat) (who : List Int) (IA : Option Addr) (k ic : Nat) (items : List Item.It) (cut : Int), v = .agg #[.int .i64 a, .int .i64 b, .slice A n c, .slice WA m wc, .slice IA k ic, .int .u8 cut] ∧
      RdL (fun _ => True) W A n c ls ∧ LsOk ls ∧ RdI W WA m wc who ∧ RdX (fun _ => True) W IA k ic items ∧ 0 ≤ cut ∧ cut < 256 := by
  have cN : Try.prog.cellsOf 44 = 6 := by kernel_rfl
  obtain ⟨cs, rfl, hsz⟩ := okWide_struct Try.underlying44 o
  obtain ⟨l⟩ := cs
  obtain ⟨_, hall⟩ := h.struct Try.underlying44
  match l, hsz.trans cN with
  | [v0, v1, v2, v3, v4, v5], _ =>
    have h0 : Tr Try.prog W 23 [v0, v1] := hall 0 _ rfl
    have h1 : Tr Try.prog W 24 [v2] := hall 1 _ rfl
    have h2 : Tr Try.prog W 32 [v3] := hall 2 _ rfl
    have h3 : Tr Try.prog W 42 [v4] := hall 3 _ rfl
    have h4 : Tr Try.prog W 5 [v5] := hall 4 _ rfl
    obtain ⟨a, b, e0⟩ := Tr.turn h0
    obtain ⟨A, n, c, ls, e1, hL, hok⟩ := Tr.lanes h1
    obtain ⟨WA, m, wc, who, e2, hW⟩ := h2.ints Try.underlying32 Try.underlying3 (by kernel_rfl)
    obtain ⟨IA, k, ic, items, e3, hX⟩ := Tr.items h3
    obtain ⟨cut, e4, wcut⟩ := h4.int Try.underlying5
    have hcut := wf_u8 wcut
    simp only [List.cons.injEq, and_true] at e0 e1 e2 e3 e4
    obtain ⟨rfl, rfl⟩ := e0
    subst e1 e2 e3 e4
    exact ⟨a, b, A, n, c, ls, WA, m, wc, who, IA, k, ic, items, cut, rfl, hL, hok, hW, hX, hcut.1, hcut.2⟩
theorem tells_open {W : World} {r : Reach} {b0 : Nat} {v : Value} (o : Value.okWide Try.prog W r b0 26 v) (h : Tr Try.prog W 26 v.cells.toList) :
    ∃ (a b : Int) (A : Option Addr) (n c : Nat) (ls : List Lane.Ln) (me qt : Int), v = .agg #[.int .i64 a, .int .i64 b, .slice A n c, .int .u8 me, .int .u8 qt] ∧
      RdL (fun _ => True) W A n c ls ∧ LsOk ls ∧ (0 ≤ me ∧ me < 256) ∧ 0 ≤ qt ∧ qt < 256 := by
  have cN : Try.prog.cellsOf 26 = 5 := by kernel_rfl
  obtain ⟨cs, rfl, hsz⟩ := okWide_struct Try.underlying26 o
  obtain ⟨l⟩ := cs
  obtain ⟨_, hall⟩ := h.struct Try.underlying26
  match l, hsz.trans cN with
  | [v0, v1, v2, v3, v4], _ =>
    have h0 : Tr Try.prog W 23 [v0, v1] := hall 0 _ rfl
    have h1 : Tr Try.prog W 24 [v2] := hall 1 _ rfl
    have h2 : Tr Try.prog W 5 [v3] := hall 2 _ rfl
    have h3 : Tr Try.prog W 5 [v4] := hall 3 _ rfl
    obtain ⟨a, b, e0⟩ := Tr.turn h0
    obtain ⟨A, n, c, ls, e1, hL, hok⟩ := Tr.lanes h1
    obtain ⟨me, e2, w2⟩ := h2.int Try.underlying5
    obtain ⟨qt, e3, w3⟩ := h3.int Try.underlying5
    have g2 := wf_u8 w2
    have g3 := wf_u8 w3
    simp only [List.cons.injEq, and_true] at e0 e1 e2 e3
    obtain ⟨rfl, rfl⟩ := e0
    subst e1 e2 e3
    exact ⟨a, b, A, n, c, ls, me, qt, rfl, hL, hok, g2, g3⟩
end Go.Proofs.Ytdchgnmkeefffaa
