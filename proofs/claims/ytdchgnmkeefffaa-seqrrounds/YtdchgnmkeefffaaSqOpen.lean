/- What comes in of chapter 16's laws, opened to its parts. -/
import Derived.Test.YtdchgnmkeefffaaSqMem
import Derived.Test.YtdchgnmkeefffaaLnOpen
set_option maxRecDepth 100000
namespace Go.Proofs.Ytdchgnmkeefffaa
open Go.RowKit
set_option linter.unusedVariables false

open Go.ChangeShapes Go.WideShapes Go.ChangeAt

theorem u8_open {W : World} {r : Reach} {b0 : Nat} {v : Value} (o : Value.okWide Try.prog W r b0 5 v) (h : Tr Try.prog W 5 v.cells.toList) : ∃ a : Int, v = .int .u8 a ∧ 0 ≤ a ∧ a < 256 := byte_open o h
/-- Numbers of 64 bits, of all lanes. -/
def LsOk (ls : List Lane.Ln) : Prop := ∀ l ∈ ls, LnOk l
theorem Tr.turn {w : World} {cs : List Value} (h : Tr Try.prog w 23 cs) : ∃ a b : Int, cs = [.int .i64 a, .int .i64 b] := by
  have cN : Try.prog.cellsOf 23 = 2 := by kernel_rfl
  obtain ⟨hl, hall⟩ := h.struct Try.underlying23
  rw [cN] at hl
  match cs, hl with
  | [v0, v1], _ =>
    obtain ⟨k, e0, w0⟩ := (hall 0 _ rfl).int Try.underlying3
    obtain ⟨q, e1, w1⟩ := (hall 1 _ rfl).int Try.underlying3
    injection e0 with e0
    injection e1 with e1
    subst e0 e1
    exact ⟨_, _, rfl⟩
theorem turn_open {W : World} {r : Reach} {b0 : Nat} {v : Value} (o : Value.okWide Try.prog W r b0 23 v) (h : Tr Try.prog W 23 v.cells.toList) : ∃ a b : Int, v = .agg #[.int .i64 a, .int .i64 b] := by
  have cN : Try.prog.cellsOf 23 = 2 := by kernel_rfl
  obtain ⟨cs, rfl, hsz⟩ := okWide_struct Try.underlying23 o
  obtain ⟨l⟩ := cs
  match l, hsz.trans cN with
  | [v0, v1], _ =>
    simp only [Value.cells] at h
    obtain ⟨a, b, e⟩ := Tr.turn h
    have e' : [v0, v1] = _ := e
    simp only [List.cons.injEq, and_true] at e'
    obtain ⟨rfl, rfl⟩ := e'
    exact ⟨_, _, rfl⟩
theorem Tr.lanes {w : World} {cs : List Value} (h : Tr Try.prog w 24 cs) : ∃ A n c xs, cs = [.slice A n c] ∧ RdL (fun _ => True) w A n c xs ∧ LsOk xs := by
  obtain ⟨A, n, c, rfl, hn, hc, hA, hE⟩ := h.slice Try.underlying24 (k := 5) (by kernel_rfl) (by omega)
  by_cases h0 : 0 < n
  · obtain ⟨b, o, rfl, hE2⟩ := hE h0
    obtain ⟨l, hl, hF⟩ := list_of (n := n) (fun i (p : Array Value × Lane.Ln) => IsLane (fun _ => True) w (.agg p.1) p.2 ∧ (p.1.size = 5 ∧ p.1.all (·.oneCell') = true) ∧ (∀ j u, p.1[j]? = some u → w.cell? ⟨b, o + (i * 5 + j), none⟩ = some u) ∧ LnOk p.2) (fun i hi => by
      obtain ⟨ys, _, hT, hc⟩ := hE2 i hi
      obtain ⟨A', n', c', B', m', d', l, rfl, hE, hB, hok⟩ := Tr.lane hT
      exact ⟨(#[.slice A' n' c', .int .i64 l.p.seq, .int .i64 l.p.total, .int .i64 l.p.got, .slice B' m' d'], l), ⟨A', n', c', B', m', d', rfl, hE, hB, Within.any _ _⟩, ⟨rfl, by simp [Value.oneCell']⟩, fun j u hu => hc j u (by simpa using hu), hok⟩)
    have hall : AllK 5 (l.map (·.1)) := by
      intro r hr
      obtain ⟨p, hp, rfl⟩ := List.mem_map.1 hr
      obtain ⟨i, hi⟩ := List.getElem?_of_mem hp
      exact (hF i p hi).2.1
    refine ⟨some ⟨b, o, none⟩, n, c, l.map (·.2), rfl, ⟨l.map (·.1), ⟨hall, by simpa using hl, hn, hc, (fun h => by cases h), fun _ => ⟨b, o, rfl, fun i u hu => ?_⟩⟩, ⟨by simp, fun i t x h1 h2 => ?_⟩, Within.any _ _⟩, fun x hx => ?_⟩
    · obtain ⟨t, h1, h2⟩ := flat_div (by omega) hall hu
      rw [List.getElem?_map, Option.map_eq_some_iff] at h1
      obtain ⟨p, hp, rfl⟩ := h1
      have := (hF _ p hp).2.2.1 _ u h2
      rwa [show i / 5 * 5 + i % 5 = i from by omega] at this
    · rw [List.getElem?_map, Option.map_eq_some_iff] at h1 h2
      obtain ⟨p, hp, rfl⟩ := h1
      obtain ⟨p', hp', rfl⟩ := h2
      rw [hp] at hp'
      injection hp' with hp'
      subst hp'
      exact (hF i p hp).1
    · obtain ⟨p, hp, rfl⟩ := List.mem_map.1 hx
      obtain ⟨i, hi⟩ := List.getElem?_of_mem hp
      exact (hF i p hi).2.2.2
  · have hn0 : n = 0 := by omega
    subst hn0
    exact ⟨A, 0, c, [], rfl, ⟨[], ⟨AllK.nil_ 5, rfl, hn, hc, hA, fun h => absurd h (by omega)⟩, AreL.nil_ _ w, Within.any _ _⟩, fun x hx => by cases hx⟩
theorem lanes_open {W : World} {r : Reach} {b0 : Nat} {v : Value} (o : Value.okWide Try.prog W r b0 24 v) (h : Tr Try.prog W 24 v.cells.toList) : ∃ A n c xs, v = .slice A n c ∧ RdL (fun _ => True) W A n c xs ∧ LsOk xs := by
  obtain ⟨a, m, c, rfl⟩ := okWide_slice Try.underlying24 o
  obtain ⟨A, m', d, ls, ha, hr, hk⟩ := Tr.lanes h
  obtain ⟨rfl, rfl, rfl⟩ : a = A ∧ m = m' ∧ c = d := by simpa [Value.cells] using ha
  exact ⟨a, m, c, ls, rfl, hr, hk⟩
end Go.Proofs.Ytdchgnmkeefffaa
