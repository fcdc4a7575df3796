/- What comes in of chapter 15's laws, opened to its parts. -/
import Derived.Test.YtdchgnmkeefffaaRows
import Derived.Test.YtdchgnmkeefffaaLCX
import Derived.Test.YtdchgnmkeefffaaLFX
set_option maxRecDepth 100000
namespace Go.Proofs.Ytdchgnmkeefffaa
open Go.RowKit Go.ChangeShapes Go.WideShapes Go.ChangeAt
set_option linter.unusedVariables false

theorem byte_open {W : World} {r : Reach} {b0 : Nat} {v : Value} (o : Value.okWide Try.prog W r b0 5 v) (h : Tr Try.prog W 5 v.cells.toList) : ∃ a : Int, v = .int .u8 a ∧ 0 ≤ a ∧ a < 256 := by
  obtain ⟨a, e, hw⟩ := h.int Try.underlying5
  obtain ⟨k, rfl⟩ := okWide_int Try.underlying5 o
  simp [Value.cells] at e
  subst e
  exact ⟨_, rfl, wf_u8 hw⟩
theorem ints_open {W : World} {r : Reach} {b0 : Nat} {v : Value} (o : Value.okWide Try.prog W r b0 32 v) (h : Tr Try.prog W 32 v.cells.toList) : ∃ A n c l, v = .slice A n c ∧ RdI W A n c l := by
  obtain ⟨a, m, c, rfl⟩ := okWide_slice Try.underlying32 o
  obtain ⟨A, m', d, ls, ha, hr⟩ := h.ints Try.underlying32 Try.underlying3 (by kernel_rfl)
  obtain ⟨rfl, rfl, rfl⟩ : a = A ∧ m = m' ∧ c = d := by simpa [Value.cells] using ha
  exact ⟨a, m, c, ls, rfl, hr⟩
theorem int_open {W : World} {r : Reach} {b0 : Nat} {v : Value} (o : Value.okWide Try.prog W r b0 3 v) (h : Tr Try.prog W 3 v.cells.toList) : ∃ a : Int, v = .int .i64 a := by
  obtain ⟨a, e, hw⟩ := h.int Try.underlying3
  obtain ⟨k, rfl⟩ := okWide_int Try.underlying3 o
  simp [Value.cells] at e
  subst e
  exact ⟨_, rfl⟩
theorem Tr.item {w : World} {ys : List Value} (h : Tr Try.prog w 35 ys) : ∃ LA ln lc BA bn bc x, ys = [.int .i64 x.k, .int .i64 x.q, .int .i64 x.e, .int .i64 x.i, .int .i64 x.t, .int .i64 x.c, .slice LA ln lc, .slice BA bn bc] ∧ RdI w LA ln lc x.l ∧ Rd w BA bn bc (Item.It.b x) := by
  have c25 : Try.prog.cellsOf 35 = 8 := by kernel_rfl
  obtain ⟨hl, hall⟩ := h.struct Try.underlying35
  rw [c25] at hl
  match ys, hl with
  | [v0, v1, v2, v3, v4, v5, v6, v7], _ =>
    have h0 := hall 0 _ rfl
    have h1 := hall 1 _ rfl
    have h2 := hall 2 _ rfl
    have h3 := hall 3 _ rfl
    have h4 := hall 4 _ rfl
    have h5 := hall 5 _ rfl
    have h6 := hall 6 _ rfl
    have h7 := hall 7 _ rfl
    obtain ⟨k, e0, _⟩ := h0.int Try.underlying3
    obtain ⟨q, e1, _⟩ := h1.int Try.underlying3
    obtain ⟨e, e2, _⟩ := h2.int Try.underlying3
    obtain ⟨i, e3, _⟩ := h3.int Try.underlying3
    obtain ⟨t, e4, _⟩ := h4.int Try.underlying3
    obtain ⟨c, e5, _⟩ := h5.int Try.underlying3
    obtain ⟨LA, ln, lc, L, e6, rl⟩ := h6.ints Try.underlying32 Try.underlying3 (by kernel_rfl)
    obtain ⟨BA, bn, bc, B, e7, rb⟩ := h7.bytes Try.underlying33 Try.underlying5 (by kernel_rfl)
    injection e0 with e0
    injection e1 with e1
    injection e2 with e2
    injection e3 with e3
    injection e4 with e4
    injection e5 with e5
    injection e6 with e6
    injection e7 with e7
    subst e0 e1 e2 e3 e4 e5 e6 e7
    exact ⟨LA, ln, lc, BA, bn, bc, ⟨k, q, e, i, t, c, L, B⟩, rfl, rl, rb⟩
theorem flat_div {k : Nat} (hk : 0 < k) {rs : List (Array Value)} (h : AllK k rs) {j : Nat} {u : Value} (hj : (flat rs)[j]? = some u) : ∃ r, rs[j / k]? = some r ∧ r[j % k]? = some u := by
  induction rs generalizing j with
  | nil => simp [flat] at hj
  | cons r rs ih =>
    rw [flat_cons] at hj
    have hl := h.head
    by_cases hjk : j < k
    · rw [List.getElem?_append_left (by omega)] at hj
      refine ⟨r, by rw [Nat.div_eq_of_lt hjk]; rfl, ?_⟩
      rw [Nat.mod_eq_of_lt hjk]
      simpa using hj
    · rw [List.getElem?_append_right (by omega), hl] at hj
      obtain ⟨q, h1, h2⟩ := ih h.tail hj
      refine ⟨q, ?_, ?_⟩
      · rw [Nat.div_eq_sub_div hk (by omega), List.getElem?_cons_succ]; exact h1
      · rw [Nat.mod_eq_sub_mod (by omega)]; exact h2

/-- Numbers of 64 bits. -/
def EnOk (x : Lane.En) : Prop := I64 x.k ∧ I64 x.q
def LnOk (l : Lane.Ln) : Prop := (∀ x ∈ l.es, EnOk x) ∧ I64 l.p.seq ∧ I64 l.p.total ∧ I64 l.p.got
theorem Tr.entry {w : World} {ys : List Value} (h : Tr Try.prog w 59 ys) : ∃ BA bn bc LA ln lc x, ys = [.int .i64 (Lane.En.k x), .int .i64 x.q, .slice BA bn bc, .slice LA ln lc, .bool x.h] ∧ Rd w BA bn bc x.b ∧ RdI w LA ln lc x.l ∧ EnOk x := by
  have cN : Try.prog.cellsOf 59 = 5 := by kernel_rfl
  obtain ⟨hl, hall⟩ := h.struct Try.underlying59
  rw [cN] at hl
  match ys, hl with
  | [v0, v1, v2, v3, v4], _ =>
    have h0 := hall 0 _ rfl
    have h1 := hall 1 _ rfl
    have h2 := hall 2 _ rfl
    have h3 := hall 3 _ rfl
    have h4 := hall 4 _ rfl
    obtain ⟨k, e0, w0⟩ := h0.int Try.underlying3
    obtain ⟨q, e1, w1⟩ := h1.int Try.underlying3
    obtain ⟨BA, bn, bc, B, e2, rb⟩ := h2.bytes Try.underlying33 Try.underlying5 (by kernel_rfl)
    obtain ⟨LA, ln, lc, L, e3, rl⟩ := h3.ints Try.underlying32 Try.underlying3 (by kernel_rfl)
    obtain ⟨hd, e4⟩ := h4.bool Try.underlying4
    injection e0 with e0
    injection e1 with e1
    injection e2 with e2
    injection e3 with e3
    injection e4 with e4
    subst e0 e1 e2 e3 e4
    exact ⟨BA, bn, bc, LA, ln, lc, ⟨k, q, B, L, hd⟩, rfl, rb, rl, wf_i64 w0, wf_i64 w1⟩
theorem Tr.entries {w : World} {cs : List Value} (h : Tr Try.prog w 47 cs) : ∃ A n c xs, cs = [.slice A n c] ∧ RdE (fun _ => True) w A n c xs ∧ ∀ x ∈ xs, EnOk x := by
  obtain ⟨A, n, c, rfl, hn, hc, hA, hE⟩ := h.slice Try.underlying47 (k := 5) (by kernel_rfl) (by omega)
  by_cases h0 : 0 < n
  · obtain ⟨b, o, rfl, hE2⟩ := hE h0
    obtain ⟨l, hl, hF⟩ := list_of (n := n) (fun i (p : Array Value × Lane.En) => IsEn (fun _ => True) w (.agg p.1) p.2 ∧ (p.1.size = 5 ∧ p.1.all (·.oneCell') = true) ∧ (∀ j u, p.1[j]? = some u → w.cell? ⟨b, o + (i * 5 + j), none⟩ = some u) ∧ EnOk p.2) (fun i hi => by
      obtain ⟨ys, _, hT, hc⟩ := hE2 i hi
      obtain ⟨BA, bn, bc, LA, ln, lc, x, rfl, rb, rl, hok⟩ := hT.entry
      exact ⟨(#[.int .i64 x.k, .int .i64 x.q, .slice BA bn bc, .slice LA ln lc, .bool x.h], x), ⟨BA, bn, bc, LA, ln, lc, rfl, rb, rl, Within.any _ _, Within.any _ _⟩, ⟨rfl, by simp [Value.oneCell']⟩, fun j u hu => hc j u (by simpa using hu), hok⟩)
    have hall : AllK 5 (l.map (·.1)) := by
      intro r hr
      obtain ⟨p, hp, rfl⟩ := List.mem_map.1 hr
      obtain ⟨i, hi⟩ := List.getElem?_of_mem hp
      exact (hF i p hi).2.1
    refine ⟨some ⟨b, o, none⟩, n, c, l.map (·.2), rfl, ⟨l.map (·.1), ⟨hall, by simpa using hl, hn, hc, (fun h => by cases h), fun _ => ⟨b, o, rfl, fun i u hu => ?_⟩⟩, ⟨by simp, fun i t x h1 h2 => ?_⟩, Within.any _ _⟩, fun x hx => ?_⟩
    · obtain ⟨t, h1, h2⟩ := flat_div (by omega) hall hu
      rw [List.getElem?_map, Option.map_eq_some_iff] at h1
      obtain ⟨p, hp, rfl⟩ := h1
      have := (hF _ p hp).2.2.1 _ u h2
      rwa [show i / 5 * 5 + i % 5 = i from by omega] at this
    · rw [List.getElem?_map, Option.map_eq_some_iff] at h1 h2
      obtain ⟨p, hp, rfl⟩ := h1
      obtain ⟨p', hp', rfl⟩ := h2
      rw [hp] at hp'
      injection hp' with hp'
      subst hp'
      exact (hF i p hp).1
    · obtain ⟨p, hp, rfl⟩ := List.mem_map.1 hx
      obtain ⟨i, hi⟩ := List.getElem?_of_mem hp
      exact (hF i p hi).2.2.2
  · have hn0 : n = 0 := by omega
    subst hn0
    exact ⟨A, 0, c, [], rfl, ⟨[], ⟨AllK.nil_ 5, rfl, hn, hc, hA, fun h => absurd h (by omega)⟩, AreE.nil_ _ w, Within.any _ _⟩, fun x hx => by cases hx⟩
theorem Tr.lane {w : World} {cs : List Value} (h : Tr Try.prog w 51 cs) : ∃ A n c B m d l, cs = [.slice A n c, .int .i64 (Lane.Ln.p l).seq, .int .i64 l.p.total, .int .i64 l.p.got, .slice B m d] ∧ RdE (fun _ => True) w A n c l.es ∧ Rd w B m d l.p.b ∧ LnOk l := by
  have c5 : Try.prog.cellsOf 51 = 5 := by kernel_rfl
  have c4 : Try.prog.cellsOf 49 = 4 := by kernel_rfl
  obtain ⟨hl, hall⟩ := h.struct Try.underlying51
  rw [c5] at hl
  match cs, hl with
  | [v0, v1, v2, v3, v4], _ =>
    have h0 := hall 0 _ rfl
    have h1 : Tr Try.prog w 49 [v1, v2, v3, v4] := hall 1 _ rfl
    obtain ⟨_, hp⟩ := h1.struct Try.underlying49
    have g0 := hp 0 _ rfl
    have g1 := hp 1 _ rfl
    have g2 := hp 2 _ rfl
    have g3 := hp 3 _ rfl
    obtain ⟨A, n, c, xs, e0, hE, hok⟩ := Tr.entries h0
    obtain ⟨s, e1, w1⟩ := g0.int Try.underlying3
    obtain ⟨t, e2, w2⟩ := g1.int Try.underlying3
    obtain ⟨g, e3, w3⟩ := g2.int Try.underlying3
    obtain ⟨B, m, d, b, e4, rb⟩ := g3.bytes Try.underlying33 Try.underlying5 (by kernel_rfl)
    injection e0 with e0
    injection e1 with e1
    injection e2 with e2
    injection e3 with e3
    injection e4 with e4
    subst e0 e1 e2 e3 e4
    exact ⟨A, n, c, B, m, d, ⟨xs, ⟨s, t, g, b⟩⟩, rfl, hE, rb, hok, wf_i64 w1, wf_i64 w2, wf_i64 w3⟩
theorem lane_open {W : World} {r : Reach} {b0 : Nat} {v : Value} (o : Value.okWide Try.prog W r b0 51 v) (h : Tr Try.prog W 51 v.cells.toList) : ∃ l, IsLane (fun _ => True) W v l ∧ LnOk l := by
  have cN : Try.prog.cellsOf 51 = 5 := by kernel_rfl
  obtain ⟨cs, rfl, hsz⟩ := okWide_struct Try.underlying51 o
  obtain ⟨l⟩ := cs
  match l, hsz.trans cN with
  | [v0, v1, v2, v3, v4], _ =>
    simp only [Value.cells] at h
    obtain ⟨A, n, c, B, m, d, l, e, hE, hB, hok⟩ := Tr.lane h
    have e' : [v0, v1, v2, v3, v4] = _ := e
    simp only [List.cons.injEq, and_true] at e'
    obtain ⟨rfl, rfl, rfl, rfl, rfl⟩ := e'
    exact ⟨l, ⟨A, n, c, B, m, d, rfl, hE, hB, Within.any _ _⟩, hok⟩
end Go.Proofs.Ytdchgnmkeefffaa
