/- readPiece in one; lanes of a call's own. -/
import Derived.Test.YtmlmkkfieeaejaaLn10
set_option maxRecDepth 100000
namespace Go.Proofs.Ytmlmkkfieeaejaa
open Go.RowKit
set_option linter.unusedVariables false

theorem piece_any (l : Lane.Ln) (A : Option Addr) (n c : Nat) (us : List (Array Value)) (B : Option Addr) (m d : Nat) (base lo : Nat) (u : Value) (it : Item.It) (w : World) (h : OwnL w base lo A n c us B m d l) (hi : IsItem w u it) (hm65 : l.p.b.length ≤ 65536) (hb65 : it.b.length ≤ 65536)
    (hk : it.k = 1) (hl : ¬ it.q ≤ Lane.last l) (hg : 0 ≤ l.p.got) (hn16 : n + 1 ≤ 16777216) :
    Calls Try.prog 50 #[.agg #[.slice A n c, .int .i64 l.p.seq, .int .i64 l.p.total, .int .i64 l.p.got, .slice B m d], u] w (PieceIs w base (Lane.read l it).1 (Lane.read l it).2) := by
  rcases Lane.add_cases l.p it.q it.i it.t it.b with ⟨_, ha⟩ | ⟨_, _, ha⟩ | ⟨_, _, ha⟩
  · have e := Lane.read_bad (l := l) hk hl (by rw [ha]; exact (by decide : (2 : Int) ≠ 0))
    rw [e]
    exact piece_no l A n c us B m d base lo u it w h hi hm65 hb65 ha
  · have e := Lane.read_whole (l := l) hk hl ha
    rw [e]
    by_cases hu : l.p.got = 0
    · rw [if_neg (by omega)]
      exact piece_whole_n l A n c us B m d base lo u it w h hi hm65 hb65 _ _ ha hu hn16
    · rw [if_pos (by omega)]
      exact piece_whole_u l A n c us B m d base lo u it w h hi hm65 hb65 _ _ ha hu hn16
  · have e := Lane.read_part (l := l) hk hl ha
    rw [e]
    by_cases hu : l.p.got = 0
    · exact piece_on_n l A n c us B m d base lo u it w h hi hm65 hb65 _ ha hu
    · exact piece_on_u l A n c us B m d base lo u it w h hi hm65 hb65 _ ha hu
/-- A lane in new memory, and a code. -/
def ReadIs (w : World) (r : Lane.Ln × Int) (e : Ending) (w' : World) : Prop := ∃ v, e = .returned (.tuple #[v, .int .i64 r.2]) ∧ IsLane (Hi w.heap.size) w' v r.1 ∧ Below w.heap.size w w'
theorem OwnM.but {w w' : World} {base lo g q : Nat} {A : Option Addr} {n c : Nat} {us : List (Array Value)} {B : Option Addr} {m d : Nat} {l : Lane.Ln} (h : OwnM w base lo g A n c us B m d l) (hq : q < base) (hb : But q w w') : OwnM w' base lo g A n c us B m d l := by
  obtain ⟨h1, h2, h3, h4, h5, h6, h7⟩ := h
  have hk : KeptS (Spot lo g) w w' := KeptS.but hb fun b hS e => by have := hS.hi h6 h7; omega
  exact ⟨h1.but hq hb, h2.keptS hk, h3, h4.keptS h5 hk, h5, h6, h7⟩
/-- The row, and the lists, of a lane of the call's own. -/
def OwnN (w : World) (base lo : Nat) (A : Option Addr) (n c : Nat) (us : List (Array Value)) (B : Option Addr) (m d : Nat) (l : Lane.Ln) : Prop :=
  OwnK 5 w base 33 (.slice A n c) n us ∧ AreE (Hi lo) w us l.es ∧ (∀ b o, A = some ⟨b, o, none⟩ → b < lo) ∧ Rd w B m d l.p.b ∧ Within (Hi lo) B m ∧ base ≤ lo
section
variable {w w' : World} {base lo g q : Nat} {A : Option Addr} {n c : Nat} {us : List (Array Value)} {B : Option Addr} {m d : Nat} {l : Lane.Ln}
theorem OwnM.own (h : OwnM w base lo g A n c us B m d l) : OwnN w base lo A n c us B m d l := by
  obtain ⟨h1, h2, h3, h4, h5, h6, h7⟩ := h
  exact ⟨h1, h2.mono fun b hb => hb.hi (Nat.le_refl _) h7, h3, h4, h5.mono fun b hb => hb.hi (Nat.le_refl _) h7, h6⟩
theorem OwnL.own (h : OwnL w base lo A n c us B m d l) : OwnN w base lo A n c us B m d l := by
  obtain ⟨h1, h2, h3, h4, h5, h6, h7⟩ := h
  exact ⟨h1, h2, h3, h4, Within.of h5, h6⟩
theorem OwnN.later (h : OwnN w base lo A n c us B m d l) (hb : Below w.heap.size w w') : OwnN w' base lo A n c us B m d l := by
  obtain ⟨h1, h2, h3, h4, h5, h6⟩ := h
  exact ⟨h1.later hb, h2.below hb, h3, h4.below hb, h5, h6⟩
theorem OwnN.but (h : OwnN w base lo A n c us B m d l) (hq : q < base) (hb : But q w w') : OwnN w' base lo A n c us B m d l := by
  obtain ⟨h1, h2, h3, h4, h5, h6⟩ := h
  have hk : KeptS (Hi lo) w w' := KeptS.hi hb (by omega)
  exact ⟨h1.but hq hb, h2.keptS hk, h3, h4.keptS h5 hk, h5, h6⟩
theorem OwnN.lane (h : OwnN w base lo A n c us B m d l) : IsLane (Hi base) w (.agg #[.slice A n c, .int .i64 l.p.seq, .int .i64 l.p.total, .int .i64 l.p.got, .slice B m d]) l := by
  obtain ⟨h1, h2, h3, h4, h5, h6⟩ := h
  exact ⟨A, n, c, B, m, d, rfl, ⟨us, h1.same, h2.hi h6, Within.of fun b o e => (h1.addr b o e).1⟩, h4, h5.mono fun b hb => Nat.le_trans h6 hb⟩
end
end Go.Proofs.Ytmlmkkfieeaejaa
