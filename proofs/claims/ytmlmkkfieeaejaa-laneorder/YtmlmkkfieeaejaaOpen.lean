/- What an argument holds, opened by its type: numbers, bools, strings, rows of numbers, structs, arrays. No program is named here. -/
import Derived.Test.YtmlmkkfieeaejaaRow
import Derived.Test.YtmlmkkfieeaejaaMemV
import Derived.ProofKit
import Derived.OpenShut
import Derived.ShutString
import Derived.ChangeOld
set_option maxRecDepth 100000
namespace Go.Proofs.Ytmlmkkfieeaejaa
open Go.RowKit Go.ChangeShapes Go.WideShapes Go.ChangeAt
set_option linter.unusedVariables false

/-- A datum of the type lies at these cells. -/
def Tr (P : Program) (w : World) (t : TypeId) (cs : List Value) : Prop :=
  ∃ (H : Type) (enc : TypeId × Value → H) (fuel : Nat) (x : DataW H × List MemPlace), DataW.trod enc P w 0 (fun _ => true) true fuel t cs = some x
section
variable {P : Program} {w : World} {t : TypeId} {cs : List Value}
theorem Tr.of {H : Type} {enc : TypeId × Value → H} {v : Value} {d : DataW H} {p : List MemPlace} (h : DataW.Trod enc P w 0 (fun _ => true) true t v d p) : Tr P w t v.cells.toList := by
  obtain ⟨fuel, hf⟩ := h
  exact ⟨H, enc, fuel, _, hf⟩
theorem Tr.int {k : IntKind} (ht : P.underlying t = some (.int k)) (h : Tr P w t cs) : ∃ a, cs = [.int k a] ∧ (Lit.int k a).wf = true := by
  obtain ⟨H, enc, fuel, x, hf⟩ := h
  obtain ⟨a, h1, _, h3⟩ := DataW.trod_int ht hf
  exact ⟨a, h1, h3⟩
theorem Tr.str_ (ht : P.underlying t = some .string) (h : Tr P w t cs) : ∃ s : ByteArray, cs = [.string s] ∧ s.size ≤ maxLen := by
  obtain ⟨H, enc, fuel, x, hf⟩ := h
  obtain ⟨a, h1, _, h3⟩ := DataW.trod_string ht hf
  exact ⟨a, h1, h3⟩
theorem Tr.row {e : TypeId} {k : IntKind} (ht : P.underlying t = some (.slice e)) (he : P.underlying e = some (.int k)) (hc : P.cellsOf e = 1) (h : Tr P w t cs) : ∃ A n c zs, cs = [.slice A n c] ∧ IsRow k w A n c zs := by
  obtain ⟨H, enc, fuel, x, hf⟩ := h
  rcases open_ints ht he hc hf with ⟨hcs, _⟩ | ⟨x, l, c, zs, hcs, _, hl, hm, hz, _, hcell, hwz⟩
  · exact ⟨none, 0, 0, [], hcs, .inl ⟨rfl, rfl, rfl, rfl⟩⟩
  · exact ⟨some x, l, c, zs, hcs, .inr ⟨_, rfl, hl, hm, by simpa using hz, hcell, hwz⟩⟩
theorem Tr.struct {fs : Array Field} (ht : P.underlying t = some (.struct fs)) (h : Tr P w t cs) : cs.length = P.cellsOf t ∧ ∀ (i : Nat) (f : Field), fs[i]? = some f → Tr P w f.type ((cs.drop f.offset).take (P.cellsOf f.type)) := by
  obtain ⟨H, enc, fuel, x, hf⟩ := h
  obtain ⟨xs, n, _, _, hl, hxl, hall⟩ := DataW.trod_struct ht hf
  refine ⟨hl, fun i f hi => ?_⟩
  have h1 := hall i f hi
  have hlt : i < xs.length := by rw [hxl]; exact (Array.getElem?_eq_some_iff.1 hi).1
  rw [List.getElem?_eq_getElem hlt] at h1
  exact ⟨H, enc, n, _, h1⟩
theorem Tr.array {n : Nat} {e : TypeId} (ht : P.underlying t = some (.array n e)) (h : Tr P w t cs) : cs.length = P.cellsOf t ∧ ∀ i, i < n → Tr P w e ((cs.drop (i * P.cellsOf e)).take (P.cellsOf e)) := by
  obtain ⟨H, enc, fuel, x, hf⟩ := h
  obtain ⟨xs, m, _, _, hl, hxl, hall⟩ := DataW.trod_array ht hf
  refine ⟨hl, fun i hi => ?_⟩
  have h1 := hall i hi
  rw [List.getElem?_eq_getElem (by omega)] at h1
  exact ⟨H, enc, m, _, h1⟩
theorem wf_u8 {a : Int} (h : (Lit.int .u8 a).wf = true) : 0 ≤ a ∧ a < 256 := by
  simp [Lit.wf, IntKind.min, IntKind.max, IntKind.bits, IntKind.signed] at h
  omega
theorem wf_i64 {a : Int} (h : (Lit.int .i64 a).wf = true) : -9223372036854775808 ≤ a ∧ a ≤ 9223372036854775807 := by
  simp [Lit.wf, IntKind.min, IntKind.max, IntKind.bits, IntKind.signed] at h
  omega
/-- A row of ints that came in. -/
theorem rdi_row {a : Option Addr} {len cap : Nat} {zs : List Int} (h : IsRow .i64 w a len cap zs) : ∃ l, RdI w a len cap l ∧ ∀ x ∈ l, -9223372036854775808 ≤ x ∧ x ≤ 9223372036854775807 := by
  rcases h with ⟨rfl, rfl, rfl, rfl⟩ | ⟨x, rfl, hl, hm, hz, hc, hw⟩
  · exact ⟨[], RdV.nil_ w, fun x hx => by cases hx⟩
  · refine ⟨zs.take len, ⟨by rw [is_length, List.length_take]; omega, hl, hm, (fun h => by cases h), fun h0 => ?_⟩, fun x hx => wf_i64 (hw x (List.mem_of_mem_take hx))⟩
    obtain ⟨b, o, spot⟩ := x
    have hspot : spot = none := by simpa [Addr.add] using World.cell?_spot (hc 0 (by omega))
    subst hspot
    refine ⟨b, o, rfl, fun i u hu => ?_⟩
    simp only [is, List.getElem?_map, List.getElem?_take, Option.map_eq_some_iff] at hu
    obtain ⟨z, hz1, rfl⟩ := hu
    split at hz1
    · have hi : i < zs.length := by
        rcases Nat.lt_or_ge i zs.length with h | h
        · exact h
        · rw [List.getElem?_eq_none h] at hz1; cases hz1
      have h1 := hc i hi
      rw [add_eq, List.getD_eq_getElem?_getD, hz1] at h1
      exact h1
    · cases hz1
theorem Tr.bytes {e : TypeId} (ht : P.underlying t = some (.slice e)) (he : P.underlying e = some (.int .u8)) (hc : P.cellsOf e = 1) (h : Tr P w t cs) : ∃ A n c l, cs = [.slice A n c] ∧ Rd w A n c l := by
  obtain ⟨A, n, c, zs, rfl, hr⟩ := h.row ht he hc
  obtain ⟨l, hl⟩ := rd_row hr
  exact ⟨A, n, c, l, rfl, hl⟩
theorem Tr.ints {e : TypeId} (ht : P.underlying t = some (.slice e)) (he : P.underlying e = some (.int .i64)) (hc : P.cellsOf e = 1) (h : Tr P w t cs) : ∃ A n c l, cs = [.slice A n c] ∧ RdI w A n c l := by
  obtain ⟨A, n, c, zs, rfl, hr⟩ := h.row ht he hc
  obtain ⟨l, hl, _⟩ := rdi_row hr
  exact ⟨A, n, c, l, rfl, hl⟩
end
theorem list4 {α : Type} (l : List α) (h : l.length = 4) : ∃ a b c d, l = [a, b, c, d] := by
  match l, h with
  | [a, b, c, d], _ => exact ⟨a, b, c, d, rfl⟩
end Go.Proofs.Ytmlmkkfieeaejaa
