/- What is cut off of an item's bytes, or hung on. No program is named here. -/
import Derived.Test.YtpahkkblkdkefaaDoorItemHead
namespace Go.Proofs.YtpahkkblkdkefaaDoor.Item
set_option linter.unusedVariables false

theorem kind_of {x y : It} (hx : may x = true) (hy : may y = true) (h : (bytes y)[0]? = (bytes x)[0]?) : y.k = x.k := by
  obtain ⟨h1, _, _, _, a1, a2⟩ := heads hx
  obtain ⟨h2, _, _, _, b1, b2⟩ := heads hy
  rw [h1, h2] at h
  injection h with h
  have := congrArg UInt8.toNat h
  rw [UInt8.toNat_ofNat', UInt8.toNat_ofNat'] at this
  omega
theorem len_of {x : It} (h : may x = true) : (x.k = 3 → (bytes x).length = 17) ∧ (x.k = 4 → (bytes x).length = 18) ∧ (x.k = 5 → (bytes x).length = 25) ∧ (x.k = 6 → ((bytes x).length - 17) % 8 = 0) ∧ 17 ≤ (bytes x).length := by
  have h1 := bytes_len h
  obtain ⟨t3, t4, t5, t6, _⟩ := tail_len (may_kinds h)
  refine ⟨fun e => ?_, fun e => ?_, fun e => ?_, fun e => ?_, by omega⟩
  · have := t3 e; omega
  · have := t4 e; omega
  · have := t5 e; omega
  · have := t6 e
    rw [h1, Nat.add_sub_cancel_left]
    exact this
/-- Of a beginning. -/
theorem cut_some {x y : It} (hx : may x = true) {k : Nat} (hk : k ≤ (bytes x).length) (h : takeOf ((bytes x).take k) = some y) :
    17 ≤ k ∧ (x.k = 3 ∨ x.k = 4 ∨ x.k = 5 → k = (bytes x).length) ∧ (x.k = 6 → (k - 17) % 8 = 0) := by
  obtain ⟨hy, hb⟩ := take_inv h
  obtain ⟨y3, y4, y5, y6, y17⟩ := len_of hy
  obtain ⟨x3, x4, x5, x6, x17⟩ := len_of hx
  have hl : (bytes y).length = k := by rw [hb, List.length_take]; omega
  have hkk : y.k = x.k := kind_of hx hy (by rw [hb, List.getElem?_take, if_pos (by omega)])
  refine ⟨by omega, fun h => ?_, fun h => ?_⟩
  · rcases h with e | e | e
    · have := y3 (hkk.trans e); have := x3 e; omega
    · have := y4 (hkk.trans e); have := x4 e; omega
    · have := y5 (hkk.trans e); have := x5 e; omega
  · have := y6 (hkk.trans h); rwa [hl] at this
/-- With one byte more. -/
theorem more_some {x y : It} (hx : may x = true) {m : UInt8} (h : takeOf (bytes x ++ [m]) = some y) : x.k ≠ 3 ∧ x.k ≠ 4 ∧ x.k ≠ 5 ∧ x.k ≠ 6 := by
  obtain ⟨hy, hb⟩ := take_inv h
  obtain ⟨y3, y4, y5, y6, y17⟩ := len_of hy
  obtain ⟨x3, x4, x5, x6, x17⟩ := len_of hx
  have hl : (bytes y).length = (bytes x).length + 1 := by rw [hb, List.length_append]; rfl
  have hkk : y.k = x.k := kind_of hx hy (by rw [hb, List.getElem?_append_left (by omega)])
  refine ⟨fun e => ?_, fun e => ?_, fun e => ?_, fun e => ?_⟩
  · have := y3 (hkk.trans e); have := x3 e; omega
  · have := y4 (hkk.trans e); have := x4 e; omega
  · have := y5 (hkk.trans e); have := x5 e; omega
  · have := y6 (hkk.trans e); have := x6 e; omega
end Go.Proofs.YtpahkkblkdkefaaDoor.Item
