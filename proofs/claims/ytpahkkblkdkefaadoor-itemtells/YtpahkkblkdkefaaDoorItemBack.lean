/- What is written is taken, and nothing else is: the item's bytes and items of bytes are one and the same road. No program is named here. -/
import Derived.Test.YtpahkkblkdkefaaDoorItemTake
namespace Go.Proofs.YtpahkkblkdkefaaDoor.Item
set_option linter.unusedVariables false

theorem takes_inv {k : Int} : ∀ {m : Nat} {l : List UInt8} {a : List Int} {r : List UInt8}, Num.takes k m l = some (a, r) → (a.all fun n => Num.fits n k) = true ∧ (a.map fun n => Num.put n k).flatten ++ r = l := by
  intro m
  induction m with
  | zero =>
    intro l a r h
    simp only [Num.takes, Option.some.injEq, Prod.mk.injEq] at h
    obtain ⟨rfl, rfl⟩ := h
    exact ⟨rfl, rfl⟩
  | succ m ih =>
    intro l a r h
    simp only [Num.takes] at h
    split at h
    · rename_i hc
      obtain ⟨⟨a', r'⟩, h', e⟩ := Option.map_eq_some_iff.1 h
      simp only [Prod.mk.injEq] at e
      obtain ⟨rfl, rfl⟩ := e
      obtain ⟨h1, h2⟩ := ih h'
      refine ⟨by simp [Num.num_fits hc, h1], ?_⟩
      simp only [List.map_cons, List.flatten_cons, List.append_assoc]
      rw [h2]
      exact Num.put_num hc
    · cases h
theorem row_inv {k : Int} {m : Nat} {l : List UInt8} {a : List Int} {r : List UInt8} (h : Num.takes k m l = some (a, r)) : Num.putRow a k ++ r = l := by
  obtain ⟨h1, h2⟩ := takes_inv h
  rw [Num.putRow, if_pos h1]
  exact h2

theorem head_inv {l : List UInt8} {k q e : Int} {r : List UInt8} (h : headC l = some (k, q, e, r)) : (Num.put k 1 ++ Num.putRow [q, e] 8) ++ r = l := by
  unfold headC at h
  split at h
  · rename_i hc
    split at h
    · rename_i q' e' r' ht
      simp only [Option.some.injEq, Prod.mk.injEq] at h
      obtain ⟨rfl, rfl, rfl, rfl⟩ := h
      rw [List.append_assoc, row_inv ht]
      exact Num.put_num hc
    · cases h
  · cases h
theorem tail_inv {k q e : Int} {r : List UInt8} {x : It} (h : tailC k q e r = some (x, [])) (hm : may x = true) : x.k = k ∧ x.q = q ∧ x.e = e ∧ tail x = r := by
  unfold tailC at h
  split at h
  · rename_i hk
    split at h
    · rename_i i t b ht
      simp only [Option.some.injEq, Prod.mk.injEq] at h
      obtain ⟨rfl, _⟩ := h
      refine ⟨hk.symm, rfl, rfl, ?_⟩
      show Num.putRow [i, t] 1 ++ b = r
      exact row_inv ht
    · cases h
  split at h
  · rename_i hk
    split at h
    · rename_i hc
      split at h
      · rename_i a b ht
        simp only [Option.some.injEq, Prod.mk.injEq] at h
        obtain ⟨rfl, rfl⟩ := h
        refine ⟨hk.symm, rfl, rfl, ?_⟩
        show Num.put (Num.num r 1) 1 ++ Num.putRow a 1 = r
        have := row_inv ht
        rw [List.append_nil] at this
        rw [this]
        exact Num.put_num hc
      · cases h
    · cases h
  split at h
  · rename_i hk
    split at h
    · rename_i hc
      simp only [Option.some.injEq, Prod.mk.injEq] at h
      obtain ⟨rfl, hr⟩ := h
      refine ⟨hk.symm, rfl, rfl, ?_⟩
      show Num.put (Num.num r 1) 1 = r
      have := Num.put_num hc
      rwa [hr, List.append_nil] at this
    · cases h
  split at h
  · rename_i hk
    split at h
    · rename_i hc
      simp only [Option.some.injEq, Prod.mk.injEq] at h
      obtain ⟨rfl, hr⟩ := h
      refine ⟨hk.symm, rfl, rfl, ?_⟩
      show Num.put (Num.num r 8) 8 = r
      have := Num.put_num hc
      rwa [hr, List.append_nil] at this
    · cases h
  split at h
  · rename_i hk
    split at h
    · rename_i a b ht
      simp only [Option.some.injEq, Prod.mk.injEq] at h
      obtain ⟨rfl, rfl⟩ := h
      refine ⟨hk.symm, rfl, rfl, ?_⟩
      show Num.putRow a 8 = r
      have := row_inv ht
      rwa [List.append_nil] at this
    · cases h
  · rename_i h1 h2 h4 h5 h6
    simp only [Option.some.injEq, Prod.mk.injEq] at h
    obtain ⟨rfl, rfl⟩ := h
    refine ⟨rfl, rfl, rfl, ?_⟩
    simp [tail, h1, h2, h4, h5, h6]
/-- What is taken may be, and its bytes are those. -/
theorem take_inv {l : List UInt8} {x : It} (h : takeOf l = some x) : may x = true ∧ bytes x = l := by
  unfold takeOf at h
  split at h
  · rename_i k q e r hh
    split at h
    · rename_i p ht
      obtain ⟨y, r'⟩ := p
      unfold lastC at h
      split at h
      · rename_i hc
        obtain ⟨hr, hm⟩ := hc
        dsimp only at hr hm
        subst hr
        simp only [Option.some.injEq] at h
        subst h
        obtain ⟨h1, h2, h3, h4⟩ := tail_inv ht hm
        refine ⟨hm, ?_⟩
        rw [bytes, if_pos hm, h1, h2, h3, h4]
        exact head_inv hh
      · cases h
    · cases h
  · cases h

theorem fits_in {n : Int} {k : Nat} (h : 0 ≤ n) (h2 : n ≤ Num.most k) : Num.fits n k = true := by
  unfold Num.fits
  simp only [Bool.and_eq_true, decide_eq_true_eq]
  omega
theorem head_put {k q e : Int} (r : List UInt8) (hk : 0 ≤ k) (hk2 : k ≤ 255) (hq : 0 ≤ q) (hq2 : q ≤ 4611686018427387904) (he : 0 ≤ e) (he2 : e ≤ 4611686018427387904) :
    headC ((Num.put k 1 ++ Num.putRow [q, e] 8) ++ r) = some (k, q, e, r) := by
  have fk : Num.fits k 1 = true := fits_in (k := 1) hk hk2
  have fq : Num.fits q 8 = true := fits_in (k := 8) hq hq2
  have fe : Num.fits e 8 = true := fits_in (k := 8) he he2
  have hall : ([q, e].all fun n => Num.fits n 8) = true := by simp [fq, fe]
  obtain ⟨h1, h2, h3⟩ := Num.put_back fk (Num.putRow [q, e] 8 ++ r)
  unfold headC
  rw [List.append_assoc, if_pos h1, h3, Num.putRow, if_pos hall]
  have ht : Num.takes 8 2 (([q, e].map fun n => Num.put n 8).flatten ++ r) = some ([q, e], r) := Num.takes_put r [q, e] hall
  rw [Num.putRow, if_pos hall] at h2
  rw [ht, h2]
end Go.Proofs.YtpahkkblkdkefaaDoor.Item
