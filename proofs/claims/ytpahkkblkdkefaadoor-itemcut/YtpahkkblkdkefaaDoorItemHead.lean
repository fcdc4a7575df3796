/- An item's bytes begin with its kind and its two numbers. No program is named here. -/
import Derived.Test.YtpahkkblkdkefaaDoorItemPut
import Derived.Test.YtpahkkblkdkefaaDoorNum2
namespace Go.Proofs.YtpahkkblkdkefaaDoor.Item
set_option linter.unusedVariables false

theorem val_mono (l : List UInt8) : ∀ (d j : Nat), j + d ≤ l.length → Num.val (l.take j) ≤ Num.val (l.take (j + d)) := by
  intro d
  induction d with
  | zero => intro j _; exact Nat.le_refl _
  | succ d ih =>
    intro j h
    have h1 := ih j (by omega)
    have hx : l[j + d]? = some l[j + d] := List.getElem?_eq_getElem (by omega)
    have h2 := val_take_succ hx
    rw [show j + (d + 1) = j + d + 1 from by omega, h2]
    omega
theorem put_val {n : Int} (h : 0 ≤ n) (h2 : n ≤ 4611686018427387904) (r : List UInt8) : (Num.val ((Num.put n 8 ++ r).take 8) : Int) = n := by
  have f : Num.fits n 8 = true := fits_in (k := 8) h (by rw [most8]; omega)
  obtain ⟨h1, h3, _⟩ := Num.put_back f r
  rw [Num.num, if_pos h1] at h3
  exact h3
/-- The head of an item's bytes. -/
theorem heads {x : It} (h : may x = true) : (bytes x)[0]? = some (UInt8.ofNat x.k.toNat) ∧ (Num.val (((bytes x).drop 1).take 8) : Int) = x.q ∧ (Num.val (((bytes x).drop 9).take 8) : Int) = x.e ∧ 17 ≤ (bytes x).length ∧ 1 ≤ x.k ∧ x.k ≤ 6 := by
  obtain ⟨⟨q1, q2⟩, ⟨e1, e2⟩, _⟩ := may_parts h
  obtain ⟨k1, k6⟩ := kinds_k (may_kinds h)
  have fk : Num.fits x.k 1 = true := fits_in (k := 1) (by omega) (by rw [most1]; omega)
  have fq : Num.fits x.q 8 = true := fits_in (k := 8) (by omega) (by rw [most8]; omega)
  have fe : Num.fits x.e 8 = true := fits_in (k := 8) e1 (by rw [most8]; omega)
  have hall : ([x.q, x.e].all fun n => Num.fits n 8) = true := by simp [fq, fe]
  have hp : Num.put x.k 1 = [UInt8.ofNat x.k.toNat] := by
    rw [Num.put, if_pos fk]
    simp [Num.be]
  have hb : bytes x = UInt8.ofNat x.k.toNat :: (Num.put x.q 8 ++ (Num.put x.e 8 ++ tail x)) := by
    rw [bytes, if_pos h, hp, Num.putRow, if_pos hall]
    simp
  have l8 : (Num.put x.q 8).length = 8 := put_eight fq
  have hd : (Num.put x.q 8 ++ (Num.put x.e 8 ++ tail x)).drop 8 = Num.put x.e 8 ++ tail x := List.drop_left' l8
  refine ⟨by rw [hb]; rfl, ?_, ?_, by rw [bytes_len h]; omega, k1, k6⟩
  · rw [hb, List.drop_succ_cons, List.drop_zero]
    exact put_val (by omega) q2 _
  · rw [hb, List.drop_succ_cons, hd]
    exact put_val e1 e2 _
end Go.Proofs.YtpahkkblkdkefaaDoor.Item
