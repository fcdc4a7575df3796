/- Items of bytes as the document's own answer finds them: the only item that bytes may be is tried; it is the item that is taken. No program is named here. -/
import Derived.Test.YtpahkkblkdkefaaDoorItemPut
namespace Go.Proofs.YtpahkkblkdkefaaDoor.Item
set_option linter.unusedVariables false

/-- A byte of some, as a number. -/
def at_ (r : List UInt8) (i : Nat) : Int := ((r.getD i 0).toNat : Int)
/-- The only item that a head and bytes behind it may be. -/
def refC (k q e : Int) (r : List UInt8) : It :=
  if k = 1 then (if 2 ≤ r.length then ⟨1, q, e, at_ r 0, at_ r 1, 0, [], r.drop 2⟩ else ⟨1, q, e, 0, 0, 0, [], []⟩)
  else if k = 2 then (if 1 ≤ r.length then ⟨2, q, e, at_ r 0, 0, 0, (Num.rowOf (r.drop 1) (r.length - 1 : Nat) 1).1, []⟩ else ⟨2, q, e, 0, 0, 0, [], []⟩)
  else if k = 4 then (if 1 ≤ r.length then ⟨4, q, e, at_ r 0, 0, 0, [], []⟩ else ⟨4, q, e, 0, 0, 0, [], []⟩)
  else if k = 5 then ⟨5, q, e, 0, 0, Num.num r 8, [], []⟩
  else if k = 6 then ⟨6, q, e, 0, 0, 0, (Num.rowOf r (r.length / 8 : Nat) 8).1, []⟩
  else ⟨k, q, e, 0, 0, 0, [], []⟩
def tried (x : It) (l : List UInt8) : Option It := if may x = true ∧ bytes x = l then some x else none
def refOf (l : List UInt8) : Option It :=
  if l.length < 17 then none
  else match Num.takes 8 2 ((l.drop 1).take 16) with
    | some ([q, e], _) => tried (refC (at_ l 0) q e (l.drop 17)) l
    | _ => none

theorem byte_at {i : Int} (h : 0 ≤ i) (h2 : i ≤ 255) : ((UInt8.ofNat i.toNat).toNat : Int) = i := by
  rw [UInt8.toNat_ofNat']
  omega
theorem put1 {i : Int} (h : 0 ≤ i) (h2 : i ≤ 255) : Num.put i 1 = [UInt8.ofNat i.toNat] := by
  have f : Num.fits i 1 = true := fits_in (k := 1) h (by rw [most1]; omega)
  rw [Num.put, if_pos f]
  simp [Num.be]
theorem refC_put {x : It} (h : Kinds x) : refC x.k x.q x.e (tail x) = x := by
  cases h with
  | data q e i t b h1 h2 h3 h4 h5 =>
    have fi : Num.fits i 1 = true := fits_in (k := 1) h3 (by rw [most1]; omega)
    have ft : Num.fits t 1 = true := fits_in (k := 1) (by omega) (by rw [most1]; omega)
    have hall : ([i, t].all fun n => Num.fits n 1) = true := by simp [fi, ft]
    have e1 : tail ⟨1, q, e, i, t, 0, [], b⟩ = UInt8.ofNat i.toNat :: UInt8.ofNat t.toNat :: b := by
      show Num.putRow [i, t] 1 ++ b = _
      rw [Num.putRow, if_pos hall]
      simp [put1 h3 (by omega), put1 (i := t) (by omega) (by omega)]
    rw [e1]
    unfold refC
    rw [if_pos rfl, if_pos (by simp)]
    show It.mk 1 q e ((UInt8.ofNat i.toNat).toNat : Int) ((UInt8.ofNat t.toNat).toNat : Int) 0 [] b = _
    rw [byte_at h3 (by omega), byte_at (i := t) (by omega) (by omega)]
  | order q e i l h1 h2 h3 h4 h5 =>
    have hall : (l.all fun n => Num.fits n 1) = true := all_fits (k := 1) h5 (by rw [most1]; omega)
    have ht := Num.takes_put [] l hall
    have hlen := Num.flat_length l hall
    rw [List.append_nil] at ht
    have e1 : tail ⟨2, q, e, i, 0, 0, l, []⟩ = UInt8.ofNat i.toNat :: (l.map fun n => Num.put n 1).flatten := by
      show Num.put i 1 ++ Num.putRow l 1 = _
      rw [put1 h1 (by omega), Num.putRow, if_pos hall]
      rfl
    rw [e1]
    unfold refC
    rw [if_neg (by show ¬ (2 : Int) = 1; omega), if_pos rfl, if_pos (by simp)]
    have hr : Num.rowOf ((UInt8.ofNat i.toNat :: (l.map fun n => Num.put n 1).flatten).drop 1) (((UInt8.ofNat i.toNat :: (l.map fun n => Num.put n 1).flatten).length - 1 : Nat) : Int) 1 = (l, [], 0) := by
      rw [List.drop_succ_cons, List.drop_zero, List.length_cons, Nat.add_sub_cancel, hlen]
      refine Num.rowOf_some (by decide) ?_
      rw [show (1 : Int).toNat * l.length = l.length from by simp]
      exact ht
    rw [hr]
    show It.mk 2 q e ((UInt8.ofNat i.toNat).toNat : Int) 0 0 l [] = _
    rw [byte_at h1 (by omega)]
  | token q e => rfl
  | flush q e i h1 h2 =>
    have e1 : tail ⟨4, q, e, i, 0, 0, [], []⟩ = [UInt8.ofNat i.toNat] := by
      show Num.put i 1 = _
      exact put1 h1 (by omega)
    rw [e1]
    unfold refC
    rw [if_neg (by show ¬ (4 : Int) = 1; omega), if_neg (by show ¬ (4 : Int) = 2; omega), if_pos rfl, if_pos (by simp)]
    show It.mk 4 q e ((UInt8.ofNat i.toNat).toNat : Int) 0 0 [] [] = _
    rw [byte_at h1 (by omega)]
  | ack q e c h1 h2 =>
    have fi : Num.fits c 8 = true := fits_in (k := 8) h1 (by rw [most8]; omega)
    obtain ⟨p1, p2, p3⟩ := Num.put_back fi []
    rw [List.append_nil] at p2
    show It.mk 5 q e 0 0 (Num.num (Num.put c 8) 8) [] [] = _
    rw [p2]
  | install q e l h1 h2 h3 =>
    have hall : (l.all fun n => Num.fits n 8) = true := all_fits (k := 8) h3 (by rw [most8]; omega)
    have ht := Num.takes_put [] l hall
    have hlen := Num.flat_length l hall
    rw [List.append_nil] at ht
    have e1 : tail ⟨6, q, e, 0, 0, 0, l, []⟩ = (l.map fun n => Num.put n 8).flatten := by
      show Num.putRow l 8 = _
      rw [Num.putRow, if_pos hall]
    rw [e1]
    have hr : Num.rowOf ((l.map fun n => Num.put n 8).flatten) (((l.map fun n => Num.put n 8).flatten.length / 8 : Nat) : Int) 8 = (l, [], 0) := by
      rw [hlen]
      refine Num.rowOf_some (by decide) ?_
      rw [show (8 : Int).toNat * l.length / 8 = l.length from by simp]
      exact ht
    show It.mk 6 q e 0 0 0 (Num.rowOf ((l.map fun n => Num.put n 8).flatten) (((l.map fun n => Num.put n 8).flatten.length / 8 : Nat) : Int) 8).1 [] = _
    rw [hr]
theorem refOf_put {x : It} (h : may x = true) : refOf (bytes x) = some x := by
  obtain ⟨⟨q1, q2⟩, ⟨e1, e2⟩, _⟩ := may_parts h
  have hk := may_kinds h
  obtain ⟨k1, k6⟩ := kinds_k hk
  have fq : Num.fits x.q 8 = true := fits_in (k := 8) (by omega) (by rw [most8]; omega)
  have fe : Num.fits x.e 8 = true := fits_in (k := 8) e1 (by rw [most8]; omega)
  have hall : ([x.q, x.e].all fun n => Num.fits n 8) = true := by simp [fq, fe]
  have hfl := Num.flat_length [x.q, x.e] hall
  have hfl2 : (([x.q, x.e].map fun n => Num.put n 8).flatten).length = 16 := by rw [hfl]; rfl
  have hb : bytes x = UInt8.ofNat x.k.toNat :: (([x.q, x.e].map fun n => Num.put n 8).flatten ++ tail x) := by
    rw [bytes, if_pos h, put1 (by omega) (by omega), Num.putRow, if_pos hall]
    rfl
  have hl := bytes_len h
  have ht : Num.takes 8 2 ([x.q, x.e].map fun n => Num.put n 8).flatten = some ([x.q, x.e], []) := by
    have := Num.takes_put [] [x.q, x.e] hall
    rwa [List.append_nil] at this
  have hd : ((bytes x).drop 1).take 16 = ([x.q, x.e].map fun n => Num.put n 8).flatten := by
    rw [hb, List.drop_succ_cons, List.drop_zero]
    exact List.take_left' hfl2
  have hd2 : (bytes x).drop 17 = tail x := by
    rw [hb, List.drop_succ_cons]
    exact List.drop_left' hfl2
  have h0 : at_ (bytes x) 0 = x.k := by
    rw [hb]
    exact byte_at (by omega) (by omega)
  unfold refOf
  rw [if_neg (by omega), hd, ht]
  dsimp only
  rw [hd2, h0, refC_put hk, tried, if_pos ⟨h, rfl⟩]
theorem refOf_eq (l : List UInt8) : refOf l = takeOf l := by
  cases hr : refOf l with
  | some x =>
    have : may x = true ∧ bytes x = l := by
      unfold refOf at hr
      split at hr
      · cases hr
      · split at hr
        · unfold tried at hr
          split at hr
          · rename_i hc
            injection hr with hr
            subst hr
            exact hc
          · cases hr
        · cases hr
    obtain ⟨hm, rfl⟩ := this
    exact (take_put hm).symm
  | none =>
    cases ht : takeOf l with
    | none => rfl
    | some x =>
      obtain ⟨hm, rfl⟩ := take_inv ht
      rw [refOf_put hm] at hr
      cases hr
end Go.Proofs.YtpahkkblkdkefaaDoor.Item
