/- The law KeepFree, walked. -/
import Derived.Test.YtgnaecifinlnmaaKShown
import Derived.Test.YtgnaecifinlnmaaRKeep1
import Derived.Test.YtgnaecifinlnmaaRKeep2
import Derived.Deep.QuietTactic
set_option maxRecDepth 100000
namespace Go.Proofs.Ytgnaecifinlnmaa
open Go.RowKit
set_option linter.unusedVariables false

theorem drop_freed {s : Int} {l : List Item.It} (h : Keep.numb s l = true) (u : Int) : l.drop (l.findIdx (fun y : Item.It => decide (u < y.q))) = Keep.freed l u := by
  rw [Keep.freed_drop h]
  induction l generalizing s with
  | nil => simp
  | cons y l ih =>
    simp only [Keep.numb, Bool.and_eq_true, decide_eq_true_eq] at h
    by_cases hu : u < y.q
    · have h0 : (u - s + 1).toNat = 0 := by omega
      rw [h0, List.findIdx_cons]
      simp [hu]
    · have h0 : (u - s + 1).toNat = (u - (s + 1) + 1).toNat + 1 := by omega
      rw [h0, List.findIdx_cons]
      simp only [hu, decide_false, cond_false, List.drop_succ_cons]
      exact ih h.2
theorem free_right (v : Value) (k : Keep.Kp) (s : Int) (w : World) (h : IsKeep w v k) (hS : SmallL k.l) (hr : Keep.right k = true) : Calls Try.prog 25 #[v, .int .i64 s] w (fun e w' => ∃ v', e = .returned v' ∧ FrK w' w.heap.size v' ⟨k.next, Keep.freed k.l s⟩ ∧ Below w.heap.size w w') := by
  have hf := free_any v k s w h hS
  rw [drop_freed (Keep.right_iff.1 hr).2.2] at hf
  exact hf.mono fun e w' hh => hh.fr
theorem fld24 (a : Int) (A : Option Addr) (n c : Nat) (w : World) : Sem.run Try.prog (Instr.field 24 (.agg #[.int .i64 a, .slice A n c]) 1) w = .ok (.slice A n c) w := by kernel_rfl
theorem small_freed {l : List Item.It} (h : SmallL l) (u : Int) : SmallL (Keep.freed l u) :=
  ⟨Nat.le_trans (List.length_filter_le _ _) h.1, fun x hx => h.2 x (List.mem_filter.1 hx).1⟩
set_option maxHeartbeats 4000000 in
theorem kfree_any (A : Option Addr) (n c : Nat) (k : Keep.Kp) (a b : Int) (w : World) (hX : RdX w A n c k.l) :
    Calls Try.prog 6 #[.agg #[.int .i64 k.next, .slice A n c], .int .i64 a, .int .i64 b] w (Yes w) := by
  have hn := hX.le
  have y0 := alloc_at w (.cells #[.int .i64 k.next, .slice A n c] 24) _ rfl
  have hb0 := nkeep w (.cells #[.int .i64 k.next, .slice A n c] 24)
  obtain ⟨g, hg⟩ : ∃ g, w.heap.size = g := ⟨_, rfl⟩
  rw [hg] at y0
  have Y0 := hidT y0
  have HB0 := hidT hb0
  have HX := hidT hX
  clear y0 hb0 hX
  go_enter Try.func6, Try.ntmps6
  go_wp2_with fail
  with_reducible refine (kshown_any _).mono ?_
  rintro e w1 ⟨rfl, hb1⟩
  have Y1 := hidT (keepH Y0.out hb1)
  have HB1 := hidT (bthen HB0.out hb1)
  clear hb1 Y0 HB0 hg
  obtain ⟨i0, i1⟩ := cells2 Y1.out
  have hf := fewK_is A n c k.l w1 (HX.out.below HB1.out)
  go_wp2_with fail
  cases hfew : fewK k.l with
  | false =>
    rw [hfew] at hf
    with_reducible refine hf.mono ?_
    rintro e w2 ⟨rfl, hb2⟩
    go_wp2
    go_ret
    exact ⟨rfl, bthen HB1.out hb2⟩
  | true =>
    rw [hfew] at hf
    have HSM := hidT (fewK_small hfew)
    clear hfew
    with_reducible refine hf.mono ?_
    rintro e w2 ⟨rfl, hb2⟩
    have Y2 := hidT (keepH Y1.out hb2)
    have HB2 := hidT (bthen HB1.out hb2)
    clear hb2 Y1 HB1 hf i0 i1
    obtain ⟨i0, i1⟩ := cells2 Y2.out
    have hr := rright_any (.agg #[.int .i64 k.next, .slice A n c]) k w2 ⟨A, n, c, rfl, HX.out.below HB2.out⟩
    go_wp2_with fail
    cases hri : Keep.right k with
    | false =>
      rw [hri] at hr
      with_reducible refine hr.mono ?_
      rintro e w3 ⟨rfl, hb3⟩
      go_wp2
      go_ret
      exact ⟨rfl, bthen HB2.out hb3⟩
    | true =>
      rw [hri] at hr
      have HR := hidT hri
      clear hri
      with_reducible refine hr.mono ?_
      rintro e w3 ⟨rfl, hb3⟩
      have Y3 := hidT (keepH Y2.out hb3)
      have HB3 := hidT (bthen HB2.out hb3)
      clear hb3 Y2 HB2 hr i0 i1
      obtain ⟨i0, i1⟩ := cells2 Y3.out
      obtain ⟨⟨r1, r2, r3⟩, hmays, _⟩ := Keep.right_iff.1 HR.out
      have HMY := hidT hmays
      clear hmays r1
      have h1 := free_right (.agg #[.int .i64 k.next, .slice A n c]) k a w3 ⟨A, n, c, rfl, HX.out.below HB3.out⟩ HSM.out HR.out
      go_wp2_with fail
      with_reducible refine h1.mono ?_
      rintro e w4 ⟨v4, rfl, hK4, hb4⟩
      have h2 := free_right v4 ⟨k.next, Keep.freed k.l a⟩ b w4 hK4.is (small_freed HSM.out a) (Keep.right_freed HR.out a)
      dsimp only at h2
      rw [Keep.freed_freed] at h2
      have HB4 := hidT (bthen HB3.out hb4)
      have Y4 := hidT (keepH Y3.out hb4)
      clear hb4 hK4 h1
      go_wp2_with fail
      with_reducible refine h2.mono ?_
      rintro e w5 ⟨v5, rfl, hK5, hb5⟩
      obtain ⟨A5, n5, c5, us5, ev5, hr5, ha5, hf5⟩ := id hK5
      have ev5' : v5 = .agg #[.int .i64 k.next, .slice A5 n5 c5] := ev5
      clear ev5 hr5 ha5 hf5
      subst ev5'
      have z1 := alloc_at w5 (.cells #[.int .i64 k.next, .slice A5 n5 c5] 24) _ rfl
      have z3 := nkeep w5 (.cells #[.int .i64 k.next, .slice A5 n5 c5] 24)
      obtain ⟨p, hp⟩ : ∃ p, w5.heap.size = p := ⟨_, rfl⟩
      rw [hp] at z1
      have hb6 := bthen hb5 z3
      have Y6 := hidT (keepH Y4.out hb6)
      have HB6 := hidT (bthen HB4.out hb6)
      have Z6 := hidT z1
      have KX := hidT (hK5.is.below z3)
      clear z1 z3 hb5 hb6 hK5 h2 Y3 HB3 Y4 HB4 i0 i1
      obtain ⟨W, hW⟩ : ∃ W, w5.alloc (.cells #[.int .i64 k.next, .slice A5 n5 c5] 24) = W := ⟨_, rfl⟩
      rw [hW] at Y6 HB6 Z6 KX
      have HW := hidT hW
      clear hW
      have k0 := fun w' (hb : Below W.heap.size W w') => (cells2 (keepH Y6.out hb)).1
      have k1 := fun w' (hb : Below W.heap.size W w') => (cells2 (keepH Y6.out hb)).2
      have l0 := fun w' (hb : Below W.heap.size W w') => (cells2 (keepH Z6.out hb)).1
      have l1 := fun w' (hb : Below W.heap.size W w') => (cells2 (keepH Z6.out hb)).2
      have HF : Hid (∀ u w', Below W.heap.size W w' → Calls Try.prog 25 #[.agg #[.int .i64 k.next, .slice A n c], .int .i64 u] w' (fun e w2 => ∃ v', e = .returned v' ∧ FrK w2 w'.heap.size v' ⟨k.next, Keep.freed k.l u⟩ ∧ Below w'.heap.size w' w2)) :=
        hidT fun u w' hb => free_right _ k u w' ⟨A, n, c, rfl, HX.out.below (bthen HB6.out hb)⟩ HSM.out HR.out
      have s1 : IntKind.i64.wrap (k.next - 1) = k.next - 1 := IntWalk.i64_in _ (by omega)
      by_cases hab : b > a
      · have q1 : decide (a < b) = true := by simpa using hab
        have HS1 : Hid (∀ v w', Below W.heap.size W w' → IsKeep w' v ⟨k.next, Keep.freed k.l b⟩ → Calls Try.prog 15 #[.agg #[.int .i64 k.next, .slice A5 n5 c5], v] w' (BoolIs w' true)) := hidT fun v w' hb hv => rksame_is _ _ _ _ w' (by have := KX.out.below hb; rwa [if_pos hab] at this) hv true (by simp)
        have HS2 : Hid (∀ v w', Below W.heap.size W w' → IsKeep w' v ⟨k.next, Keep.freed k.l 0⟩ → Calls Try.prog 15 #[v, .agg #[.int .i64 k.next, .slice A n c]] w' (BoolIs w' true)) := hidT fun v w' hb hv => rksame_is _ _ _ ⟨k.next, k.l⟩ w' hv ⟨A, n, c, rfl, HX.out.below (bthen HB6.out hb)⟩ true (by rw [Keep.freed_none HMY.out]; simp)
        clear hab
        go_wp2_with fail
        rw [HW.out]
        clear hp
        go_region_held_law (fun w' => Below W.heap.size W w')
          (first | exact (Below.refl _ _).drew | exact Below.refl _ _ | exact hb11 | exact hb10 | exact hb9 | exact hb8 | exact hb7)
          (first
            | (go_at_call 25
               with_reducible refine (HF.out b _ (Below.refl _ _).drew).mono ?_
               rintro e7 w7 ⟨v7, rfl, hK7, hb7'⟩
               have hb7 : Below W.heap.size W w7 := undrew hb7')
            | (go_at_call 15
               with_reducible refine (HS1.out v7 _ hb7 hK7.is).mono ?_
               rintro e8 w8 ⟨rfl, hb8'⟩
               have hb8 : Below W.heap.size W w8 := bthen hb7 hb8')
            | (go_at_call 25
               with_reducible refine (HF.out 0 _ hb8).mono ?_
               rintro e9 w9 ⟨v9, rfl, hK9, hb9'⟩
               have hb9 : Below W.heap.size W w9 := bthen hb8 hb9')
            | (go_at_call 15
               with_reducible refine (HS2.out v9 _ hb9 hK9.is).mono ?_
               rintro e10 w10 ⟨rfl, hb10'⟩
               have hb10 : Below W.heap.size W w10 := bthen hb9 hb10')
            | (go_at_call 25
               with_reducible refine (HF.out (k.next - 1) _ hb10).mono ?_
               rintro e11 w11 ⟨v11, rfl, hK11, hb11'⟩
               have hb11 : Below W.heap.size W w11 := bthen hb10 hb11'
               obtain ⟨A11, n11, c11, us11, ev11, hr11, ha11, hf11⟩ := id hK11
               have hn11 : n11 = 0 := by rw [← hr11.size, hf11.1, Keep.freed_all HR.out]; rfl
               have ev11' : v11 = .agg #[.int .i64 k.next, .slice A11 n11 c11] := ev11
               have b11 : (n11 == 0) = true := by simp [hn11]
               have b12 : ((n11 : Int) == 0) = true := by simp [hn11]
               have hfl := fun w => fld24 k.next A11 n11 c11 w
               clear ev11 hr11 ha11 hf11 hn11
               subst ev11')
            | fail)
        go_wp2
        go_ret
        exact ⟨rfl, bthen HB6.out hb11⟩
      · have q1 : decide (a < b) = false := by simpa using hab
        have HS1 : Hid (∀ v w', Below W.heap.size W w' → IsKeep w' v ⟨k.next, Keep.freed k.l a⟩ → Calls Try.prog 15 #[.agg #[.int .i64 k.next, .slice A5 n5 c5], v] w' (BoolIs w' true)) := hidT fun v w' hb hv => rksame_is _ _ _ _ w' (by have := KX.out.below hb; rwa [if_neg hab] at this) hv true (by simp)
        have HS2 : Hid (∀ v w', Below W.heap.size W w' → IsKeep w' v ⟨k.next, Keep.freed k.l 0⟩ → Calls Try.prog 15 #[v, .agg #[.int .i64 k.next, .slice A n c]] w' (BoolIs w' true)) := hidT fun v w' hb hv => rksame_is _ _ _ ⟨k.next, k.l⟩ w' hv ⟨A, n, c, rfl, HX.out.below (bthen HB6.out hb)⟩ true (by rw [Keep.freed_none HMY.out]; simp)
        clear hab
        go_wp2_with fail
        rw [HW.out]
        clear hp
        go_region_held_law (fun w' => Below W.heap.size W w')
          (first | exact (Below.refl _ _).drew | exact Below.refl _ _ | exact hb11 | exact hb10 | exact hb9 | exact hb8 | exact hb7)
          (first
            | (go_at_call 25
               with_reducible refine (HF.out a _ (Below.refl _ _).drew).mono ?_
               rintro e7 w7 ⟨v7, rfl, hK7, hb7'⟩
               have hb7 : Below W.heap.size W w7 := undrew hb7')
            | (go_at_call 15
               with_reducible refine (HS1.out v7 _ hb7 hK7.is).mono ?_
               rintro e8 w8 ⟨rfl, hb8'⟩
               have hb8 : Below W.heap.size W w8 := bthen hb7 hb8')
            | (go_at_call 25
               with_reducible refine (HF.out 0 _ hb8).mono ?_
               rintro e9 w9 ⟨v9, rfl, hK9, hb9'⟩
               have hb9 : Below W.heap.size W w9 := bthen hb8 hb9')
            | (go_at_call 15
               with_reducible refine (HS2.out v9 _ hb9 hK9.is).mono ?_
               rintro e10 w10 ⟨rfl, hb10'⟩
               have hb10 : Below W.heap.size W w10 := bthen hb9 hb10')
            | (go_at_call 25
               with_reducible refine (HF.out (k.next - 1) _ hb10).mono ?_
               rintro e11 w11 ⟨v11, rfl, hK11, hb11'⟩
               have hb11 : Below W.heap.size W w11 := bthen hb10 hb11'
               obtain ⟨A11, n11, c11, us11, ev11, hr11, ha11, hf11⟩ := id hK11
               have hn11 : n11 = 0 := by rw [← hr11.size, hf11.1, Keep.freed_all HR.out]; rfl
               have ev11' : v11 = .agg #[.int .i64 k.next, .slice A11 n11 c11] := ev11
               have b11 : (n11 == 0) = true := by simp [hn11]
               have b12 : ((n11 : Int) == 0) = true := by simp [hn11]
               have hfl := fun w => fld24 k.next A11 n11 c11 w
               clear ev11 hr11 ha11 hf11 hn11
               subst ev11')
            | fail)
        go_wp2
        go_ret
        exact ⟨rfl, bthen HB6.out hb11⟩
end Go.Proofs.Ytgnaecifinlnmaa
