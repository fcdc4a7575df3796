/- The statements' head 'shown' answers true; small facts on what is sealed. No condition. -/
import Derived.Test.YtmlldjfclabdkaaT3
import Derived.Lib.SlBytesConst
namespace Go.Proofs.Ytmlldjfclabdkaa
open Go.RowKit
set_option linter.unusedVariables false

/-- What a law says of a call. -/
def Yes (w : World) (e : Ending) (w' : World) : Prop := e = .returned (.bool true) ∧ Below w.heap.size w w'

theorem sum_own {w : World} {base n : Nat} {t : TypeId} {v : Value} {l : List UInt8} (h : Own w base t v n l) :
    Calls Try.prog 13 #[v] w fun e w' => e = .returned (.int .u32 (Crc.sum l : Nat)) ∧ w = w' := by
  obtain ⟨A, c, rfl, hr⟩ := h.rd
  exact sum_any A n c l w hr

theorem take_seal (l : List UInt8) : (Crc.sealB l).take ((Crc.sealB l).length - 4) = l := by
  have h : (Crc.sealB l).length = l.length + 4 := by simp [Crc.sealB, Crc.le4]
  rw [h, Nat.add_sub_cancel]
  exact List.take_left' rfl
theorem seal_length (l : List UInt8) : (Crc.sealB l).length = l.length + 4 := by simp [Crc.sealB, Crc.le4]
theorem opened_seal (l : List UInt8) : opened (Crc.sealB l) = l := by
  unfold opened
  rw [if_neg (by rw [seal_length]; omega), take_seal, if_pos rfl]
theorem code_seal (l : List UInt8) : openCode (Crc.sealB l) = 0 := by
  unfold openCode
  rw [if_neg (by rw [seal_length]; omega), take_seal, if_pos rfl]
theorem code_abc : openCode [97, 98, 99] = 2 := by decide
theorem code_abcd : openCode [97, 98, 99, 100] = 3 := by decide +kernel
theorem sum_digits : Crc.sum [49, 50, 51, 52, 53, 54, 55, 56, 57] = 3421780262 := by decide +kernel
theorem spoil_abc : Crc.spoil [97, 98, 99] 1 [1] = [97, 99, 99] := by decide

/-- A literal's bytes, its row marked or not. -/
theorem Rd.lit (w : World) (t : TypeId) (fr : Nat × Nat) (C : Array Value) (l : List UInt8) (hC : C = (bs l).toArray) (n : Nat) (hn : l.length = n) (hl : n ≤ maxLen) : Rd (w.alloc (.cells C t fr)) (some ⟨w.heap.size, 0, none⟩) n n l := by
  subst hC
  subst hn
  refine ⟨rfl, Nat.le_refl _, hl, (fun h => by cases h), fun _ => ⟨_, _, rfl, fun i x hx => ?_⟩⟩
  rw [World.cell?_alloc_mark]
  simpa using bs_of hx

theorem Rd.litAt (w : World) (t : TypeId) (fr : Nat × Nat) (C : Array Value) (l : List UInt8) (hC : C = (bs l).toArray) (n : Nat) (hn : l.length = n) (hl : n ≤ maxLen) (g : Nat) (hg : w.heap.size = g) : Rd (w.alloc (.cells C t fr)) (some ⟨g, 0, none⟩) n n l := by
  subst hg
  exact Rd.lit w t fr C l hC n hn hl

set_option maxHeartbeats 1000000 in
theorem shown_any (w : World) : Calls Try.prog 10 #[] w fun e w' => e = .returned (.bool true) ∧ Below w.heap.size w w' := by
  have kc := fun (w : World) (C : Array Value) (n c : Nat) => Lib.run_convert_bytes_const (P := Try.prog) w 22 5 C n c Try.underlying22 Try.underlying5
  go_enter Try.func10, Try.ntmps10
  go_wp2_with fail
  with_reducible refine (seal_any _ 3 3 [97, 98, 99] _ ?_ (by omega)).mono ?_
  · exact Rd.lit _ _ _ _ _ rfl 3 rfl (by decide)
  rintro e w1 ⟨A1, c1, rfl, ho1, hb1⟩
  rw [show (Crc.sealB [97, 98, 99]).length = 7 from seal_length _] at ho1 ⊢
  have hb1' := bthen ((Below.refl w.heap.size w).alloc (Nat.le_refl _) _) hb1
  clear hb1
  go_wp2_with fail
  with_reducible refine (open_any A1 7 c1 _ _ ho1.same (by omega)).mono ?_
  rw [opened_seal, code_seal]
  rintro e w2 ⟨A2, c2, rfl, hr2', hb2⟩
  have hr2 : Rd w2 A2 3 c2 [97, 98, 99] := hr2'
  clear hr2'
  have hb2' := bthen hb1' hb2
  clear ho1 hb1' hb2
  go_wp2_with fail
  with_reducible refine (open_any _ 3 3 [97, 98, 99] _ ?_ (by omega)).mono ?_
  · exact Rd.lit _ _ _ _ _ rfl 3 rfl (by decide)
  rw [code_abc]
  rintro e w3 ⟨A3, c3, rfl, hr3, hb3⟩
  have hb3' := bthen ((Below.refl _ w2).alloc (Nat.le_refl _) _) hb3
  have hr23 := hr2.below hb3'
  have hb23 := bthen hb2' hb3'
  clear hb2' hb3 hb3' hr2 hr3
  go_wp2_with fail
  with_reducible refine (open_any _ 4 4 [97, 98, 99, 100] _ ?_ (by omega)).mono ?_
  · exact Rd.lit _ _ _ _ _ rfl 4 rfl (by decide)
  rw [code_abcd]
  rintro e w4 ⟨A4, c4, rfl, hr4, hb4⟩
  have hb4' := bthen ((Below.refl _ w3).alloc (Nat.le_refl _) _) hb4
  have hr24 := hr23.below hb4'
  have hb24 := bthen hb23 hb4'
  clear hb4 hb4' hr4 hr23 hb23
  go_wp2_with fail
  with_reducible refine (sum_any _ 9 9 [49, 50, 51, 52, 53, 54, 55, 56, 57] _ ?_).mono ?_
  · exact Rd.lit _ _ _ _ _ rfl 9 rfl (by decide)
  rw [sum_digits]
  rintro e w5 ⟨rfl, rfl⟩
  have hb5' := (Below.refl w4.heap.size w4).alloc (Nat.le_refl _) (.cells #[.int .u8 49, .int .u8 50, .int .u8 51, .int .u8 52, .int .u8 53, .int .u8 54, .int .u8 55, .int .u8 56, .int .u8 57] 5 (9, 10))
  have hr25 := hr24.below hb5'
  have hb25 := bthen hb24 hb5'
  clear hb5' hr24 hb24
  generalize w4.alloc (.cells #[.int .u8 49, .int .u8 50, .int .u8 51, .int .u8 52, .int .u8 53, .int .u8 54, .int .u8 55, .int .u8 56, .int .u8 57] 5 (9, 10)) = W5 at hr25 hb25 ⊢
  have hs2 : Sem.run Try.prog (convert 22 9 (.slice A2 3 c2)) W5 = .ok (.string { data := #[97, 98, 99] }) W5 := run_str hr25 Try.underlying22 Try.underlying5 Try.underlying9
  go_wp2_with fail
  with_reducible refine (spoil_any _ 3 3 [97, 98, 99] 1 _ 1 1 [1] _ ?_ ?_ (by omega)).mono ?_
  · exact (Rd.lit _ _ _ _ [97, 98, 99] rfl 3 rfl (by decide)).alloc _
  · exact Rd.litAt _ _ _ _ [1] rfl 1 rfl (by decide) _ (by simp)
  rw [spoil_abc]
  rintro e w6 ⟨A6, c6, rfl, ho6, hb6⟩
  have hs6 : Sem.run Try.prog (convert 22 9 (.slice A6 3 c6)) w6 = .ok (.string { data := #[97, 99, 99] }) _ := run_str (l := [97, 99, 99]) ho6.same Try.underlying22 Try.underlying5 Try.underlying9
  clear hs2
  go_wp2
  go_ret
  exact ⟨rfl, bthen (bthen hb25 (((Below.refl W5.heap.size W5).alloc (Nat.le_refl _) _).alloc (by simp) _)) hb6⟩

theorem seal_inj {a b : List UInt8} (h : Crc.sealB a = Crc.sealB b) : a = b := by
  rw [← take_seal a, ← take_seal b, h]

/-- The bytes as a string, in every later world. -/
theorem strs {w : World} {A : Option Addr} {n c : Nat} {l : List UInt8} (h : Rd w A n c l) : ∀ w', Below w.heap.size w w' → Sem.run Try.prog (convert 22 9 (.slice A n c)) w' = .ok (.string (str l)) w' :=
  fun w' hb => run_str (h.below hb) Try.underlying22 Try.underlying5 Try.underlying9

theorem later {w w2 : World} {F : World → Prop} (h : ∀ w', Below w.heap.size w w' → F w') (hb : Below w.heap.size w w2) : ∀ w', Below w2.heap.size w2 w' → F w' :=
  fun w' h2 => h w' (bthen hb h2)
end Go.Proofs.Ytmlldjfclabdkaa
