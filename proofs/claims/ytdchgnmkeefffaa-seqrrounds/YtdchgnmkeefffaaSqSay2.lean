/- Whom an order names: how many, and in which turn. No program is named here. -/
import Derived.Test.YtdchgnmkeefffaaSqSay
set_option maxRecDepth 100000
namespace Go.Proofs.Ytdchgnmkeefffaa.Seqr
open Go.Proofs.Ytdchgnmkeefffaa.Item (It)
open Go.Proofs.Ytdchgnmkeefffaa.Lane
set_option linter.unusedVariables false

/-- How far a member is behind another one, going round. -/
def rnd (i f n : Int) : Int := if i < f then i + n - f else i - f
theorem rnd_at {me n k : Nat} (hme : me < n) (hk : k < n) : rnd (((me + k) % n : Nat) : Int) me n = k := by
  unfold rnd
  by_cases h : me + k < n
  · rw [Nat.mod_eq_of_lt h, if_neg (by omega)]; omega
  · have e : (me + k) % n = me + k - n := by rw [Nat.mod_eq_sub_mod (by omega), Nat.mod_eq_of_lt (by omega)]
    rw [e, if_pos (by omega)]; omega
theorem saysOf_mem {ls : List Ln} {n me k : Nat} {x : Int} (h : x ∈ saysOf ls n me k) : ∃ j, j < k ∧ x = (((me + j) % n : Nat) : Int) := by
  unfold saysOf at h
  obtain ⟨i, hi, hx⟩ := List.mem_flatMap.1 h
  obtain ⟨j, hj, rfl⟩ := List.mem_map.1 hi
  exact ⟨j, List.mem_range.1 hj, (List.mem_replicate.1 hx).2⟩
theorem saysOf_sorted {ls : List Ln} {n me : Nat} (hme : me < n) {k : Nat} (hk : k ≤ n) : (saysOf ls n me k).Pairwise (fun a b => rnd a me n ≤ rnd b me n) := by
  induction k with
  | zero => exact List.Pairwise.nil
  | succ k ih =>
    rw [saysOf_succ, List.pairwise_append]
    refine ⟨ih (by omega), ?_, fun a ha b hb => ?_⟩
    · rw [List.pairwise_replicate]; exact .inr (Int.le_refl _)
    · obtain ⟨j, hj, rfl⟩ := saysOf_mem ha
      rw [(List.mem_replicate.1 hb).2, rnd_at hme (by omega), rnd_at hme (by omega)]
      omega
def total (ls : List Ln) : Nat := (ls.map many).sum
def sumFrom (f : Nat → Nat) (a : Nat) : Nat → Nat
  | 0 => 0
  | k + 1 => sumFrom f a k + f (a + k)
theorem sumFrom_add (f : Nat → Nat) (a : Nat) : ∀ k, sumFrom f 0 (a + k) = sumFrom f 0 a + sumFrom f a k
  | 0 => rfl
  | k + 1 => by
    show sumFrom f 0 (a + k) + f (0 + (a + k)) = sumFrom f 0 a + (sumFrom f a k + f (a + k))
    rw [sumFrom_add f a k, Nat.zero_add, Nat.add_assoc]
theorem saysOf_len (ls : List Ln) (n me : Nat) : ∀ k, (saysOf ls n me k).length = sumFrom (fun j => many (laneAt ls ((me + j) % n))) 0 k
  | 0 => rfl
  | k + 1 => by
    rw [saysOf_succ, List.length_append, List.length_replicate, saysOf_len ls n me k]
    show _ = sumFrom _ 0 k + many (laneAt ls ((me + (0 + k)) % n))
    rw [Nat.zero_add]
theorem sumFrom_congr {f g : Nat → Nat} {a b : Nat} : ∀ k, (∀ j, j < k → f (a + j) = g (b + j)) → sumFrom f a k = sumFrom g b k
  | 0, _ => rfl
  | k + 1, h => by
    show sumFrom f a k + f (a + k) = sumFrom g b k + g (b + k)
    rw [sumFrom_congr k fun j hj => h j (by omega), h k (by omega)]
theorem total_sum (ls : List Ln) : total ls = sumFrom (fun i => many (laneAt ls i)) 0 ls.length := by
  induction ls with
  | nil => rfl
  | cons l ls ih =>
    show many l + (ls.map many).sum = sumFrom _ 0 (ls.length + 1)
    rw [Nat.add_comm ls.length 1, sumFrom_add]
    have e : sumFrom (fun i => many (laneAt (l :: ls) i)) 1 ls.length = sumFrom (fun i => many (laneAt ls i)) 0 ls.length := sumFrom_congr _ fun j hj => by
      show many (laneAt (l :: ls) (1 + j)) = many (laneAt ls (0 + j))
      rw [Nat.add_comm 1 j, Nat.zero_add]; rfl
    rw [e, ← ih]
    show many l + total ls = (0 + many (laneAt (l :: ls) (0 + 0))) + total ls
    rw [Nat.zero_add]; rfl
theorem saysOf_total {ls : List Ln} {me : Nat} (hme : me < ls.length) : (saysOf ls ls.length me ls.length).length = total ls := by
  rw [saysOf_len, total_sum]
  have e1 : ls.length = (ls.length - me) + me := by omega
  have h1 : sumFrom (fun j => many (laneAt ls ((me + j) % ls.length))) 0 ls.length = sumFrom (fun j => many (laneAt ls ((me + j) % ls.length))) 0 ((ls.length - me) + me) := by rw [← e1]
  rw [h1, sumFrom_add]
  have h2 : sumFrom (fun j => many (laneAt ls ((me + j) % ls.length))) 0 (ls.length - me) = sumFrom (fun i => many (laneAt ls i)) me (ls.length - me) := sumFrom_congr _ fun j hj => by
    show many (laneAt ls ((me + (0 + j)) % ls.length)) = many (laneAt ls (me + j))
    rw [Nat.zero_add, Nat.mod_eq_of_lt (by omega)]
  have h3 : sumFrom (fun j => many (laneAt ls ((me + j) % ls.length))) (ls.length - me) me = sumFrom (fun i => many (laneAt ls i)) 0 me := sumFrom_congr _ fun j hj => by
    show many (laneAt ls ((me + (ls.length - me + j)) % ls.length)) = many (laneAt ls (0 + j))
    rw [show me + (ls.length - me + j) = ls.length + j by omega, Nat.add_mod_left, Nat.mod_eq_of_lt (by omega), Nat.zero_add]
  rw [h2, h3, Nat.add_comm, ← sumFrom_add, show me + (ls.length - me) = ls.length by omega]
theorem saidL_length {ls : List Ln} {me : Nat} (hme : me < ls.length) (most : Int) : (saidL ls me most).length = min most.toNat (total ls) := by
  unfold saidL
  rw [List.length_take, saysOf_total hme]
theorem saidL_sorted {ls : List Ln} {me : Nat} (hme : me < ls.length) (most : Int) : (saidL ls me most).Pairwise (fun a b => rnd a me ls.length ≤ rnd b me ls.length) :=
  List.Pairwise.sublist (List.take_sublist _ _) (saysOf_sorted hme (Nat.le_refl _))
theorem saidL_mem {ls : List Ln} {me : Nat} {most : Int} (hme : me < ls.length) {x : Int} (h : x ∈ saidL ls me most) : 0 ≤ x ∧ x < ls.length := by
  obtain ⟨j, _, rfl⟩ := saysOf_mem (List.mem_of_mem_take h)
  have := Nat.mod_lt (me + j) (show 0 < ls.length by omega)
  omega
theorem sorted_at {l : List Int} {f n : Int} (h : l.Pairwise (fun a b => rnd a f n ≤ rnd b f n)) {k : Nat} {x y : Int} (hx : l[k]? = some x) (hy : l[k + 1]? = some y) : rnd x f n ≤ rnd y f n := by
  obtain ⟨h1, rfl⟩ := List.getElem?_eq_some_iff.1 hx
  obtain ⟨h2, rfl⟩ := List.getElem?_eq_some_iff.1 hy
  exact List.pairwise_iff_getElem.1 h k (k + 1) h1 h2 (by omega)
/-- When something is said. -/
theorem say_isSome {t : Tn} {ls : List Ln} {me : Nat} {quota : Int} (hme : me < ls.length) : (say t ls me quota).isSome = (decide (me = t.who) && (decide (0 < total ls) && (!(control (laneAt ls t.who)).isSome && decide (t.used < quota)))) := by
  by_cases h : t.who = me
  · subst h
    cases hc : (control (laneAt ls t.who)).isSome with
    | true => rw [say_waits hc]; simp
    | false =>
      have hl := saidL_length hme (quota - t.used)
      by_cases hn : saidL ls t.who (quota - t.used) = []
      · rw [say_none hn]
        rw [hn] at hl
        simp only [List.length_nil] at hl
        have : ¬ (0 < total ls ∧ t.used < quota) := by omega
        simp only [Option.isSome_none, decide_true, Bool.true_and, Bool.not_false]
        symm
        rw [Bool.and_eq_false_iff]
        by_cases h1 : 0 < total ls
        · right; exact decide_eq_false fun h2 => this ⟨h1, h2⟩
        · left; exact decide_eq_false h1
      · rw [say_some rfl hc hn]
        have h0 : 0 < (saidL ls t.who (quota - t.used)).length := List.length_pos_iff.2 hn
        rw [hl] at h0
        have h1 : 0 < total ls := by omega
        have h2 : t.used < quota := by omega
        simp [h1, h2]
  · rw [say_no h]
    have : ¬ me = t.who := fun e => h e.symm
    simp [this]
/-- The numbers that it names. -/
theorem say_l {t : Tn} {ls : List Ln} {me : Nat} {quota : Int} : ((say t ls me quota).getD It.zero).l = [] ∨ ((say t ls me quota).getD It.zero).l = saidL ls me (quota - t.used) := by
  unfold say
  split
  · exact .inl rfl
  · split
    · exact .inl rfl
    · split
      · exact .inl rfl
      · exact .inr rfl
theorem say_l_some {t : Tn} {ls : List Ln} {me : Nat} {quota : Int} (h : (say t ls me quota).isSome = true) : ((say t ls me quota).getD It.zero).l = saidL ls me (quota - t.used) := by
  unfold say at h ⊢
  split
  · rename_i h1; rw [if_pos h1] at h; cases h
  · rename_i h1
    rw [if_neg h1] at h
    split
    · rename_i h2; rw [if_pos h2] at h; cases h
    · rename_i h2
      rw [if_neg h2] at h
      split
      · rename_i h3; rw [if_pos h3] at h; cases h
      · rfl
end Go.Proofs.Ytdchgnmkeefffaa.Seqr
