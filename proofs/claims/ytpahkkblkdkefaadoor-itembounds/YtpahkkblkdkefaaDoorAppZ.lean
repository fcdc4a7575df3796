/- append of so many zeros onto a row of bytes of the call's own. No program is named here. -/
import Derived.Test.YtpahkkblkdkefaaDoorMem
import Derived.Lib.AppendZerosOnto
import Derived.Laws.CopyRow
import Derived.Laws.CopyOwn
namespace Go.Proofs.YtpahkkblkdkefaaDoor
open Go.RowKit
set_option linter.unusedVariables false

theorem zcell (k : Nat) : (Builtin.zeroCells (Value.int .u8 0).cells k).toList = bs (List.replicate k 0) := by
  simp [Builtin.zeroCells, Value.cells, bs, Nat.mod_one]
  rw [List.map_const', List.length_range]
theorem run_appZ {P : Program} (w : World) (base : Nat) (t tn ty e : TypeId) (i : TypeInfo) (ht : P.underlying t = some (.slice e)) (htn : P.underlying tn = some (.int .i64)) (hi : P.info? e = some i) (hz : i.zero = some (.int .u8 0))
    (hsize : i.size = 1) (hby : i.bytes = 1) (v : Value) (n : Nat) (xs : List UInt8) (hown : Own w base e v n xs) (k : Nat) (h0 : 0 < k) (hk : n + k ≤ 1099511627776) (hbase : base ≤ w.heap.size) :
    ∃ v' w', (Builtin.append_ #[t, tn] ty #[v, .int .i64 (k : Int)]).run P w = .ok v' w' ∧ Own w' base e v' (n + k) (xs ++ List.replicate k 0) ∧ Below base w w' := by
  have hlen : (bs (xs ++ List.replicate k 0)).length = (n + k) * 1 := by
    have := hown.1
    rw [bs_length] at this ⊢
    rw [List.length_append, List.length_replicate]
    omega
  rcases hown.2 with ⟨rfl, rfl⟩ | ⟨g, cap, cur, rfl, hbg, hg, hnc, hcm, hcs, htake⟩
  · have hx : xs = [] := List.eq_nil_of_length_eq_zero (by have := hown.1; rw [bs_length] at this; omega)
    subst hx
    have hr := Lib.run_append_nil_zeros (P := P) w t tn ty e i (.int .u8 0) .i64 .i64 ht htn hi hz k h0 (by omega) (by omega) (by rw [hby]; omega)
    have hge := grownCap_ge w k 0 e
    have hle := grownCap_le_maxLen w k 0 e (by simp only [maxLen]; omega)
    refine ⟨_, _, hr, ⟨hlen, .inr ⟨w.heap.size, _, _, by rw [Nat.zero_add], hbase, heap_alloc_new w.drew _, by omega, hle, ?_, ?_⟩⟩, (Below.refl _ _).drew.alloc hbase _⟩
    · rw [Array.size_append, size_zeroCells, size_zeroCells]
      show k * 1 + (_ - k) * 1 = _ * 1
      omega
    · rw [Array.toList_append, zcell, List.nil_append]
      exact List.take_left' (by rw [bs_length, List.length_replicate]; omega)
  · by_cases hroom : n + k ≤ cap
    · have hst := run_storeCells_at (P := P) g n e (Builtin.zeroCells (Value.int .u8 0).cells k).toList 0 cur w hg (by rw [zcell, bs_length, List.length_replicate]; omega) (by rw [zcell]; exact bs_one _)
      have hadd : (⟨g, 0, none⟩ : Addr).add (n * i.size) = ⟨g, n, none⟩ := by rw [add_eq, hsize]; simp
      have hw : IntKind.i64.wrap (k : Int) = k := by rw [IntKind.wrap_i64]; omega
      have h48i : ¬ (281474976710656 < (k : Int) * (i.bytes : Int)) := by rw [hby]; omega
      have hneg : ¬ ((k : Int) < 0) := by omega
      have hns : ¬ (k * i.size = 0) := by rw [hsize]; omega
      refine ⟨.slice (some ⟨g, 0, none⟩) (n + k) cap, w.setRow g (cur.toList.take (n + 0) ++ (Builtin.zeroCells (Value.int .u8 0).cells k).toList ++ cur.toList.drop (n + 0 + (Builtin.zeroCells (Value.int .u8 0).cells k).toList.length)).toArray, ?_, ?_, ?_⟩
      · simp [Builtin.append_, run_underlying ht, run_underlying htn, sizeOf, typeInfo, zeroValue, hi, hz, asInt, asIntOf, hw, hroom, hneg, hns, h48i, hadd]
        rw [hst]
        simp [Result.andThen]
      · refine ⟨hlen, .inr ⟨g, cap, _, rfl, hbg, setRow_heap w g cur _ e _ hg, hroom, hcm, ?_, ?_⟩⟩
        · simp only [List.size_toArray, List.length_append, List.length_take, List.length_drop, Array.length_toList, zcell, bs_length, List.length_replicate]
          omega
        · rw [zcell, List.append_assoc, Nat.add_zero]
          rw [Nat.mul_one] at htake
          rw [htake, bs_append, ← List.append_assoc, Nat.mul_one]
          exact List.take_left' (by rw [List.length_append, bs_length, bs_length, List.length_replicate]; have := hown.1; rw [bs_length] at this; omega)
      · exact below_setRow (Below.refl _ _) hbg _
    · have hold : (Builtin.firstCells i.size n (.slice (some ⟨g, 0, none⟩) n cap)).run P w.drew = .ok (bs xs).toArray w.drew := by
        refine run_firstCells_some w.drew i.size n ⟨g, 0, none⟩ n cap (bs xs) (by rw [hsize]; exact hown.1) (fun j u hj => ?_)
        exact World.ownsRow.cells (g := g) hown rfl j u hj
      have hfit : Builtin.nextslicecap (n + k) cap * i.bytes ≤ 281474976710656 := growslice_fits (by omega) (by rw [hby]; omega)
      have hr := Lib.run_append_grow_zeros (P := P) w t tn ty e i (.int .u8 0) .i64 .i64 ht htn hi hz (some ⟨g, 0, none⟩) n cap (bs xs) hold k h0 (by omega) (by omega) (by omega) (by rw [hby]; omega) hfit
      have hge := grownCap_ge w (n + k) cap e
      have hle := grownCap_le_maxLen w (n + k) cap e (by simp only [maxLen]; omega)
      refine ⟨_, _, hr, ⟨hlen, .inr ⟨w.heap.size, _, _, rfl, hbase, heap_alloc_new w.drew _, hge, hle, ?_, ?_⟩⟩, (Below.refl _ _).drew.alloc hbase _⟩
      · rw [Array.size_append, Array.size_append, size_zeroCells, size_zeroCells, List.size_toArray]
        have := hown.1
        show (bs xs).length + k * 1 + (_ - (n + k)) * 1 = _ * 1
        omega
      · rw [Array.toList_append, Array.toList_append, zcell, List.toList_toArray, ← bs_append]
        exact List.take_left' hlen
theorem wpList_appZ {P : Program} {w : World} {ops : Array Oper} {rest : List Oper} {o : Oper} {a : Act} {Q : Exit → Act → World → Prop} (hgd : o.guard = none) (s x : Operand) (t tn : TypeId)
    (ho : o.op = .call { callee := .builtin .append, args := #[s, x], argTypes := #[t, tn] })
    (base : Nat) (e : TypeId) (hi : (P.info? e).map (fun i => (i.zero, i.size, i.bytes)) = some (some (.int .u8 0), 1, 1)) (ht : P.underlying t = some (.slice e)) (htn : P.underlying tn = some (.int .i64))
    (v : Value) (n : Nat) (xs : List UInt8) (hs : a.eval s = v) (hown : Own w base e v n xs)
    (k : Nat) (hx : a.eval x = .int .i64 (k : Int)) (h0 : 0 < k) (h63 : n + k ≤ 1099511627776) (hbase : base ≤ w.heap.size)
    (h : ∀ v' w', Own w' base e v' (n + k) (xs ++ List.replicate k 0) → Below base w w' → wpList P ops Q rest (a.put o.dst v') w') : wpList P ops Q (o :: rest) a w := by
  obtain ⟨i0, hi0, hz0, hz1, hz2⟩ := info_parts hi
  obtain ⟨v', w', hrun, h2, h3⟩ := run_appZ (P := P) w base t tn o.type e i0 ht htn hi0 hz0 hz1 hz2 v n xs hown k h0 h63 hbase
  exact Lib.wpList_append_run w hgd s x t tn ho v (.int .i64 (k : Int)) hs hx v' w' hrun (h v' w' h2 h3)
end Go.Proofs.YtpahkkblkdkefaaDoor
