/- What pkt.Read comes to, where nothing is read. (Written by wip/gen/pkt10.py.) -/
import Derived.Test.YtahkhideepncfaaDoorPkt5
import Derived.Test.YtahkhideepncfaaDoorPkt9
import Derived.Test.YtahkhideepncfaaDoorCA
import Derived.Deep.RegionHeldLaw
set_option maxRecDepth 100000
namespace Go.Proofs.YtahkhideepncfaaDoor
open Go.RowKit
set_option linter.unusedVariables false

/-- A struct is stored into an elder block: the value as a letter, the world behind it as a letter. -/
theorem st15 {w : World} {g : Nat} {old : Array Value} {t : TypeId} (h : w.heap[g]? = some (.cells old t (0, 0))) (cells : Array Value) (hs : old.size = cells.size) (h1 : cells.all (·.oneCell') = true) :
    ∃ (w' : World) (cs : Array Value), cs = cells ∧ cs.size = cells.size ∧ (storeCells ⟨g, 0, none⟩ cs.toList).run Tryd.prog w = .ok () w' ∧ Hid (w'.heap[g]? = some (.cells cells t (0, 0))) ∧ Hid (But g w w') ∧ Hid (∀ base w0, Below base w0 w → base ≤ g → Below base w0 w') := by
  have hrun := run_storeCells_off (P := Tryd.prog) g 0 t cells.toList 0 old w h (by simp [hs]) (fun v hv => (Array.all_eq_true_iff_forall_mem.1 h1) v (by simpa using hv))
  have e : (old.toList.take (0 + 0) ++ cells.toList ++ old.toList.drop (0 + 0 + cells.toList.length)).toArray = cells := by
    rw [List.drop_of_length_le (by simp [hs])]
    simp
  rw [e] at hrun
  exact ⟨w.setRow g cells, cells, rfl, rfl, hrun, row_setRow w g cells old t (0, 0) h, But.setRow w g cells, fun base w0 hb hbg => below_setRow hb hbg cells⟩

/-- A packet and a code. -/
def PRead (w : World) (p : Pkt.Pk) (code : Int) (en : Ending) (w' : World) : Prop := ∃ v, en = .returned (.tuple #[v, .int .i64 code]) ∧ IsPkt w' v p ∧ Below w.heap.size w w'
/-- A frame of 55 slots, of which one holds where the packet is given, one a code. -/
def At55 (g : Nat) (k : Int) (a : Act) : Prop := ∃ (u0 u1 u2 u3 u4 u5 u6 u7 u8 u9 u10 u11 u12 u13 u14 u15 u16 u17 u18 u19 u20 u21 u22 u23 u24 u25 u26 u27 u28 u29 u30 u31 u32 u33 u34 u35 u36 u37 u38 u39 u40 u41 u42 u43 u44 u45 u46 u47 u48 u49 u50 u51 u52 u53 u54 : Value), a = { tmps := #[u0, u1, u2, u3, u4, u5, u6, u7, u8, u9, u10, u11, u12, u13, u14, u15, u16, u17, u18, u19, u20, u21, u22, u23, u24, u25, u26, u27, u28, u29, u30, u31, u32, u33, u34, u35, u36, u37, u38, u39, u40, u41, u42, u43, u44, u45, u46, u47, u48, u49, u50, u51, u52, u53, u54], defers := [] } ∧ u2 = .pointer (some ⟨g, 0, none⟩) ∧ u7 = .int .i64 k

set_option maxHeartbeats 4000000 in
theorem pread_a (A : Option Addr) (n c : Nat) (l : List UInt8) (w : World) (hw : Wd w) (h : Rd w A n c l) (hn : n ≤ 65536) (hc : openCode l ≠ 0) :
    Calls Tryd.prog 9 #[.slice A n c] w (PRead w Pkt.Pk.zero (openCode l)) := by
  obtain ⟨g0, g1, hb0⟩ := two_alloc w (.cells #[.int .i64 0, .int .i64 0, .int .i64 0, .int .i64 0, .int .i64 0, .int .i64 0, .int .i64 0, .int .i64 0, .slice none 0 0, .slice none 0 0, .int .i64 0, .int .i64 0, .int .i64 0, .int .i64 0, .slice none 0 0] 27) (.cells #[.int .i64 0, .int .i64 0, .int .i64 0, .int .i64 0, .int .i64 0, .int .i64 0, .int .i64 0, .int .i64 0, .slice none 0 0, .slice none 0 0, .int .i64 0, .int .i64 0, .int .i64 0, .int .i64 0, .slice none 0 0] 27)
  have hs0 : ((w.alloc (.cells #[.int .i64 0, .int .i64 0, .int .i64 0, .int .i64 0, .int .i64 0, .int .i64 0, .int .i64 0, .int .i64 0, .slice none 0 0, .slice none 0 0, .int .i64 0, .int .i64 0, .int .i64 0, .int .i64 0, .slice none 0 0] 27)).alloc (.cells #[.int .i64 0, .int .i64 0, .int .i64 0, .int .i64 0, .int .i64 0, .int .i64 0, .int .i64 0, .int .i64 0, .slice none 0 0, .slice none 0 0, .int .i64 0, .int .i64 0, .int .i64 0, .int .i64 0, .slice none 0 0] 27)).heap.size = w.heap.size + 2 := by rw [size_alloc, size_alloc]
  have sz' : w.heap.size + 1 ≠ w.heap.size := by omega
  have sz : w.heap.size ≠ w.heap.size + 1 := by omega
  have sle : w.heap.size ≤ w.heap.size + 1 := by omega
  have ho := open_any A n c l _ (h.below hb0) hn
  generalize openCode l = kk at hc ho ⊢
  have q1 : (kk != 0) = true := by simpa using hc
  have q2 : (kk == 0) = false := by simpa using hc
  clear hc
  go_enter Tryd.func9, Tryd.ntmps9
  go_wp2
  refine wp_scope_jumps 0 (fun a' w' => At55 w.heap.size (kk) a' ∧ w'.heap[w.heap.size]? = some (.cells zpkt 27 (0, 0)) ∧ Below w.heap.size w w') (fun _ _ => 0) rfl ?_ ?_
  ·
    go_wp2_with fail
    with_reducible refine ho.mono ?_
    rintro e w1 ⟨A1, d1, rfl, r1, b1⟩
    rw [hs0] at b1
    have hb1 : Below w.heap.size w w1 := hb0.trans (b1.mono (by omega))
    have z1 := b1.size
    have k0 := (b1.block _ (by omega)).trans g0
    have k1 := (b1.block _ (by omega)).trans g1
    clear ho g0 g1 hb0 b1
    go_wp2
    go_step3
    exact ⟨rfl, ⟨_, _, _, _, _, _, _, _, _, _, _, _, _, _, _, _, _, _, _, _, _, _, _, _, _, _, _, _, _, _, _, _, _, _, _, _, _, _, _, _, _, _, _, _, _, _, _, _, _, _, _, _, _, _, _, rfl, rfl, rfl⟩, k0, hb1⟩
  · rintro a' w' ⟨⟨u0, u1, u2, u3, u4, u5, u6, u7, u8, u9, u10, u11, u12, u13, u14, u15, u16, u17, u18, u19, u20, u21, u22, u23, u24, u25, u26, u27, u28, u29, u30, u31, u32, u33, u34, u35, u36, u37, u38, u39, u40, u41, u42, u43, u44, u45, u46, u47, u48, u49, u50, u51, u52, u53, u54, rfl, rfl, rfl⟩, hg, hb⟩
    go_wp2_with (
      refine wpList_stI rfl 27 (.tmp 2) (.tmp 53) rfl w.heap.size zpkt rfl rfl _ _ hg info37 rfl (all15 rfl rfl rfl rfl rfl rfl rfl rfl rfl rfl rfl rfl rfl rfl rfl) ?_
      intro w9 hg9 hbut9 hbel9
      have hb9 := hbel9 _ _ hb (Nat.le_refl _))
    simp only [Exit.jump]
    obtain ⟨⟨y0, y1⟩, ⟨y2, y3, y4, y5, y6, y7, y8, y9⟩, ⟨y10, y11, y12, y13, y14⟩⟩ := cells15 hg9
    exact bodyPost_ret (v := .tuple #[.agg zpkt, .int .i64 (kk)]) (by simp [results, Tryd.results9, go_sem, y0, y1, y2, y3, y4, y5, y6, y7, y8, y9, y10, y11, y12, y13, y14]) rfl ⟨_, rfl, zero_pkt _, hb9⟩

set_option maxHeartbeats 4000000 in
theorem pread_b (A : Option Addr) (n c : Nat) (l : List UInt8) (w : World) (hw : Wd w) (h : Rd w A n c l) (hn : n ≤ 65536) (hc : openCode l = 0) (ht0 : Num.takes 1 3 (opened l) = none) :
    Calls Tryd.prog 9 #[.slice A n c] w (PRead w Pkt.Pk.zero 2) := by
  obtain ⟨g0, g1, hb0⟩ := two_alloc w (.cells #[.int .i64 0, .int .i64 0, .int .i64 0, .int .i64 0, .int .i64 0, .int .i64 0, .int .i64 0, .int .i64 0, .slice none 0 0, .slice none 0 0, .int .i64 0, .int .i64 0, .int .i64 0, .int .i64 0, .slice none 0 0] 27) (.cells #[.int .i64 0, .int .i64 0, .int .i64 0, .int .i64 0, .int .i64 0, .int .i64 0, .int .i64 0, .int .i64 0, .slice none 0 0, .slice none 0 0, .int .i64 0, .int .i64 0, .int .i64 0, .int .i64 0, .slice none 0 0] 27)
  have hs0 : ((w.alloc (.cells #[.int .i64 0, .int .i64 0, .int .i64 0, .int .i64 0, .int .i64 0, .int .i64 0, .int .i64 0, .int .i64 0, .slice none 0 0, .slice none 0 0, .int .i64 0, .int .i64 0, .int .i64 0, .int .i64 0, .slice none 0 0] 27)).alloc (.cells #[.int .i64 0, .int .i64 0, .int .i64 0, .int .i64 0, .int .i64 0, .int .i64 0, .int .i64 0, .int .i64 0, .slice none 0 0, .slice none 0 0, .int .i64 0, .int .i64 0, .int .i64 0, .int .i64 0, .slice none 0 0] 27)).heap.size = w.heap.size + 2 := by rw [size_alloc, size_alloc]
  have sz' : w.heap.size + 1 ≠ w.heap.size := by omega
  have sz : w.heap.size ≠ w.heap.size + 1 := by omega
  have sle : w.heap.size ≤ w.heap.size + 1 := by omega
  have ho := open_any A n c l _ (h.below hb0) hn
  have hrn := h.1
  have hol : (opened l).length ≤ 65536 := by
    unfold opened
    split
    · simp
    · split
      · rw [List.length_take]; omega
      · simp
  rw [hc] at ho
  clear hc
  generalize opened l = cb at ho ht0 hol ⊢
  have hrow : Num.rowOf cb 3 1 = ([], [], 2) := Num.rowOf_none (l := cb) (m := 3) (k := 1) (by decide) ht0
  have htr := fun (B : Option Addr) (d : Nat) (w' : World) (hw' : Wd w') (hb' : Rd w' B cb.length d cb) => takeRow_any B cb.length d cb 3 1 w' hw' hb' hol
  rw [hrow] at htr
  clear hrow ht0
  go_enter Tryd.func9, Tryd.ntmps9
  go_wp2
  refine wp_scope_jumps 0 (fun a' w' => At55 w.heap.size (2) a' ∧ w'.heap[w.heap.size]? = some (.cells zpkt 27 (0, 0)) ∧ Below w.heap.size w w') (fun _ _ => 0) rfl ?_ ?_
  ·
    go_wp2_with fail
    with_reducible refine ho.mono ?_
    rintro e w1 ⟨A1, d1, rfl, r1, b1⟩
    rw [hs0] at b1
    have hb1 : Below w.heap.size w w1 := hb0.trans (b1.mono (by omega))
    have z1 := b1.size
    have k0 := (b1.block _ (by omega)).trans g0
    have k1 := (b1.block _ (by omega)).trans g1
    clear ho g0 g1 hb0 b1
    have t2 := htr A1 d1 w1 (hw.below hb1) r1
    go_wp2_with fail
    with_reducible refine t2.mono ?_
    rintro en w2 ⟨A2, c2, B2, d2, rfl, i2, o2, b2⟩
    have hb2 := bthen hb1 b2
    have k0' := (b2.block _ (by omega)).trans k0
    clear t2 htr b2 k0 k1 hb1 i2 o2 r1
    go_wp2
    go_step3
    exact ⟨rfl, ⟨_, _, _, _, _, _, _, _, _, _, _, _, _, _, _, _, _, _, _, _, _, _, _, _, _, _, _, _, _, _, _, _, _, _, _, _, _, _, _, _, _, _, _, _, _, _, _, _, _, _, _, _, _, _, _, rfl, rfl, rfl⟩, k0', hb2⟩
  · rintro a' w' ⟨⟨u0, u1, u2, u3, u4, u5, u6, u7, u8, u9, u10, u11, u12, u13, u14, u15, u16, u17, u18, u19, u20, u21, u22, u23, u24, u25, u26, u27, u28, u29, u30, u31, u32, u33, u34, u35, u36, u37, u38, u39, u40, u41, u42, u43, u44, u45, u46, u47, u48, u49, u50, u51, u52, u53, u54, rfl, rfl, rfl⟩, hg, hb⟩
    go_wp2_with (
      refine wpList_stI rfl 27 (.tmp 2) (.tmp 53) rfl w.heap.size zpkt rfl rfl _ _ hg info37 rfl (all15 rfl rfl rfl rfl rfl rfl rfl rfl rfl rfl rfl rfl rfl rfl rfl) ?_
      intro w9 hg9 hbut9 hbel9
      have hb9 := hbel9 _ _ hb (Nat.le_refl _))
    simp only [Exit.jump]
    obtain ⟨⟨y0, y1⟩, ⟨y2, y3, y4, y5, y6, y7, y8, y9⟩, ⟨y10, y11, y12, y13, y14⟩⟩ := cells15 hg9
    exact bodyPost_ret (v := .tuple #[.agg zpkt, .int .i64 (2)]) (by simp [results, Tryd.results9, go_sem, y0, y1, y2, y3, y4, y5, y6, y7, y8, y9, y10, y11, y12, y13, y14]) rfl ⟨_, rfl, zero_pkt _, hb9⟩

end Go.Proofs.YtahkhideepncfaaDoor
