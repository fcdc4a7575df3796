/- The package variable 'widths', as the program's text lays it: from the row's condition to what the walks ask. -/
import Derived.Test.YtpahkkblkdkefaaDoorNum1
import Derived.Test.YtpahkkblkdkefaaDoorOpen
import Derived.LaidMore
namespace Go.Proofs.YtpahkkblkdkefaaDoor
open Go.RowKit Go.ChangeShapes Go.WideShapes Go.ChangeAt
set_option linter.unusedVariables false

theorem gWidths : Tryd.prog.globalNamed "precentor/num.widths" = some 0 := by kernel_rfl
theorem tWidths : (Tryd.prog.globals[(0 : Nat)]?).map (·.type) = some 76 := by kernel_rfl
theorem width_cells {W : World} {m : Nat} {a b : Value} {x : DataW Unit × List MemPlace} (h : DataW.trod (fun _ => ()) Tryd.prog W 0 (fun _ => true) false m 75 [a, b] = some x) :
    ∃ p q : Int, a = .int .i64 p ∧ b = .int .i64 q ∧ x.1 = .agg [.lit (.int .i64 p), .lit (.int .i64 q)] := by
  obtain ⟨xs, n, _, hx, _, hxl, hall⟩ := DataW.trod_struct Tryd.underlying75 h
  have h0 := hall 0 _ rfl
  have h1 := hall 1 _ rfl
  match xs, hxl with
  | [x0, x1], _ =>
    simp only [List.getElem?_cons_zero, List.getElem?_cons_succ] at h0 h1
    obtain ⟨p, e0, f0, _⟩ := DataW.trod_int Tryd.underlying3 h0
    obtain ⟨q, e1, f1, _⟩ := DataW.trod_int Tryd.underlying3 h1
    injection e0 with e0
    injection e1 with e1
    refine ⟨p, q, e0, e1, ?_⟩
    rw [hx, f0, f1]
    rfl
theorem wd_of_trod {W : World} {cs : Array Value} {f : Nat} {p : List MemPlace} (hv : W.var? Tryd.prog "precentor/num.widths" = some cs)
    (hd : DataW.trod (fun _ => ()) Tryd.prog W 0 (fun _ => true) false f 76 cs.toList = some (Rows.laid_precentor_num_widths, p)) : Wd W := by
  have hheap : ∃ t fr, W.heap[(0 : Nat)]? = some (.cells cs t fr) := by
    simp only [World.var?, gWidths, Option.bind_some] at hv
    split at hv
    · rename_i c t fr hh
      injection hv with hv
      subst hv
      exact ⟨t, fr, hh⟩
    · cases hv
  have c60 : Tryd.prog.cellsOf 76 = 6 := by kernel_rfl
  have c59 : Tryd.prog.cellsOf 75 = 2 := by kernel_rfl
  obtain ⟨t, fr, hh⟩ := hheap
  have hcs : cs = wcells := by
    obtain ⟨l⟩ := cs
    obtain ⟨xs, m, _, hx, hl, hxl, hall⟩ := DataW.trod_array Tryd.underlying76 hd
    rw [c60] at hl
    have h0 := hall 0 (by omega)
    have h1 := hall 1 (by omega)
    have h2 := hall 2 (by omega)
    match l, hl, xs, hxl with
    | [a0, a1, a2, a3, a4, a5], _, [x0, x1, x2], _ =>
      simp [c59] at h0 h1 h2
      obtain ⟨p0, q0, rfl, rfl, e0⟩ := width_cells h0
      obtain ⟨p1, q1, rfl, rfl, e1⟩ := width_cells h1
      obtain ⟨p2, q2, rfl, rfl, e2⟩ := width_cells h2
      have hd2 := congrArg Prod.fst hx
      simp [Rows.laid_precentor_num_widths, e0, e1, e2] at hd2
      obtain ⟨⟨rfl, rfl⟩, ⟨rfl, rfl⟩, rfl, rfl⟩ := hd2
      rfl
  subst hcs
  exact ⟨t, fr, hh⟩
theorem wd_of_laid {W : World} (h : laidMetH Tryd.prog [("precentor/num.widths", Rows.laid_precentor_num_widths)] W) : Wd W := by
  rw [MakeChecks.laidMetH_plain _ _ _ (by kernel_rfl)] at h
  obtain ⟨ps, ⟨g0, t0, cs0, f0, p0, q0, hg0, ht0, hv0, hd0, _, _⟩, _, _⟩ := h
  obtain rfl := Option.some.inj (gWidths.symm.trans hg0)
  obtain rfl := Option.some.inj (tWidths.symm.trans ht0)
  exact wd_of_trod hv0 hd0
end Go.Proofs.YtpahkkblkdkefaaDoor
