/- Layer 18: for laws one of whose arguments is an array of three numbers: opening it, handing it back; what the listed table of counts holds. -/
import Derived.Test.YthnaeoagooahbaaDoorListArgs
import Derived.Test.YthnaeoagooahbaaDoorGroA
import Derived.LaidMore
import Derived.OpenShut
import Derived.Stop.Joined
namespace Go.Proofs.YthnaeoagooahbaaDoor
open Go.ChangeShapes Go.WideShapes Go.ChangeAt Go.RowKit Go.Joins

theorem cells3 {a : Array Value} (h : a.size = 3) : ∃ c0 c1 c2, a = #[c0, c1, c2] := by
  obtain ⟨l⟩ := a
  match l, h with
  | [c0, c1, c2], _ => exact ⟨c0, c1, c2, rfl⟩
theorem Tryd.cellsTri : Tryd.prog.cellsOf 22 = 3 := by kernel_rfl
section
variable {H : Type} {enc : TypeId × Value → H}
set_option maxRecDepth 10000 in
/-- Three integers among the arguments. -/
theorem open_tri {w : World} {base : Nat} {spare : Nat → Bool} {held : Bool} {r : Reach} {b0 : Nat} {v : Value} {d : DataW H} {p : List MemPlace}
    (hv : Value.okWide Tryd.prog w r b0 22 v) (h : DataW.Trod enc Tryd.prog w base spare held 22 v d p) :
    ∃ x y z : Int, v = .agg #[.int .i64 x, .int .i64 y, .int .i64 z] ∧ d = .agg [.lit (.int .i64 x), .lit (.int .i64 y), .lit (.int .i64 z)] ∧ p = [] ∧ (Lit.int .i64 x).wf = true ∧ (Lit.int .i64 y).wf = true ∧ (Lit.int .i64 z).wf = true := by
  simp only [Value.okWide, Tryd.underlying22] at hv
  obtain ⟨cs, rfl, hsz, _⟩ := hv
  obtain ⟨c0, c1, c2, rfl⟩ := cells3 (hsz.trans Tryd.cellsTri)
  obtain ⟨fuel, hf⟩ := h
  obtain ⟨xs, m, _, hx, _, hl, hi⟩ := DataW.trod_array Tryd.underlying22 hf
  have h0 := hi 0 (by decide)
  have h1 := hi 1 (by decide)
  have h2 := hi 2 (by decide)
  simp only [Tryd.cellsI] at h0 h1 h2
  match xs, hl with
  | [y0, y1, y2], _ =>
    simp [Value.cells] at h0 h1 h2
    obtain ⟨a, e0, rfl, wa⟩ := DataW.trod_int Tryd.underlying2 h0
    obtain ⟨b, e1, rfl, wb⟩ := DataW.trod_int Tryd.underlying2 h1
    obtain ⟨c, e2, rfl, wc⟩ := DataW.trod_int Tryd.underlying2 h2
    simp at e0 e1 e2
    subst e0 e1 e2
    simp at hx
    obtain ⟨rfl, rfl⟩ := hx
    exact ⟨a, b, c, rfl, rfl, rfl, wa, wb, wc⟩
set_option maxRecDepth 10000 in
theorem shut_tri {w : World} {base : Nat} {spare : Nat → Bool} {held : Bool} {x y z : Int} (wa : (Lit.int .i64 x).wf = true) (wb : (Lit.int .i64 y).wf = true) (wc : (Lit.int .i64 z).wf = true) :
    DataW.Trod enc Tryd.prog w base spare held 22 (.agg #[.int .i64 x, .int .i64 y, .int .i64 z]) (.agg [.lit (.int .i64 x), .lit (.int .i64 y), .lit (.int .i64 z)]) [] :=
  ⟨2, by simp [DataW.trod, Value.cells, Tryd.underlying22, Tryd.underlying2, Tryd.cellsI, Tryd.cellsTri, wa, wb, wc, show List.range 3 = [0, 1, 2] from rfl]⟩
end

/-- The list of the rows of this seat. -/
abbrev tabs : List (String × DataW Unit) := [("aneroid/atmos.counts", Rows.laid_aneroid_atmos_counts)]
theorem gCounts : Tryd.prog.globalNamed "aneroid/atmos.counts" = some 0 := by kernel_rfl
theorem tCounts : (Tryd.prog.globals[0]?).map (·.type) = some 56 := by kernel_rfl
/-- The door's own heap meets the condition. -/
theorem door_met (os : Os) (args : Array Value) : laidMetH Tryd.prog tabs ((World.doorLaid Tryd.prog 400 os).forCall (fun _ _ => 0) ⟨#[], args, []⟩).memory :=
  laidMetH_of_parts3 (fuel := 8) (laidMet_of_run' 8 (by kernel_rfl) (by kernel_rfl)) (by kernel_rfl) (by kernel_rfl)
theorem laid_tb {H : Type} : (Rows.laid_aneroid_atmos_counts : DataW H) = .agg (tbl.map fun n => .lit (.int .i64 n)) := rfl
set_option maxRecDepth 10000 in
/-- What the condition gives the walks. -/
theorem of_laid {W : World} (h : laidMetH Tryd.prog tabs W) : TB W := by
  rw [MakeChecks.laidMetH_plain _ _ _ (by kernel_rfl)] at h
  obtain ⟨ps, ⟨g0, t0, cs0, f0, p0, q0, hg0, ht0, hv0, hd0, _, _⟩, _⟩ := h
  obtain rfl := Option.some.inj (gCounts.symm.trans hg0)
  obtain rfl := Option.some.inj (tCounts.symm.trans ht0)
  obtain ⟨xs, m1, rfl, hx1, hlen, hn, hel⟩ := DataW.trod_array Tryd.underlying56 hd0
  rw [laid_tb] at hx1
  simp only [Prod.mk.injEq, DataW.agg.injEq] at hx1
  intro i hi
  have h0 := hel i hi
  rw [Tryd.cellsI] at h0
  obtain ⟨x, hx⟩ : ∃ x, xs[i]? = some x := ⟨xs[i]'(by omega), List.getElem?_eq_getElem _⟩
  rw [hx] at h0
  obtain ⟨a, e0, rfl, _⟩ := DataW.trod_int Tryd.underlying2 h0
  have e1 : (xs.map (·.1))[i]? = some (.lit (.int .i64 a)) := by rw [List.getElem?_map, hx]; rfl
  rw [← hx1.1, List.getElem?_map] at e1
  have e2 : tbl[i]? = some a := by
    cases c : tbl[i]? with
    | none => rw [c] at e1; cases e1
    | some b =>
      rw [c] at e1
      injection e1 with e1
      injection e1 with e1
      injection e1 with _ e1
      rw [e1]
  have e3 : tb i = a := by unfold tb; rw [List.getD_eq_getElem?_getD, e2]; rfl
  have e4 := congrArg (fun l => l[0]?) e0
  simp [List.getElem?_drop] at e4
  rw [e3]
  exact (World.var?_cell hg0 hv0 i).trans e4
end Go.Proofs.YthnaeoagooahbaaDoor
