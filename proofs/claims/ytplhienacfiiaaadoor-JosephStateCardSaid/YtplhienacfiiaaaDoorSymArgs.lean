/- For laws whose arguments are matrices: opening them, handing them back; what the listed table holds. -/
import Derived.Test.YtplhienacfiiaaaDoorArgs
import Derived.Test.YtplhienacfiiaaaDoorVecArgs
import Derived.Test.YtplhienacfiiaaaDoorSymB
import Derived.LaidMore
import Derived.OpenShut
import Derived.Stop.Joined
namespace Go.Proofs.YtplhienacfiiaaaDoor
open Go.ChangeShapes Go.WideShapes Go.ChangeAt Go.RowKit Go.Joins

theorem cells6 {a : Array Value} (h : a.size = 6) : ∃ c0 c1 c2 c3 c4 c5, a = #[c0, c1, c2, c3, c4, c5] := by
  obtain ⟨l⟩ := a
  match l, h with
  | [c0, c1, c2, c3, c4, c5], _ => exact ⟨c0, c1, c2, c3, c4, c5, rfl⟩
theorem cells2 {a : Array Value} (h : a.size = 2) : ∃ c0 c1, a = #[c0, c1] := by
  obtain ⟨l⟩ := a
  match l, h with
  | [c0, c1], _ => exact ⟨c0, c1, rfl⟩
theorem Tryd.cellsSym : Tryd.prog.cellsOf 32 = 6 := by kernel_rfl
theorem Tryd.cellsNum : Tryd.prog.cellsOf 2 = 1 := by kernel_rfl
theorem Tryd.cellsInt : Tryd.prog.cellsOf 3 = 1 := by kernel_rfl
theorem Tryd.cellsRow : Tryd.prog.cellsOf 65 = 3 := by kernel_rfl
/-- The six numbers as a matrix. -/
def mof (x0 x1 x2 x3 x4 x5 : Int) : Nat → Int := fun i => match i with | 0 => x0 | 1 => x1 | 2 => x2 | 3 => x3 | 4 => x4 | _ => x5
theorem i6_of {x0 x1 x2 x3 x4 x5 : Int} (k0 : (Lit.int .i64 x0).wf = true) (k1 : (Lit.int .i64 x1).wf = true) (k2 : (Lit.int .i64 x2).wf = true) (k3 : (Lit.int .i64 x3).wf = true) (k4 : (Lit.int .i64 x4).wf = true) (k5 : (Lit.int .i64 x5).wf = true) : I6 (mof x0 x1 x2 x3 x4 x5) :=
  six (P := fun i => I64 (mof x0 x1 x2 x3 x4 x5 i)) (wf_i64 k0) (wf_i64 k1) (wf_i64 k2) (wf_i64 k3) (wf_i64 k4) (wf_i64 k5)
section
variable {H : Type} {enc : TypeId × Value → H}
abbrev sd (H : Type) (x0 x1 x2 x3 x4 x5 : Int) : DataW H := .agg [.lit (.int .i64 x0), .lit (.int .i64 x1), .lit (.int .i64 x2), .lit (.int .i64 x3), .lit (.int .i64 x4), .lit (.int .i64 x5)]
abbrev sw (x0 x1 x2 x3 x4 x5 : Int) : Value := .agg #[.int .i64 x0, .int .i64 x1, .int .i64 x2, .int .i64 x3, .int .i64 x4, .int .i64 x5]
/-- Six integers among the arguments. -/
theorem open_sym {w : World} {base : Nat} {spare : Nat → Bool} {held : Bool} {r : Reach} {b0 : Nat} {v : Value} {d : DataW H} {p : List MemPlace}
    (hv : Value.okWide Tryd.prog w r b0 32 v) (h : DataW.Trod enc Tryd.prog w base spare held 32 v d p) :
    ∃ x0 x1 x2 x3 x4 x5 : Int, v = sw x0 x1 x2 x3 x4 x5 ∧ d = sd H x0 x1 x2 x3 x4 x5 ∧ p = [] ∧ (Lit.int .i64 x0).wf = true ∧ (Lit.int .i64 x1).wf = true ∧ (Lit.int .i64 x2).wf = true ∧ (Lit.int .i64 x3).wf = true ∧ (Lit.int .i64 x4).wf = true ∧ (Lit.int .i64 x5).wf = true := by
  simp only [Value.okWide, Tryd.underlying32] at hv
  obtain ⟨cs, rfl, hsz, _⟩ := hv
  obtain ⟨c0, c1, c2, c3, c4, c5, rfl⟩ := cells6 (hsz.trans Tryd.cellsSym)
  obtain ⟨fuel, hf⟩ := h
  obtain ⟨xs, m, _, hx, _, hl, hi⟩ := DataW.trod_array Tryd.underlying32 hf
  have h0 := hi 0 (by decide)
  have h1 := hi 1 (by decide)
  have h2 := hi 2 (by decide)
  have h3 := hi 3 (by decide)
  have h4 := hi 4 (by decide)
  have h5 := hi 5 (by decide)
  simp only [Tryd.cellsNum] at h0 h1 h2 h3 h4 h5
  match xs, hl with
  | [y0, y1, y2, y3, y4, y5], _ =>
    simp [Value.cells] at h0 h1 h2 h3 h4 h5
    obtain ⟨a0, e0, rfl, w0⟩ := DataW.trod_int Tryd.underlying2 h0
    obtain ⟨a1, e1, rfl, w1⟩ := DataW.trod_int Tryd.underlying2 h1
    obtain ⟨a2, e2, rfl, w2⟩ := DataW.trod_int Tryd.underlying2 h2
    obtain ⟨a3, e3, rfl, w3⟩ := DataW.trod_int Tryd.underlying2 h3
    obtain ⟨a4, e4, rfl, w4⟩ := DataW.trod_int Tryd.underlying2 h4
    obtain ⟨a5, e5, rfl, w5⟩ := DataW.trod_int Tryd.underlying2 h5
    simp at e0 e1 e2 e3 e4 e5
    subst e0 e1 e2 e3 e4 e5
    simp at hx
    obtain ⟨rfl, rfl⟩ := hx
    exact ⟨a0, a1, a2, a3, a4, a5, rfl, rfl, rfl, w0, w1, w2, w3, w4, w5⟩
theorem shut_sym {w : World} {base : Nat} {spare : Nat → Bool} {held : Bool} {x0 x1 x2 x3 x4 x5 : Int} (k0 : (Lit.int .i64 x0).wf = true) (k1 : (Lit.int .i64 x1).wf = true) (k2 : (Lit.int .i64 x2).wf = true) (k3 : (Lit.int .i64 x3).wf = true) (k4 : (Lit.int .i64 x4).wf = true) (k5 : (Lit.int .i64 x5).wf = true) :
    DataW.Trod enc Tryd.prog w base spare held 32 (sw x0 x1 x2 x3 x4 x5) (sd H x0 x1 x2 x3 x4 x5) [] :=
  ⟨2, by simp [DataW.trod, Value.cells, Tryd.underlying32, Tryd.underlying2, Tryd.cellsNum, Tryd.cellsSym, k0, k1, k2, k3, k4, k5, show List.range 6 = [0, 1, 2, 3, 4, 5] from rfl]⟩
end

/-- The list of the rows of this seat. -/
abbrev tabs : List (String × DataW Unit) := [("aneroid/sym.places", Rows.laid_aneroid_sym_places)]
theorem gPlaces : Tryd.prog.globalNamed "aneroid/sym.places" = some 0 := by kernel_rfl
theorem tPlaces : (Tryd.prog.globals[0]?).map (·.type) = some 66 := by kernel_rfl
/-- The door's own heap meets the condition. -/
theorem door_met (os : Os) (args : Array Value) : laidMetH Tryd.prog tabs ((World.doorLaid Tryd.prog 400 os).forCall (fun _ _ => 0) ⟨#[], args, []⟩).memory :=
  laidMetH_of_parts3 (fuel := 8) (laidMet_of_run' 8 (by kernel_rfl) (by kernel_rfl)) (by kernel_rfl) (by kernel_rfl)
theorem take_three {l : List Value} {n : Nat} {u v x : Value} (h : (l.drop n).take 3 = [u, v, x]) : l[n]? = some u ∧ l[n + 1]? = some v ∧ l[n + 2]? = some x := by
  have h0 := congrArg (fun l => l[0]?) h
  have h1 := congrArg (fun l => l[1]?) h
  have h2 := congrArg (fun l => l[2]?) h
  simp [List.getElem?_drop] at h0 h1 h2
  exact ⟨h0, h1, h2⟩
set_option maxRecDepth 10000 in
theorem row_of {H : Type} {enc : TypeId × Value → H} {w : World} {base : Nat} {spare : Nat → Bool} {held : Bool} {m : Nat} {cs : List Value} {x : DataW H × List MemPlace} {a b c : Int}
    (h : DataW.trod enc Tryd.prog w base spare held m 65 cs = some x) (he : x.1 = .agg [.lit (.int .i64 a), .lit (.int .i64 b), .lit (.int .i64 c)]) : cs = [.int .i64 a, .int .i64 b, .int .i64 c] := by
  obtain ⟨xs, m, _, rfl, hc, hl, hi⟩ := DataW.trod_array Tryd.underlying65 h
  have h0 := hi 0 (by decide)
  have h1 := hi 1 (by decide)
  have h2 := hi 2 (by decide)
  simp only [Tryd.cellsInt] at h0 h1 h2
  simp only [Tryd.cellsRow] at hc
  match cs, hc, xs, hl with
  | [c0, c1, c2], _, [y0, y1, y2], _ =>
    simp at h0 h1 h2
    obtain ⟨a0, e0, rfl, _⟩ := DataW.trod_int Tryd.underlying3 h0
    obtain ⟨a1, e1, rfl, _⟩ := DataW.trod_int Tryd.underlying3 h1
    obtain ⟨a2, e2, rfl, _⟩ := DataW.trod_int Tryd.underlying3 h2
    simp at e0 e1 e2 he
    obtain ⟨rfl, rfl, rfl⟩ := he
    rw [e0, e1, e2]
/-- What the condition gives the walks. -/
theorem of_laid {W : World} (h : laidMetH Tryd.prog tabs W) : PL W := by
  rw [MakeChecks.laidMetH_plain _ _ _ (by kernel_rfl)] at h
  obtain ⟨ps, ⟨g0, t0, cs0, f0, p0, q0, hg0, ht0, hv0, hd0, _, _⟩, _, _⟩ := h
  obtain rfl := Option.some.inj (gPlaces.symm.trans hg0)
  obtain rfl := Option.some.inj (tPlaces.symm.trans ht0)
  obtain ⟨xs, m1, rfl, hx1, hlen, hn3, hel⟩ := DataW.trod_array Tryd.underlying66 hd0
  have h0 := hel 0 (by decide)
  have h1 := hel 1 (by decide)
  have h2 := hel 2 (by decide)
  simp only [Tryd.cellsRow] at h0 h1 h2
  simp only [Prod.mk.injEq, DataW.agg.injEq, Rows.laid_aneroid_sym_places] at hx1
  match xs, hn3, hx1, h0, h1, h2 with
  | [x0, x1, x2], _, hx1, h0, h1, h2 =>
    simp only [List.map_cons, List.map_nil, List.cons.injEq] at hx1
    obtain ⟨⟨e0, e1, e2, _⟩, _⟩ := hx1
    have r0 := take_three (row_of h0 (by rw [← e0]))
    have r1 := take_three (row_of h1 (by rw [← e1]))
    have r2 := take_three (row_of h2 (by rw [← e2]))
    have V := fun i => World.var?_cell hg0 hv0 i
    simp only [Array.getElem?_toList] at r0 r1 r2
    exact ⟨(V 0).trans r0.1, (V 1).trans r0.2.1, (V 2).trans r0.2.2, (V 3).trans r1.1, (V 4).trans r1.2.1, (V 5).trans r1.2.2, (V 6).trans r2.1, (V 7).trans r2.2.1, (V 8).trans r2.2.2⟩
end Go.Proofs.YtplhienacfiiaaaDoor
