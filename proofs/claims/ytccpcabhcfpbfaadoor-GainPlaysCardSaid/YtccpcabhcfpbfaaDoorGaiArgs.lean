/- For a law whose argument is a gain's case (a matrix, a number, a Boolean, a row): opening it, handing it back. -/
import Derived.Test.YtccpcabhcfpbfaaDoorSymArgs
namespace Go.Proofs.YtccpcabhcfpbfaaDoor
open Go.ChangeShapes Go.WideShapes Go.ChangeAt Go.RowKit Go.Joins

theorem cells11 {a : Array Value} (h : a.size = 11) : ∃ c0 c1 c2 c3 c4 c5 c6 c7 c8 c9 c10, a = #[c0, c1, c2, c3, c4, c5, c6, c7, c8, c9, c10] := by
  obtain ⟨l⟩ := a
  match l, h with
  | [c0, c1, c2, c3, c4, c5, c6, c7, c8, c9, c10], _ => exact ⟨c0, c1, c2, c3, c4, c5, c6, c7, c8, c9, c10, rfl⟩
theorem Tryd.cellsCase : Tryd.prog.cellsOf 27 = 11 := by kernel_rfl
theorem Tryd.cellsBool : Tryd.prog.cellsOf 4 = 1 := by kernel_rfl
theorem Tryd.cellsVec3 : Tryd.prog.cellsOf 25 = 3 := by kernel_rfl
section
variable {H : Type} {enc : TypeId × Value → H}
theorem trod_six {w : World} {base : Nat} {spare : Nat → Bool} {held : Bool} {fuel : Nat} {c0 c1 c2 c3 c4 c5 : Value} {x : DataW H × List MemPlace}
    (h : DataW.trod enc Tryd.prog w base spare held fuel 23 [c0, c1, c2, c3, c4, c5] = some x) :
    ∃ x0 x1 x2 x3 x4 x5 : Int, c0 = .int .i64 x0 ∧ c1 = .int .i64 x1 ∧ c2 = .int .i64 x2 ∧ c3 = .int .i64 x3 ∧ c4 = .int .i64 x4 ∧ c5 = .int .i64 x5 ∧ x = (sd H x0 x1 x2 x3 x4 x5, []) ∧
      (Lit.int .i64 x0).wf = true ∧ (Lit.int .i64 x1).wf = true ∧ (Lit.int .i64 x2).wf = true ∧ (Lit.int .i64 x3).wf = true ∧ (Lit.int .i64 x4).wf = true ∧ (Lit.int .i64 x5).wf = true := by
  obtain ⟨xs, m, _, rfl, _, hl, hi⟩ := DataW.trod_array Tryd.underlying23 h
  have h0 := hi 0 (by decide)
  have h1 := hi 1 (by decide)
  have h2 := hi 2 (by decide)
  have h3 := hi 3 (by decide)
  have h4 := hi 4 (by decide)
  have h5 := hi 5 (by decide)
  simp only [Tryd.cellsNum] at h0 h1 h2 h3 h4 h5
  match xs, hl with
  | [y0, y1, y2, y3, y4, y5], _ =>
    simp at h0 h1 h2 h3 h4 h5
    obtain ⟨a0, e0, rfl, w0⟩ := DataW.trod_int Tryd.underlying2 h0
    obtain ⟨a1, e1, rfl, w1⟩ := DataW.trod_int Tryd.underlying2 h1
    obtain ⟨a2, e2, rfl, w2⟩ := DataW.trod_int Tryd.underlying2 h2
    obtain ⟨a3, e3, rfl, w3⟩ := DataW.trod_int Tryd.underlying2 h3
    obtain ⟨a4, e4, rfl, w4⟩ := DataW.trod_int Tryd.underlying2 h4
    obtain ⟨a5, e5, rfl, w5⟩ := DataW.trod_int Tryd.underlying2 h5
    simp at e0 e1 e2 e3 e4 e5
    exact ⟨a0, a1, a2, a3, a4, a5, e0, e1, e2, e3, e4, e5, rfl, w0, w1, w2, w3, w4, w5⟩
theorem trod_three {w : World} {base : Nat} {spare : Nat → Bool} {held : Bool} {fuel : Nat} {c0 c1 c2 : Value} {x : DataW H × List MemPlace}
    (h : DataW.trod enc Tryd.prog w base spare held fuel 25 [c0, c1, c2] = some x) :
    ∃ x0 x1 x2 : Int, c0 = .int .i64 x0 ∧ c1 = .int .i64 x1 ∧ c2 = .int .i64 x2 ∧ x = (.agg [.lit (.int .i64 x0), .lit (.int .i64 x1), .lit (.int .i64 x2)], []) ∧
      (Lit.int .i64 x0).wf = true ∧ (Lit.int .i64 x1).wf = true ∧ (Lit.int .i64 x2).wf = true := by
  obtain ⟨xs, m, _, rfl, _, hl, hi⟩ := DataW.trod_array Tryd.underlying25 h
  have h0 := hi 0 (by decide)
  have h1 := hi 1 (by decide)
  have h2 := hi 2 (by decide)
  simp only [Tryd.cellsNum] at h0 h1 h2
  match xs, hl with
  | [y0, y1, y2], _ =>
    simp at h0 h1 h2
    obtain ⟨a0, e0, rfl, w0⟩ := DataW.trod_int Tryd.underlying2 h0
    obtain ⟨a1, e1, rfl, w1⟩ := DataW.trod_int Tryd.underlying2 h1
    obtain ⟨a2, e2, rfl, w2⟩ := DataW.trod_int Tryd.underlying2 h2
    simp at e0 e1 e2
    exact ⟨a0, a1, a2, e0, e1, e2, rfl, w0, w1, w2⟩
/-- A case as a value, and as data. -/
abbrev kw (x0 x1 x2 x3 x4 x5 s : Int) (b : Bool) (y0 y1 y2 : Int) : Value := .agg #[.int .i64 x0, .int .i64 x1, .int .i64 x2, .int .i64 x3, .int .i64 x4, .int .i64 x5, .int .i64 s, .bool b, .int .i64 y0, .int .i64 y1, .int .i64 y2]
abbrev kd (H : Type) (x0 x1 x2 x3 x4 x5 s : Int) (b : Bool) (y0 y1 y2 : Int) : DataW H := .agg [sd H x0 x1 x2 x3 x4 x5, .lit (.int .i64 s), .lit (.bool b), .agg [.lit (.int .i64 y0), .lit (.int .i64 y1), .lit (.int .i64 y2)]]
theorem open_case {w : World} {base : Nat} {spare : Nat → Bool} {held : Bool} {r : Reach} {b0 : Nat} {v : Value} {d : DataW H} {p : List MemPlace}
    (hv : Value.okWide Tryd.prog w r b0 27 v) (h : DataW.Trod enc Tryd.prog w base spare held 27 v d p) :
    ∃ (x0 x1 x2 x3 x4 x5 s : Int) (b : Bool) (y0 y1 y2 : Int), v = kw x0 x1 x2 x3 x4 x5 s b y0 y1 y2 ∧ d = kd H x0 x1 x2 x3 x4 x5 s b y0 y1 y2 ∧ p = [] ∧ (Lit.int .i64 x0).wf = true ∧ (Lit.int .i64 x1).wf = true ∧ (Lit.int .i64 x2).wf = true ∧ (Lit.int .i64 x3).wf = true ∧ (Lit.int .i64 x4).wf = true ∧ (Lit.int .i64 x5).wf = true ∧ (Lit.int .i64 s).wf = true ∧ (Lit.int .i64 y0).wf = true ∧ (Lit.int .i64 y1).wf = true ∧ (Lit.int .i64 y2).wf = true := by
  simp only [Value.okWide, Tryd.underlying27] at hv
  obtain ⟨cs, rfl, hsz, _⟩ := hv
  obtain ⟨c0, c1, c2, c3, c4, c5, c6, c7, c8, c9, c10, rfl⟩ := cells11 (hsz.trans Tryd.cellsCase)
  obtain ⟨fuel, hf⟩ := h
  obtain ⟨xs, m, _, hx, _, hl, hi⟩ := DataW.trod_struct Tryd.underlying27 hf
  have h0 : DataW.trod enc Tryd.prog w base spare held m 23 (([c0, c1, c2, c3, c4, c5, c6, c7, c8, c9, c10].drop 0).take (Tryd.prog.cellsOf 23)) = xs[0]? := hi 0 _ rfl
  have h1 : DataW.trod enc Tryd.prog w base spare held m 2 (([c0, c1, c2, c3, c4, c5, c6, c7, c8, c9, c10].drop 6).take (Tryd.prog.cellsOf 2)) = xs[1]? := hi 1 _ rfl
  have h2 : DataW.trod enc Tryd.prog w base spare held m 4 (([c0, c1, c2, c3, c4, c5, c6, c7, c8, c9, c10].drop 7).take (Tryd.prog.cellsOf 4)) = xs[2]? := hi 2 _ rfl
  have h3 : DataW.trod enc Tryd.prog w base spare held m 25 (([c0, c1, c2, c3, c4, c5, c6, c7, c8, c9, c10].drop 8).take (Tryd.prog.cellsOf 25)) = xs[3]? := hi 3 _ rfl
  simp only [Tryd.cellsNum, Tryd.cellsSym, Tryd.cellsBool, Tryd.cellsVec3] at h0 h1 h2 h3
  match xs, hl with
  | [y0, y1, y2, y3], _ =>
    simp at h0 h1 h2 h3
    obtain ⟨a0, a1, a2, a3, a4, a5, rfl, rfl, rfl, rfl, rfl, rfl, rfl, w0, w1, w2, w3, w4, w5⟩ := trod_six h0
    obtain ⟨s, e6, rfl, w6⟩ := DataW.trod_int Tryd.underlying2 h1
    obtain ⟨b, e7, rfl⟩ := DataW.trod_bool Tryd.underlying4 h2
    obtain ⟨b0, b1, b2, rfl, rfl, rfl, rfl, w8, w9, w10⟩ := trod_three h3
    simp at e6 e7
    subst e6 e7
    simp at hx
    obtain ⟨rfl, rfl⟩ := hx
    exact ⟨a0, a1, a2, a3, a4, a5, s, b, b0, b1, b2, rfl, rfl, rfl, w0, w1, w2, w3, w4, w5, w6, w8, w9, w10⟩
theorem shut_case {w : World} {base : Nat} {spare : Nat → Bool} {held : Bool} {x0 x1 x2 x3 x4 x5 s : Int} {b : Bool} {y0 y1 y2 : Int} (k0 : (Lit.int .i64 x0).wf = true) (k1 : (Lit.int .i64 x1).wf = true) (k2 : (Lit.int .i64 x2).wf = true) (k3 : (Lit.int .i64 x3).wf = true) (k4 : (Lit.int .i64 x4).wf = true) (k5 : (Lit.int .i64 x5).wf = true) (k6 : (Lit.int .i64 s).wf = true) (k8 : (Lit.int .i64 y0).wf = true) (k9 : (Lit.int .i64 y1).wf = true) (k10 : (Lit.int .i64 y2).wf = true) :
    DataW.Trod enc Tryd.prog w base spare held 27 (kw x0 x1 x2 x3 x4 x5 s b y0 y1 y2) (kd H x0 x1 x2 x3 x4 x5 s b y0 y1 y2) [] :=
  ⟨3, by simp [DataW.trod, Value.cells, Tryd.underlying27, Tryd.underlying23, Tryd.underlying25, Tryd.underlying2, Tryd.underlying4, Tryd.cellsNum, Tryd.cellsSym, Tryd.cellsVec3, Tryd.cellsBool, Tryd.cellsCase, k0, k1, k2, k3, k4, k5, k6, k8, k9, k10, show List.range 6 = [0, 1, 2, 3, 4, 5] from rfl, show List.range 3 = [0, 1, 2] from rfl]⟩
end
end Go.Proofs.YtccpcabhcfpbfaaDoor
