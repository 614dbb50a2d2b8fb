/- For laws whose arguments are rows: opening them, handing them back; numbers of 8 bits. -/
import Derived.Test.YtoohaphaeccafaaArgs
import Derived.Test.YtoohaphaeccafaaVecA
namespace Go.Proofs.Ytoohaphaeccafaa
open Go.ChangeShapes Go.WideShapes Go.ChangeAt Go.RowKit Go.Joins

theorem wf_u8 {x : Int} (h : (Lit.int .u8 x).wf = true) : 0 ≤ x ∧ x ≤ 255 := by
  simp [Lit.wf, IntKind.min, IntKind.max, IntKind.signed, IntKind.bits] at h
  omega
section
variable {H : Type} {enc : TypeId × Value → H}
theorem Try.cellsVec : Try.prog.cellsOf 23 = 3 := by kernel_rfl
theorem Try.cellsOne : Try.prog.cellsOf 2 = 1 := by kernel_rfl
set_option maxRecDepth 10000 in
/-- Three integers among the arguments. -/
theorem open_vec {w : World} {base : Nat} {spare : Nat → Bool} {held : Bool} {r : Reach} {b0 : Nat} {v : Value} {d : DataW H} {p : List MemPlace}
    (hv : Value.okWide Try.prog w r b0 23 v) (h : DataW.Trod enc Try.prog w base spare held 23 v d p) :
    ∃ x y z : Int, v = tv x y z ∧ d = .agg [.lit (.int .i64 x), .lit (.int .i64 y), .lit (.int .i64 z)] ∧ p = [] ∧ (Lit.int .i64 x).wf = true ∧ (Lit.int .i64 y).wf = true ∧ (Lit.int .i64 z).wf = true := by
  simp only [Value.okWide, Try.underlying23] at hv
  obtain ⟨cs, rfl, hsz, _⟩ := hv
  obtain ⟨c0, c1, c2, rfl⟩ := array3 (hsz.trans Try.cellsVec)
  obtain ⟨fuel, hf⟩ := h
  obtain ⟨xs, m, _, hx, _, hl, hi⟩ := DataW.trod_array Try.underlying23 hf
  have h0 := hi 0 (by decide)
  have h1 := hi 1 (by decide)
  have h2 := hi 2 (by decide)
  simp only [Try.cellsOne] at h0 h1 h2
  match xs, hl with
  | [y0, y1, y2], _ =>
    simp [Value.cells] at h0 h1 h2
    obtain ⟨a, e0, rfl, wa⟩ := DataW.trod_int Try.underlying2 h0
    obtain ⟨b, e1, rfl, wb⟩ := DataW.trod_int Try.underlying2 h1
    obtain ⟨c, e2, rfl, wc⟩ := DataW.trod_int Try.underlying2 h2
    simp at e0 e1 e2
    subst e0 e1 e2
    simp at hx
    obtain ⟨rfl, rfl⟩ := hx
    exact ⟨a, b, c, rfl, rfl, rfl, wa, wb, wc⟩
set_option maxRecDepth 10000 in
theorem shut_vec {w : World} {base : Nat} {spare : Nat → Bool} {held : Bool} {x y z : Int} (wa : (Lit.int .i64 x).wf = true) (wb : (Lit.int .i64 y).wf = true) (wc : (Lit.int .i64 z).wf = true) :
    DataW.Trod enc Try.prog w base spare held 23 (tv x y z) (.agg [.lit (.int .i64 x), .lit (.int .i64 y), .lit (.int .i64 z)]) [] :=
  ⟨2, by simp [DataW.trod, Value.cells, Try.underlying23, Try.underlying2, Try.cellsOne, Try.cellsVec, wa, wb, wc, show List.range 3 = [0, 1, 2] from rfl]⟩
end
end Go.Proofs.Ytoohaphaeccafaa
