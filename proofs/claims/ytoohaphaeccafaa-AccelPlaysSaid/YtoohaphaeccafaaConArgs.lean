/- Layer 13: for a law whose argument is a configuration: opening it, handing it back. -/
import Derived.Test.YtoohaphaeccafaaVecArgs
import Derived.Test.YtoohaphaeccafaaConA
namespace Go.Proofs.Ytoohaphaeccafaa
open Go.ChangeShapes Go.WideShapes Go.ChangeAt Go.RowKit Go.Joins

theorem cells31 {a : Array Value} (h : a.size = 31) : ∃ c0 c1 c2 c3 c4 c5 c6 c7 c8 c9 c10 c11 c12 c13 c14 c15 c16 c17 c18 c19 c20 c21 c22 c23 c24 c25 c26 c27 c28 c29 c30, a = #[c0, c1, c2, c3, c4, c5, c6, c7, c8, c9, c10, c11, c12, c13, c14, c15, c16, c17, c18, c19, c20, c21, c22, c23, c24, c25, c26, c27, c28, c29, c30] := by
  obtain ⟨l⟩ := a
  match l, h with
  | [c0, c1, c2, c3, c4, c5, c6, c7, c8, c9, c10, c11, c12, c13, c14, c15, c16, c17, c18, c19, c20, c21, c22, c23, c24, c25, c26, c27, c28, c29, c30], _ => exact ⟨c0, c1, c2, c3, c4, c5, c6, c7, c8, c9, c10, c11, c12, c13, c14, c15, c16, c17, c18, c19, c20, c21, c22, c23, c24, c25, c26, c27, c28, c29, c30, rfl⟩
theorem Try.cellsConf : Try.prog.cellsOf 25 = 31 := by kernel_rfl
section
variable {H : Type} {enc : TypeId × Value → H}
theorem trod_row {w : World} {base : Nat} {spare : Nat → Bool} {held : Bool} {fuel : Nat} {c0 c1 c2 : Value} {x : DataW H × List MemPlace}
    (h : DataW.trod enc Try.prog w base spare held fuel 23 [c0, c1, c2] = some x) :
    ∃ x0 x1 x2 : Int, c0 = .int .i64 x0 ∧ c1 = .int .i64 x1 ∧ c2 = .int .i64 x2 ∧ x = (.agg [.lit (.int .i64 x0), .lit (.int .i64 x1), .lit (.int .i64 x2)], []) ∧
      (Lit.int .i64 x0).wf = true ∧ (Lit.int .i64 x1).wf = true ∧ (Lit.int .i64 x2).wf = true := by
  obtain ⟨xs, m, _, rfl, _, hl, hi⟩ := DataW.trod_array Try.underlying23 h
  have h0 := hi 0 (by decide)
  have h1 := hi 1 (by decide)
  have h2 := hi 2 (by decide)
  simp only [Try.cellsOne] at h0 h1 h2
  match xs, hl with
  | [y0, y1, y2], _ =>
    simp at h0 h1 h2
    obtain ⟨a0, e0, rfl, w0⟩ := DataW.trod_int Try.underlying2 h0
    obtain ⟨a1, e1, rfl, w1⟩ := DataW.trod_int Try.underlying2 h1
    obtain ⟨a2, e2, rfl, w2⟩ := DataW.trod_int Try.underlying2 h2
    simp at e0 e1 e2
    exact ⟨a0, a1, a2, e0, e1, e2, rfl, w0, w1, w2⟩
theorem trod_row_mk {w : World} {base : Nat} {spare : Nat → Bool} {held : Bool} {x y z : Int} (wa : (Lit.int .i64 x).wf = true) (wb : (Lit.int .i64 y).wf = true) (wc : (Lit.int .i64 z).wf = true) :
    DataW.trod enc Try.prog w base spare held 2 23 [.int .i64 x, .int .i64 y, .int .i64 z] = some (.agg [.lit (.int .i64 x), .lit (.int .i64 y), .lit (.int .i64 z)], []) := by
  simp [DataW.trod, Try.underlying23, Try.underlying2, Try.cellsOne, Try.cellsVec, wa, wb, wc, show List.range 3 = [0, 1, 2] from rfl]
theorem trod_num_mk {w : World} {base : Nat} {spare : Nat → Bool} {held : Bool} {x : Int} (wa : (Lit.int .i64 x).wf = true) :
    DataW.trod enc Try.prog w base spare held 2 2 [.int .i64 x] = some (.lit (.int .i64 x), []) := by
  simp [DataW.trod, Try.underlying2, wa]
/-- A configuration as data. -/
abbrev cdat (H : Type) (x : Nat → Int) : DataW H := .agg [.agg [.lit (.int .i64 (x 0)), .lit (.int .i64 (x 1)), .lit (.int .i64 (x 2))], .agg [.lit (.int .i64 (x 3)), .lit (.int .i64 (x 4)), .lit (.int .i64 (x 5))], .lit (.int .i64 (x 6)), .lit (.int .i64 (x 7)), .agg [.lit (.int .i64 (x 8)), .lit (.int .i64 (x 9)), .lit (.int .i64 (x 10))], .agg [.lit (.int .i64 (x 11)), .lit (.int .i64 (x 12)), .lit (.int .i64 (x 13))], .agg [.lit (.int .i64 (x 14)), .lit (.int .i64 (x 15)), .lit (.int .i64 (x 16))], .agg [.lit (.int .i64 (x 17)), .lit (.int .i64 (x 18)), .lit (.int .i64 (x 19))], .lit (.int .i64 (x 20)), .agg [.lit (.int .i64 (x 21)), .lit (.int .i64 (x 22)), .lit (.int .i64 (x 23))], .lit (.int .i64 (x 24)), .lit (.int .i64 (x 25)), .lit (.int .i64 (x 26)), .lit (.int .i64 (x 27)), .lit (.int .i64 (x 28)), .lit (.int .i64 (x 29)), .lit (.int .i64 (x 30))]
set_option maxRecDepth 10000 in
theorem open_conf {w : World} {base : Nat} {spare : Nat → Bool} {held : Bool} {r : Reach} {b0 : Nat} {v : Value} {d : DataW H} {p : List MemPlace}
    (hv : Value.okWide Try.prog w r b0 25 v) (h : DataW.Trod enc Try.prog w base spare held 25 v d p) :
    ∃ x : Nat → Int, v = cv x ∧ d = cdat H x ∧ p = [] ∧ ∀ i, i < 31 → (Lit.int .i64 (x i)).wf = true := by
  simp only [Value.okWide, Try.underlying25] at hv
  obtain ⟨cs, rfl, hsz, _⟩ := hv
  obtain ⟨c0, c1, c2, c3, c4, c5, c6, c7, c8, c9, c10, c11, c12, c13, c14, c15, c16, c17, c18, c19, c20, c21, c22, c23, c24, c25, c26, c27, c28, c29, c30, rfl⟩ := cells31 (hsz.trans Try.cellsConf)
  obtain ⟨fuel, hf⟩ := h
  obtain ⟨xs, m, _, hx, _, hl, hi⟩ := DataW.trod_struct Try.underlying25 hf
  have h0 : DataW.trod enc Try.prog w base spare held m 23 (([c0, c1, c2, c3, c4, c5, c6, c7, c8, c9, c10, c11, c12, c13, c14, c15, c16, c17, c18, c19, c20, c21, c22, c23, c24, c25, c26, c27, c28, c29, c30].drop 0).take (Try.prog.cellsOf 23)) = xs[0]? := hi 0 _ rfl
  have h1 : DataW.trod enc Try.prog w base spare held m 23 (([c0, c1, c2, c3, c4, c5, c6, c7, c8, c9, c10, c11, c12, c13, c14, c15, c16, c17, c18, c19, c20, c21, c22, c23, c24, c25, c26, c27, c28, c29, c30].drop 3).take (Try.prog.cellsOf 23)) = xs[1]? := hi 1 _ rfl
  have h2 : DataW.trod enc Try.prog w base spare held m 2 (([c0, c1, c2, c3, c4, c5, c6, c7, c8, c9, c10, c11, c12, c13, c14, c15, c16, c17, c18, c19, c20, c21, c22, c23, c24, c25, c26, c27, c28, c29, c30].drop 6).take (Try.prog.cellsOf 2)) = xs[2]? := hi 2 _ rfl
  have h3 : DataW.trod enc Try.prog w base spare held m 2 (([c0, c1, c2, c3, c4, c5, c6, c7, c8, c9, c10, c11, c12, c13, c14, c15, c16, c17, c18, c19, c20, c21, c22, c23, c24, c25, c26, c27, c28, c29, c30].drop 7).take (Try.prog.cellsOf 2)) = xs[3]? := hi 3 _ rfl
  have h4 : DataW.trod enc Try.prog w base spare held m 23 (([c0, c1, c2, c3, c4, c5, c6, c7, c8, c9, c10, c11, c12, c13, c14, c15, c16, c17, c18, c19, c20, c21, c22, c23, c24, c25, c26, c27, c28, c29, c30].drop 8).take (Try.prog.cellsOf 23)) = xs[4]? := hi 4 _ rfl
  have h5 : DataW.trod enc Try.prog w base spare held m 23 (([c0, c1, c2, c3, c4, c5, c6, c7, c8, c9, c10, c11, c12, c13, c14, c15, c16, c17, c18, c19, c20, c21, c22, c23, c24, c25, c26, c27, c28, c29, c30].drop 11).take (Try.prog.cellsOf 23)) = xs[5]? := hi 5 _ rfl
  have h6 : DataW.trod enc Try.prog w base spare held m 23 (([c0, c1, c2, c3, c4, c5, c6, c7, c8, c9, c10, c11, c12, c13, c14, c15, c16, c17, c18, c19, c20, c21, c22, c23, c24, c25, c26, c27, c28, c29, c30].drop 14).take (Try.prog.cellsOf 23)) = xs[6]? := hi 6 _ rfl
  have h7 : DataW.trod enc Try.prog w base spare held m 23 (([c0, c1, c2, c3, c4, c5, c6, c7, c8, c9, c10, c11, c12, c13, c14, c15, c16, c17, c18, c19, c20, c21, c22, c23, c24, c25, c26, c27, c28, c29, c30].drop 17).take (Try.prog.cellsOf 23)) = xs[7]? := hi 7 _ rfl
  have h8 : DataW.trod enc Try.prog w base spare held m 2 (([c0, c1, c2, c3, c4, c5, c6, c7, c8, c9, c10, c11, c12, c13, c14, c15, c16, c17, c18, c19, c20, c21, c22, c23, c24, c25, c26, c27, c28, c29, c30].drop 20).take (Try.prog.cellsOf 2)) = xs[8]? := hi 8 _ rfl
  have h9 : DataW.trod enc Try.prog w base spare held m 23 (([c0, c1, c2, c3, c4, c5, c6, c7, c8, c9, c10, c11, c12, c13, c14, c15, c16, c17, c18, c19, c20, c21, c22, c23, c24, c25, c26, c27, c28, c29, c30].drop 21).take (Try.prog.cellsOf 23)) = xs[9]? := hi 9 _ rfl
  have h10 : DataW.trod enc Try.prog w base spare held m 2 (([c0, c1, c2, c3, c4, c5, c6, c7, c8, c9, c10, c11, c12, c13, c14, c15, c16, c17, c18, c19, c20, c21, c22, c23, c24, c25, c26, c27, c28, c29, c30].drop 24).take (Try.prog.cellsOf 2)) = xs[10]? := hi 10 _ rfl
  have h11 : DataW.trod enc Try.prog w base spare held m 2 (([c0, c1, c2, c3, c4, c5, c6, c7, c8, c9, c10, c11, c12, c13, c14, c15, c16, c17, c18, c19, c20, c21, c22, c23, c24, c25, c26, c27, c28, c29, c30].drop 25).take (Try.prog.cellsOf 2)) = xs[11]? := hi 11 _ rfl
  have h12 : DataW.trod enc Try.prog w base spare held m 2 (([c0, c1, c2, c3, c4, c5, c6, c7, c8, c9, c10, c11, c12, c13, c14, c15, c16, c17, c18, c19, c20, c21, c22, c23, c24, c25, c26, c27, c28, c29, c30].drop 26).take (Try.prog.cellsOf 2)) = xs[12]? := hi 12 _ rfl
  have h13 : DataW.trod enc Try.prog w base spare held m 2 (([c0, c1, c2, c3, c4, c5, c6, c7, c8, c9, c10, c11, c12, c13, c14, c15, c16, c17, c18, c19, c20, c21, c22, c23, c24, c25, c26, c27, c28, c29, c30].drop 27).take (Try.prog.cellsOf 2)) = xs[13]? := hi 13 _ rfl
  have h14 : DataW.trod enc Try.prog w base spare held m 2 (([c0, c1, c2, c3, c4, c5, c6, c7, c8, c9, c10, c11, c12, c13, c14, c15, c16, c17, c18, c19, c20, c21, c22, c23, c24, c25, c26, c27, c28, c29, c30].drop 28).take (Try.prog.cellsOf 2)) = xs[14]? := hi 14 _ rfl
  have h15 : DataW.trod enc Try.prog w base spare held m 2 (([c0, c1, c2, c3, c4, c5, c6, c7, c8, c9, c10, c11, c12, c13, c14, c15, c16, c17, c18, c19, c20, c21, c22, c23, c24, c25, c26, c27, c28, c29, c30].drop 29).take (Try.prog.cellsOf 2)) = xs[15]? := hi 15 _ rfl
  have h16 : DataW.trod enc Try.prog w base spare held m 2 (([c0, c1, c2, c3, c4, c5, c6, c7, c8, c9, c10, c11, c12, c13, c14, c15, c16, c17, c18, c19, c20, c21, c22, c23, c24, c25, c26, c27, c28, c29, c30].drop 30).take (Try.prog.cellsOf 2)) = xs[16]? := hi 16 _ rfl
  clear hi hf hsz
  simp only [Try.cellsOne, Try.cellsVec] at h0 h1 h2 h3 h4 h5 h6 h7 h8 h9 h10 h11 h12 h13 h14 h15 h16
  match xs, hl with
  | [y0, y1, y2, y3, y4, y5, y6, y7, y8, y9, y10, y11, y12, y13, y14, y15, y16], _ =>
    simp at h0
    simp at h1
    simp at h2
    simp at h3
    simp at h4
    simp at h5
    simp at h6
    simp at h7
    simp at h8
    simp at h9
    simp at h10
    simp at h11
    simp at h12
    simp at h13
    simp at h14
    simp at h15
    simp at h16
    obtain ⟨a0, a1, a2, rfl, rfl, rfl, rfl, w0, w1, w2⟩ := trod_row h0
    obtain ⟨a3, a4, a5, rfl, rfl, rfl, rfl, w3, w4, w5⟩ := trod_row h1
    obtain ⟨a6, e6, rfl, w6⟩ := DataW.trod_int Try.underlying2 h2
    simp at e6
    subst e6
    obtain ⟨a7, e7, rfl, w7⟩ := DataW.trod_int Try.underlying2 h3
    simp at e7
    subst e7
    obtain ⟨a8, a9, a10, rfl, rfl, rfl, rfl, w8, w9, w10⟩ := trod_row h4
    obtain ⟨a11, a12, a13, rfl, rfl, rfl, rfl, w11, w12, w13⟩ := trod_row h5
    obtain ⟨a14, a15, a16, rfl, rfl, rfl, rfl, w14, w15, w16⟩ := trod_row h6
    obtain ⟨a17, a18, a19, rfl, rfl, rfl, rfl, w17, w18, w19⟩ := trod_row h7
    obtain ⟨a20, e20, rfl, w20⟩ := DataW.trod_int Try.underlying2 h8
    simp at e20
    subst e20
    obtain ⟨a21, a22, a23, rfl, rfl, rfl, rfl, w21, w22, w23⟩ := trod_row h9
    obtain ⟨a24, e24, rfl, w24⟩ := DataW.trod_int Try.underlying2 h10
    simp at e24
    subst e24
    obtain ⟨a25, e25, rfl, w25⟩ := DataW.trod_int Try.underlying2 h11
    simp at e25
    subst e25
    obtain ⟨a26, e26, rfl, w26⟩ := DataW.trod_int Try.underlying2 h12
    simp at e26
    subst e26
    obtain ⟨a27, e27, rfl, w27⟩ := DataW.trod_int Try.underlying2 h13
    simp at e27
    subst e27
    obtain ⟨a28, e28, rfl, w28⟩ := DataW.trod_int Try.underlying2 h14
    simp at e28
    subst e28
    obtain ⟨a29, e29, rfl, w29⟩ := DataW.trod_int Try.underlying2 h15
    simp at e29
    subst e29
    obtain ⟨a30, e30, rfl, w30⟩ := DataW.trod_int Try.underlying2 h16
    simp at e30
    subst e30
    simp at hx
    obtain ⟨rfl, rfl⟩ := hx
    exact ⟨fun i => [a0, a1, a2, a3, a4, a5, a6, a7, a8, a9, a10, a11, a12, a13, a14, a15, a16, a17, a18, a19, a20, a21, a22, a23, a24, a25, a26, a27, a28, a29, a30].getD i 0, rfl, rfl, rfl, fun i h => match i, h with
      | 0, _ => w0
      | 1, _ => w1
      | 2, _ => w2
      | 3, _ => w3
      | 4, _ => w4
      | 5, _ => w5
      | 6, _ => w6
      | 7, _ => w7
      | 8, _ => w8
      | 9, _ => w9
      | 10, _ => w10
      | 11, _ => w11
      | 12, _ => w12
      | 13, _ => w13
      | 14, _ => w14
      | 15, _ => w15
      | 16, _ => w16
      | 17, _ => w17
      | 18, _ => w18
      | 19, _ => w19
      | 20, _ => w20
      | 21, _ => w21
      | 22, _ => w22
      | 23, _ => w23
      | 24, _ => w24
      | 25, _ => w25
      | 26, _ => w26
      | 27, _ => w27
      | 28, _ => w28
      | 29, _ => w29
      | 30, _ => w30
      | n + 31, h => absurd h (by omega)⟩
set_option maxRecDepth 10000 in
theorem shut_conf {w : World} {base : Nat} {spare : Nat → Bool} {held : Bool} {x : Nat → Int} (k : ∀ i, i < 31 → (Lit.int .i64 (x i)).wf = true) :
    DataW.Trod enc Try.prog w base spare held 25 (cv x) (cdat H x) [] := by
  refine ⟨3, trod_struct_mk (n := 2) (xs := [(.agg [.lit (.int .i64 (x 0)), .lit (.int .i64 (x 1)), .lit (.int .i64 (x 2))], []), (.agg [.lit (.int .i64 (x 3)), .lit (.int .i64 (x 4)), .lit (.int .i64 (x 5))], []), (.lit (.int .i64 (x 6)), []), (.lit (.int .i64 (x 7)), []), (.agg [.lit (.int .i64 (x 8)), .lit (.int .i64 (x 9)), .lit (.int .i64 (x 10))], []), (.agg [.lit (.int .i64 (x 11)), .lit (.int .i64 (x 12)), .lit (.int .i64 (x 13))], []), (.agg [.lit (.int .i64 (x 14)), .lit (.int .i64 (x 15)), .lit (.int .i64 (x 16))], []), (.agg [.lit (.int .i64 (x 17)), .lit (.int .i64 (x 18)), .lit (.int .i64 (x 19))], []), (.lit (.int .i64 (x 20)), []), (.agg [.lit (.int .i64 (x 21)), .lit (.int .i64 (x 22)), .lit (.int .i64 (x 23))], []), (.lit (.int .i64 (x 24)), []), (.lit (.int .i64 (x 25)), []), (.lit (.int .i64 (x 26)), []), (.lit (.int .i64 (x 27)), []), (.lit (.int .i64 (x 28)), []), (.lit (.int .i64 (x 29)), []), (.lit (.int .i64 (x 30)), [])]) Try.underlying25 (by rw [Try.cellsConf]; rfl) ?_⟩
  simp only [List.mapM_cons, List.mapM_nil, Try.cellsOne, Try.cellsVec, Value.cells, List.drop_succ_cons, List.drop_zero, List.take_succ_cons, List.take_zero]
  rw [trod_row_mk (k 0 (by decide)) (k 1 (by decide)) (k 2 (by decide)), trod_row_mk (k 3 (by decide)) (k 4 (by decide)) (k 5 (by decide)), trod_num_mk (k 6 (by decide)), trod_num_mk (k 7 (by decide)), trod_row_mk (k 8 (by decide)) (k 9 (by decide)) (k 10 (by decide)), trod_row_mk (k 11 (by decide)) (k 12 (by decide)) (k 13 (by decide)), trod_row_mk (k 14 (by decide)) (k 15 (by decide)) (k 16 (by decide)), trod_row_mk (k 17 (by decide)) (k 18 (by decide)) (k 19 (by decide)), trod_num_mk (k 20 (by decide)), trod_row_mk (k 21 (by decide)) (k 22 (by decide)) (k 23 (by decide)), trod_num_mk (k 24 (by decide)), trod_num_mk (k 25 (by decide)), trod_num_mk (k 26 (by decide)), trod_num_mk (k 27 (by decide)), trod_num_mk (k 28 (by decide)), trod_num_mk (k 29 (by decide)), trod_num_mk (k 30 (by decide))]
  rfl
end
end Go.Proofs.Ytoohaphaeccafaa
