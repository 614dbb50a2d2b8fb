/- For laws whose arguments are ticks: a tick by value, a slice of ticks: opening it, handing it back in a world that has grown. -/
import Derived.Test.YtfenmkcniiiglaaKeptArgs
import Derived.Test.YtfenmkcniiiglaaTick
import Derived.Deep.Slices
import Derived.DataShut
namespace Go.Proofs.Ytfenmkcniiiglaa
open Go.ChangeShapes Go.WideShapes Go.ChangeAt Go.RowKit Go.Joins Go.Deep
set_option maxRecDepth 100000

theorem Try.cellsTick : Try.prog.cellsOf 48 = 4 := by kernel_rfl
theorem Try.cellsNum : Try.prog.cellsOf 2 = 1 := by kernel_rfl
theorem Try.cellsBool : Try.prog.cellsOf 4 = 1 := by kernel_rfl
theorem array4 {a : Array Value} (h : a.size = 4) : ∃ c0 c1 c2 c3, a = #[c0, c1, c2, c3] := by
  obtain ⟨l⟩ := a
  match l, h with
  | [c0, c1, c2, c3], _ => exact ⟨c0, c1, c2, c3, rfl⟩
theorem list4 {l : List Value} (h : l.length = 4) : ∃ c0 c1 c2 c3, l = [c0, c1, c2, c3] := by
  match l, h with
  | [c0, c1, c2, c3], _ => exact ⟨c0, c1, c2, c3, rfl⟩
section
variable {H : Type} {enc : TypeId × Value → H}
/-- A tick as data. -/
abbrev tdat (H : Type) (a : Int) (h : Bool) (p : Int) (s : Bool) : DataW H := .agg [.lit (.int .i64 a), .lit (.bool h), .lit (.int .i64 p), .lit (.bool s)]
set_option maxRecDepth 10000 in
theorem trod_tick {w : World} {base : Nat} {spare : Nat → Bool} {held : Bool} {fuel : Nat} {cs : List Value} {x : DataW H × List MemPlace}
    (hf : DataW.trod enc Try.prog w base spare held fuel 48 cs = some x) :
    ∃ (a : Int) (h : Bool) (p : Int) (s : Bool), cs = [.int .i64 a, .bool h, .int .i64 p, .bool s] ∧ x = (tdat H a h p s, []) ∧ (Lit.int .i64 a).wf = true ∧ (Lit.int .i64 p).wf = true := by
  obtain ⟨xs, m, _, hx, hlen, hl, hi⟩ := DataW.trod_struct Try.underlying48 hf
  obtain ⟨c0, c1, c2, c3, rfl⟩ := list4 (hlen.trans Try.cellsTick)
  have h0 : DataW.trod enc Try.prog w base spare held m 2 (([c0, c1, c2, c3].drop 0).take (Try.prog.cellsOf 2)) = xs[0]? := hi 0 _ rfl
  have h1 : DataW.trod enc Try.prog w base spare held m 4 (([c0, c1, c2, c3].drop 1).take (Try.prog.cellsOf 4)) = xs[1]? := hi 1 _ rfl
  have h2 : DataW.trod enc Try.prog w base spare held m 2 (([c0, c1, c2, c3].drop 2).take (Try.prog.cellsOf 2)) = xs[2]? := hi 2 _ rfl
  have h3 : DataW.trod enc Try.prog w base spare held m 4 (([c0, c1, c2, c3].drop 3).take (Try.prog.cellsOf 4)) = xs[3]? := hi 3 _ rfl
  clear hi hf hlen
  simp only [Try.cellsNum, Try.cellsBool] at h0 h1 h2 h3
  match xs, hl with
  | [y0, y1, y2, y3], _ =>
    simp at h0
    simp at h1
    simp at h2
    simp at h3
    obtain ⟨a, e0, rfl, w0⟩ := DataW.trod_int Try.underlying2 h0
    simp at e0
    subst e0
    obtain ⟨b, e1, rfl⟩ := DataW.trod_bool Try.underlying4 h1
    simp at e1
    subst e1
    obtain ⟨p, e2, rfl, w2⟩ := DataW.trod_int Try.underlying2 h2
    simp at e2
    subst e2
    obtain ⟨s, e3, rfl⟩ := DataW.trod_bool Try.underlying4 h3
    simp at e3
    subst e3
    exact ⟨a, b, p, s, rfl, hx, w0, w2⟩
set_option maxRecDepth 10000 in
theorem trod_tick_mk {w : World} {base : Nat} {spare : Nat → Bool} {held : Bool} {a : Int} {h : Bool} {p : Int} {s : Bool} (wa : (Lit.int .i64 a).wf = true) (wp : (Lit.int .i64 p).wf = true) :
    DataW.trod enc Try.prog w base spare held 2 48 [.int .i64 a, .bool h, .int .i64 p, .bool s] = some (tdat H a h p s, []) := by
  simp [DataW.trod, Try.underlying48, Try.underlying2, Try.underlying4, Try.cellsTick, Try.cellsNum, Try.cellsBool, wa, wp]
/-- A tick among the arguments. -/
theorem open_tick {w : World} {base : Nat} {spare : Nat → Bool} {held : Bool} {r : Reach} {b0 : Nat} {v : Value} {d : DataW H} {q : List MemPlace}
    (hv : Value.okWide Try.prog w r b0 48 v) (h : DataW.Trod enc Try.prog w base spare held 48 v d q) :
    ∃ (a : Int) (h : Bool) (p : Int) (s : Bool), v = tk a h p s ∧ d = tdat H a h p s ∧ q = [] ∧ (Lit.int .i64 a).wf = true ∧ (Lit.int .i64 p).wf = true := by
  simp only [Value.okWide, Try.underlying48] at hv
  obtain ⟨cs, rfl, hsz, _⟩ := hv
  obtain ⟨c0, c1, c2, c3, rfl⟩ := array4 (hsz.trans Try.cellsTick)
  obtain ⟨fuel, hf⟩ := h
  obtain ⟨a, b, p, s, e, ex, wa, wp⟩ := trod_tick hf
  simp [Value.cells] at e
  obtain ⟨rfl, rfl, rfl, rfl⟩ := e
  simp only [Prod.mk.injEq] at ex
  exact ⟨a, b, p, s, rfl, ex.1, ex.2, wa, wp⟩
theorem shut_tick {w : World} {base : Nat} {spare : Nat → Bool} {held : Bool} {a : Int} {h : Bool} {p : Int} {s : Bool} (wa : (Lit.int .i64 a).wf = true) (wp : (Lit.int .i64 p).wf = true) :
    DataW.Trod enc Try.prog w base spare held 48 (tk a h p s) (tdat H a h p s) [] :=
  ⟨2, trod_tick_mk wa wp⟩
set_option maxRecDepth 10000 in
/-- A slice of ticks among the arguments: its ticks; it reads again as it read in a world that has grown. -/
theorem open_ticks {w : World} {r : Reach} {b0 : Nat} {v : Value} {d : DataW H} {q : List MemPlace}
    (hv : Value.okWide Try.prog w r b0 22 v) (hd : DataW.Trod enc Try.prog w 0 (fun _ => true) true 22 v d q) :
    ∃ (sa : Option Addr) (len cap : Nat) (a : Nat → Int) (h : Nat → Bool) (p : Nat → Int) (s : Nat → Bool), v = .slice sa len cap ∧ cap ≤ 9223372036854775807 ∧ len ≤ cap ∧
      (∀ n, -9223372036854775808 ≤ a n ∧ a n ≤ 9223372036854775807) ∧ (∀ n, -9223372036854775808 ≤ p n ∧ p n ≤ 9223372036854775807) ∧
      (∀ k, k < len → ∃ gb off, sa = some ⟨gb, off, none⟩ ∧ TW w gb (off + k * 4) (a k) (h k) (p k) (s k)) ∧
      (∀ W', Below w.heap.size w W' → ∀ sp : Nat → Bool, (∀ x ∈ q, sp x.block = true) → DataW.Trod enc Try.prog W' 0 sp true 22 v d q) := by
  obtain ⟨a0, len, cap, rfl⟩ := okWide_slice Try.underlying22 hv
  obtain ⟨fuel, hf⟩ := hd
  rcases open_slice Try.underlying22 hf with ⟨hcs, hx⟩ | ⟨ad, len', cap', m, n, D, Pl, hcs, _, hl, hm, hmm, hx, hel⟩
  · simp [Value.cells] at hcs
    obtain ⟨rfl, rfl, rfl⟩ := hcs
    simp only [Prod.mk.injEq] at hx
    obtain ⟨rfl, rfl⟩ := hx
    exact ⟨none, 0, 0, fun _ => 0, fun _ => false, fun _ => 0, fun _ => false, rfl, Nat.zero_le _, Nat.le_refl _, fun _ => ⟨show (-9223372036854775808 : Int) ≤ 0 by decide, show (0 : Int) ≤ 9223372036854775807 by decide⟩, fun _ => ⟨show (-9223372036854775808 : Int) ≤ 0 by decide, show (0 : Int) ≤ 9223372036854775807 by decide⟩, fun k hk => absurd hk (Nat.not_lt_zero _), fun W' _ sp _ => shut_slice_nil Try.underlying22⟩
  · simp [Value.cells] at hcs
    obtain ⟨rfl, rfl, rfl⟩ := hcs
    simp only [Prod.mk.injEq] at hx
    obtain ⟨rfl, rfl⟩ := hx
    simp only [if_true] at hmm
    subst hmm
    rw [Try.cellsTick] at hel
    obtain ⟨T, hT⟩ := choose_lt (α := Int × Bool × Int × Bool) (p := fun i t => w.cells? 0 (ad.add (i * 4)) 4 = some [.int .i64 t.1, .bool t.2.1, .int .i64 t.2.2.1, .bool t.2.2.2] ∧ D i = tdat H t.1 t.2.1 t.2.2.1 t.2.2.2 ∧ Pl i = [] ∧ (Lit.int .i64 t.1).wf = true ∧ (Lit.int .i64 t.2.2.1).wf = true) (fun i hi => by
      obtain ⟨cs', h1, h2⟩ := hel i hi
      obtain ⟨a, b, p, s, rfl, hx, wa, wp⟩ := trod_tick h2
      simp only [Prod.mk.injEq] at hx
      exact ⟨(a, b, p, s), h1, hx.1, hx.2, wa, wp⟩)
    clear hel
    have w0 : (Lit.int .i64 0).wf = true := by decide
    have hwa : ∀ i, (Lit.int .i64 (if i < m then (T i).1 else 0)).wf = true := fun i => by
      by_cases c : i < m
      · rw [if_pos c]; exact (hT i c).2.2.2.1
      · rw [if_neg c]; exact w0
    have hwp : ∀ i, (Lit.int .i64 (if i < m then (T i).2.2.1 else 0)).wf = true := fun i => by
      by_cases c : i < m
      · rw [if_pos c]; exact (hT i c).2.2.2.2
      · rw [if_neg c]; exact w0
    refine ⟨some ad, len, m, fun i => if i < m then (T i).1 else 0, fun i => (T i).2.1, fun i => if i < m then (T i).2.2.1 else 0, fun i => (T i).2.2.2, rfl, by unfold maxLen at hm; omega, hl, fun i => wf_i64 (hwa i), fun i => wf_i64 (hwp i), fun k hk => ?_, fun W' hb sp hsp => ?_⟩
    · have hk' : k < m := by omega
      have hc := (World.cells?_some (hT k hk').1).2.2
      obtain ⟨b, off, spot⟩ := ad
      have hspot : spot = none := by
        have h0 := (World.cells?_some (hT 0 (by omega)).1).2.2 0 (by decide)
        simpa [Addr.add] using World.cell?_spot h0
      subst hspot
      have e : ∀ j, j < 4 → w.cell? ⟨b, off + k * 4 + j, none⟩ = ([.int .i64 (T k).1, .bool (T k).2.1, .int .i64 (T k).2.2.1, .bool (T k).2.2.2] : List Value)[j]? := fun j hj => by
        have := hc j hj
        rw [add_plain, add_plain] at this
        exact this
      refine ⟨b, off, rfl, ?_⟩
      simp only [if_pos hk']
      exact ⟨e 0 (by decide), e 1 (by decide), e 2 (by decide), e 3 (by decide)⟩
    · have hc' : ∀ i, i < m → ∃ cs n, W'.cells? 0 (ad.add (i * Try.prog.cellsOf 48)) (Try.prog.cellsOf 48) = some cs ∧ DataW.trod enc Try.prog W' 0 sp true n 48 cs = some (D i, Pl i) := fun i hi => by
        obtain ⟨h1, h2, h3, h4, h5⟩ := hT i hi
        obtain ⟨_, hlen, hc⟩ := World.cells?_some h1
        rw [Try.cellsTick, h2, h3]
        refine ⟨_, 2, World.cells?_of_each (Nat.zero_le _) hlen fun j hj => ?_, trod_tick_mk h4 h5⟩
        have hj' := hc j hj
        have : j = 0 ∨ j = 1 ∨ j = 2 ∨ j = 3 := by omega
        rcases this with rfl | rfl | rfl | rfl <;> exact cell_keep hb hj'
      by_cases hm0 : m = 0
      · subst hm0
        have hl0 : len = 0 := by omega
        subst hl0
        exact ⟨1, by simp [DataW.trod, Value.cells, Try.underlying22]⟩
      · have hspb : sp ad.block = true := hsp (.cell ad.block ad.off) (List.mem_append_left _ (MemPlace.mem_row.2 ⟨0, by rw [Try.cellsTick]; omega, by simp⟩))
        exact shut_slice_whole Try.underlying22 (Nat.zero_le _) hl hm hspb D Pl hc'
end
end Go.Proofs.Ytfenmkcniiiglaa
