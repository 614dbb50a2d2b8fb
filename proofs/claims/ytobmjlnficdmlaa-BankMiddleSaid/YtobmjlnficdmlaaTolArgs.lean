/- For laws one of whose arguments is a slice of what was told: opening it, handing it back in a world that has grown. -/
import Derived.Test.YtobmjlnficdmlaaKeptArgs
import Derived.Test.YtobmjlnficdmlaaTapQ
import Derived.Deep.Slices
import Derived.DataShut
namespace Go.Proofs.Ytobmjlnficdmlaa
open Go.ChangeShapes Go.WideShapes Go.ChangeAt Go.RowKit Go.Joins Go.Deep
set_option maxRecDepth 100000

theorem Try.cellsTold : Try.prog.cellsOf 29 = 9 := by kernel_rfl
theorem Try.cellsTolN : Try.prog.cellsOf 2 = 1 := by kernel_rfl
theorem Try.cellsTolI : Try.prog.cellsOf 3 = 1 := by kernel_rfl
theorem Try.cellsTolB : Try.prog.cellsOf 4 = 1 := by kernel_rfl
theorem list9 {l : List Value} (h : l.length = 9) : ∃ c0 c1 c2 c3 c4 c5 c6 c7 c8, l = [c0, c1, c2, c3, c4, c5, c6, c7, c8] := by
  match l, h with
  | [c0, c1, c2, c3, c4, c5, c6, c7, c8], _ => exact ⟨c0, c1, c2, c3, c4, c5, c6, c7, c8, rfl⟩
instance : Inhabited Td := ⟨⟨0, false, false, false, false, false, 0, 0, 0⟩⟩
/-- Its numbers are of 64 bits. -/
def Wfd (t : Td) : Prop := (Lit.int .i64 t.m).wf = true ∧ (Lit.int .i64 t.al).wf = true ∧ (Lit.int .i64 t.sp).wf = true ∧ (Lit.int .i64 t.bi).wf = true
section
variable {H : Type} {enc : TypeId × Value → H}
/-- What was told, as data. -/
abbrev ddat (H : Type) (t : Td) : DataW H := .agg [.lit (.int .i64 t.m), .lit (.bool t.v), .lit (.bool t.c), .lit (.bool t.r), .lit (.bool t.d), .lit (.bool t.g), .lit (.int .i64 t.al), .lit (.int .i64 t.sp), .lit (.int .i64 t.bi)]
set_option maxRecDepth 10000 in
theorem trod_told {w : World} {base : Nat} {spare : Nat → Bool} {held : Bool} {fuel : Nat} {cs : List Value} {x : DataW H × List MemPlace}
    (hf : DataW.trod enc Try.prog w base spare held fuel 29 cs = some x) :
    ∃ t : Td, cs = [.int .i64 t.m, .bool t.v, .bool t.c, .bool t.r, .bool t.d, .bool t.g, .int .i64 t.al, .int .i64 t.sp, .int .i64 t.bi] ∧ x = (ddat H t, []) ∧ Wfd t := by
  obtain ⟨xs, m, _, hx, hlen, hl, hi⟩ := DataW.trod_struct Try.underlying29 hf
  obtain ⟨c0, c1, c2, c3, c4, c5, c6, c7, c8, rfl⟩ := list9 (hlen.trans Try.cellsTold)
  have h0 : DataW.trod enc Try.prog w base spare held m 3 (([c0, c1, c2, c3, c4, c5, c6, c7, c8].drop 0).take (Try.prog.cellsOf 3)) = xs[0]? := hi 0 _ rfl
  have h1 : DataW.trod enc Try.prog w base spare held m 4 (([c0, c1, c2, c3, c4, c5, c6, c7, c8].drop 1).take (Try.prog.cellsOf 4)) = xs[1]? := hi 1 _ rfl
  have h2 : DataW.trod enc Try.prog w base spare held m 4 (([c0, c1, c2, c3, c4, c5, c6, c7, c8].drop 2).take (Try.prog.cellsOf 4)) = xs[2]? := hi 2 _ rfl
  have h3 : DataW.trod enc Try.prog w base spare held m 4 (([c0, c1, c2, c3, c4, c5, c6, c7, c8].drop 3).take (Try.prog.cellsOf 4)) = xs[3]? := hi 3 _ rfl
  have h4 : DataW.trod enc Try.prog w base spare held m 4 (([c0, c1, c2, c3, c4, c5, c6, c7, c8].drop 4).take (Try.prog.cellsOf 4)) = xs[4]? := hi 4 _ rfl
  have h5 : DataW.trod enc Try.prog w base spare held m 4 (([c0, c1, c2, c3, c4, c5, c6, c7, c8].drop 5).take (Try.prog.cellsOf 4)) = xs[5]? := hi 5 _ rfl
  have h6 : DataW.trod enc Try.prog w base spare held m 2 (([c0, c1, c2, c3, c4, c5, c6, c7, c8].drop 6).take (Try.prog.cellsOf 2)) = xs[6]? := hi 6 _ rfl
  have h7 : DataW.trod enc Try.prog w base spare held m 2 (([c0, c1, c2, c3, c4, c5, c6, c7, c8].drop 7).take (Try.prog.cellsOf 2)) = xs[7]? := hi 7 _ rfl
  have h8 : DataW.trod enc Try.prog w base spare held m 2 (([c0, c1, c2, c3, c4, c5, c6, c7, c8].drop 8).take (Try.prog.cellsOf 2)) = xs[8]? := hi 8 _ rfl
  clear hi hf hlen
  simp only [Try.cellsTolN, Try.cellsTolI, Try.cellsTolB] at h0 h1 h2 h3 h4 h5 h6 h7 h8
  match xs, hl with
  | [y0, y1, y2, y3, y4, y5, y6, y7, y8], _ =>
    simp at h0
    simp at h1
    simp at h2
    simp at h3
    simp at h4
    simp at h5
    simp at h6
    simp at h7
    simp at h8
    obtain ⟨mm, e0, rfl, w0⟩ := DataW.trod_int Try.underlying3 h0
    simp at e0
    subst e0
    obtain ⟨v, e1, rfl⟩ := DataW.trod_bool Try.underlying4 h1
    simp at e1
    subst e1
    obtain ⟨c, e2, rfl⟩ := DataW.trod_bool Try.underlying4 h2
    simp at e2
    subst e2
    obtain ⟨r, e3, rfl⟩ := DataW.trod_bool Try.underlying4 h3
    simp at e3
    subst e3
    obtain ⟨d, e4, rfl⟩ := DataW.trod_bool Try.underlying4 h4
    simp at e4
    subst e4
    obtain ⟨g, e5, rfl⟩ := DataW.trod_bool Try.underlying4 h5
    simp at e5
    subst e5
    obtain ⟨al, e6, rfl, w6⟩ := DataW.trod_int Try.underlying2 h6
    simp at e6
    subst e6
    obtain ⟨sp, e7, rfl, w7⟩ := DataW.trod_int Try.underlying2 h7
    simp at e7
    subst e7
    obtain ⟨bi, e8, rfl, w8⟩ := DataW.trod_int Try.underlying2 h8
    simp at e8
    subst e8
    exact ⟨⟨mm, v, c, r, d, g, al, sp, bi⟩, rfl, hx, w0, w6, w7, w8⟩
set_option maxRecDepth 10000 in
theorem trod_told_mk {w : World} {base : Nat} {spare : Nat → Bool} {held : Bool} {t : Td} (h : Wfd t) :
    DataW.trod enc Try.prog w base spare held 2 29 [.int .i64 t.m, .bool t.v, .bool t.c, .bool t.r, .bool t.d, .bool t.g, .int .i64 t.al, .int .i64 t.sp, .int .i64 t.bi] = some (ddat H t, []) := by
  obtain ⟨w0, w6, w7, w8⟩ := h
  simp [DataW.trod, Try.underlying29, Try.underlying2, Try.underlying3, Try.underlying4, Try.cellsTold, Try.cellsTolN, Try.cellsTolI, Try.cellsTolB, w0, w6, w7, w8]
theorem wf_zero : Wfd ⟨0, false, false, false, false, false, 0, 0, 0⟩ := ⟨by decide, by decide, by decide, by decide⟩
set_option maxRecDepth 10000 in
/-- A slice of what was told among the arguments; it reads again as it read in a world that has grown. -/
theorem open_tolds {w : World} {r : Reach} {b0 : Nat} {v : Value} {d : DataW H} {q : List MemPlace}
    (hv : Value.okWide Try.prog w r b0 22 v) (hd : DataW.Trod enc Try.prog w 0 (fun _ => true) true 22 v d q) :
    ∃ (sa : Option Addr) (cap : Nat) (l : List Td), v = .slice sa l.length cap ∧ DS w sa l ∧
      (∀ W', Below w.heap.size w W' → ∀ sp : Nat → Bool, (∀ x ∈ q, sp x.block = true) → DataW.Trod enc Try.prog W' 0 sp true 22 v d q) ∧ ∀ t ∈ l, Wfd t := by
  obtain ⟨a0, len, cap, rfl⟩ := okWide_slice Try.underlying22 hv
  obtain ⟨fuel, hf⟩ := hd
  rcases open_slice Try.underlying22 hf with ⟨hcs, hx⟩ | ⟨ad, len', cap', m, n, D, Pl, hcs, _, hl, hm, hmm, hx, hel⟩
  · simp [Value.cells] at hcs
    obtain ⟨rfl, rfl, rfl⟩ := hcs
    simp only [Prod.mk.injEq] at hx
    obtain ⟨rfl, rfl⟩ := hx
    exact ⟨none, 0, [], rfl, fun k t hk => by simp at hk, fun W' _ sp _ => shut_slice_nil Try.underlying22, fun _ h => by simp at h⟩
  · simp [Value.cells] at hcs
    obtain ⟨rfl, rfl, rfl⟩ := hcs
    simp only [Prod.mk.injEq] at hx
    obtain ⟨rfl, rfl⟩ := hx
    simp only [if_true] at hmm
    subst hmm
    rw [Try.cellsTold] at hel
    obtain ⟨T, hT⟩ := choose_lt (α := Td) (p := fun i t => w.cells? 0 (ad.add (i * 9)) 9 = some [.int .i64 t.m, .bool t.v, .bool t.c, .bool t.r, .bool t.d, .bool t.g, .int .i64 t.al, .int .i64 t.sp, .int .i64 t.bi] ∧ D i = ddat H t ∧ Pl i = [] ∧ Wfd t) (fun i hi => by
      obtain ⟨cs', h1, h2⟩ := hel i hi
      obtain ⟨t, rfl, hx, wf⟩ := trod_told h2
      simp only [Prod.mk.injEq] at hx
      exact ⟨t, h1, hx.1, hx.2, wf⟩)
    clear hel
    refine ⟨some ad, m, (List.range len).map T, by simp, fun k t hk => ?_, fun W' hb sp hsp => ?_, fun t ht => ?_⟩
    · have hkl : k < len := by
        have := (List.getElem?_eq_some_iff.1 hk).1
        simpa using this
      simp [hkl] at hk
      subst hk
      have hk' : k < m := by omega
      have hc := (World.cells?_some (hT k hk').1).2.2
      obtain ⟨b, off, spot⟩ := ad
      have hspot : spot = none := by
        have h0 := (World.cells?_some (hT 0 (by omega)).1).2.2 0 (by decide)
        simpa [Addr.add] using World.cell?_spot h0
      subst hspot
      have e : ∀ j, j < 9 → w.cell? ⟨b, off + k * 9 + j, none⟩ = ([.int .i64 (T k).m, .bool (T k).v, .bool (T k).c, .bool (T k).r, .bool (T k).d, .bool (T k).g, .int .i64 (T k).al, .int .i64 (T k).sp, .int .i64 (T k).bi] : List Value)[j]? := fun j hj => by
        have := hc j hj
        rw [add_plain, add_plain] at this
        exact this
      exact ⟨b, off, rfl, ⟨e 0 (by decide), e 1 (by decide), e 2 (by decide), e 3 (by decide), e 4 (by decide), e 5 (by decide), e 6 (by decide), e 7 (by decide), e 8 (by decide)⟩⟩
    · have hc' : ∀ i, i < m → ∃ cs n, W'.cells? 0 (ad.add (i * Try.prog.cellsOf 29)) (Try.prog.cellsOf 29) = some cs ∧ DataW.trod enc Try.prog W' 0 sp true n 29 cs = some (D i, Pl i) := fun i hi => by
        obtain ⟨h1, h2, h3, h4⟩ := hT i hi
        obtain ⟨_, hlen, hc⟩ := World.cells?_some h1
        rw [Try.cellsTold, h2, h3]
        refine ⟨_, 2, World.cells?_of_each (Nat.zero_le _) hlen fun j hj => ?_, trod_told_mk h4⟩
        have hj' := hc j hj
        rcases (show j = 0 ∨ j = 1 ∨ j = 2 ∨ j = 3 ∨ j = 4 ∨ j = 5 ∨ j = 6 ∨ j = 7 ∨ j = 8 by omega) with rfl | rfl | rfl | rfl | rfl | rfl | rfl | rfl | rfl <;> exact cell_keep hb hj'
      by_cases hm0 : m = 0
      · subst hm0
        have hl0 : len = 0 := by omega
        subst hl0
        exact ⟨1, by simp [DataW.trod, Value.cells, Try.underlying22]⟩
      · have hspb : sp ad.block = true := hsp (.cell ad.block ad.off) (List.mem_append_left _ (MemPlace.mem_row.2 ⟨0, by rw [Try.cellsTold]; omega, by simp⟩))
        exact shut_slice_whole Try.underlying22 (Nat.zero_le _) hl hm hspb D Pl hc'
    · obtain ⟨i, hi, rfl⟩ := List.mem_map.1 ht
      exact (hT i (by have := List.mem_range.1 hi; omega)).2.2.2
end
end Go.Proofs.Ytobmjlnficdmlaa
