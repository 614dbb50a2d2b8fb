/- Lemmas that the walks of layer 1 share: worlds that have grown, variables that hold a wide number, what a call hands back. -/
import Derived.Test.YtobmjlnficdmlaaBits
import Derived.StillTactics
import Derived.Laws.Pointers
import Derived.Deep.RegionHeld3
import Derived.Deep.QuietTactic
import Derived.BigQuiet
import Derived.RowKit3
import Derived.Lib.Hide
import Derived.Lib.QuietBelow
import Derived.Laws.Bits64b
namespace Go.Proofs.Ytobmjlnficdmlaa
open Go.RowKit Go.Shelf

theorem b_alloc {a w : World} {o : Obj} (h : Below a.heap.size a w) : Below a.heap.size a (w.alloc o) := h.alloc h.size o
theorem b_trans {a b c : World} (h : Below a.heap.size a b) (k : Below b.heap.size b c) : Below a.heap.size a c := h.trans (k.mono h.size)
theorem b_drew {a w : World} (h : Below a.heap.size a w) : Below a.heap.size a w.drew := h.drew

theorem b_set {a w : World} {p : Addr} {v : Value} (h : Below a.heap.size a w) (hp : a.heap.size ≤ p.block) : Below a.heap.size a (w.setCell p v) := h.setCell hp v
theorem bcell {W w1 : World} (hb : Below W.heap.size W w1) : (∀ b o, b < W.heap.size → w1.cell? ⟨b, o, none⟩ = W.cell? ⟨b, o, none⟩) ∧ (∀ b o, b < W.heap.size → w1.frozen? ⟨b, o, none⟩ = W.frozen? ⟨b, o, none⟩) :=
  ⟨fun b o h => hb.cell (p := ⟨b, o, none⟩) h, fun b o h => hb.frozen (p := ⟨b, o, none⟩) h⟩

theorem cell_keep {w w' : World} (hb : Below w.heap.size w w') {p : Addr} {v : Value} (h : w.cell? p = some v) : w'.cell? p = some v := by
  rw [hb.cell (World.block_lt_of_cell? w p h)]; exact h
/-- Block b holds a wide number. -/
abbrev WC (w : World) (b : Nat) (h l : Int) : Prop := w.cell? ⟨b, 0, none⟩ = some (.int .i64 h) ∧ w.cell? ⟨b, 1, none⟩ = some (.int .u64 l)
theorem wc_keep {w w' : World} (hb : Below w.heap.size w w') {b : Nat} {h l : Int} (c : WC w b h l) : WC w' b h l := ⟨cell_keep hb c.1, cell_keep hb c.2⟩
theorem wc_alloc {w : World} {o : Obj} {b : Nat} {h l : Int} (c : WC w b h l) : WC (w.alloc o) b h l := wc_keep (b_alloc (Below.refl _ _)) c
theorem wc_keep2 {w w' : World} (hb : Below w.heap.size w w') {b0 b1 : Nat} {x0 y0 x1 y1 : Int} (h : WC w b0 x0 y0 ∧ WC w b1 x1 y1) : WC w' b0 x0 y0 ∧ WC w' b1 x1 y1 := by
  obtain ⟨h0, h1⟩ := h
  exact ⟨wc_keep hb h0, wc_keep hb h1⟩
theorem wc_keep3 {w w' : World} (hb : Below w.heap.size w w') {b0 b1 b2 : Nat} {x0 y0 x1 y1 x2 y2 : Int} (h : WC w b0 x0 y0 ∧ WC w b1 x1 y1 ∧ WC w b2 x2 y2) : WC w' b0 x0 y0 ∧ WC w' b1 x1 y1 ∧ WC w' b2 x2 y2 := by
  obtain ⟨h0, h1, h2⟩ := h
  exact ⟨wc_keep hb h0, wc_keep hb h1, wc_keep hb h2⟩
theorem wc_keep4 {w w' : World} (hb : Below w.heap.size w w') {b0 b1 b2 b3 : Nat} {x0 y0 x1 y1 x2 y2 x3 y3 : Int} (h : WC w b0 x0 y0 ∧ WC w b1 x1 y1 ∧ WC w b2 x2 y2 ∧ WC w b3 x3 y3) : WC w' b0 x0 y0 ∧ WC w' b1 x1 y1 ∧ WC w' b2 x2 y2 ∧ WC w' b3 x3 y3 := by
  obtain ⟨h0, h1, h2, h3⟩ := h
  exact ⟨wc_keep hb h0, wc_keep hb h1, wc_keep hb h2, wc_keep hb h3⟩
theorem wc_keep5 {w w' : World} (hb : Below w.heap.size w w') {b0 b1 b2 b3 b4 : Nat} {x0 y0 x1 y1 x2 y2 x3 y3 x4 y4 : Int} (h : WC w b0 x0 y0 ∧ WC w b1 x1 y1 ∧ WC w b2 x2 y2 ∧ WC w b3 x3 y3 ∧ WC w b4 x4 y4) : WC w' b0 x0 y0 ∧ WC w' b1 x1 y1 ∧ WC w' b2 x2 y2 ∧ WC w' b3 x3 y3 ∧ WC w' b4 x4 y4 := by
  obtain ⟨h0, h1, h2, h3, h4⟩ := h
  exact ⟨wc_keep hb h0, wc_keep hb h1, wc_keep hb h2, wc_keep hb h3, wc_keep hb h4⟩

/-- A wide number as a value of the program. -/
abbrev wv (h l : Int) : Value := .agg #[.int .i64 h, .int .u64 l]

/-- The call hands back the wide number z; of what was there nothing has changed. -/
def RetW (z : Int) (w : World) (e : Ending) (w' : World) : Prop :=
  ∃ h l : Int, e = .returned (wv h l) ∧ IsW h l z ∧ Below w.heap.size w w'
/-- Block b is a variable that may be written. -/
abbrev WF (w : World) (b : Nat) : Prop := w.frozen? ⟨b, 0, none⟩ = false ∧ w.frozen? ⟨b, 1, none⟩ = false
theorem wf_keep {w w' : World} (hb : Below w.heap.size w w') {b : Nat} {h l : Int} (c : WC w b h l) (f : WF w b) : WF w' b := by
  have h1 := World.block_lt_of_cell? w _ c.1
  have h2 := World.block_lt_of_cell? w _ c.2
  exact ⟨by rw [hb.frozen h1]; exact f.1, by rw [hb.frozen h2]; exact f.2⟩
theorem wc_regrown {w : World} {b : Nat} {h l : Int} (c : WC w b h l) : ∀ d os, WC (Sort.grow (redrawn w d) os) b h l := fun d os => ⟨cell_regrown c.1 d os, cell_regrown c.2 d os⟩
/-- The call hands back v; of what was there nothing has changed. -/
def RetV (v : Value) (w : World) (e : Ending) (w' : World) : Prop := e = .returned v ∧ Below w.heap.size w w'

theorem retV_regrown {f : FuncId} {args : Array Value} {v : Value} {w : World} (h : ∀ w, Calls Try.prog f args w (RetV v w)) : ∀ d os, Calls Try.prog f args (Sort.grow (redrawn w d) os) fun e w'' => e = .returned v ∧ ∃ p : Regrown, w'' = Sort.grow (redrawn w p.d) p.os :=
  fun _ _ => Calls.regrown_of (h _)


theorem wc_set {w : World} {b b1 o : Nat} {h l : Int} {v : Value} (c : WC w b h l) (hb : b1 ≠ b) : WC (w.setCell ⟨b1, o, none⟩ v) b h l :=
  ⟨by rw [World.cell?_setCell_far _ _ _ _ hb]; exact c.1, by rw [World.cell?_setCell_far _ _ _ _ hb]; exact c.2⟩
theorem s1_keep {W w w' : World} {b0 : Nat} {h0 l0 : Int} (h : Below W.heap.size W w ∧ WC w b0 h0 l0) (hb : Below w.heap.size w w') : Below W.heap.size W w' ∧ WC w' b0 h0 l0 := ⟨b_trans h.1 hb, wc_keep hb h.2⟩
theorem s1_set {W w : World} {b0 b1 : Nat} {h0 l0 : Int} {u v : Value} (h : Below W.heap.size W w ∧ WC w b0 h0 l0) (hb : W.heap.size ≤ b1) (hn : b1 ≠ b0) :
    Below W.heap.size W ((w.setCell ⟨b1, 0, none⟩ u).setCell ⟨b1, 1, none⟩ v) ∧ WC ((w.setCell ⟨b1, 0, none⟩ u).setCell ⟨b1, 1, none⟩ v) b0 h0 l0 :=
  ⟨b_set (b_set h.1 hb) hb, wc_set (wc_set h.2 hn) hn⟩
theorem s2_keep {W w w' : World} {b0 b1 : Nat} {h0 l0 h1 l1 : Int} (h : Below W.heap.size W w ∧ WC w b0 h0 l0 ∧ WC w b1 h1 l1) (hb : Below w.heap.size w w') : Below W.heap.size W w' ∧ WC w' b0 h0 l0 ∧ WC w' b1 h1 l1 := ⟨b_trans h.1 hb, wc_keep hb h.2.1, wc_keep hb h.2.2⟩
theorem s2_set {W w : World} {b0 b1 b2 : Nat} {h0 l0 h1 l1 : Int} {u v : Value} (h : Below W.heap.size W w ∧ WC w b0 h0 l0 ∧ WC w b1 h1 l1) (hb : W.heap.size ≤ b2) (hn : b2 ≠ b0) (hm : b2 ≠ b1) :
    Below W.heap.size W ((w.setCell ⟨b2, 0, none⟩ u).setCell ⟨b2, 1, none⟩ v) ∧ WC ((w.setCell ⟨b2, 0, none⟩ u).setCell ⟨b2, 1, none⟩ v) b0 h0 l0 ∧ WC ((w.setCell ⟨b2, 0, none⟩ u).setCell ⟨b2, 1, none⟩ v) b1 h1 l1 :=
  ⟨b_set (b_set h.1 hb) hb, wc_set (wc_set h.2.1 hn) hn, wc_set (wc_set h.2.2 hm) hm⟩
/-- Variable b, which lies and may be written. -/
structure WV (w : World) (b : Nat) : Prop where
  c : ∃ h l, WC w b h l
  f : WF w b
theorem wv_keep {w w' : World} {b : Nat} (h : WV w b) (hb : Below w.heap.size w w') : WV w' b := by
  obtain ⟨⟨h, l, c⟩, f⟩ := h
  exact ⟨⟨h, l, wc_keep hb c⟩, wf_keep hb c f⟩
theorem wv_mk {w : World} {b : Nat} {h l : Int} (c : WC w b h l) (f : WF w b) : WV w b := ⟨⟨h, l, c⟩, f⟩

/-- The call hands back the wide number z and the error's number c. -/
def RetWE (z c : Int) (w : World) (e : Ending) (w' : World) : Prop :=
  ∃ h l : Int, e = .returned (.tuple #[wv h l, .int .i64 c]) ∧ IsW h l z ∧ Below w.heap.size w w'

/-- Of three variables: two hold wide numbers, one may be written. -/
abbrev S21 (W : World) (b0 : Nat) (h0 l0 : Int) (b1 : Nat) (h1 l1 : Int) (b2 : Nat) (w : World) : Prop :=
  Below W.heap.size W w ∧ WC w b0 h0 l0 ∧ WC w b1 h1 l1 ∧ WC w b2 0 0 ∧ WF w b2
theorem s21_keep {W w w' : World} {b0 b1 b2 : Nat} {h0 l0 h1 l1 : Int} (h : S21 W b0 h0 l0 b1 h1 l1 b2 w) (hb : Below w.heap.size w w') : S21 W b0 h0 l0 b1 h1 l1 b2 w' :=
  ⟨b_trans h.1 hb, wc_keep hb h.2.1, wc_keep hb h.2.2.1, wc_keep hb h.2.2.2.1, wf_keep hb h.2.2.2.1 h.2.2.2.2⟩
theorem wf_set {w : World} {b b1 o : Nat} {v : Value} (c : WF w b) : WF (w.setCell ⟨b1, o, none⟩ v) b :=
  ⟨by rw [World.frozen?_setCell]; exact c.1, by rw [World.frozen?_setCell]; exact c.2⟩
theorem s21_set {W w : World} {b0 b1 b2 b3 : Nat} {h0 l0 h1 l1 : Int} {u v : Value} (h : S21 W b0 h0 l0 b1 h1 l1 b2 w) (hb : W.heap.size ≤ b3) (n0 : b3 ≠ b0) (n1 : b3 ≠ b1) (n2 : b3 ≠ b2) :
    S21 W b0 h0 l0 b1 h1 l1 b2 ((w.setCell ⟨b3, 0, none⟩ u).setCell ⟨b3, 1, none⟩ v) :=
  ⟨b_set (b_set h.1 hb) hb, wc_set (wc_set h.2.1 n0) n0, wc_set (wc_set h.2.2.1 n1) n1, wc_set (wc_set h.2.2.2.1 n2) n2, wf_set (wf_set h.2.2.2.2)⟩
theorem wc_lt {w : World} {b : Nat} {h l : Int} (c : WC w b h l) : b < w.heap.size := World.block_lt_of_cell? w _ c.1

theorem wc_mine {w : World} {b : Nat} {h l h' l' : Int} (c : WC w b h l) : WC ((w.setCell ⟨b, 0, none⟩ (.int .i64 h')).setCell ⟨b, 1, none⟩ (.int .u64 l')) b h' l' := by
  obtain ⟨c0, c1⟩ := c
  simp [WC, go_sem, c0, c1]

end Go.Proofs.Ytobmjlnficdmlaa
