/- Layer 13: the program's table of rules, the first that isn't kept, the usual configuration, a count's thrust. -/
import Derived.Test.YtjaccedpkkcjnaaDoorConB
import Derived.Deep.WholeRow
namespace Go.Proofs.YtjaccedpkkcjnaaDoor
open Go.RowKit Go.Shelf Go.Joins

/-- Block b is a variable that holds a configuration. -/
abbrev CR (w : World) (b : Nat) (x : Nat → Int) : Prop := w.heap[b]? = some (.cells #[.int .i64 (x 0), .int .i64 (x 1), .int .i64 (x 2), .int .i64 (x 3), .int .i64 (x 4), .int .i64 (x 5), .int .i64 (x 6), .int .i64 (x 7), .int .i64 (x 8), .int .i64 (x 9), .int .i64 (x 10), .int .i64 (x 11), .int .i64 (x 12), .int .i64 (x 13), .int .i64 (x 14), .int .i64 (x 15), .int .i64 (x 16), .int .i64 (x 17), .int .i64 (x 18), .int .i64 (x 19), .int .i64 (x 20), .int .i64 (x 21), .int .i64 (x 22), .int .i64 (x 23), .int .i64 (x 24), .int .i64 (x 25), .int .i64 (x 26), .int .i64 (x 27), .int .i64 (x 28), .int .i64 (x 29), .int .i64 (x 30)] 25 (0, 0))
theorem cr_lt {w : World} {b : Nat} {x : Nat → Int} (c : CR w b x) : b < w.heap.size := (Array.getElem?_eq_some_iff.1 c).1
theorem cr_keep {w w' : World} (hb : Below w.heap.size w w') {b : Nat} {x : Nat → Int} (c : CR w b x) : CR w' b x := (hb.block b (cr_lt c)).trans c
theorem cr_alloc {w : World} {b : Nat} {x : Nat → Int} (c : CR w b x) (o : Obj) : CR (w.alloc o) b x := cr_keep (b_alloc (Below.refl _ _)) c
theorem cr_new {w : World} {x : Nat → Int} : CR (w.alloc (Obj.cells #[.int .i64 (x 0), .int .i64 (x 1), .int .i64 (x 2), .int .i64 (x 3), .int .i64 (x 4), .int .i64 (x 5), .int .i64 (x 6), .int .i64 (x 7), .int .i64 (x 8), .int .i64 (x 9), .int .i64 (x 10), .int .i64 (x 11), .int .i64 (x 12), .int .i64 (x 13), .int .i64 (x 14), .int .i64 (x 15), .int .i64 (x 16), .int .i64 (x 17), .int .i64 (x 18), .int .i64 (x 19), .int .i64 (x 20), .int .i64 (x 21), .int .i64 (x 22), .int .i64 (x 23), .int .i64 (x 24), .int .i64 (x 25), .int .i64 (x 26), .int .i64 (x 27), .int .i64 (x 28), .int .i64 (x 29), .int .i64 (x 30)] 25)) w.heap.size x := heap_alloc_last _ _
set_option maxHeartbeats 1000000 in
set_option maxRecDepth 10000 in
theorem cr_load {w : World} {b : Nat} {x : Nat → Int} (c : CR w b x) : (loadCellsFrom ⟨b, 0, none⟩ 0 31 #[]).run Tryd.prog w = .ok #[.int .i64 (x 0), .int .i64 (x 1), .int .i64 (x 2), .int .i64 (x 3), .int .i64 (x 4), .int .i64 (x 5), .int .i64 (x 6), .int .i64 (x 7), .int .i64 (x 8), .int .i64 (x 9), .int .i64 (x 10), .int .i64 (x 11), .int .i64 (x 12), .int .i64 (x 13), .int .i64 (x 14), .int .i64 (x 15), .int .i64 (x 16), .int .i64 (x 17), .int .i64 (x 18), .int .i64 (x 19), .int .i64 (x 20), .int .i64 (x 21), .int .i64 (x 22), .int .i64 (x 23), .int .i64 (x 24), .int .i64 (x 25), .int .i64 (x 26), .int .i64 (x 27), .int .i64 (x 28), .int .i64 (x 29), .int .i64 (x 30)] w := by
  have := run_loadCells_list (P := Tryd.prog) w ⟨b, 0, none⟩ [.int .i64 (x 0), .int .i64 (x 1), .int .i64 (x 2), .int .i64 (x 3), .int .i64 (x 4), .int .i64 (x 5), .int .i64 (x 6), .int .i64 (x 7), .int .i64 (x 8), .int .i64 (x 9), .int .i64 (x 10), .int .i64 (x 11), .int .i64 (x 12), .int .i64 (x 13), .int .i64 (x 14), .int .i64 (x 15), .int .i64 (x 16), .int .i64 (x 17), .int .i64 (x 18), .int .i64 (x 19), .int .i64 (x 20), .int .i64 (x 21), .int .i64 (x 22), .int .i64 (x 23), .int .i64 (x 24), .int .i64 (x 25), .int .i64 (x 26), .int .i64 (x 27), .int .i64 (x 28), .int .i64 (x 29), .int .i64 (x 30)] (fun j v hv => by
    have hadd : (⟨b, 0, none⟩ : Addr).add j = ⟨b, j, none⟩ := by unfold Addr.add; split <;> simp_all
    rw [hadd, cell_of_row _ _ j _ _ _ c]
    simpa using hv)
  simpa [loadCells] using this

/- A walk that is stopped ahead of an operation. -/
def Stopped (p : Prop) : Prop := p
theorem unstop {p : Prop} (h : p) : Stopped p := h
theorem stop_at (d : Option Tmp) {P : Program} {ops : Array Oper} {rest : List Oper} {o : Oper} {a : Act} {w : World} {Q : Exit → Act → World → Prop} (_hd : o.dst = d) (h : Stopped (wpList P ops Q (o :: rest) a w)) : wpList P ops Q (o :: rest) a w := h

end Go.Proofs.YtjaccedpkkcjnaaDoor
