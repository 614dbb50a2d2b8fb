/- Layer 21: the program's next: the tick that bytes begin with, and what lies behind it. -/
import Derived.Test.YtfenmkcniiiglaaTapG
namespace Go.Proofs.Ytfenmkcniiiglaa
open Go.RowKit Go.Shelf Go.Joins

theorem results_cell_tmp2 {P : Program} {fn : Func} {p q r : Tmp} {ty : TypeId} (h : fn.results = #[.cell p ty, .tmp q, .tmp r]) (tmps : Array Value) (w : World) (g : Nat) (t : TypeId) (cs : Array Value) (fr : Nat × Nat) (d : TypeDesc)
    (hp : tmps.getD p undef = .pointer (some ⟨g, 0, none⟩)) (hg : w.heap[g]? = some (.cells cs t fr))
    (hu : P.underlying ty = some d) (hd : (match d with | .struct _ | .array _ _ => true | _ => false) = true) (hi : (P.info? ty).map (·.size) = some cs.size) :
    (results fn tmps).run P w = .ok (.tuple #[.agg cs, tmps.getD q undef, tmps.getD r undef]) w := by
  have hp' : tmps[p]?.getD undef = .pointer (some ⟨g, 0, none⟩) := by simpa using hp
  simp [results, h, hp', asAddr, run_loadVar_row w g t ty cs fr d hg hu hd hi]
theorem b_drewN {a w : World} {n : Nat} (h : Below a.heap.size a w) : Below a.heap.size a (w.drewN n) := ⟨h.os, h.tape, h.output, h.size, h.block⟩
/-- Block b is a tick. -/
abbrev TR (w : World) (b : Nat) (a : Int) (h : Bool) (p : Int) (s : Bool) : Prop := w.heap[b]? = some (.cells #[.int .i64 a, .bool h, .int .i64 p, .bool s] 48 (0, 0))
theorem tr_new (w : World) : TR (w.alloc (Obj.cells #[.int .i64 0, .bool false, .int .i64 0, .bool false] 48)) w.heap.size 0 false 0 false := heap_alloc_last _ _
theorem tr_drewN {w : World} {b : Nat} {a : Int} {h : Bool} {p : Int} {s : Bool} (n : Nat) (t : TR w b a h p s) : TR (w.drewN n) b a h p s := t
theorem tr_drew {w : World} {b : Nat} {a : Int} {h : Bool} {p : Int} {s : Bool} (t : TR w b a h p s) : TR w.drew b a h p s := t
theorem tr_0 {w : World} {b : Nat} {a : Int} {h : Bool} {p : Int} {s : Bool} (v : Int) (t : TR w b a h p s) : TR (w.setCell ⟨b, 0, none⟩ (.int .i64 v)) b v h p s := (heap_setCell_same w b 0 _ _ _ t).trans rfl
theorem tr_1 {w : World} {b : Nat} {a : Int} {h : Bool} {p : Int} {s : Bool} (v : Bool) (t : TR w b a h p s) : TR (w.setCell ⟨b, 1, none⟩ (.bool v)) b a v p s := (heap_setCell_same w b 1 _ _ _ t).trans rfl
theorem tr_2 {w : World} {b : Nat} {a : Int} {h : Bool} {p : Int} {s : Bool} (v : Int) (t : TR w b a h p s) : TR (w.setCell ⟨b, 2, none⟩ (.int .i64 v)) b a h v s := (heap_setCell_same w b 2 _ _ _ t).trans rfl
theorem tr_3 {w : World} {b : Nat} {a : Int} {h : Bool} {p : Int} {s : Bool} (v : Bool) (t : TR w b a h p s) : TR (w.setCell ⟨b, 3, none⟩ (.bool v)) b a h p v := (heap_setCell_same w b 3 _ _ _ t).trans rfl
theorem tr_all {w : World} {b : Nat} {a : Int} {h : Bool} {p : Int} {s : Bool} (a' : Int) (h' : Bool) (p' : Int) (s' : Bool) (t : TR w b a h p s) :
    TR ((((w.setCell ⟨b, 0, none⟩ (.int .i64 a')).setCell ⟨b, 1, none⟩ (.bool h')).setCell ⟨b, 2, none⟩ (.int .i64 p')).setCell ⟨b, 3, none⟩ (.bool s')) b a' h' p' s' := tr_3 s' (tr_2 p' (tr_1 h' (tr_0 a' t)))
theorem b_all {W w : World} {b : Nat} {x0 x1 x2 x3 : Value} (h : Below W.heap.size W w) (hb : W.heap.size ≤ b) : Below W.heap.size W ((((w.setCell ⟨b, 0, none⟩ x0).setCell ⟨b, 1, none⟩ x1).setCell ⟨b, 2, none⟩ x2).setCell ⟨b, 3, none⟩ x3) :=
  b_set (b_set (b_set (b_set h hb) hb) hb) hb

set_option maxHeartbeats 4000000 in
set_option maxRecDepth 10000 in
theorem next_form (f : Int) (hf : 3 < f) (gb off n cap : Nat) (w : World) (c0 : w.cell? ⟨gb, off, none⟩ = some (.int .u8 f)) :
    Calls Try.prog 21 #[.slice (some ⟨gb, off, none⟩) (n + 1) cap] w (RetV (.tuple #[tk 0 false 0 false, .slice none 0 0, .int .i64 6]) w) := by
  have T0 := tr_new w
  have q0 := cell_keep (b_alloc (o := Obj.cells #[.int .i64 0, .bool false, .int .i64 0, .bool false] 48) (Below.refl w.heap.size w)) c0
  have h1 : (1 : Int) ≤ (n + 1 : Nat) := by omega
  have h2 : (0 : Int) < (n + 1 : Nat) := by omega
  go_enter Try.func21, Try.ntmps21
  go_wp2
  go_quiet (fail)
  generalize (if cap = 1 then (some ⟨gb, off, none⟩ : Option Addr) else some ⟨gb, off + 1, none⟩) = sa at *
  have E : Below w.heap.size w ((w.alloc (Obj.cells #[.int .i64 0, .bool false, .int .i64 0, .bool false] 48)).drewN nq) := b_drewN (b_alloc (Below.refl _ _))
  replace T0 := tr_drewN nq T0
  generalize (w.alloc (Obj.cells #[.int .i64 0, .bool false, .int .i64 0, .bool false] 48)).drewN nq = y0 at *
  clear q0
  have g0 := (cell_of_row _ _ 0 _ _ _ T0).trans rfl
  have g1 := (cell_of_row _ _ 1 _ _ _ T0).trans rfl
  have g2 := (cell_of_row _ _ 2 _ _ _ T0).trans rfl
  have g3 := (cell_of_row _ _ 3 _ _ _ T0).trans rfl
  have z0 := frozen_of_row y0 w.heap.size 0 _ _ T0
  have z1 := frozen_of_row y0 w.heap.size 1 _ _ T0
  have z2 := frozen_of_row y0 w.heap.size 2 _ _ T0
  have z3 := frozen_of_row y0 w.heap.size 3 _ _ T0
  have T1 := tr_all 0 false 0 false T0
  have E1 := b_all (b := w.heap.size) (x0 := .int .i64 0) (x1 := .bool false) (x2 := .int .i64 0) (x3 := .bool false) E (Nat.le_refl _)
  go_wp2
  exact bodyPost_ret (v := .tuple #[tk 0 false 0 false, .slice none 0 0, .int .i64 6]) (results_cell_tmp2 Try.results21 _ _ w.heap.size 48 _ (0, 0) _ rfl T1 Try.underlying48 rfl (by kernel_rfl)) rfl ⟨rfl, E1⟩
set_option maxHeartbeats 4000000 in
set_option maxRecDepth 10000 in
theorem next_short0 (gb off n cap : Nat) (hs : n < 8) (w : World) (c0 : w.cell? ⟨gb, off, none⟩ = some (.int .u8 0)) :
    Calls Try.prog 21 #[.slice (some ⟨gb, off, none⟩) (n + 1) cap] w (RetV (.tuple #[tk 0 false 0 false, .slice none 0 0, .int .i64 5]) w) := by
  have T0 := tr_new w
  have q0 := cell_keep (b_alloc (o := Obj.cells #[.int .i64 0, .bool false, .int .i64 0, .bool false] 48) (Below.refl w.heap.size w)) c0
  have h1 : (1 : Int) ≤ (n + 1 : Nat) := by omega
  have h2 : (0 : Int) < (n + 1 : Nat) := by omega
  have ba : bits .and .u8 0 1 = 0 := by decide
  have bb : bits .and .u8 0 2 = 0 := by decide
  have hl : (n : Int) < 8 := by omega
  go_enter Try.func21, Try.ntmps21
  go_wp2
  go_quiet (fail)
  generalize (if cap = 1 then (some ⟨gb, off, none⟩ : Option Addr) else some ⟨gb, off + 1, none⟩) = sa at *
  have E : Below w.heap.size w ((w.alloc (Obj.cells #[.int .i64 0, .bool false, .int .i64 0, .bool false] 48)).drewN nq) := b_drewN (b_alloc (Below.refl _ _))
  replace T0 := tr_drewN nq T0
  generalize (w.alloc (Obj.cells #[.int .i64 0, .bool false, .int .i64 0, .bool false] 48)).drewN nq = y0 at *
  clear q0
  have g0 := (cell_of_row _ _ 0 _ _ _ T0).trans rfl
  have g1 := (cell_of_row _ _ 1 _ _ _ T0).trans rfl
  have g2 := (cell_of_row _ _ 2 _ _ _ T0).trans rfl
  have g3 := (cell_of_row _ _ 3 _ _ _ T0).trans rfl
  have z0 := frozen_of_row y0 w.heap.size 0 _ _ T0
  have z1 := frozen_of_row y0 w.heap.size 1 _ _ T0
  have z2 := frozen_of_row y0 w.heap.size 2 _ _ T0
  have z3 := frozen_of_row y0 w.heap.size 3 _ _ T0
  have T2 := tr_all 0 false 0 false (tr_3 false (tr_1 false T0))
  have E2 := b_all (b := w.heap.size) (x0 := .int .i64 0) (x1 := .bool false) (x2 := .int .i64 0) (x3 := .bool false) (b_set (p := ⟨w.heap.size, 3, none⟩) (v := .bool false) (b_set (p := ⟨w.heap.size, 1, none⟩) (v := .bool false) E (Nat.le_refl _)) (Nat.le_refl _)) (Nat.le_refl _)
  go_wp2
  exact bodyPost_ret (v := .tuple #[tk 0 false 0 false, .slice none 0 0, .int .i64 5]) (results_cell_tmp2 Try.results21 _ _ w.heap.size 48 _ (0, 0) _ rfl T2 Try.underlying48 rfl (by kernel_rfl)) rfl ⟨rfl, E2⟩
set_option maxHeartbeats 4000000 in
set_option maxRecDepth 10000 in
theorem next_short1 (gb off n cap : Nat) (hs : n < 16) (w : World) (c0 : w.cell? ⟨gb, off, none⟩ = some (.int .u8 1)) :
    Calls Try.prog 21 #[.slice (some ⟨gb, off, none⟩) (n + 1) cap] w (RetV (.tuple #[tk 0 false 0 false, .slice none 0 0, .int .i64 5]) w) := by
  have T0 := tr_new w
  have q0 := cell_keep (b_alloc (o := Obj.cells #[.int .i64 0, .bool false, .int .i64 0, .bool false] 48) (Below.refl w.heap.size w)) c0
  have h1 : (1 : Int) ≤ (n + 1 : Nat) := by omega
  have h2 : (0 : Int) < (n + 1 : Nat) := by omega
  have ba : bits .and .u8 1 1 = 1 := by decide
  have bb : bits .and .u8 1 2 = 0 := by decide
  have hl : (n : Int) < 16 := by omega
  go_enter Try.func21, Try.ntmps21
  go_wp2
  go_quiet (fail)
  generalize (if cap = 1 then (some ⟨gb, off, none⟩ : Option Addr) else some ⟨gb, off + 1, none⟩) = sa at *
  have E : Below w.heap.size w ((w.alloc (Obj.cells #[.int .i64 0, .bool false, .int .i64 0, .bool false] 48)).drewN nq) := b_drewN (b_alloc (Below.refl _ _))
  replace T0 := tr_drewN nq T0
  generalize (w.alloc (Obj.cells #[.int .i64 0, .bool false, .int .i64 0, .bool false] 48)).drewN nq = y0 at *
  clear q0
  have g0 := (cell_of_row _ _ 0 _ _ _ T0).trans rfl
  have g1 := (cell_of_row _ _ 1 _ _ _ T0).trans rfl
  have g2 := (cell_of_row _ _ 2 _ _ _ T0).trans rfl
  have g3 := (cell_of_row _ _ 3 _ _ _ T0).trans rfl
  have z0 := frozen_of_row y0 w.heap.size 0 _ _ T0
  have z1 := frozen_of_row y0 w.heap.size 1 _ _ T0
  have z2 := frozen_of_row y0 w.heap.size 2 _ _ T0
  have z3 := frozen_of_row y0 w.heap.size 3 _ _ T0
  have T2 := tr_all 0 false 0 false (tr_3 false (tr_1 true T0))
  have E2 := b_all (b := w.heap.size) (x0 := .int .i64 0) (x1 := .bool false) (x2 := .int .i64 0) (x3 := .bool false) (b_set (p := ⟨w.heap.size, 3, none⟩) (v := .bool false) (b_set (p := ⟨w.heap.size, 1, none⟩) (v := .bool true) E (Nat.le_refl _)) (Nat.le_refl _)) (Nat.le_refl _)
  go_wp2
  exact bodyPost_ret (v := .tuple #[tk 0 false 0 false, .slice none 0 0, .int .i64 5]) (results_cell_tmp2 Try.results21 _ _ w.heap.size 48 _ (0, 0) _ rfl T2 Try.underlying48 rfl (by kernel_rfl)) rfl ⟨rfl, E2⟩
set_option maxHeartbeats 4000000 in
set_option maxRecDepth 10000 in
theorem next_short2 (gb off n cap : Nat) (hs : n < 8) (w : World) (c0 : w.cell? ⟨gb, off, none⟩ = some (.int .u8 2)) :
    Calls Try.prog 21 #[.slice (some ⟨gb, off, none⟩) (n + 1) cap] w (RetV (.tuple #[tk 0 false 0 false, .slice none 0 0, .int .i64 5]) w) := by
  have T0 := tr_new w
  have q0 := cell_keep (b_alloc (o := Obj.cells #[.int .i64 0, .bool false, .int .i64 0, .bool false] 48) (Below.refl w.heap.size w)) c0
  have h1 : (1 : Int) ≤ (n + 1 : Nat) := by omega
  have h2 : (0 : Int) < (n + 1 : Nat) := by omega
  have ba : bits .and .u8 2 1 = 0 := by decide
  have bb : bits .and .u8 2 2 = 2 := by decide
  have hl : (n : Int) < 8 := by omega
  go_enter Try.func21, Try.ntmps21
  go_wp2
  go_quiet (fail)
  generalize (if cap = 1 then (some ⟨gb, off, none⟩ : Option Addr) else some ⟨gb, off + 1, none⟩) = sa at *
  have E : Below w.heap.size w ((w.alloc (Obj.cells #[.int .i64 0, .bool false, .int .i64 0, .bool false] 48)).drewN nq) := b_drewN (b_alloc (Below.refl _ _))
  replace T0 := tr_drewN nq T0
  generalize (w.alloc (Obj.cells #[.int .i64 0, .bool false, .int .i64 0, .bool false] 48)).drewN nq = y0 at *
  clear q0
  have g0 := (cell_of_row _ _ 0 _ _ _ T0).trans rfl
  have g1 := (cell_of_row _ _ 1 _ _ _ T0).trans rfl
  have g2 := (cell_of_row _ _ 2 _ _ _ T0).trans rfl
  have g3 := (cell_of_row _ _ 3 _ _ _ T0).trans rfl
  have z0 := frozen_of_row y0 w.heap.size 0 _ _ T0
  have z1 := frozen_of_row y0 w.heap.size 1 _ _ T0
  have z2 := frozen_of_row y0 w.heap.size 2 _ _ T0
  have z3 := frozen_of_row y0 w.heap.size 3 _ _ T0
  have T2 := tr_all 0 false 0 false (tr_3 true (tr_1 false T0))
  have E2 := b_all (b := w.heap.size) (x0 := .int .i64 0) (x1 := .bool false) (x2 := .int .i64 0) (x3 := .bool false) (b_set (p := ⟨w.heap.size, 3, none⟩) (v := .bool true) (b_set (p := ⟨w.heap.size, 1, none⟩) (v := .bool false) E (Nat.le_refl _)) (Nat.le_refl _)) (Nat.le_refl _)
  go_wp2
  exact bodyPost_ret (v := .tuple #[tk 0 false 0 false, .slice none 0 0, .int .i64 5]) (results_cell_tmp2 Try.results21 _ _ w.heap.size 48 _ (0, 0) _ rfl T2 Try.underlying48 rfl (by kernel_rfl)) rfl ⟨rfl, E2⟩
set_option maxHeartbeats 4000000 in
set_option maxRecDepth 10000 in
theorem next_short3 (gb off n cap : Nat) (hs : n < 16) (w : World) (c0 : w.cell? ⟨gb, off, none⟩ = some (.int .u8 3)) :
    Calls Try.prog 21 #[.slice (some ⟨gb, off, none⟩) (n + 1) cap] w (RetV (.tuple #[tk 0 false 0 false, .slice none 0 0, .int .i64 5]) w) := by
  have T0 := tr_new w
  have q0 := cell_keep (b_alloc (o := Obj.cells #[.int .i64 0, .bool false, .int .i64 0, .bool false] 48) (Below.refl w.heap.size w)) c0
  have h1 : (1 : Int) ≤ (n + 1 : Nat) := by omega
  have h2 : (0 : Int) < (n + 1 : Nat) := by omega
  have ba : bits .and .u8 3 1 = 1 := by decide
  have bb : bits .and .u8 3 2 = 2 := by decide
  have hl : (n : Int) < 16 := by omega
  go_enter Try.func21, Try.ntmps21
  go_wp2
  go_quiet (fail)
  generalize (if cap = 1 then (some ⟨gb, off, none⟩ : Option Addr) else some ⟨gb, off + 1, none⟩) = sa at *
  have E : Below w.heap.size w ((w.alloc (Obj.cells #[.int .i64 0, .bool false, .int .i64 0, .bool false] 48)).drewN nq) := b_drewN (b_alloc (Below.refl _ _))
  replace T0 := tr_drewN nq T0
  generalize (w.alloc (Obj.cells #[.int .i64 0, .bool false, .int .i64 0, .bool false] 48)).drewN nq = y0 at *
  clear q0
  have g0 := (cell_of_row _ _ 0 _ _ _ T0).trans rfl
  have g1 := (cell_of_row _ _ 1 _ _ _ T0).trans rfl
  have g2 := (cell_of_row _ _ 2 _ _ _ T0).trans rfl
  have g3 := (cell_of_row _ _ 3 _ _ _ T0).trans rfl
  have z0 := frozen_of_row y0 w.heap.size 0 _ _ T0
  have z1 := frozen_of_row y0 w.heap.size 1 _ _ T0
  have z2 := frozen_of_row y0 w.heap.size 2 _ _ T0
  have z3 := frozen_of_row y0 w.heap.size 3 _ _ T0
  have T2 := tr_all 0 false 0 false (tr_3 true (tr_1 true T0))
  have E2 := b_all (b := w.heap.size) (x0 := .int .i64 0) (x1 := .bool false) (x2 := .int .i64 0) (x3 := .bool false) (b_set (p := ⟨w.heap.size, 3, none⟩) (v := .bool true) (b_set (p := ⟨w.heap.size, 1, none⟩) (v := .bool true) E (Nat.le_refl _)) (Nat.le_refl _)) (Nat.le_refl _)
  go_wp2
  exact bodyPost_ret (v := .tuple #[tk 0 false 0 false, .slice none 0 0, .int .i64 5]) (results_cell_tmp2 Try.results21 _ _ w.heap.size 48 _ (0, 0) _ rfl T2 Try.underlying48 rfl (by kernel_rfl)) rfl ⟨rfl, E2⟩
end Go.Proofs.Ytfenmkcniiiglaa
