/- Layer 15: a feed's row of cells, the load of a part of a row, and what the program's calls on a feed answer: New, In, Run, Add, Copy. -/
import Derived.Test.YtoohaphaeccafaaConD
namespace Go.Proofs.Ytoohaphaeccafaa
open Go.RowKit Go.Shelf Go.Joins

/- A load of a part of a row. -/
theorem run_loadVar_part {P : Program} (w : World) (g o : Nat) (t ty : TypeId) (row cs : Array Value) (fr : Nat × Nat) (d : TypeDesc) (hg : w.heap[g]? = some (.cells row t fr)) (hp : row.extract o (o + cs.size) = cs)
    (hu : P.underlying ty = some d) (hd : (match d with | .struct _ | .array _ _ => true | _ => false) = true) (hi : (P.info? ty).map (·.size) = some cs.size) :
    (loadVar ty ⟨g, o, none⟩).run P w = .ok (.agg cs) w := by
  have hl : (loadCells ⟨g, o, none⟩ cs.toList.length).run P w = .ok cs.toList.toArray w :=
    run_loadCells_list (P := P) w ⟨g, o, none⟩ cs.toList (fun j v hv => by
      have hadd : (⟨g, o, none⟩ : Addr).add j = ⟨g, o + j, none⟩ := by unfold Addr.add; split <;> simp_all
      rw [hadd, cell_of_row w g (o + j) row t fr hg]
      have hv' : cs[j]? = some v := by simpa using hv
      rw [← hp, Array.getElem?_extract] at hv'
      split at hv'
      · exact hv'
      · cases hv')
  cases hq : P.info? ty with
  | none => simp [hq] at hi
  | some i =>
    have hs : i.size = cs.size := by simpa [hq] using hi
    have hagg : (isAgg ty).run P w = .ok true w := by
      unfold isAgg
      rw [Sem.run_bind, run_underlying hu w]
      cases d <;> simp_all
    simp only [Array.length_toList, Array.toArray_toList] at hl
    simp [loadVar, Sem.run_bind, hagg, sizeOf, typeInfo, hq, hs, hl]

theorem wp_load_part {P : Program} {o : Oper} {a : Act} {w : World} {K : Act → World → Prop} {Q : Exit → Act → World → Prop} (ty : TypeId) (x : Operand) (ho : o.op = .load ty x)
    (g n : Nat) (hx : a.eval x = .pointer (some ⟨g, n, none⟩)) (t : TypeId) (row cs : Array Value) (fr : Nat × Nat) (d : TypeDesc) (hg : w.heap[g]? = some (.cells row t fr)) (hp : row.extract n (n + cs.size) = cs)
    (hu : P.underlying ty = some d) (hd : (match d with | .struct _ | .array _ _ => true | _ => false) = true) (hi : (P.info? ty).map (·.size) = some cs.size)
    (h : K (a.put o.dst (.agg cs)) w) : o.wp P a w K Q := by
  unfold Oper.wp execOp
  simp only [ho, hx, Instr.loadAt, Instr.sureAddr, Sem.run_bind, Sem.run_pure, Result.andThen_ok, run_loadVar_part w g n t ty row cs fr d hg hp hu hd hi]
  exact h

theorem wpList_load_part {P : Program} {ops : Array Oper} {rest : List Oper} {o : Oper} {a : Act} {w : World} {Q : Exit → Act → World → Prop} (hw : Region.wanted o (yielded ops a.tmps) = true) (ty : TypeId) (x : Operand) (ho : o.op = .load ty x)
    (g n : Nat) (hx : a.eval x = .pointer (some ⟨g, n, none⟩)) (t : TypeId) (row cs : Array Value) (fr : Nat × Nat) (d : TypeDesc) (hg : w.heap[g]? = some (.cells row t fr)) (hp : row.extract n (n + cs.size) = cs)
    (hu : P.underlying ty = some d) (hd : (match d with | .struct _ | .array _ _ => true | _ => false) = true) (hi : (P.info? ty).map (·.size) = some cs.size)
    (h : wpList P ops Q rest (a.put o.dst (.agg cs)) w) : wpList P ops Q (o :: rest) a w :=
  wpList_step fun K hK => by
    rw [if_pos hw]
    exact wp_load_part ty x ho g n hx t row cs fr d hg hp hu hd hi (hK _ _ h)

theorem quiet_load_part {P : Program} {ops : Array Oper} {C : World → Prop} {Q : Act → Prop} {rest : List Oper} {o : Oper} {a : Act} (hw : Region.wanted o (yielded ops a.tmps) = true) (ty : TypeId) (x : Operand) (ho : o.op = .load ty x)
    (g n : Nat) (hx : a.eval x = .pointer (some ⟨g, n, none⟩)) (t : TypeId) (row cs : Array Value) (fr : Nat × Nat) (d : TypeDesc) (hg : ∀ w, C w → w.heap[g]? = some (.cells row t fr)) (hp : row.extract n (n + cs.size) = cs)
    (hu : P.underlying ty = some d) (hd : (match d with | .struct _ | .array _ _ => true | _ => false) = true) (hi : (P.info? ty).map (·.size) = some cs.size)
    (h : wpQuiet P ops C Q rest (a.put o.dst (.agg cs))) : wpQuiet P ops C Q (o :: rest) a :=
  wpQuiet_step fun K hK => by
    rw [if_pos hw]
    refine ⟨.agg cs, fun w hC => ?_, hK _ h⟩
    unfold Oper.quietAt execOp
    simp only [ho, hx, Instr.loadAt, Instr.sureAddr, Sem.run_bind, Sem.run_pure, Result.andThen_ok, run_loadVar_part w g n t ty row cs fr d (hg w hC) hp hu hd hi]
    exact ⟨rfl, rfl⟩

/- All blocks but one stand as they stood. -/
structure But (b : Nat) (w w' : World) : Prop where
  os : w'.os = w.os
  tape : w'.tape = w.tape
  output : w'.output = w.output
  size : w.heap.size ≤ w'.heap.size
  block : ∀ k, k < w.heap.size → k ≠ b → w'.heap[k]? = w.heap[k]?
theorem but_refl (b : Nat) (w : World) : But b w w := ⟨rfl, rfl, rfl, Nat.le_refl _, fun _ _ _ => rfl⟩
theorem but_trans {b : Nat} {u v w : World} (h : But b u v) (k : But b v w) : But b u w :=
  ⟨k.os.trans h.os, k.tape.trans h.tape, k.output.trans h.output, Nat.le_trans h.size k.size, fun i hi hb => (k.block i (Nat.lt_of_lt_of_le hi h.size) hb).trans (h.block i hi hb)⟩
theorem but_below {b : Nat} {w w' : World} (h : Below w.heap.size w w') : But b w w' := ⟨h.os, h.tape, h.output, h.size, fun i hi _ => h.block i hi⟩
theorem but_set {b i : Nat} {w : World} {v : Value} : But b w (w.setCell ⟨b, i, none⟩ v) :=
  ⟨rfl, rfl, rfl, by simp [World.setCell], fun k _ hk => heap_setCell_other w ⟨b, i, none⟩ k v hk⟩
theorem but_row {b : Nat} {w w' : World} (h : But b w w') {k : Nat} {o : Obj} (hk : k ≠ b) (c : w.heap[k]? = some o) : w'.heap[k]? = some o :=
  (h.block k (Array.getElem?_eq_some_iff.1 c).1 hk).trans c
theorem below_but {a w w' : World} {b : Nat} (E : Below a.heap.size a w) (hb : a.heap.size ≤ b) (h : But b w w') : Below a.heap.size a w' :=
  ⟨h.os.trans E.os, h.tape.trans E.tape, h.output.trans E.output, Nat.le_trans E.size h.size, fun k hk => (h.block k (Nat.lt_of_lt_of_le hk E.size) (by omega)).trans (E.block k hk)⟩
theorem row_keep {w w' : World} (hb : Below w.heap.size w w') {k : Nat} {o : Obj} (c : w.heap[k]? = some o) : w'.heap[k]? = some o :=
  (hb.block k (Array.getElem?_eq_some_iff.1 c).1).trans c

/-- Block b is a feed: its configuration, the last thrust, how many in a row were clipped. -/
abbrev FR (w : World) (b : Nat) (x : Nat → Int) (l r : Int) : Prop := w.heap[b]? = some (.cells #[.int .i64 (x 0), .int .i64 (x 1), .int .i64 (x 2), .int .i64 (x 3), .int .i64 (x 4), .int .i64 (x 5), .int .i64 (x 6), .int .i64 (x 7), .int .i64 (x 8), .int .i64 (x 9), .int .i64 (x 10), .int .i64 (x 11), .int .i64 (x 12), .int .i64 (x 13), .int .i64 (x 14), .int .i64 (x 15), .int .i64 (x 16), .int .i64 (x 17), .int .i64 (x 18), .int .i64 (x 19), .int .i64 (x 20), .int .i64 (x 21), .int .i64 (x 22), .int .i64 (x 23), .int .i64 (x 24), .int .i64 (x 25), .int .i64 (x 26), .int .i64 (x 27), .int .i64 (x 28), .int .i64 (x 29), .int .i64 (x 30), .int .i64 l, .int .i64 r] 53 (0, 0))
theorem fr_31 {w : World} {b : Nat} {x : Nat → Int} {l r v : Int} (h : FR w b x l r) : FR (w.setCell ⟨b, 31, none⟩ (.int .i64 v)) b x v r := (heap_setCell_same w b 31 _ _ _ h).trans rfl
theorem fr_32 {w : World} {b : Nat} {x : Nat → Int} {l r v : Int} (h : FR w b x l r) : FR (w.setCell ⟨b, 32, none⟩ (.int .i64 v)) b x l v := (heap_setCell_same w b 32 _ _ _ h).trans rfl
theorem fr_part {x : Nat → Int} {l r : Int} : (#[.int .i64 (x 0), .int .i64 (x 1), .int .i64 (x 2), .int .i64 (x 3), .int .i64 (x 4), .int .i64 (x 5), .int .i64 (x 6), .int .i64 (x 7), .int .i64 (x 8), .int .i64 (x 9), .int .i64 (x 10), .int .i64 (x 11), .int .i64 (x 12), .int .i64 (x 13), .int .i64 (x 14), .int .i64 (x 15), .int .i64 (x 16), .int .i64 (x 17), .int .i64 (x 18), .int .i64 (x 19), .int .i64 (x 20), .int .i64 (x 21), .int .i64 (x 22), .int .i64 (x 23), .int .i64 (x 24), .int .i64 (x 25), .int .i64 (x 26), .int .i64 (x 27), .int .i64 (x 28), .int .i64 (x 29), .int .i64 (x 30), .int .i64 l, .int .i64 r] : Array Value).extract 0 (0 + (#[.int .i64 (x 0), .int .i64 (x 1), .int .i64 (x 2), .int .i64 (x 3), .int .i64 (x 4), .int .i64 (x 5), .int .i64 (x 6), .int .i64 (x 7), .int .i64 (x 8), .int .i64 (x 9), .int .i64 (x 10), .int .i64 (x 11), .int .i64 (x 12), .int .i64 (x 13), .int .i64 (x 14), .int .i64 (x 15), .int .i64 (x 16), .int .i64 (x 17), .int .i64 (x 18), .int .i64 (x 19), .int .i64 (x 20), .int .i64 (x 21), .int .i64 (x 22), .int .i64 (x 23), .int .i64 (x 24), .int .i64 (x 25), .int .i64 (x 26), .int .i64 (x 27), .int .i64 (x 28), .int .i64 (x 29), .int .i64 (x 30)] : Array Value).size) = #[.int .i64 (x 0), .int .i64 (x 1), .int .i64 (x 2), .int .i64 (x 3), .int .i64 (x 4), .int .i64 (x 5), .int .i64 (x 6), .int .i64 (x 7), .int .i64 (x 8), .int .i64 (x 9), .int .i64 (x 10), .int .i64 (x 11), .int .i64 (x 12), .int .i64 (x 13), .int .i64 (x 14), .int .i64 (x 15), .int .i64 (x 16), .int .i64 (x 17), .int .i64 (x 18), .int .i64 (x 19), .int .i64 (x 20), .int .i64 (x 21), .int .i64 (x 22), .int .i64 (x 23), .int .i64 (x 24), .int .i64 (x 25), .int .i64 (x 26), .int .i64 (x 27), .int .i64 (x 28), .int .i64 (x 29), .int .i64 (x 30)] := by kernel_rfl

/- What comes of a count. -/
def ap (x : Nat → Int) (l n : Int) : Int := if the x n = 0 then thv x n else l
def ah (x : Nat → Int) (n : Int) : Bool := !decide (the x n = 0)
def ar (x : Nat → Int) (r n : Int) : Int := if the x n = 0 then 0 else r + 1
def aq (x : Nat → Int) (r n : Int) : Bool := ah x n && decide (x 27 < r + 1)
theorem a_ok {x : Nat → Int} {n : Int} (h : the x n = 0) (l r : Int) : ap x l n = thv x n ∧ ah x n = false ∧ ar x r n = 0 ∧ aq x r n = false := by
  unfold aq ap ah ar
  rw [if_pos h, if_pos h, decide_eq_true h]
  exact ⟨rfl, rfl, rfl, rfl⟩
theorem a_no {x : Nat → Int} {n : Int} (h : ¬ the x n = 0) (l r : Int) : ap x l n = l ∧ ah x n = true ∧ ar x r n = r + 1 ∧ aq x r n = decide (x 27 < r + 1) := by
  unfold aq ap ah ar
  rw [if_neg h, if_neg h, decide_eq_false h]
  exact ⟨rfl, rfl, rfl, rfl⟩
theorem the_or {x : Nat → Int} (c : cks x = 0) (n : Int) : the x n = 0 ∨ the x n = 2 := by
  cases i : inb n (1 - x 26) (x 26 - 1)
  · exact Or.inr (th_out c i).2
  · exact Or.inl (th_ok c i).2

set_option maxHeartbeats 8000000 in
set_option maxRecDepth 20000 in
theorem new_ok (x : Nat → Int) (hx : C64 x) (c : cks x = 0) (w : World) : Calls Try.prog 6 #[cv x] w fun e w' => ∃ b, e = .returned (.tuple #[.pointer (some ⟨b, 0, none⟩), .int .i64 0]) ∧ w.heap.size ≤ b ∧ FR w' b x 0 0 ∧ Below w.heap.size w w' := by
  have ck := check_any x hx
  rw [c] at ck
  clear c
  have E : Below w.heap.size w (w.alloc (Obj.cells #[.int .i64 (x 0), .int .i64 (x 1), .int .i64 (x 2), .int .i64 (x 3), .int .i64 (x 4), .int .i64 (x 5), .int .i64 (x 6), .int .i64 (x 7), .int .i64 (x 8), .int .i64 (x 9), .int .i64 (x 10), .int .i64 (x 11), .int .i64 (x 12), .int .i64 (x 13), .int .i64 (x 14), .int .i64 (x 15), .int .i64 (x 16), .int .i64 (x 17), .int .i64 (x 18), .int .i64 (x 19), .int .i64 (x 20), .int .i64 (x 21), .int .i64 (x 22), .int .i64 (x 23), .int .i64 (x 24), .int .i64 (x 25), .int .i64 (x 26), .int .i64 (x 27), .int .i64 (x 28), .int .i64 (x 29), .int .i64 (x 30)] 25)) := b_alloc (Below.refl _ _)
  have cr : CR (w.alloc (Obj.cells #[.int .i64 (x 0), .int .i64 (x 1), .int .i64 (x 2), .int .i64 (x 3), .int .i64 (x 4), .int .i64 (x 5), .int .i64 (x 6), .int .i64 (x 7), .int .i64 (x 8), .int .i64 (x 9), .int .i64 (x 10), .int .i64 (x 11), .int .i64 (x 12), .int .i64 (x 13), .int .i64 (x 14), .int .i64 (x 15), .int .i64 (x 16), .int .i64 (x 17), .int .i64 (x 18), .int .i64 (x 19), .int .i64 (x 20), .int .i64 (x 21), .int .i64 (x 22), .int .i64 (x 23), .int .i64 (x 24), .int .i64 (x 25), .int .i64 (x 26), .int .i64 (x 27), .int .i64 (x 28), .int .i64 (x 29), .int .i64 (x 30)] 25)) w.heap.size x := cr_new
  go_enter Try.func6, Try.ntmps6
  go_wp2_with (with_reducible refine stop_at (some 4) rfl ?_)
  generalize (w.alloc (Obj.cells #[.int .i64 (x 0), .int .i64 (x 1), .int .i64 (x 2), .int .i64 (x 3), .int .i64 (x 4), .int .i64 (x 5), .int .i64 (x 6), .int .i64 (x 7), .int .i64 (x 8), .int .i64 (x 9), .int .i64 (x 10), .int .i64 (x 11), .int .i64 (x 12), .int .i64 (x 13), .int .i64 (x 14), .int .i64 (x 15), .int .i64 (x 16), .int .i64 (x 17), .int .i64 (x 18), .int .i64 (x 19), .int .i64 (x 20), .int .i64 (x 21), .int .i64 (x 22), .int .i64 (x 23), .int .i64 (x 24), .int .i64 (x 25), .int .i64 (x 26), .int .i64 (x 27), .int .i64 (x 28), .int .i64 (x 29), .int .i64 (x 30)] 25)) = z0 at *
  refine unstop ?_
  refine wpList_load_row rfl 25 (.tmp 1) rfl w.heap.size rfl 25 _ (0, 0) _ cr Try.underlying25 rfl (by kernel_rfl) ?_
  go_wp2_with fail
  refine (ck _).mono ?_
  rintro e y0 ⟨rfl, hb⟩
  replace cr := cr_keep hb cr
  replace E := b_trans E hb
  clear hb ck
  go_wp2_with (with_reducible refine stop_at (some 7) rfl ?_)
  refine unstop ?_
  refine wpList_load_row rfl 25 (.tmp 1) rfl w.heap.size rfl 25 _ (0, 0) _ cr Try.underlying25 rfl (by kernel_rfl) ?_
  go_wp2
  go_ret2
  exact ⟨_, rfl, E.size, heap_alloc_last _ _, b_alloc E⟩
set_option maxHeartbeats 8000000 in
set_option maxRecDepth 20000 in
theorem new_bad (x : Nat → Int) (hx : C64 x) (c : ¬ cks x = 0) (w : World) : Calls Try.prog 6 #[cv x] w (RetV (.tuple #[.pointer none, .int .i64 1]) w) := by
  have ck := check_any x hx
  generalize cks x = m at *
  have E : Below w.heap.size w (w.alloc (Obj.cells #[.int .i64 (x 0), .int .i64 (x 1), .int .i64 (x 2), .int .i64 (x 3), .int .i64 (x 4), .int .i64 (x 5), .int .i64 (x 6), .int .i64 (x 7), .int .i64 (x 8), .int .i64 (x 9), .int .i64 (x 10), .int .i64 (x 11), .int .i64 (x 12), .int .i64 (x 13), .int .i64 (x 14), .int .i64 (x 15), .int .i64 (x 16), .int .i64 (x 17), .int .i64 (x 18), .int .i64 (x 19), .int .i64 (x 20), .int .i64 (x 21), .int .i64 (x 22), .int .i64 (x 23), .int .i64 (x 24), .int .i64 (x 25), .int .i64 (x 26), .int .i64 (x 27), .int .i64 (x 28), .int .i64 (x 29), .int .i64 (x 30)] 25)) := b_alloc (Below.refl _ _)
  have cr : CR (w.alloc (Obj.cells #[.int .i64 (x 0), .int .i64 (x 1), .int .i64 (x 2), .int .i64 (x 3), .int .i64 (x 4), .int .i64 (x 5), .int .i64 (x 6), .int .i64 (x 7), .int .i64 (x 8), .int .i64 (x 9), .int .i64 (x 10), .int .i64 (x 11), .int .i64 (x 12), .int .i64 (x 13), .int .i64 (x 14), .int .i64 (x 15), .int .i64 (x 16), .int .i64 (x 17), .int .i64 (x 18), .int .i64 (x 19), .int .i64 (x 20), .int .i64 (x 21), .int .i64 (x 22), .int .i64 (x 23), .int .i64 (x 24), .int .i64 (x 25), .int .i64 (x 26), .int .i64 (x 27), .int .i64 (x 28), .int .i64 (x 29), .int .i64 (x 30)] 25)) w.heap.size x := cr_new
  go_enter Try.func6, Try.ntmps6
  go_wp2_with (with_reducible refine stop_at (some 4) rfl ?_)
  generalize (w.alloc (Obj.cells #[.int .i64 (x 0), .int .i64 (x 1), .int .i64 (x 2), .int .i64 (x 3), .int .i64 (x 4), .int .i64 (x 5), .int .i64 (x 6), .int .i64 (x 7), .int .i64 (x 8), .int .i64 (x 9), .int .i64 (x 10), .int .i64 (x 11), .int .i64 (x 12), .int .i64 (x 13), .int .i64 (x 14), .int .i64 (x 15), .int .i64 (x 16), .int .i64 (x 17), .int .i64 (x 18), .int .i64 (x 19), .int .i64 (x 20), .int .i64 (x 21), .int .i64 (x 22), .int .i64 (x 23), .int .i64 (x 24), .int .i64 (x 25), .int .i64 (x 26), .int .i64 (x 27), .int .i64 (x 28), .int .i64 (x 29), .int .i64 (x 30)] 25)) = z0 at *
  refine unstop ?_
  refine wpList_load_row rfl 25 (.tmp 1) rfl w.heap.size rfl 25 _ (0, 0) _ cr Try.underlying25 rfl (by kernel_rfl) ?_
  go_wp2_with fail
  refine (ck _).mono ?_
  rintro e y0 ⟨rfl, hb⟩
  replace E := b_trans E hb
  clear hb ck cr
  go_wp2
  go_ret2
  exact ⟨rfl, E⟩
set_option maxHeartbeats 8000000 in
set_option maxRecDepth 20000 in
theorem run_any (b : Nat) (x : Nat → Int) (l r : Int) (w : World) (h : FR w b x l r) : Calls Try.prog 11 #[.pointer (some ⟨b, 0, none⟩)] w (RetV (.int .i64 r) w) := by
  have g32 : w.cell? ⟨b, 32, none⟩ = some (.int .i64 r) := (cell_of_row _ _ 32 _ _ _ h).trans rfl
  clear h
  go_enter Try.func11, Try.ntmps11
  go_wp2
  go_ret
  exact ⟨rfl, Below.refl _ _⟩
set_option maxHeartbeats 8000000 in
set_option maxRecDepth 20000 in
theorem add_held (b : Nat) (x : Nat → Int) (l r : Int) (w : World) (h : FR w b x l r) : Calls Try.prog 12 #[.pointer (some ⟨b, 0, none⟩), .bool true] w (RetV (tv (x 3) (x 4) (x 5)) w) := by
  have g0 : (w.alloc (Obj.cells #[.int .i64 0, .int .i64 0, .int .i64 0] 23)).cell? ⟨b, 3, none⟩ = some (.int .i64 (x 3)) := (cell_of_row _ _ 3 _ _ _ (row_keep (b_alloc (Below.refl _ _)) h)).trans rfl
  have g1 : (w.alloc (Obj.cells #[.int .i64 0, .int .i64 0, .int .i64 0] 23)).cell? ⟨b, 4, none⟩ = some (.int .i64 (x 4)) := (cell_of_row _ _ 4 _ _ _ (row_keep (b_alloc (Below.refl _ _)) h)).trans rfl
  have g2 : (w.alloc (Obj.cells #[.int .i64 0, .int .i64 0, .int .i64 0] 23)).cell? ⟨b, 5, none⟩ = some (.int .i64 (x 5)) := (cell_of_row _ _ 5 _ _ _ (row_keep (b_alloc (Below.refl _ _)) h)).trans rfl
  clear h
  go_enter Try.func12, Try.ntmps12
  go_wp2
  exact bodyPost_ret (v := tv (x 3) (x 4) (x 5)) (by simp [results, Try.results12, go_sem]) rfl ⟨rfl, b_alloc (Below.refl _ _)⟩
set_option maxHeartbeats 8000000 in
set_option maxRecDepth 20000 in
theorem add_not (b : Nat) (x : Nat → Int) (l r : Int) (w : World) (h : FR w b x l r) : Calls Try.prog 12 #[.pointer (some ⟨b, 0, none⟩), .bool false] w (RetV (tv (x 0) (x 1) (x 2)) w) := by
  have g0 : (w.alloc (Obj.cells #[.int .i64 0, .int .i64 0, .int .i64 0] 23)).cell? ⟨b, 0, none⟩ = some (.int .i64 (x 0)) := (cell_of_row _ _ 0 _ _ _ (row_keep (b_alloc (Below.refl _ _)) h)).trans rfl
  have g1 : (w.alloc (Obj.cells #[.int .i64 0, .int .i64 0, .int .i64 0] 23)).cell? ⟨b, 1, none⟩ = some (.int .i64 (x 1)) := (cell_of_row _ _ 1 _ _ _ (row_keep (b_alloc (Below.refl _ _)) h)).trans rfl
  have g2 : (w.alloc (Obj.cells #[.int .i64 0, .int .i64 0, .int .i64 0] 23)).cell? ⟨b, 2, none⟩ = some (.int .i64 (x 2)) := (cell_of_row _ _ 2 _ _ _ (row_keep (b_alloc (Below.refl _ _)) h)).trans rfl
  clear h
  go_enter Try.func12, Try.ntmps12
  go_wp2
  exact bodyPost_ret (v := tv (x 0) (x 1) (x 2)) (by simp [results, Try.results12, go_sem]) rfl ⟨rfl, b_alloc (Below.refl _ _)⟩
set_option maxHeartbeats 8000000 in
set_option maxRecDepth 20000 in
theorem in_ok (b : Nat) (x : Nat → Int) (hx : C64 x) (l r n : Int) (_c : cks x = 0) (t : the x n = 0) (w : World) (h : FR w b x l r) : Calls Try.prog 9 #[.pointer (some ⟨b, 0, none⟩), .int .i64 n] w fun e w' => e = .returned (.tuple #[.int .i64 (thv x n), .bool false, .bool false]) ∧ FR w' b x (thv x n) 0 ∧ But b w w' := by
  have ct := thrust_any x hx n
  rw [t] at ct
  clear _c t
  have B := but_refl b w
  generalize thv x n = p at *
  go_enter Try.func9, Try.ntmps9
  go_wp2_with (with_reducible refine stop_at (some 12) rfl ?_)
  refine unstop ?_
  refine wpList_load_part rfl 25 (.tmp 11) rfl b 0 rfl 53 _ _ (0, 0) _ h fr_part Try.underlying25 rfl (by kernel_rfl) ?_
  go_wp2_with fail
  refine (ct _).mono ?_
  rintro e y0 ⟨rfl, hb⟩
  replace h := row_keep hb h
  replace B := but_trans B (but_below hb)
  clear hb ct
  have g31 : y0.cell? ⟨b, 31, none⟩ = some (.int .i64 l) := (cell_of_row _ _ 31 _ _ _ h).trans rfl
  have g32 : y0.cell? ⟨b, 32, none⟩ = some (.int .i64 r) := (cell_of_row _ _ 32 _ _ _ h).trans rfl
  have z31 := frozen_of_row y0 b 31 _ _ h
  have z32 := frozen_of_row y0 b 32 _ _ h
  go_wp2
  go_ret3
  exact ⟨rfl, fr_32 (fr_31 h), but_trans B (but_trans but_set but_set)⟩
set_option maxHeartbeats 8000000 in
set_option maxRecDepth 20000 in
theorem in_held (b : Nat) (x : Nat → Int) (hx : C64 x) (l r n : Int) (_c : cks x = 0) (t : the x n = 2) (r0 : 0 ≤ r) (r1 : r ≤ 1000000) (w : World) (h : FR w b x l r) : Calls Try.prog 9 #[.pointer (some ⟨b, 0, none⟩), .int .i64 n] w fun e w' => e = .returned (.tuple #[.int .i64 l, .bool true, .bool (decide (x 27 < r + 1))]) ∧ FR w' b x l (r + 1) ∧ But b w w' := by
  have ct := thrust_any x hx n
  rw [t] at ct
  clear _c t
  have B := but_refl b w
  generalize thv x n = p at *
  have ws : IntKind.i64.wrap (r + 1) = r + 1 := by rw [IntKind.wrap_i64]; omega
  go_enter Try.func9, Try.ntmps9
  go_wp2_with (with_reducible refine stop_at (some 12) rfl ?_)
  refine unstop ?_
  refine wpList_load_part rfl 25 (.tmp 11) rfl b 0 rfl 53 _ _ (0, 0) _ h fr_part Try.underlying25 rfl (by kernel_rfl) ?_
  go_wp2_with fail
  refine (ct _).mono ?_
  rintro e y0 ⟨rfl, hb⟩
  replace h := row_keep hb h
  replace B := but_trans B (but_below hb)
  clear hb ct
  have g32 : y0.cell? ⟨b, 32, none⟩ = some (.int .i64 r) := (cell_of_row _ _ 32 _ _ _ h).trans rfl
  have z32 := frozen_of_row y0 b 32 _ _ h
  go_wp2_with fail
  replace h := fr_32 (v := r + 1) h
  replace B := but_trans B (but_set (i := 32) (v := .int .i64 (r + 1)))
  clear g32 z32 ws
  generalize y0.setCell ⟨b, 32, none⟩ (.int .i64 (r + 1)) = y1 at *
  have g27 := cell_regrown (show y1.cell? ⟨b, 27, none⟩ = some (.int .i64 (x 27)) from (cell_of_row _ _ 27 _ _ _ h).trans rfl)
  have g31 := cell_regrown (show y1.cell? ⟨b, 31, none⟩ = some (.int .i64 l) from (cell_of_row _ _ 31 _ _ _ h).trans rfl)
  have g32 := cell_regrown (show y1.cell? ⟨b, 32, none⟩ = some (.int .i64 (r + 1)) from (cell_of_row _ _ 32 _ _ _ h).trans rfl)
  refine wp_region_quiet_below (by kernel_rfl) (by kernel_rfl) ?_
  repeat (with_reducible refine wpQuiet_step (fun KQ hKQ => ?_); go_simp; with_reducible refine hKQ _ ?_; clear hKQ KQ)
  refine wpQuiet_nil ?_
  intro _ hw'
  obtain ⟨⟨dq, osq⟩, hw''⟩ := hw'
  subst hw''
  replace B := but_trans B (but_below (below_regrown _ dq osq))
  replace h := row_keep (below_regrown _ dq osq) h
  clear g27 g31 g32
  generalize Sort.grow (redrawn y1 dq) osq = y2 at *
  go_wp2
  go_ret3
  exact ⟨rfl, h, B⟩
set_option maxHeartbeats 8000000 in
set_option maxRecDepth 20000 in
theorem copy_any (b : Nat) (x : Nat → Int) (l r : Int) (w : World) (h : FR w b x l r) : Calls Try.prog 8 #[.pointer (some ⟨b, 0, none⟩)] w fun e w' => ∃ n, e = .returned (.pointer (some ⟨n, 0, none⟩)) ∧ w.heap.size ≤ n ∧ FR w' n x l r ∧ Below w.heap.size w w' := by
  go_enter Try.func8, Try.ntmps8
  go_wp2
  refine region_each [3, 4, 5, 6, 7, 8, 9, 10] (fun i_ X_ U_ => match i_ with | 0 => X_ = .pointer (some ⟨b, 0, none⟩) | 1 => X_ = .pointer (some ⟨b, 0, none⟩) | 2 => X_ = .pointer (some ⟨b, 0, none⟩) | 3 => X_ = .agg #[.int .i64 (x 0), .int .i64 (x 1), .int .i64 (x 2), .int .i64 (x 3), .int .i64 (x 4), .int .i64 (x 5), .int .i64 (x 6), .int .i64 (x 7), .int .i64 (x 8), .int .i64 (x 9), .int .i64 (x 10), .int .i64 (x 11), .int .i64 (x 12), .int .i64 (x 13), .int .i64 (x 14), .int .i64 (x 15), .int .i64 (x 16), .int .i64 (x 17), .int .i64 (x 18), .int .i64 (x 19), .int .i64 (x 20), .int .i64 (x 21), .int .i64 (x 22), .int .i64 (x 23), .int .i64 (x 24), .int .i64 (x 25), .int .i64 (x 26), .int .i64 (x 27), .int .i64 (x 28), .int .i64 (x 29), .int .i64 (x 30)] | 4 => X_ = .pointer (some ⟨b, 0, none⟩) | 5 => X_ = .pointer (some ⟨b, 0, none⟩) | 6 => X_ = .pointer (some ⟨b, 31, none⟩) | 7 => X_ = .agg #[.int .i64 l, .int .i64 r] | _ => True) (fun i_ => false) (by kernel_rfl) (by kernel_rfl) (by kernel_rfl) (by kernel_rfl) (by kernel_rfl) ?_ (fun i x w hi ha h => by cases ha) ?_ ?_
  · refine swp (upS (upS (upS (upS (upS (upS (upS (upS up0 ?_) ?_) ?_) ?_) ?_) ?_) ?_) ?_)
    all_goals exact fun _ _ _ h _ => h
  · refine upS (upS (upS (upS (upS (upS (upS (upS up0 ?_) ?_) ?_) ?_) ?_) ?_) ?_) ?_
    all_goals intro v f w' hb hv hB hd
    · have b0 : f.tmps[0]? = some (.pointer (some ⟨b, 0, none⟩)) := (hb 0 (by decide)).trans rfl
      clear hb hv hd
      refine wpOp_step rfl fun K hK => ?_
      go_simp
      exact hK _ _ ⟨_, rfl, Below.refl _ _, rfl, fun h => absurd h (by decide)⟩
    · have d0 := got (hv 0 3 rfl) (hd 0 (by kernel_rfl))
      clear hb hv hd
      refine wpOp_step rfl fun K hK => ?_
      go_simp
      exact hK _ _ ⟨_, rfl, Below.refl _ _, rfl, fun h => absurd h (by decide)⟩
    · have d1 := got (hv 1 4 rfl) (hd 1 (by kernel_rfl))
      clear hb hv hd
      refine wpOp_step rfl fun K hK => ?_
      go_simp
      exact hK _ _ ⟨_, rfl, Below.refl _ _, rfl, fun h => absurd h (by decide)⟩
    · have d2 := got (hv 2 5 rfl) (hd 2 (by kernel_rfl))
      clear hb hv hd
      refine wpOp_step rfl fun K hK => ?_
      refine Eq.mpr (if_pos rfl) ?_
      refine wp_load_part 25 (.tmp 5) rfl b 0 (eval_tmp d2) 53 _ _ (0, 0) _ (row_keep hB h) fr_part Try.underlying25 rfl (by kernel_rfl) ?_
      exact hK _ _ ⟨_, rfl, Below.refl _ _, rfl, fun h => absurd h (by decide)⟩
    · have b0 : f.tmps[0]? = some (.pointer (some ⟨b, 0, none⟩)) := (hb 0 (by decide)).trans rfl
      clear hb hv hd
      refine wpOp_step rfl fun K hK => ?_
      go_simp
      exact hK _ _ ⟨_, rfl, Below.refl _ _, rfl, fun h => absurd h (by decide)⟩
    · have d4 := got (hv 4 7 rfl) (hd 4 (by kernel_rfl))
      clear hb hv hd
      refine wpOp_step rfl fun K hK => ?_
      go_simp
      exact hK _ _ ⟨_, rfl, Below.refl _ _, rfl, fun h => absurd h (by decide)⟩
    · have d5 := got (hv 5 8 rfl) (hd 5 (by kernel_rfl))
      clear hb hv hd
      refine wpOp_step rfl fun K hK => ?_
      go_simp
      exact hK _ _ ⟨_, rfl, Below.refl _ _, rfl, fun h => absurd h (by decide)⟩
    · have d6 := got (hv 6 9 rfl) (hd 6 (by kernel_rfl))
      clear hb hv hd
      have q31 : w'.cell? ⟨b, 31, none⟩ = some (.int .i64 l) := (cell_of_row _ _ 31 _ _ _ (row_keep hB h)).trans rfl
      have q32 : w'.cell? ⟨b, 32, none⟩ = some (.int .i64 r) := (cell_of_row _ _ 32 _ _ _ (row_keep hB h)).trans rfl
      refine wpOp_step rfl fun K hK => ?_
      go_simp
      exact hK _ _ ⟨_, rfl, Below.refl _ _, rfl, fun h => absurd h (by decide)⟩
  · intro v w' hB hF hD
    have F0 : v 0 = _ := hF 0 (by simp)
    have F1 : v 1 = _ := hF 1 (by simp)
    have F2 : v 2 = _ := hF 2 (by simp)
    have F3 : v 3 = _ := hF 3 (by simp)
    have F4 : v 4 = _ := hF 4 (by simp)
    have F5 : v 5 = _ := hF 5 (by simp)
    have F6 : v 6 = _ := hF 6 (by simp)
    have F7 : v 7 = _ := hF 7 (by simp)
    clear hF
    simp only [frOf, frGo, Nat.zero_add, Nat.reduceAdd, F0, F1, F2, F3, F4, F5, F6, F7]
    clear F0 F1 F2 F3 F4 F5 F6 F7 hD
    go_wp2
    go_ret
    exact ⟨_, rfl, hB.size, heap_alloc_last _ _, b_alloc hB⟩
end Go.Proofs.Ytoohaphaeccafaa
