/- Layer 13: the program's table of rules, the first that isn't kept, the usual configuration, a count's thrust. -/
import Derived.Test.YtoohaphaeccafaaConB
import Derived.Deep.WholeRow
namespace Go.Proofs.Ytoohaphaeccafaa
open Go.RowKit Go.Shelf Go.Joins

/-- The table of rules. -/
def rv : Value := .agg #[.int .i64 1, (.func (.func 25) #[] #[]), .int .i64 2, (.func (.func 27) #[] #[]), .int .i64 3, (.func (.func 28) #[] #[]), .int .i64 4, (.func (.func 30) #[] #[]), .int .i64 5, (.func (.func 31) #[] #[]), .int .i64 6, (.func (.func 33) #[] #[]), .int .i64 7, (.func (.func 34) #[] #[]), .int .i64 8, (.func (.func 35) #[] #[]), .int .i64 9, (.func (.func 36) #[] #[]), .int .i64 10, (.func (.func 37) #[] #[]), .int .i64 11, (.func (.func 38) #[] #[]), .int .i64 12, (.func (.func 39) #[] #[]), .int .i64 13, (.func (.func 40) #[] #[]), .int .i64 14, (.func (.func 41) #[] #[])]
theorem ix_rules : (∀ w, (Instr.index 62 rv (.int .i64 0)).run Try.prog w = .ok (.agg #[.int .i64 1, (.func (.func 25) #[] #[])]) w) ∧ (∀ w, (Instr.index 62 rv (.int .i64 1)).run Try.prog w = .ok (.agg #[.int .i64 2, (.func (.func 27) #[] #[])]) w) ∧ (∀ w, (Instr.index 62 rv (.int .i64 2)).run Try.prog w = .ok (.agg #[.int .i64 3, (.func (.func 28) #[] #[])]) w) ∧ (∀ w, (Instr.index 62 rv (.int .i64 3)).run Try.prog w = .ok (.agg #[.int .i64 4, (.func (.func 30) #[] #[])]) w) ∧ (∀ w, (Instr.index 62 rv (.int .i64 4)).run Try.prog w = .ok (.agg #[.int .i64 5, (.func (.func 31) #[] #[])]) w) ∧ (∀ w, (Instr.index 62 rv (.int .i64 5)).run Try.prog w = .ok (.agg #[.int .i64 6, (.func (.func 33) #[] #[])]) w) ∧ (∀ w, (Instr.index 62 rv (.int .i64 6)).run Try.prog w = .ok (.agg #[.int .i64 7, (.func (.func 34) #[] #[])]) w) ∧ (∀ w, (Instr.index 62 rv (.int .i64 7)).run Try.prog w = .ok (.agg #[.int .i64 8, (.func (.func 35) #[] #[])]) w) ∧ (∀ w, (Instr.index 62 rv (.int .i64 8)).run Try.prog w = .ok (.agg #[.int .i64 9, (.func (.func 36) #[] #[])]) w) ∧ (∀ w, (Instr.index 62 rv (.int .i64 9)).run Try.prog w = .ok (.agg #[.int .i64 10, (.func (.func 37) #[] #[])]) w) ∧ (∀ w, (Instr.index 62 rv (.int .i64 10)).run Try.prog w = .ok (.agg #[.int .i64 11, (.func (.func 38) #[] #[])]) w) ∧ (∀ w, (Instr.index 62 rv (.int .i64 11)).run Try.prog w = .ok (.agg #[.int .i64 12, (.func (.func 39) #[] #[])]) w) ∧ (∀ w, (Instr.index 62 rv (.int .i64 12)).run Try.prog w = .ok (.agg #[.int .i64 13, (.func (.func 40) #[] #[])]) w) ∧ (∀ w, (Instr.index 62 rv (.int .i64 13)).run Try.prog w = .ok (.agg #[.int .i64 14, (.func (.func 41) #[] #[])]) w) := ⟨fun _ => by kernel_rfl, fun _ => by kernel_rfl, fun _ => by kernel_rfl, fun _ => by kernel_rfl, fun _ => by kernel_rfl, fun _ => by kernel_rfl, fun _ => by kernel_rfl, fun _ => by kernel_rfl, fun _ => by kernel_rfl, fun _ => by kernel_rfl, fun _ => by kernel_rfl, fun _ => by kernel_rfl, fun _ => by kernel_rfl, fun _ => by kernel_rfl⟩
/-- Block b is a variable that holds a configuration. -/
abbrev CR (w : World) (b : Nat) (x : Nat → Int) : Prop := w.heap[b]? = some (.cells #[.int .i64 (x 0), .int .i64 (x 1), .int .i64 (x 2), .int .i64 (x 3), .int .i64 (x 4), .int .i64 (x 5), .int .i64 (x 6), .int .i64 (x 7), .int .i64 (x 8), .int .i64 (x 9), .int .i64 (x 10), .int .i64 (x 11), .int .i64 (x 12), .int .i64 (x 13), .int .i64 (x 14), .int .i64 (x 15), .int .i64 (x 16), .int .i64 (x 17), .int .i64 (x 18), .int .i64 (x 19), .int .i64 (x 20), .int .i64 (x 21), .int .i64 (x 22), .int .i64 (x 23), .int .i64 (x 24), .int .i64 (x 25), .int .i64 (x 26), .int .i64 (x 27), .int .i64 (x 28), .int .i64 (x 29), .int .i64 (x 30)] 25 (0, 0))
theorem cr_lt {w : World} {b : Nat} {x : Nat → Int} (c : CR w b x) : b < w.heap.size := (Array.getElem?_eq_some_iff.1 c).1
theorem cr_keep {w w' : World} (hb : Below w.heap.size w w') {b : Nat} {x : Nat → Int} (c : CR w b x) : CR w' b x := (hb.block b (cr_lt c)).trans c
theorem cr_alloc {w : World} {b : Nat} {x : Nat → Int} (c : CR w b x) (o : Obj) : CR (w.alloc o) b x := cr_keep (b_alloc (Below.refl _ _)) c
theorem cr_new {w : World} {x : Nat → Int} : CR (w.alloc (Obj.cells #[.int .i64 (x 0), .int .i64 (x 1), .int .i64 (x 2), .int .i64 (x 3), .int .i64 (x 4), .int .i64 (x 5), .int .i64 (x 6), .int .i64 (x 7), .int .i64 (x 8), .int .i64 (x 9), .int .i64 (x 10), .int .i64 (x 11), .int .i64 (x 12), .int .i64 (x 13), .int .i64 (x 14), .int .i64 (x 15), .int .i64 (x 16), .int .i64 (x 17), .int .i64 (x 18), .int .i64 (x 19), .int .i64 (x 20), .int .i64 (x 21), .int .i64 (x 22), .int .i64 (x 23), .int .i64 (x 24), .int .i64 (x 25), .int .i64 (x 26), .int .i64 (x 27), .int .i64 (x 28), .int .i64 (x 29), .int .i64 (x 30)] 25)) w.heap.size x := heap_alloc_last _ _
set_option maxHeartbeats 1000000 in
set_option maxRecDepth 10000 in
theorem cr_load {w : World} {b : Nat} {x : Nat → Int} (c : CR w b x) : (loadCellsFrom ⟨b, 0, none⟩ 0 31 #[]).run Try.prog w = .ok #[.int .i64 (x 0), .int .i64 (x 1), .int .i64 (x 2), .int .i64 (x 3), .int .i64 (x 4), .int .i64 (x 5), .int .i64 (x 6), .int .i64 (x 7), .int .i64 (x 8), .int .i64 (x 9), .int .i64 (x 10), .int .i64 (x 11), .int .i64 (x 12), .int .i64 (x 13), .int .i64 (x 14), .int .i64 (x 15), .int .i64 (x 16), .int .i64 (x 17), .int .i64 (x 18), .int .i64 (x 19), .int .i64 (x 20), .int .i64 (x 21), .int .i64 (x 22), .int .i64 (x 23), .int .i64 (x 24), .int .i64 (x 25), .int .i64 (x 26), .int .i64 (x 27), .int .i64 (x 28), .int .i64 (x 29), .int .i64 (x 30)] w := by
  have := run_loadCells_list (P := Try.prog) w ⟨b, 0, none⟩ [.int .i64 (x 0), .int .i64 (x 1), .int .i64 (x 2), .int .i64 (x 3), .int .i64 (x 4), .int .i64 (x 5), .int .i64 (x 6), .int .i64 (x 7), .int .i64 (x 8), .int .i64 (x 9), .int .i64 (x 10), .int .i64 (x 11), .int .i64 (x 12), .int .i64 (x 13), .int .i64 (x 14), .int .i64 (x 15), .int .i64 (x 16), .int .i64 (x 17), .int .i64 (x 18), .int .i64 (x 19), .int .i64 (x 20), .int .i64 (x 21), .int .i64 (x 22), .int .i64 (x 23), .int .i64 (x 24), .int .i64 (x 25), .int .i64 (x 26), .int .i64 (x 27), .int .i64 (x 28), .int .i64 (x 29), .int .i64 (x 30)] (fun j v hv => by
    have hadd : (⟨b, 0, none⟩ : Addr).add j = ⟨b, j, none⟩ := by unfold Addr.add; split <;> simp_all
    rw [hadd, cell_of_row _ _ j _ _ _ c]
    simpa using hv)
  simpa [loadCells] using this

/- A walk that is stopped ahead of an operation. -/
def Stopped (p : Prop) : Prop := p
theorem unstop {p : Prop} (h : p) : Stopped p := h
theorem stop_at (d : Option Tmp) {P : Program} {ops : Array Oper} {rest : List Oper} {o : Oper} {a : Act} {w : World} {Q : Exit → Act → World → Prop} (_hd : o.dst = d) (h : Stopped (wpList P ops Q (o :: rest) a w)) : wpList P ops Q (o :: rest) a w := h

set_option maxHeartbeats 8000000 in
set_option maxRecDepth 20000 in
theorem rules_any (w : World) : Calls Try.prog 20 #[] w (RetV rv w) := by
  go_enter Try.func20, Try.ntmps20
  go_wp2_with (with_reducible refine stop_at none rfl ?_)
  refine unstop ?_
  refine wpList_store_row rfl 62 (.tmp 0) (.tmp 15) rfl w.heap.size #[.int .i64 1, (.func (.func 25) #[] #[]), .int .i64 2, (.func (.func 27) #[] #[]), .int .i64 3, (.func (.func 28) #[] #[]), .int .i64 4, (.func (.func 30) #[] #[]), .int .i64 5, (.func (.func 31) #[] #[]), .int .i64 6, (.func (.func 33) #[] #[]), .int .i64 7, (.func (.func 34) #[] #[]), .int .i64 8, (.func (.func 35) #[] #[]), .int .i64 9, (.func (.func 36) #[] #[]), .int .i64 10, (.func (.func 37) #[] #[]), .int .i64 11, (.func (.func 38) #[] #[]), .int .i64 12, (.func (.func 39) #[] #[]), .int .i64 13, (.func (.func 40) #[] #[]), .int .i64 14, (.func (.func 41) #[] #[])] rfl rfl 62 _ (heap_alloc_last w _) (by kernel_rfl) rfl (by first | kernel_rfl | decide | simp) ?_
  rw [World.setRow_alloc_new]
  go_wp2
  exact bodyPost_ret (v := rv) (results_cell_row Try.results20 _ _ w.heap.size 62 _ (0, 0) _ rfl (heap_alloc_last w _) Try.underlying62 rfl (by kernel_rfl)) rfl ⟨rfl, b_alloc (Below.refl _ _)⟩

set_option maxHeartbeats 8000000 in
set_option maxRecDepth 20000 in
theorem check_any (x : Nat → Int) (hx : C64 x) (w : World) : Calls Try.prog 15 #[cv x] w (RetV (.int .i64 (cks x)) w) := by
  have E : Below w.heap.size w (w.alloc (Obj.cells #[.int .i64 (x 0), .int .i64 (x 1), .int .i64 (x 2), .int .i64 (x 3), .int .i64 (x 4), .int .i64 (x 5), .int .i64 (x 6), .int .i64 (x 7), .int .i64 (x 8), .int .i64 (x 9), .int .i64 (x 10), .int .i64 (x 11), .int .i64 (x 12), .int .i64 (x 13), .int .i64 (x 14), .int .i64 (x 15), .int .i64 (x 16), .int .i64 (x 17), .int .i64 (x 18), .int .i64 (x 19), .int .i64 (x 20), .int .i64 (x 21), .int .i64 (x 22), .int .i64 (x 23), .int .i64 (x 24), .int .i64 (x 25), .int .i64 (x 26), .int .i64 (x 27), .int .i64 (x 28), .int .i64 (x 29), .int .i64 (x 30)] 25)) := b_alloc (Below.refl _ _)
  have cr : CR (w.alloc (Obj.cells #[.int .i64 (x 0), .int .i64 (x 1), .int .i64 (x 2), .int .i64 (x 3), .int .i64 (x 4), .int .i64 (x 5), .int .i64 (x 6), .int .i64 (x 7), .int .i64 (x 8), .int .i64 (x 9), .int .i64 (x 10), .int .i64 (x 11), .int .i64 (x 12), .int .i64 (x 13), .int .i64 (x 14), .int .i64 (x 15), .int .i64 (x 16), .int .i64 (x 17), .int .i64 (x 18), .int .i64 (x 19), .int .i64 (x 20), .int .i64 (x 21), .int .i64 (x 22), .int .i64 (x 23), .int .i64 (x 24), .int .i64 (x 25), .int .i64 (x 26), .int .i64 (x 27), .int .i64 (x 28), .int .i64 (x 29), .int .i64 (x 30)] 25)) w.heap.size x := cr_new
  obtain ⟨j1, j2, j3, j4, j5, j6, j7, j8, j9, j10, j11, j12, j13, j14⟩ := ix_rules
  go_enter Try.func15, Try.ntmps15
  go_wp2_with fail
  generalize (w.alloc (Obj.cells #[.int .i64 (x 0), .int .i64 (x 1), .int .i64 (x 2), .int .i64 (x 3), .int .i64 (x 4), .int .i64 (x 5), .int .i64 (x 6), .int .i64 (x 7), .int .i64 (x 8), .int .i64 (x 9), .int .i64 (x 10), .int .i64 (x 11), .int .i64 (x 12), .int .i64 (x 13), .int .i64 (x 14), .int .i64 (x 15), .int .i64 (x 16), .int .i64 (x 17), .int .i64 (x 18), .int .i64 (x 19), .int .i64 (x 20), .int .i64 (x 21), .int .i64 (x 22), .int .i64 (x 23), .int .i64 (x 24), .int .i64 (x 25), .int .i64 (x 26), .int .i64 (x 27), .int .i64 (x 28), .int .i64 (x 29), .int .i64 (x 30)] 25)) = z0 at *
  refine (rules_any _).mono ?_
  rintro e y0 ⟨rfl, hb⟩
  replace cr := cr_keep hb cr
  replace E := b_trans E hb
  clear hb
  go_wp2
  refine wp_loop_rounds 15 ?_
  have st : ∀ (w : World) (a : Addr), (store a (.func (.func 25) #[] #[])).run Try.prog w = stored Try.prog w a (.func (.func 25) #[] #[]) .plain := fun w a => run_store _ w a _ _ rfl
  rw [rounds_succ]
  go_wp2_with (with_reducible refine stop_at (some 11) rfl ?_)
  refine unstop ?_
  refine wpList_load_row rfl 25 (.tmp 1) rfl w.heap.size rfl 25 _ (0, 0) _ (cr_alloc cr _) Try.underlying25 rfl (by kernel_rfl) ?_
  go_wp2_with fail
  refine (rule1_any x _).mono ?_
  rintro e y1 ⟨rfl, hb⟩
  replace cr := cr_keep hb (cr_alloc cr _)
  replace E := b_trans (b_alloc E) hb
  have g : y1.cell? ⟨y0.heap.size, 0, none⟩ = some (.int .i64 1) := cell_keep hb (by simp [go_sem])
  clear hb st
  cases q1 : k1 x
  · go_wp2
    go_ret
    exact ⟨by rw [show cks x = 1 from by unfold cks; rw [q1]; rfl]; rfl, E⟩
  · clear g
    go_wp2
    have st : ∀ (w : World) (a : Addr), (store a (.func (.func 27) #[] #[])).run Try.prog w = stored Try.prog w a (.func (.func 27) #[] #[]) .plain := fun w a => run_store _ w a _ _ rfl
    rw [rounds_succ]
    go_wp2_with (with_reducible refine stop_at (some 11) rfl ?_)
    refine unstop ?_
    refine wpList_load_row rfl 25 (.tmp 1) rfl w.heap.size rfl 25 _ (0, 0) _ (cr_alloc cr _) Try.underlying25 rfl (by kernel_rfl) ?_
    go_wp2_with fail
    refine (rule2_any x _).mono ?_
    rintro e y2 ⟨rfl, hb⟩
    replace cr := cr_keep hb (cr_alloc cr _)
    replace E := b_trans (b_alloc E) hb
    have g : y2.cell? ⟨y1.heap.size, 0, none⟩ = some (.int .i64 2) := cell_keep hb (by simp [go_sem])
    clear hb st
    cases q2 : k2 x
    · go_wp2
      go_ret
      exact ⟨by rw [show cks x = 2 from by unfold cks; rw [q1, q2]; rfl]; rfl, E⟩
    · clear g
      go_wp2
      have st : ∀ (w : World) (a : Addr), (store a (.func (.func 28) #[] #[])).run Try.prog w = stored Try.prog w a (.func (.func 28) #[] #[]) .plain := fun w a => run_store _ w a _ _ rfl
      rw [rounds_succ]
      go_wp2_with (with_reducible refine stop_at (some 11) rfl ?_)
      refine unstop ?_
      refine wpList_load_row rfl 25 (.tmp 1) rfl w.heap.size rfl 25 _ (0, 0) _ (cr_alloc cr _) Try.underlying25 rfl (by kernel_rfl) ?_
      go_wp2_with fail
      refine (rule3_any x _).mono ?_
      rintro e y3 ⟨rfl, hb⟩
      replace cr := cr_keep hb (cr_alloc cr _)
      replace E := b_trans (b_alloc E) hb
      have g : y3.cell? ⟨y2.heap.size, 0, none⟩ = some (.int .i64 3) := cell_keep hb (by simp [go_sem])
      clear hb st
      cases q3 : k3 x
      · go_wp2
        go_ret
        exact ⟨by rw [show cks x = 3 from by unfold cks; rw [q1, q2, q3]; rfl]; rfl, E⟩
      · clear g
        go_wp2
        have st : ∀ (w : World) (a : Addr), (store a (.func (.func 30) #[] #[])).run Try.prog w = stored Try.prog w a (.func (.func 30) #[] #[]) .plain := fun w a => run_store _ w a _ _ rfl
        rw [rounds_succ]
        go_wp2_with (with_reducible refine stop_at (some 11) rfl ?_)
        refine unstop ?_
        refine wpList_load_row rfl 25 (.tmp 1) rfl w.heap.size rfl 25 _ (0, 0) _ (cr_alloc cr _) Try.underlying25 rfl (by kernel_rfl) ?_
        go_wp2_with fail
        refine (rule4_any x _).mono ?_
        rintro e y4 ⟨rfl, hb⟩
        replace cr := cr_keep hb (cr_alloc cr _)
        replace E := b_trans (b_alloc E) hb
        have g : y4.cell? ⟨y3.heap.size, 0, none⟩ = some (.int .i64 4) := cell_keep hb (by simp [go_sem])
        clear hb st
        cases q4 : k4 x
        · go_wp2
          go_ret
          exact ⟨by rw [show cks x = 4 from by unfold cks; rw [q1, q2, q3, q4]; rfl]; rfl, E⟩
        · clear g
          go_wp2
          have st : ∀ (w : World) (a : Addr), (store a (.func (.func 31) #[] #[])).run Try.prog w = stored Try.prog w a (.func (.func 31) #[] #[]) .plain := fun w a => run_store _ w a _ _ rfl
          rw [rounds_succ]
          go_wp2_with (with_reducible refine stop_at (some 11) rfl ?_)
          refine unstop ?_
          refine wpList_load_row rfl 25 (.tmp 1) rfl w.heap.size rfl 25 _ (0, 0) _ (cr_alloc cr _) Try.underlying25 rfl (by kernel_rfl) ?_
          go_wp2_with fail
          refine (rule5_any x hx _).mono ?_
          rintro e y5 ⟨rfl, hb⟩
          replace cr := cr_keep hb (cr_alloc cr _)
          replace E := b_trans (b_alloc E) hb
          have g : y5.cell? ⟨y4.heap.size, 0, none⟩ = some (.int .i64 5) := cell_keep hb (by simp [go_sem])
          clear hb st
          cases q5 : k5 x
          · go_wp2
            go_ret
            exact ⟨by rw [show cks x = 5 from by unfold cks; rw [q1, q2, q3, q4, q5]; rfl]; rfl, E⟩
          · clear g
            go_wp2
            have st : ∀ (w : World) (a : Addr), (store a (.func (.func 33) #[] #[])).run Try.prog w = stored Try.prog w a (.func (.func 33) #[] #[]) .plain := fun w a => run_store _ w a _ _ rfl
            rw [rounds_succ]
            go_wp2_with (with_reducible refine stop_at (some 11) rfl ?_)
            refine unstop ?_
            refine wpList_load_row rfl 25 (.tmp 1) rfl w.heap.size rfl 25 _ (0, 0) _ (cr_alloc cr _) Try.underlying25 rfl (by kernel_rfl) ?_
            go_wp2_with fail
            refine (rule6_any x _).mono ?_
            rintro e y6 ⟨rfl, hb⟩
            replace cr := cr_keep hb (cr_alloc cr _)
            replace E := b_trans (b_alloc E) hb
            have g : y6.cell? ⟨y5.heap.size, 0, none⟩ = some (.int .i64 6) := cell_keep hb (by simp [go_sem])
            clear hb st
            cases q6 : k6 x
            · go_wp2
              go_ret
              exact ⟨by rw [show cks x = 6 from by unfold cks; rw [q1, q2, q3, q4, q5, q6]; rfl]; rfl, E⟩
            · clear g
              go_wp2
              have st : ∀ (w : World) (a : Addr), (store a (.func (.func 34) #[] #[])).run Try.prog w = stored Try.prog w a (.func (.func 34) #[] #[]) .plain := fun w a => run_store _ w a _ _ rfl
              rw [rounds_succ]
              go_wp2_with (with_reducible refine stop_at (some 11) rfl ?_)
              refine unstop ?_
              refine wpList_load_row rfl 25 (.tmp 1) rfl w.heap.size rfl 25 _ (0, 0) _ (cr_alloc cr _) Try.underlying25 rfl (by kernel_rfl) ?_
              go_wp2_with fail
              refine (rule7_any x _).mono ?_
              rintro e y7 ⟨rfl, hb⟩
              replace cr := cr_keep hb (cr_alloc cr _)
              replace E := b_trans (b_alloc E) hb
              have g : y7.cell? ⟨y6.heap.size, 0, none⟩ = some (.int .i64 7) := cell_keep hb (by simp [go_sem])
              clear hb st
              cases q7 : k7 x
              · go_wp2
                go_ret
                exact ⟨by rw [show cks x = 7 from by unfold cks; rw [q1, q2, q3, q4, q5, q6, q7]; rfl]; rfl, E⟩
              · clear g
                go_wp2
                have st : ∀ (w : World) (a : Addr), (store a (.func (.func 35) #[] #[])).run Try.prog w = stored Try.prog w a (.func (.func 35) #[] #[]) .plain := fun w a => run_store _ w a _ _ rfl
                rw [rounds_succ]
                go_wp2_with (with_reducible refine stop_at (some 11) rfl ?_)
                refine unstop ?_
                refine wpList_load_row rfl 25 (.tmp 1) rfl w.heap.size rfl 25 _ (0, 0) _ (cr_alloc cr _) Try.underlying25 rfl (by kernel_rfl) ?_
                go_wp2_with fail
                refine (rule8_any x _).mono ?_
                rintro e y8 ⟨rfl, hb⟩
                replace cr := cr_keep hb (cr_alloc cr _)
                replace E := b_trans (b_alloc E) hb
                have g : y8.cell? ⟨y7.heap.size, 0, none⟩ = some (.int .i64 8) := cell_keep hb (by simp [go_sem])
                clear hb st
                cases q8 : k8 x
                · go_wp2
                  go_ret
                  exact ⟨by rw [show cks x = 8 from by unfold cks; rw [q1, q2, q3, q4, q5, q6, q7, q8]; rfl]; rfl, E⟩
                · clear g
                  go_wp2
                  have st : ∀ (w : World) (a : Addr), (store a (.func (.func 36) #[] #[])).run Try.prog w = stored Try.prog w a (.func (.func 36) #[] #[]) .plain := fun w a => run_store _ w a _ _ rfl
                  rw [rounds_succ]
                  go_wp2_with (with_reducible refine stop_at (some 11) rfl ?_)
                  refine unstop ?_
                  refine wpList_load_row rfl 25 (.tmp 1) rfl w.heap.size rfl 25 _ (0, 0) _ (cr_alloc cr _) Try.underlying25 rfl (by kernel_rfl) ?_
                  go_wp2_with fail
                  refine (rule9_any x _).mono ?_
                  rintro e y9 ⟨rfl, hb⟩
                  replace cr := cr_keep hb (cr_alloc cr _)
                  replace E := b_trans (b_alloc E) hb
                  have g : y9.cell? ⟨y8.heap.size, 0, none⟩ = some (.int .i64 9) := cell_keep hb (by simp [go_sem])
                  clear hb st
                  cases q9 : k9 x
                  · go_wp2
                    go_ret
                    exact ⟨by rw [show cks x = 9 from by unfold cks; rw [q1, q2, q3, q4, q5, q6, q7, q8, q9]; rfl]; rfl, E⟩
                  · clear g
                    go_wp2
                    have st : ∀ (w : World) (a : Addr), (store a (.func (.func 37) #[] #[])).run Try.prog w = stored Try.prog w a (.func (.func 37) #[] #[]) .plain := fun w a => run_store _ w a _ _ rfl
                    rw [rounds_succ]
                    go_wp2_with (with_reducible refine stop_at (some 11) rfl ?_)
                    refine unstop ?_
                    refine wpList_load_row rfl 25 (.tmp 1) rfl w.heap.size rfl 25 _ (0, 0) _ (cr_alloc cr _) Try.underlying25 rfl (by kernel_rfl) ?_
                    go_wp2_with fail
                    refine (rule10_any x _).mono ?_
                    rintro e y10 ⟨rfl, hb⟩
                    replace cr := cr_keep hb (cr_alloc cr _)
                    replace E := b_trans (b_alloc E) hb
                    have g : y10.cell? ⟨y9.heap.size, 0, none⟩ = some (.int .i64 10) := cell_keep hb (by simp [go_sem])
                    clear hb st
                    cases q10 : k10 x
                    · go_wp2
                      go_ret
                      exact ⟨by rw [show cks x = 10 from by unfold cks; rw [q1, q2, q3, q4, q5, q6, q7, q8, q9, q10]; rfl]; rfl, E⟩
                    · clear g
                      go_wp2
                      have st : ∀ (w : World) (a : Addr), (store a (.func (.func 38) #[] #[])).run Try.prog w = stored Try.prog w a (.func (.func 38) #[] #[]) .plain := fun w a => run_store _ w a _ _ rfl
                      rw [rounds_succ]
                      go_wp2_with (with_reducible refine stop_at (some 11) rfl ?_)
                      refine unstop ?_
                      refine wpList_load_row rfl 25 (.tmp 1) rfl w.heap.size rfl 25 _ (0, 0) _ (cr_alloc cr _) Try.underlying25 rfl (by kernel_rfl) ?_
                      go_wp2_with fail
                      refine (rule11_any x _).mono ?_
                      rintro e y11 ⟨rfl, hb⟩
                      replace cr := cr_keep hb (cr_alloc cr _)
                      replace E := b_trans (b_alloc E) hb
                      have g : y11.cell? ⟨y10.heap.size, 0, none⟩ = some (.int .i64 11) := cell_keep hb (by simp [go_sem])
                      clear hb st
                      cases q11 : k11 x
                      · go_wp2
                        go_ret
                        exact ⟨by rw [show cks x = 11 from by unfold cks; rw [q1, q2, q3, q4, q5, q6, q7, q8, q9, q10, q11]; rfl]; rfl, E⟩
                      · clear g
                        go_wp2
                        have st : ∀ (w : World) (a : Addr), (store a (.func (.func 39) #[] #[])).run Try.prog w = stored Try.prog w a (.func (.func 39) #[] #[]) .plain := fun w a => run_store _ w a _ _ rfl
                        rw [rounds_succ]
                        go_wp2_with (with_reducible refine stop_at (some 11) rfl ?_)
                        refine unstop ?_
                        refine wpList_load_row rfl 25 (.tmp 1) rfl w.heap.size rfl 25 _ (0, 0) _ (cr_alloc cr _) Try.underlying25 rfl (by kernel_rfl) ?_
                        go_wp2_with fail
                        refine (rule12_any x _).mono ?_
                        rintro e y12 ⟨rfl, hb⟩
                        replace cr := cr_keep hb (cr_alloc cr _)
                        replace E := b_trans (b_alloc E) hb
                        have g : y12.cell? ⟨y11.heap.size, 0, none⟩ = some (.int .i64 12) := cell_keep hb (by simp [go_sem])
                        clear hb st
                        cases q12 : k12 x
                        · go_wp2
                          go_ret
                          exact ⟨by rw [show cks x = 12 from by unfold cks; rw [q1, q2, q3, q4, q5, q6, q7, q8, q9, q10, q11, q12]; rfl]; rfl, E⟩
                        · clear g
                          go_wp2
                          have st : ∀ (w : World) (a : Addr), (store a (.func (.func 40) #[] #[])).run Try.prog w = stored Try.prog w a (.func (.func 40) #[] #[]) .plain := fun w a => run_store _ w a _ _ rfl
                          rw [rounds_succ]
                          go_wp2_with (with_reducible refine stop_at (some 11) rfl ?_)
                          refine unstop ?_
                          refine wpList_load_row rfl 25 (.tmp 1) rfl w.heap.size rfl 25 _ (0, 0) _ (cr_alloc cr _) Try.underlying25 rfl (by kernel_rfl) ?_
                          go_wp2_with fail
                          refine (rule13_any x _).mono ?_
                          rintro e y13 ⟨rfl, hb⟩
                          replace cr := cr_keep hb (cr_alloc cr _)
                          replace E := b_trans (b_alloc E) hb
                          have g : y13.cell? ⟨y12.heap.size, 0, none⟩ = some (.int .i64 13) := cell_keep hb (by simp [go_sem])
                          clear hb st
                          cases q13 : k13 x
                          · go_wp2
                            go_ret
                            exact ⟨by rw [show cks x = 13 from by unfold cks; rw [q1, q2, q3, q4, q5, q6, q7, q8, q9, q10, q11, q12, q13]; rfl]; rfl, E⟩
                          · clear g
                            go_wp2
                            have st : ∀ (w : World) (a : Addr), (store a (.func (.func 41) #[] #[])).run Try.prog w = stored Try.prog w a (.func (.func 41) #[] #[]) .plain := fun w a => run_store _ w a _ _ rfl
                            rw [rounds_succ]
                            go_wp2_with (with_reducible refine stop_at (some 11) rfl ?_)
                            refine unstop ?_
                            refine wpList_load_row rfl 25 (.tmp 1) rfl w.heap.size rfl 25 _ (0, 0) _ (cr_alloc cr _) Try.underlying25 rfl (by kernel_rfl) ?_
                            go_wp2_with fail
                            refine (rule14_any x _).mono ?_
                            rintro e y14 ⟨rfl, hb⟩
                            replace cr := cr_keep hb (cr_alloc cr _)
                            replace E := b_trans (b_alloc E) hb
                            have g : y14.cell? ⟨y13.heap.size, 0, none⟩ = some (.int .i64 14) := cell_keep hb (by simp [go_sem])
                            clear hb st
                            cases q14 : k14 x
                            · go_wp2
                              go_ret
                              exact ⟨by rw [show cks x = 14 from by unfold cks; rw [q1, q2, q3, q4, q5, q6, q7, q8, q9, q10, q11, q12, q13, q14]; rfl]; rfl, E⟩
                            · clear g
                              go_wp2
                              rw [rounds_succ]
                              go_wp2
                              go_ret
                              exact ⟨by rw [show cks x = 0 from by unfold cks; rw [q1, q2, q3, q4, q5, q6, q7, q8, q9, q10, q11, q12, q13, q14]; rfl]; rfl, E⟩
end Go.Proofs.Ytoohaphaeccafaa
