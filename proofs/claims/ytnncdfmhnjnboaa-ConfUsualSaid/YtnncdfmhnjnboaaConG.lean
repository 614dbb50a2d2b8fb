/- Layer 13: the chapter's example; the laws. -/
import Derived.Test.YtnncdfmhnjnboaaConF
namespace Go.Proofs.Ytnncdfmhnjnboaa
open Go.RowKit Go.Shelf Go.Joins

/-- A row's load in a quiet region. -/
theorem quiet_load_row {P : Program} {ops : Array Oper} {C : World → Prop} {Q : Act → Prop} {rest : List Oper} {o : Oper} {a : Act} (hw : Region.wanted o (yielded ops a.tmps) = true) (ty : TypeId) (x : Operand) (ho : o.op = .load ty x)
    (g : Nat) (hx : a.eval x = .pointer (some ⟨g, 0, none⟩)) (t : TypeId) (cs : Array Value) (fr : Nat × Nat) (d : TypeDesc) (hg : ∀ w, C w → w.heap[g]? = some (.cells cs t fr))
    (hu : P.underlying ty = some d) (hd : (match d with | .struct _ | .array _ _ => true | _ => false) = true) (hi : (P.info? ty).map (·.size) = some cs.size)
    (h : wpQuiet P ops C Q rest (a.put o.dst (.agg cs))) : wpQuiet P ops C Q (o :: rest) a :=
  wpQuiet_step fun K hK => by
    rw [if_pos hw]
    refine ⟨.agg cs, fun w hC => ?_, hK _ h⟩
    unfold Oper.quietAt execOp
    simp only [ho, hx, Instr.loadAt, Instr.sureAddr, Sem.run_bind, Sem.run_pure, Result.andThen_ok, run_loadVar_row w g t ty cs fr d (hg w hC) hu hd hi]
    exact ⟨rfl, rfl⟩

set_option maxHeartbeats 8000000 in
set_option maxRecDepth 20000 in
/-- The chapter's example: the usual configuration is right; with Gate 0 rule 8 isn't kept. -/
theorem fixed_conf (w : World) : Calls Try.prog 8 #[] w (RetV (.bool true) w) := by
  have s8 : ∀ w, Calls Try.prog 9 #[.agg #[.int .i64 1024, .int .i64 65536, .int .i64 256, .int .i64 16384, .int .i64 4194304, .int .i64 4096, .int .i64 274877906944, .int .i64 4398046511104, .int .i64 4398046511104, .int .i64 1099511627776, .int .i64 68719476736, .int .i64 256, .int .i64 256, .int .i64 256, .int .i64 1125899906842624, .int .i64 281474976710656, .int .i64 17592186044416, .int .i64 18014398509481984, .int .i64 562949953421312, .int .i64 8796093022208, .int .i64 0, .int .i64 34359738368, .int .i64 17179869184, .int .i64 (-1073741824), .int .i64 536870912, .int .i64 2048, .int .i64 32768, .int .i64 32, .int .i64 64, .int .i64 1280, .int .i64 240]] w (RetV (.int .i64 8) w) := by
    have h := check_any shut shut64
    rw [shut_gate] at h
    exact h
  have s0 : ∀ w, Calls Try.prog 9 #[dv] w (RetV (.int .i64 0) w) := by
    have h := check_any dflt dflt64
    rw [default_kept, dv_eq] at h
    exact h
  go_enter Try.func8, Try.ntmps8
  go_wp2_with fail
  refine (default_any _).mono ?_
  rintro e y0 ⟨rfl, hb⟩
  have E := hb
  have ge := hb.size
  clear hb
  go_wp2_with (with_reducible refine stop_at none rfl ?_)
  refine unstop ?_
  refine wpList_store_row rfl 25 (.tmp 1) (.tmp 2) rfl y0.heap.size #[.int .i64 1024, .int .i64 65536, .int .i64 256, .int .i64 16384, .int .i64 4194304, .int .i64 4096, .int .i64 274877906944, .int .i64 4398046511104, .int .i64 4398046511104, .int .i64 1099511627776, .int .i64 68719476736, .int .i64 256, .int .i64 256, .int .i64 256, .int .i64 1125899906842624, .int .i64 281474976710656, .int .i64 17592186044416, .int .i64 18014398509481984, .int .i64 562949953421312, .int .i64 8796093022208, .int .i64 9, .int .i64 34359738368, .int .i64 17179869184, .int .i64 (-1073741824), .int .i64 536870912, .int .i64 2048, .int .i64 32768, .int .i64 32, .int .i64 64, .int .i64 1280, .int .i64 240] rfl rfl 25 _ (heap_alloc_last y0 _) (by kernel_rfl) rfl (by kernel_rfl) ?_
  rw [World.setRow_alloc_new]
  replace E := b_alloc (o := Obj.cells #[.int .i64 1024, .int .i64 65536, .int .i64 256, .int .i64 16384, .int .i64 4194304, .int .i64 4096, .int .i64 274877906944, .int .i64 4398046511104, .int .i64 4398046511104, .int .i64 1099511627776, .int .i64 68719476736, .int .i64 256, .int .i64 256, .int .i64 256, .int .i64 1125899906842624, .int .i64 281474976710656, .int .i64 17592186044416, .int .i64 18014398509481984, .int .i64 562949953421312, .int .i64 8796093022208, .int .i64 9, .int .i64 34359738368, .int .i64 17179869184, .int .i64 (-1073741824), .int .i64 536870912, .int .i64 2048, .int .i64 32768, .int .i64 32, .int .i64 64, .int .i64 1280, .int .i64 240] 25) E
  have hg := heap_alloc_last y0 (Obj.cells #[.int .i64 1024, .int .i64 65536, .int .i64 256, .int .i64 16384, .int .i64 4194304, .int .i64 4096, .int .i64 274877906944, .int .i64 4398046511104, .int .i64 4398046511104, .int .i64 1099511627776, .int .i64 68719476736, .int .i64 256, .int .i64 256, .int .i64 256, .int .i64 1125899906842624, .int .i64 281474976710656, .int .i64 17592186044416, .int .i64 18014398509481984, .int .i64 562949953421312, .int .i64 8796093022208, .int .i64 9, .int .i64 34359738368, .int .i64 17179869184, .int .i64 (-1073741824), .int .i64 536870912, .int .i64 2048, .int .i64 32768, .int .i64 32, .int .i64 64, .int .i64 1280, .int .i64 240] 25)
  generalize y0.alloc (Obj.cells #[.int .i64 1024, .int .i64 65536, .int .i64 256, .int .i64 16384, .int .i64 4194304, .int .i64 4096, .int .i64 274877906944, .int .i64 4398046511104, .int .i64 4398046511104, .int .i64 1099511627776, .int .i64 68719476736, .int .i64 256, .int .i64 256, .int .i64 256, .int .i64 1125899906842624, .int .i64 281474976710656, .int .i64 17592186044416, .int .i64 18014398509481984, .int .i64 562949953421312, .int .i64 8796093022208, .int .i64 9, .int .i64 34359738368, .int .i64 17179869184, .int .i64 (-1073741824), .int .i64 536870912, .int .i64 2048, .int .i64 32768, .int .i64 32, .int .i64 64, .int .i64 1280, .int .i64 240] 25) = y1 at *
  generalize y0.heap.size = n at *
  have h20 : y1.cell? ⟨n, 20, none⟩ = some (.int .i64 9) := (cell_of_row _ _ 20 _ _ _ hg).trans rfl
  have f20 : y1.frozen? ⟨n, 20, none⟩ = false := frozen_of_row y1 _ 20 _ _ hg
  go_wp2_with (with_reducible refine stop_at (some 4) rfl ?_)
  rw [setCell_eq_setRow _ _ _ _ _ _ _ hg]
  have hg2 : (y1.setRow n (#[.int .i64 1024, .int .i64 65536, .int .i64 256, .int .i64 16384, .int .i64 4194304, .int .i64 4096, .int .i64 274877906944, .int .i64 4398046511104, .int .i64 4398046511104, .int .i64 1099511627776, .int .i64 68719476736, .int .i64 256, .int .i64 256, .int .i64 256, .int .i64 1125899906842624, .int .i64 281474976710656, .int .i64 17592186044416, .int .i64 18014398509481984, .int .i64 562949953421312, .int .i64 8796093022208, .int .i64 9, .int .i64 34359738368, .int .i64 17179869184, .int .i64 (-1073741824), .int .i64 536870912, .int .i64 2048, .int .i64 32768, .int .i64 32, .int .i64 64, .int .i64 1280, .int .i64 240].setIfInBounds 20 (.int .i64 0))).heap[n]? = some (.cells #[.int .i64 1024, .int .i64 65536, .int .i64 256, .int .i64 16384, .int .i64 4194304, .int .i64 4096, .int .i64 274877906944, .int .i64 4398046511104, .int .i64 4398046511104, .int .i64 1099511627776, .int .i64 68719476736, .int .i64 256, .int .i64 256, .int .i64 256, .int .i64 1125899906842624, .int .i64 281474976710656, .int .i64 17592186044416, .int .i64 18014398509481984, .int .i64 562949953421312, .int .i64 8796093022208, .int .i64 0, .int .i64 34359738368, .int .i64 17179869184, .int .i64 (-1073741824), .int .i64 536870912, .int .i64 2048, .int .i64 32768, .int .i64 32, .int .i64 64, .int .i64 1280, .int .i64 240] 25 (0, 0)) := setRow_heap _ _ _ #[.int .i64 1024, .int .i64 65536, .int .i64 256, .int .i64 16384, .int .i64 4194304, .int .i64 4096, .int .i64 274877906944, .int .i64 4398046511104, .int .i64 4398046511104, .int .i64 1099511627776, .int .i64 68719476736, .int .i64 256, .int .i64 256, .int .i64 256, .int .i64 1125899906842624, .int .i64 281474976710656, .int .i64 17592186044416, .int .i64 18014398509481984, .int .i64 562949953421312, .int .i64 8796093022208, .int .i64 0, .int .i64 34359738368, .int .i64 17179869184, .int .i64 (-1073741824), .int .i64 536870912, .int .i64 2048, .int .i64 32768, .int .i64 32, .int .i64 64, .int .i64 1280, .int .i64 240] _ _ hg
  replace E := row_below E (g := n) (cs := #[.int .i64 1024, .int .i64 65536, .int .i64 256, .int .i64 16384, .int .i64 4194304, .int .i64 4096, .int .i64 274877906944, .int .i64 4398046511104, .int .i64 4398046511104, .int .i64 1099511627776, .int .i64 68719476736, .int .i64 256, .int .i64 256, .int .i64 256, .int .i64 1125899906842624, .int .i64 281474976710656, .int .i64 17592186044416, .int .i64 18014398509481984, .int .i64 562949953421312, .int .i64 8796093022208, .int .i64 9, .int .i64 34359738368, .int .i64 17179869184, .int .i64 (-1073741824), .int .i64 536870912, .int .i64 2048, .int .i64 32768, .int .i64 32, .int .i64 64, .int .i64 1280, .int .i64 240].setIfInBounds 20 (.int .i64 0)) ge
  generalize y1.setRow n (#[.int .i64 1024, .int .i64 65536, .int .i64 256, .int .i64 16384, .int .i64 4194304, .int .i64 4096, .int .i64 274877906944, .int .i64 4398046511104, .int .i64 4398046511104, .int .i64 1099511627776, .int .i64 68719476736, .int .i64 256, .int .i64 256, .int .i64 256, .int .i64 1125899906842624, .int .i64 281474976710656, .int .i64 17592186044416, .int .i64 18014398509481984, .int .i64 562949953421312, .int .i64 8796093022208, .int .i64 9, .int .i64 34359738368, .int .i64 17179869184, .int .i64 (-1073741824), .int .i64 536870912, .int .i64 2048, .int .i64 32768, .int .i64 32, .int .i64 64, .int .i64 1280, .int .i64 240].setIfInBounds 20 (.int .i64 0)) = y2 at *
  clear h20 f20 hg
  refine unstop ?_
  refine wpList_load_row rfl 25 (.tmp 1) rfl n rfl 25 _ (0, 0) _ hg2 Try.underlying25 rfl (by kernel_rfl) ?_
  go_wp2_with fail
  refine (s8 _).mono ?_
  rintro e y3 ⟨rfl, hb⟩
  replace E := b_trans E hb
  clear hb hg2 s8
  go_wp2_with fail
  refine (default_any _).mono ?_
  rintro e y4 ⟨rfl, hb⟩
  replace E := b_trans E hb
  clear hb
  go_wp2_with fail
  refine (s0 _).mono ?_
  rintro e y5 ⟨rfl, hb⟩
  replace E := b_trans E hb
  clear hb
  go_wp2
  go_ret
  exact ⟨rfl, E⟩

set_option maxHeartbeats 8000000 in
set_option maxRecDepth 20000 in
/-- Which rule isn't kept first, and the thrust of a count, are the document's. -/
theorem confChecks_any (x : Nat → Int) (hx : C64 x) (n : Int) (w : World) : Calls Try.prog 3 #[cv x, .int .i64 n] w (RetV (.bool true) w) := by
  have ct := thrust_any x hx n
  have cu := rthrust_any x hx n
  generalize thv x n = p at *
  generalize the x n = q at *
  have ck := check_any x hx
  have cd := rcheck_any x hx
  generalize cks x = m at *
  have E : Below w.heap.size w (w.alloc (Obj.cells #[.int .i64 (x 0), .int .i64 (x 1), .int .i64 (x 2), .int .i64 (x 3), .int .i64 (x 4), .int .i64 (x 5), .int .i64 (x 6), .int .i64 (x 7), .int .i64 (x 8), .int .i64 (x 9), .int .i64 (x 10), .int .i64 (x 11), .int .i64 (x 12), .int .i64 (x 13), .int .i64 (x 14), .int .i64 (x 15), .int .i64 (x 16), .int .i64 (x 17), .int .i64 (x 18), .int .i64 (x 19), .int .i64 (x 20), .int .i64 (x 21), .int .i64 (x 22), .int .i64 (x 23), .int .i64 (x 24), .int .i64 (x 25), .int .i64 (x 26), .int .i64 (x 27), .int .i64 (x 28), .int .i64 (x 29), .int .i64 (x 30)] 25)) := b_alloc (Below.refl _ _)
  have cr : CR (w.alloc (Obj.cells #[.int .i64 (x 0), .int .i64 (x 1), .int .i64 (x 2), .int .i64 (x 3), .int .i64 (x 4), .int .i64 (x 5), .int .i64 (x 6), .int .i64 (x 7), .int .i64 (x 8), .int .i64 (x 9), .int .i64 (x 10), .int .i64 (x 11), .int .i64 (x 12), .int .i64 (x 13), .int .i64 (x 14), .int .i64 (x 15), .int .i64 (x 16), .int .i64 (x 17), .int .i64 (x 18), .int .i64 (x 19), .int .i64 (x 20), .int .i64 (x 21), .int .i64 (x 22), .int .i64 (x 23), .int .i64 (x 24), .int .i64 (x 25), .int .i64 (x 26), .int .i64 (x 27), .int .i64 (x 28), .int .i64 (x 29), .int .i64 (x 30)] 25)) w.heap.size x := cr_new
  go_enter Try.func3, Try.ntmps3
  go_wp2_with (with_reducible refine stop_at (some 10) rfl ?_)
  refine unstop ?_
  refine wpList_load_row rfl 25 (.tmp 2) rfl w.heap.size rfl 25 _ (0, 0) _ cr Try.underlying25 rfl (by kernel_rfl) ?_
  go_wp2_with fail
  refine (ct _).mono ?_
  rintro e y1 ⟨rfl, hb⟩
  replace cr := cr_keep hb cr
  replace E := b_trans E hb
  clear hb
  go_wp2_with (with_reducible refine stop_at (some 16) rfl ?_)
  refine unstop ?_
  refine wpList_load_row rfl 25 (.tmp 2) rfl w.heap.size rfl 25 _ (0, 0) _ cr Try.underlying25 rfl (by kernel_rfl) ?_
  go_wp2_with fail
  refine (cu _).mono ?_
  rintro e y2 ⟨rfl, hb⟩
  replace cr := cr_keep hb cr
  replace E := b_trans E hb
  clear hb
  have c0 := retV_regrown (w := y2) fixed_conf
  have c1 := retV_regrown (w := y2) ck
  have c2 := retV_regrown (w := y2) cd
  have hC : ∀ w', (∃ p : Regrown, w' = Sort.grow (redrawn y2 p.d) p.os) → CR w' w.heap.size x := by
    rintro _ ⟨p, rfl⟩
    exact cr_keep (below_regrown _ p.d p.os) cr
  clear ck cd ct cu cr
  go_wp2
  refine wp_region_quiet_below (by kernel_rfl) (by kernel_rfl) ?_
  (with_reducible refine wpQuiet_step (fun KQ hKQ => ?_); go_simp; first | (with_reducible refine hKQ _ ?_; clear hKQ KQ) | (apply Exists.intro; with_reducible refine ⟨fun _ => ?_, hKQ _ ?_⟩; (with_reducible first | exact c0 _ _ | exact c1 _ _ | exact c2 _ _); clear hKQ KQ))
  (with_reducible refine wpQuiet_step (fun KQ hKQ => ?_); go_simp; first | (with_reducible refine hKQ _ ?_; clear hKQ KQ) | (apply Exists.intro; with_reducible refine ⟨fun _ => ?_, hKQ _ ?_⟩; (with_reducible first | exact c0 _ _ | exact c1 _ _ | exact c2 _ _); clear hKQ KQ))
  with_reducible refine quiet_load_row ?hw 25 (.tmp 2) ?ho w.heap.size ?hx 25 _ (0, 0) _ hC Try.underlying25 ?hd ?hi ?_
  case hw => rfl
  case ho => rfl
  case hx => rfl
  case hd => rfl
  case hi => kernel_rfl
  (with_reducible refine wpQuiet_step (fun KQ hKQ => ?_); go_simp; first | (with_reducible refine hKQ _ ?_; clear hKQ KQ) | (apply Exists.intro; with_reducible refine ⟨fun _ => ?_, hKQ _ ?_⟩; (with_reducible first | exact c0 _ _ | exact c1 _ _ | exact c2 _ _); clear hKQ KQ))
  with_reducible refine quiet_load_row ?hw 25 (.tmp 2) ?ho w.heap.size ?hx 25 _ (0, 0) _ hC Try.underlying25 ?hd ?hi ?_
  case hw => rfl
  case ho => rfl
  case hx => rfl
  case hd => rfl
  case hi => kernel_rfl
  repeat (with_reducible refine wpQuiet_step (fun KQ hKQ => ?_); go_simp; first | (with_reducible refine hKQ _ ?_; clear hKQ KQ) | (apply Exists.intro; with_reducible refine ⟨fun _ => ?_, hKQ _ ?_⟩; (with_reducible first | exact c0 _ _ | exact c1 _ _ | exact c2 _ _); clear hKQ KQ))
  refine wpQuiet_nil ?_
  intro _ hw'
  obtain ⟨⟨dq, osq⟩, hw''⟩ := hw'
  subst hw''
  replace E := b_trans E (below_regrown _ dq osq)
  generalize Sort.grow (redrawn y2 dq) osq = y3 at *
  go_wp2
  go_ret
  exact ⟨rfl, E⟩

/-- A thrust by letters: it fits; a greater count has a greater one. -/
structure Thr (x : Nat → Int) (n p e : Int) : Prop where
  p1 : -288230376151711744 ≤ p
  p2 : p ≤ 288230376151711744
  ok : e = 0 → p = (n - x 25) * x 24
theorem thr_of {x : Nat → Int} (h : cks x = 0) (n : Int) : Thr x n (thv x n) (the x n) := by
  cases i : inb n (1 - x 26) (x 26 - 1)
  · obtain ⟨e1, e2⟩ := th_out h i
    rw [e1, e2]
    exact ⟨by decide, by decide, fun h => absurd h (by decide)⟩
  · obtain ⟨e1, e2⟩ := th_ok h i
    rw [e1, e2]
    obtain ⟨a, b⟩ := inb_iff.1 i
    obtain ⟨c, d⟩ := thrust_small (kept_of h) a b
    exact ⟨c, d, fun _ => rfl⟩
theorem thr_rest {x : Nat → Int} (h : cks x = 0) : thv x (x 25) = 0 ∧ the x (x 25) = 0 := by
  have k := kept_of h
  obtain ⟨e1, e2⟩ := th_ok h (inb_iff.2 ⟨k.r1, k.r2⟩)
  exact ⟨by rw [e1, Int.sub_self, Int.zero_mul], e2⟩
theorem thr_less {x : Nat → Int} (h : cks x = 0) {a b p q : Int} (hp : p = (a - x 25) * x 24) (hq : q = (b - x 25) * x 24) : (decide (a < b) == decide (p < q)) = true := by
  have k := kept_of h
  by_cases l : a < b
  · have m := Int.mul_lt_mul_of_pos_right (show a - x 25 < b - x 25 by omega) (show 0 < x 24 by have := k.s1; omega)
    rw [decide_eq_true l, decide_eq_true (by omega)]; rfl
  · have m := Int.mul_le_mul_of_nonneg_right (show b - x 25 ≤ a - x 25 by omega) (show 0 ≤ x 24 by have := k.s1; omega)
    rw [decide_eq_false l, decide_eq_false (by omega)]; rfl

set_option maxHeartbeats 8000000 in
set_option maxRecDepth 20000 in
/-- Of a configuration that keeps all rules each thrust fits; the count at rest has none; a greater count has a greater one. -/
theorem confThrusts_any (x : Nat → Int) (hx : C64 x) (a b : Int) (w : World) : Calls Try.prog 4 #[cv x, .int .i64 a, .int .i64 b] w (RetV (.bool true) w) := by
  have ck := check_any x hx
  have ct := thrust_any x hx a
  by_cases c : cks x = 0
  · rw [c] at ck
    have cu := thrust_any x hx b
    have cv' := thrust_any x hx (x 25)
    obtain ⟨r1, r2⟩ := thr_rest c
    rw [r1, r2] at cv'
    have tb := thr_of c b
    have ta := thr_of c a
    generalize thv x a = p at *
    generalize the x a = e1 at *
    generalize thv x b = q at *
    generalize the x b = e2 at *
    clear r1 r2
    obtain ⟨p1, p2, pe⟩ := ta
    obtain ⟨q1, q2, qe⟩ := tb
    have fa := fits_any p (by omega) (by omega)
    rw [fitb_yes (show FitP p from by unfold FitP; omega)] at fa
    have fb := fits_any q (by omega) (by omega)
    rw [fitb_yes (show FitP q from by unfold FitP; omega)] at fb
    clear p1 p2 q1 q2
    have E : Below w.heap.size w (w.alloc (Obj.cells #[.int .i64 (x 0), .int .i64 (x 1), .int .i64 (x 2), .int .i64 (x 3), .int .i64 (x 4), .int .i64 (x 5), .int .i64 (x 6), .int .i64 (x 7), .int .i64 (x 8), .int .i64 (x 9), .int .i64 (x 10), .int .i64 (x 11), .int .i64 (x 12), .int .i64 (x 13), .int .i64 (x 14), .int .i64 (x 15), .int .i64 (x 16), .int .i64 (x 17), .int .i64 (x 18), .int .i64 (x 19), .int .i64 (x 20), .int .i64 (x 21), .int .i64 (x 22), .int .i64 (x 23), .int .i64 (x 24), .int .i64 (x 25), .int .i64 (x 26), .int .i64 (x 27), .int .i64 (x 28), .int .i64 (x 29), .int .i64 (x 30)] 25)) := b_alloc (Below.refl _ _)
    have cr : CR (w.alloc (Obj.cells #[.int .i64 (x 0), .int .i64 (x 1), .int .i64 (x 2), .int .i64 (x 3), .int .i64 (x 4), .int .i64 (x 5), .int .i64 (x 6), .int .i64 (x 7), .int .i64 (x 8), .int .i64 (x 9), .int .i64 (x 10), .int .i64 (x 11), .int .i64 (x 12), .int .i64 (x 13), .int .i64 (x 14), .int .i64 (x 15), .int .i64 (x 16), .int .i64 (x 17), .int .i64 (x 18), .int .i64 (x 19), .int .i64 (x 20), .int .i64 (x 21), .int .i64 (x 22), .int .i64 (x 23), .int .i64 (x 24), .int .i64 (x 25), .int .i64 (x 26), .int .i64 (x 27), .int .i64 (x 28), .int .i64 (x 29), .int .i64 (x 30)] 25)) w.heap.size x := cr_new
    go_enter Try.func4, Try.ntmps4
    go_wp2_with (with_reducible refine stop_at (some 15) rfl ?_)
    refine unstop ?_
    refine wpList_load_row rfl 25 (.tmp 3) rfl w.heap.size rfl 25 _ (0, 0) _ cr Try.underlying25 rfl (by kernel_rfl) ?_
    go_wp2_with fail
    refine (ck _).mono ?_
    rintro e y1 ⟨rfl, hb⟩
    replace cr := cr_keep hb cr
    replace E := b_trans E hb
    clear hb
    go_wp2_with (with_reducible refine stop_at (some 30) rfl ?_)
    refine unstop ?_
    refine wpList_load_row rfl 25 (.tmp 3) rfl w.heap.size rfl 25 _ (0, 0) _ cr Try.underlying25 rfl (by kernel_rfl) ?_
    go_wp2_with fail
    refine (ct _).mono ?_
    rintro e y2 ⟨rfl, hb⟩
    replace cr := cr_keep hb cr
    replace E := b_trans E hb
    clear hb
    go_wp2_with (with_reducible refine stop_at (some 36) rfl ?_)
    refine unstop ?_
    refine wpList_load_row rfl 25 (.tmp 3) rfl w.heap.size rfl 25 _ (0, 0) _ cr Try.underlying25 rfl (by kernel_rfl) ?_
    go_wp2_with fail
    refine (cu _).mono ?_
    rintro e y3 ⟨rfl, hb⟩
    replace cr := cr_keep hb cr
    replace E := b_trans E hb
    clear hb
    have g25 := cr_cell cr 25 (by decide)
    go_wp2_with (with_reducible refine stop_at (some 42) rfl ?_)
    refine unstop ?_
    refine wpList_load_row rfl 25 (.tmp 3) rfl w.heap.size rfl 25 _ (0, 0) _ cr Try.underlying25 rfl (by kernel_rfl) ?_
    go_wp2_with fail
    refine (cv' _).mono ?_
    rintro e y4 ⟨rfl, hb⟩
    replace cr := cr_keep hb cr
    replace E := b_trans E hb
    clear hb
    clear g25
    go_wp2_with fail
    refine (fa _).mono ?_
    rintro e y_ ⟨rfl, rfl⟩
    go_wp2_with fail
    refine (fb _).mono ?_
    rintro e y_ ⟨rfl, rfl⟩
    go_wp2_with fail
    refine (fixed_conf _).mono ?_
    rintro e y7 ⟨rfl, hb⟩
    replace cr := cr_keep hb cr
    replace E := b_trans E hb
    clear hb
    clear ck ct cu cv' fa fb cr
    by_cases ea : e1 = 0
    · by_cases eb : e2 = 0
      · have le := thr_less c (pe ea) (qe eb)
        clear c pe qe
        subst ea eb
        have le := Lib.hid le
        go_wp2
        go_ret
        exact ⟨rfl, E⟩
      · clear c pe qe
        subst ea
        go_wp2
        go_ret
        exact ⟨rfl, E⟩
    · clear c pe qe
      go_wp2
      go_ret
      exact ⟨rfl, E⟩
  · obtain ⟨t1, t2⟩ := th_bad (n := a) c
    rw [t1, t2] at ct
    clear t1 t2
    generalize cks x = m at *
    have E : Below w.heap.size w (w.alloc (Obj.cells #[.int .i64 (x 0), .int .i64 (x 1), .int .i64 (x 2), .int .i64 (x 3), .int .i64 (x 4), .int .i64 (x 5), .int .i64 (x 6), .int .i64 (x 7), .int .i64 (x 8), .int .i64 (x 9), .int .i64 (x 10), .int .i64 (x 11), .int .i64 (x 12), .int .i64 (x 13), .int .i64 (x 14), .int .i64 (x 15), .int .i64 (x 16), .int .i64 (x 17), .int .i64 (x 18), .int .i64 (x 19), .int .i64 (x 20), .int .i64 (x 21), .int .i64 (x 22), .int .i64 (x 23), .int .i64 (x 24), .int .i64 (x 25), .int .i64 (x 26), .int .i64 (x 27), .int .i64 (x 28), .int .i64 (x 29), .int .i64 (x 30)] 25)) := b_alloc (Below.refl _ _)
    have cr : CR (w.alloc (Obj.cells #[.int .i64 (x 0), .int .i64 (x 1), .int .i64 (x 2), .int .i64 (x 3), .int .i64 (x 4), .int .i64 (x 5), .int .i64 (x 6), .int .i64 (x 7), .int .i64 (x 8), .int .i64 (x 9), .int .i64 (x 10), .int .i64 (x 11), .int .i64 (x 12), .int .i64 (x 13), .int .i64 (x 14), .int .i64 (x 15), .int .i64 (x 16), .int .i64 (x 17), .int .i64 (x 18), .int .i64 (x 19), .int .i64 (x 20), .int .i64 (x 21), .int .i64 (x 22), .int .i64 (x 23), .int .i64 (x 24), .int .i64 (x 25), .int .i64 (x 26), .int .i64 (x 27), .int .i64 (x 28), .int .i64 (x 29), .int .i64 (x 30)] 25)) w.heap.size x := cr_new
    go_enter Try.func4, Try.ntmps4
    go_wp2_with (with_reducible refine stop_at (some 15) rfl ?_)
    refine unstop ?_
    refine wpList_load_row rfl 25 (.tmp 3) rfl w.heap.size rfl 25 _ (0, 0) _ cr Try.underlying25 rfl (by kernel_rfl) ?_
    go_wp2_with fail
    refine (ck _).mono ?_
    rintro e y1 ⟨rfl, hb⟩
    replace cr := cr_keep hb cr
    replace E := b_trans E hb
    clear hb
    go_wp2_with (with_reducible refine stop_at (some 19) rfl ?_)
    refine unstop ?_
    refine wpList_load_row rfl 25 (.tmp 3) rfl w.heap.size rfl 25 _ (0, 0) _ cr Try.underlying25 rfl (by kernel_rfl) ?_
    go_wp2_with fail
    refine (ct _).mono ?_
    rintro e y2 ⟨rfl, hb⟩
    replace cr := cr_keep hb cr
    replace E := b_trans E hb
    clear hb
    clear cr ck ct
    go_wp2_with fail
    refine (fixed_conf _).mono ?_
    rintro e y3 ⟨rfl, hb⟩
    replace E := b_trans E hb
    go_wp2
    go_ret
    exact ⟨rfl, E⟩

set_option maxHeartbeats 8000000 in
set_option maxRecDepth 20000 in
/-- The usual configuration is as the document says. -/
theorem confUsual_any (w : World) : Calls Try.prog 5 #[] w (RetV (.bool true) w) := by
  go_enter Try.func5, Try.ntmps5
  go_wp2_with fail
  refine (default_any _).mono ?_
  rintro e y0 ⟨rfl, hb⟩
  have E := hb
  have ge := hb.size
  clear hb
  go_wp2_with (with_reducible refine stop_at none rfl ?_)
  refine unstop ?_
  refine wpList_store_row rfl 25 (.tmp 1) (.tmp 3) rfl y0.heap.size #[.int .i64 1024, .int .i64 65536, .int .i64 256, .int .i64 16384, .int .i64 4194304, .int .i64 4096, .int .i64 274877906944, .int .i64 4398046511104, .int .i64 4398046511104, .int .i64 1099511627776, .int .i64 68719476736, .int .i64 256, .int .i64 256, .int .i64 256, .int .i64 1125899906842624, .int .i64 281474976710656, .int .i64 17592186044416, .int .i64 18014398509481984, .int .i64 562949953421312, .int .i64 8796093022208, .int .i64 9, .int .i64 34359738368, .int .i64 17179869184, .int .i64 (-1073741824), .int .i64 536870912, .int .i64 2048, .int .i64 32768, .int .i64 32, .int .i64 64, .int .i64 1280, .int .i64 240] rfl rfl 25 _ (heap_alloc_last y0 _) (by kernel_rfl) rfl (by kernel_rfl) ?_
  rw [World.setRow_alloc_new]
  replace E := b_alloc (o := Obj.cells #[.int .i64 1024, .int .i64 65536, .int .i64 256, .int .i64 16384, .int .i64 4194304, .int .i64 4096, .int .i64 274877906944, .int .i64 4398046511104, .int .i64 4398046511104, .int .i64 1099511627776, .int .i64 68719476736, .int .i64 256, .int .i64 256, .int .i64 256, .int .i64 1125899906842624, .int .i64 281474976710656, .int .i64 17592186044416, .int .i64 18014398509481984, .int .i64 562949953421312, .int .i64 8796093022208, .int .i64 9, .int .i64 34359738368, .int .i64 17179869184, .int .i64 (-1073741824), .int .i64 536870912, .int .i64 2048, .int .i64 32768, .int .i64 32, .int .i64 64, .int .i64 1280, .int .i64 240] 25) E
  have hg := heap_alloc_last y0 (Obj.cells #[.int .i64 1024, .int .i64 65536, .int .i64 256, .int .i64 16384, .int .i64 4194304, .int .i64 4096, .int .i64 274877906944, .int .i64 4398046511104, .int .i64 4398046511104, .int .i64 1099511627776, .int .i64 68719476736, .int .i64 256, .int .i64 256, .int .i64 256, .int .i64 1125899906842624, .int .i64 281474976710656, .int .i64 17592186044416, .int .i64 18014398509481984, .int .i64 562949953421312, .int .i64 8796093022208, .int .i64 9, .int .i64 34359738368, .int .i64 17179869184, .int .i64 (-1073741824), .int .i64 536870912, .int .i64 2048, .int .i64 32768, .int .i64 32, .int .i64 64, .int .i64 1280, .int .i64 240] 25)
  generalize y0.alloc (Obj.cells #[.int .i64 1024, .int .i64 65536, .int .i64 256, .int .i64 16384, .int .i64 4194304, .int .i64 4096, .int .i64 274877906944, .int .i64 4398046511104, .int .i64 4398046511104, .int .i64 1099511627776, .int .i64 68719476736, .int .i64 256, .int .i64 256, .int .i64 256, .int .i64 1125899906842624, .int .i64 281474976710656, .int .i64 17592186044416, .int .i64 18014398509481984, .int .i64 562949953421312, .int .i64 8796093022208, .int .i64 9, .int .i64 34359738368, .int .i64 17179869184, .int .i64 (-1073741824), .int .i64 536870912, .int .i64 2048, .int .i64 32768, .int .i64 32, .int .i64 64, .int .i64 1280, .int .i64 240] 25) = y1 at *
  generalize y0.heap.size = n at *
  have K : ∀ i v, #[.int .i64 1024, .int .i64 65536, .int .i64 256, .int .i64 16384, .int .i64 4194304, .int .i64 4096, .int .i64 274877906944, .int .i64 4398046511104, .int .i64 4398046511104, .int .i64 1099511627776, .int .i64 68719476736, .int .i64 256, .int .i64 256, .int .i64 256, .int .i64 1125899906842624, .int .i64 281474976710656, .int .i64 17592186044416, .int .i64 18014398509481984, .int .i64 562949953421312, .int .i64 8796093022208, .int .i64 9, .int .i64 34359738368, .int .i64 17179869184, .int .i64 (-1073741824), .int .i64 536870912, .int .i64 2048, .int .i64 32768, .int .i64 32, .int .i64 64, .int .i64 1280, .int .i64 240][i]? = some v → y1.cell? ⟨n, i, none⟩ = some v := fun i v h => (cell_of_row _ _ i _ _ _ hg).trans h
  have h0 := K 0 (.int .i64 1024) rfl
  have h1 := K 1 (.int .i64 65536) rfl
  have h2 := K 2 (.int .i64 256) rfl
  have h3 := K 3 (.int .i64 16384) rfl
  have h4 := K 4 (.int .i64 4194304) rfl
  have h5 := K 5 (.int .i64 4096) rfl
  have h6 := K 6 (.int .i64 274877906944) rfl
  have h7 := K 7 (.int .i64 4398046511104) rfl
  have h8 := K 8 (.int .i64 4398046511104) rfl
  have h9 := K 9 (.int .i64 1099511627776) rfl
  have h10 := K 10 (.int .i64 68719476736) rfl
  have h11 := K 11 (.int .i64 256) rfl
  have h12 := K 12 (.int .i64 256) rfl
  have h13 := K 13 (.int .i64 256) rfl
  have h14 := K 14 (.int .i64 1125899906842624) rfl
  have h15 := K 15 (.int .i64 281474976710656) rfl
  have h16 := K 16 (.int .i64 17592186044416) rfl
  have h17 := K 17 (.int .i64 18014398509481984) rfl
  have h18 := K 18 (.int .i64 562949953421312) rfl
  have h19 := K 19 (.int .i64 8796093022208) rfl
  have h20 := K 20 (.int .i64 9) rfl
  have h21 := K 21 (.int .i64 34359738368) rfl
  have h22 := K 22 (.int .i64 17179869184) rfl
  have h23 := K 23 (.int .i64 (-1073741824)) rfl
  have h24 := K 24 (.int .i64 536870912) rfl
  have h25 := K 25 (.int .i64 2048) rfl
  have h26 := K 26 (.int .i64 32768) rfl
  have h27 := K 27 (.int .i64 32) rfl
  have h28 := K 28 (.int .i64 64) rfl
  have h29 := K 29 (.int .i64 1280) rfl
  have h30 := K 30 (.int .i64 240) rfl
  have v0 := vec_eq_self 1024 65536 256
  have v1 := vec_eq_self 16384 4194304 4096
  have v2 := vec_eq_self 4398046511104 1099511627776 68719476736
  have v3 := vec_eq_self 256 256 256
  have v4 := vec_eq_self 1125899906842624 281474976710656 17592186044416
  have v5 := vec_eq_self 18014398509481984 562949953421312 8796093022208
  have v6 := vec_eq_self 34359738368 17179869184 (-1073741824)
  clear K hg
  go_wp2_with fail
  refine (fixed_conf _).mono ?_
  rintro e y2 ⟨rfl, hb⟩
  replace E := b_trans E hb
  replace h6 := cell_keep hb h6
  replace h7 := cell_keep hb h7
  replace h20 := cell_keep hb h20
  replace h24 := cell_keep hb h24
  replace h25 := cell_keep hb h25
  replace h26 := cell_keep hb h26
  replace h27 := cell_keep hb h27
  replace h28 := cell_keep hb h28
  replace h29 := cell_keep hb h29
  replace h30 := cell_keep hb h30
  clear hb
  go_wp2
  go_ret
  exact ⟨rfl, E⟩
end Go.Proofs.Ytnncdfmhnjnboaa
