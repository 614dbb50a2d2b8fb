/- Layer 15: the chapter's example; while counts are clipped the thrust stays. -/
import Derived.Test.YtoohaphaeccafaaAccB
namespace Go.Proofs.Ytoohaphaeccafaa
open Go.RowKit Go.Shelf Go.Joins

theorem ex_ok : the dflt 2049 = 0 := by decide +kernel
theorem ex_thrust : thv dflt 2049 = 536870912 := by decide +kernel
theorem ex_held : the dflt 40000 = 2 := by decide +kernel
theorem ex_hold : decide (dflt 27 < 0 + 1) = false := by decide +kernel
set_option maxHeartbeats 8000000 in
set_option maxRecDepth 20000 in
/-- The chapter's example: with the usual configuration 2049 and 40000 bring 2^29; 2^29, held. -/
theorem fixed_acc (w : World) : Calls Try.prog 5 #[] w (RetV (.bool true) w) := by
  have cn := new_ok dflt dflt64 default_kept
  rw [dv_eq] at cn
  have c1 := fun b => in_ok b dflt dflt64 0 0 2049 default_kept ex_ok
  rw [ex_thrust] at c1
  have c2 := fun b => in_held b dflt dflt64 536870912 0 40000 default_kept ex_held (by decide) (by decide)
  rw [ex_hold] at c2
  go_enter Try.func5, Try.ntmps5
  go_wp2_with fail
  refine (default_any _).mono ?_
  rintro e y0 ⟨rfl, E⟩
  go_wp2_with fail
  refine (cn _).mono ?_
  rintro e y1 ⟨b, rfl, gb, h, hb⟩
  replace gb := Nat.le_trans E.size gb
  replace E := b_trans E hb
  clear hb cn
  go_wp2_with fail
  refine (c1 b _ h).mono ?_
  clear h
  rintro e y2 ⟨rfl, h, B⟩
  replace E := below_but E gb B
  clear B c1
  go_wp2_with fail
  refine (c2 b _ h).mono ?_
  clear h
  rintro e y3 ⟨rfl, h, B⟩
  replace E := below_but E gb B
  clear B c2 h gb
  go_wp2
  go_ret
  exact ⟨rfl, E⟩

set_option maxHeartbeats 8000000 in
set_option maxRecDepth 20000 in
/-- While counts are clipped the thrust stays; it is lost just behind more than Hold of them; one that isn't clipped makes it as if none had been. -/
theorem accelHeld_any (x : Nat → Int) (hx : C64 x) (n p0 p1 : Int) (n0 : 0 ≤ n) (n1 : n ≤ 65535) (w : World) : Calls Try.prog 4 #[cv x, .int .u16 n, .agg #[.int .i64 p0, .int .i64 p1]] w (RetV (.bool true) w) := by
  have E : Below w.heap.size w ((w.alloc (Obj.cells #[.int .i64 (x 0), .int .i64 (x 1), .int .i64 (x 2), .int .i64 (x 3), .int .i64 (x 4), .int .i64 (x 5), .int .i64 (x 6), .int .i64 (x 7), .int .i64 (x 8), .int .i64 (x 9), .int .i64 (x 10), .int .i64 (x 11), .int .i64 (x 12), .int .i64 (x 13), .int .i64 (x 14), .int .i64 (x 15), .int .i64 (x 16), .int .i64 (x 17), .int .i64 (x 18), .int .i64 (x 19), .int .i64 (x 20), .int .i64 (x 21), .int .i64 (x 22), .int .i64 (x 23), .int .i64 (x 24), .int .i64 (x 25), .int .i64 (x 26), .int .i64 (x 27), .int .i64 (x 28), .int .i64 (x 29), .int .i64 (x 30)] 25)).alloc (Obj.cells #[.int .i64 p0, .int .i64 p1] 46)) := b_alloc (b_alloc (Below.refl _ _))
  have cr : CR ((w.alloc (Obj.cells #[.int .i64 (x 0), .int .i64 (x 1), .int .i64 (x 2), .int .i64 (x 3), .int .i64 (x 4), .int .i64 (x 5), .int .i64 (x 6), .int .i64 (x 7), .int .i64 (x 8), .int .i64 (x 9), .int .i64 (x 10), .int .i64 (x 11), .int .i64 (x 12), .int .i64 (x 13), .int .i64 (x 14), .int .i64 (x 15), .int .i64 (x 16), .int .i64 (x 17), .int .i64 (x 18), .int .i64 (x 19), .int .i64 (x 20), .int .i64 (x 21), .int .i64 (x 22), .int .i64 (x 23), .int .i64 (x 24), .int .i64 (x 25), .int .i64 (x 26), .int .i64 (x 27), .int .i64 (x 28), .int .i64 (x 29), .int .i64 (x 30)] 25)).alloc (Obj.cells #[.int .i64 p0, .int .i64 p1] 46)) w.heap.size x := cr_alloc cr_new _
  have pr : ((w.alloc (Obj.cells #[.int .i64 (x 0), .int .i64 (x 1), .int .i64 (x 2), .int .i64 (x 3), .int .i64 (x 4), .int .i64 (x 5), .int .i64 (x 6), .int .i64 (x 7), .int .i64 (x 8), .int .i64 (x 9), .int .i64 (x 10), .int .i64 (x 11), .int .i64 (x 12), .int .i64 (x 13), .int .i64 (x 14), .int .i64 (x 15), .int .i64 (x 16), .int .i64 (x 17), .int .i64 (x 18), .int .i64 (x 19), .int .i64 (x 20), .int .i64 (x 21), .int .i64 (x 22), .int .i64 (x 23), .int .i64 (x 24), .int .i64 (x 25), .int .i64 (x 26), .int .i64 (x 27), .int .i64 (x 28), .int .i64 (x 29), .int .i64 (x 30)] 25)).alloc (Obj.cells #[.int .i64 p0, .int .i64 p1] 46)).heap[w.heap.size + 1]? = some (.cells #[.int .i64 p0, .int .i64 p1] 46 (0, 0)) := heap_alloc2_new w _ _
  by_cases c : cks x = 0
  · have cn := new_ok x hx c
    go_enter Try.func4, Try.ntmps4
    go_wp2_with (with_reducible refine stop_at (some 25) rfl ?_)
    generalize ((w.alloc (Obj.cells #[.int .i64 (x 0), .int .i64 (x 1), .int .i64 (x 2), .int .i64 (x 3), .int .i64 (x 4), .int .i64 (x 5), .int .i64 (x 6), .int .i64 (x 7), .int .i64 (x 8), .int .i64 (x 9), .int .i64 (x 10), .int .i64 (x 11), .int .i64 (x 12), .int .i64 (x 13), .int .i64 (x 14), .int .i64 (x 15), .int .i64 (x 16), .int .i64 (x 17), .int .i64 (x 18), .int .i64 (x 19), .int .i64 (x 20), .int .i64 (x 21), .int .i64 (x 22), .int .i64 (x 23), .int .i64 (x 24), .int .i64 (x 25), .int .i64 (x 26), .int .i64 (x 27), .int .i64 (x 28), .int .i64 (x 29), .int .i64 (x 30)] 25)).alloc (Obj.cells #[.int .i64 p0, .int .i64 p1] 46)) = z0 at *
    refine unstop ?_
    refine wpList_load_row rfl 25 (.tmp 3) rfl w.heap.size rfl 25 _ (0, 0) _ cr Try.underlying25 rfl (by kernel_rfl) ?_
    go_wp2_with fail
    refine (cn _).mono ?_
    rintro e y0 ⟨b, rfl, gb, h, hb⟩
    have gp := (Array.getElem?_eq_some_iff.1 pr).1
    replace gb : w.heap.size + 1 < b := by omega
    clear gp
    replace cr := cr_keep hb cr
    replace pr := row_keep hb pr
    replace E := b_trans E hb
    clear hb
    have q0 : y0.cell? ⟨w.heap.size + 1, 0, none⟩ = some (.int .i64 p0) := (cell_of_row _ _ 0 _ _ _ pr).trans rfl
    rcases the_or c p0 with t | t
    · have c1 := in_ok b x hx 0 0 p0 c t
      generalize thv x p0 = q at *
      clear t
      go_wp2_with fail
      refine (c1 _ h).mono ?_
      clear h q0
      rintro e y1 ⟨rfl, h, B⟩
      replace cr := but_row B (by omega) cr
      replace pr := but_row B (by omega) pr
      replace E := below_but E (by omega) B
      clear B c1
      go_wp2
      obtain ⟨m, hm, m1⟩ : ∃ m : Nat, n % 1100 = m ∧ m < 1100 := ⟨(n % 1100).toNat, by omega, by omega⟩
      rw [hm]
      clear hm n0 n1
      have kp := kept_of c
      have k1 := kp.c1
      have k2 := kp.c2
      clear kp
      go_loopw [64] (fun iv wr => ∃ k : Nat, k ≤ m ∧ iv = .int .i64 k ∧ FR wr b x q k ∧ CR wr w.heap.size x ∧ wr.heap[w.heap.size + 1]? = some (.cells #[.int .i64 p0, .int .i64 p1] 46 (0, 0)) ∧ Below w.heap.size w wr) (fun iv _ => m - (intOf iv).toNat)
      case atStart => exact ⟨0, Nat.zero_le _, rfl, h, cr, pr, E⟩
      case round =>
        clear h cr pr E
        obtain ⟨k, hk, rfl, h, cr, pr, E⟩ := hrel
        by_cases hlt : k < m
        · have t2 : the x (x 26 + (k : Int) % 3) = 2 := (th_out c (inb_no.2 (by omega))).2
          have ws : IntKind.i64.wrap (x 26 + (k : Int) % 3) = x 26 + (k : Int) % 3 := by rw [IntKind.wrap_i64]; omega
          have c2 := in_held b x hx q k (x 26 + (k : Int) % 3) c t2 (by omega) (by omega)
          have g26 := cr_cell cr 26 (by decide)
          have hl : (k : Int) < m := by omega
          clear t2
          go_wp2_with fail
          refine (c2 _ h).mono ?_
          clear h g26 ws c2
          rintro e y2 ⟨rfl, h, B⟩
          replace cr := but_row B (by omega) cr
          replace pr := but_row B (by omega) pr
          replace E := below_but E (by omega) B
          clear B
          have ws : IntKind.i64.wrap ((k : Int) + 1) = (k : Int) + 1 := by rw [IntKind.wrap_i64]; omega
          have g27 := cr_cell cr 27 (by decide)
          go_wp2_with fail
          refine (run_any b x q ((k : Int) + 1) _ h).mono ?_
          rintro e y3 ⟨rfl, hb⟩
          replace h := row_keep hb h
          replace cr := cr_keep hb cr
          replace pr := row_keep hb pr
          replace E := b_trans E hb
          clear hb g27
          go_wp2
          refine ⟨⟨k + 1, by omega, rfl, h, cr, pr, E⟩, ?_⟩
          simp only [intOf]
          omega
        · have hl : ¬ (k : Int) < m := by omega
          have e : k = m := by omega
          subst e
          clear hlt hk
          go_wp2_with (with_reducible refine stop_at (some 103) rfl ?_)
          refine unstop ?_
          refine wpList_load_row rfl 25 (.tmp 3) rfl w.heap.size rfl 25 _ (0, 0) _ cr Try.underlying25 rfl (by kernel_rfl) ?_
          go_wp2_with fail
          refine (cn _).mono ?_
          rintro e y2 ⟨b2, rfl, gb2, h2, hb⟩
          have gp := (Array.getElem?_eq_some_iff.1 h).1
          replace gb2 : b < b2 := by omega
          clear gp cr
          replace h := row_keep hb h
          replace pr := row_keep hb pr
          replace E := b_trans E hb
          clear hb cn
          have q1 : y2.cell? ⟨w.heap.size + 1, 1, none⟩ = some (.int .i64 p1) := (cell_of_row _ _ 1 _ _ _ pr).trans rfl
          rcases the_or c p1 with t | t
          · have c3 := fun (l r : Int) (b : Nat) => in_ok b x hx l r p1 c t
            generalize thv x p1 = q2 at *
            clear t
            go_wp2_with fail
            refine (c3 q k b _ h).mono ?_
            clear h
            rintro e y4 ⟨rfl, h, B⟩
            replace h2 := but_row B (by omega) h2
            replace pr := but_row B (by omega) pr
            replace E := below_but E (by omega) B
            clear B
            have g1 : y4.cell? ⟨w.heap.size + 1, 1, none⟩ = some (.int .i64 p1) := (cell_of_row _ _ 1 _ _ _ pr).trans rfl
            go_wp2_with fail
            refine (c3 0 0 b2 _ h2).mono ?_
            clear h2
            rintro e y5 ⟨rfl, -, B⟩
            replace h := but_row B (by omega) h
            replace E := below_but E (by omega) B
            clear B c3 g1 pr
            go_wp2_with fail
            refine (fixed_acc _).mono ?_
            rintro e y6 ⟨rfl, hb⟩
            replace E := b_trans E hb
            replace h := row_keep hb h
            clear hb
            go_wp2_with fail
            refine (run_any b x q2 0 _ h).mono ?_
            rintro e y7 ⟨rfl, hb⟩
            replace E := b_trans E hb
            clear hb
            go_wp2
            go_ret
            exact ⟨rfl, E⟩
          · have c3 := in_held b x hx q k p1 c t (by omega) (by omega)
            have c4 := in_held b2 x hx 0 0 p1 c t (by decide) (by decide)
            clear t
            go_wp2_with fail
            refine (c3 _ h).mono ?_
            clear h
            rintro e y4 ⟨rfl, h, B⟩
            replace h2 := but_row B (by omega) h2
            replace pr := but_row B (by omega) pr
            replace E := below_but E (by omega) B
            clear B
            have g1 : y4.cell? ⟨w.heap.size + 1, 1, none⟩ = some (.int .i64 p1) := (cell_of_row _ _ 1 _ _ _ pr).trans rfl
            go_wp2_with fail
            refine (c4 _ h2).mono ?_
            clear h2
            rintro e y5 ⟨rfl, -, B⟩
            replace h := but_row B (by omega) h
            replace E := below_but E (by omega) B
            clear B c3 g1 pr c4
            go_wp2_with fail
            refine (fixed_acc _).mono ?_
            rintro e y6 ⟨rfl, hb⟩
            replace E := b_trans E hb
            replace h := row_keep hb h
            clear hb
            go_wp2
            go_ret
            exact ⟨rfl, E⟩
    · have c1 := in_held b x hx 0 0 p0 c t (by decide) (by decide)
      rw [Int.zero_add] at c1
      clear t cn c
      go_wp2_with fail
      refine (c1 _ h).mono ?_
      clear h q0
      rintro e y1 ⟨rfl, h, B⟩
      replace cr := but_row B (by omega) cr
      replace E := below_but E (by omega) B
      clear B c1 h pr
      go_wp2_with fail
      refine (fixed_acc _).mono ?_
      rintro e y2 ⟨rfl, hb⟩
      replace E := b_trans E hb
      replace cr := cr_keep hb cr
      have g27 := cr_cell cr 27 (by decide)
      clear hb cr
      go_wp2
      go_ret
      exact ⟨rfl, E⟩
  · have cn := new_bad x hx c
    go_enter Try.func4, Try.ntmps4
    go_wp2_with (with_reducible refine stop_at (some 25) rfl ?_)
    generalize ((w.alloc (Obj.cells #[.int .i64 (x 0), .int .i64 (x 1), .int .i64 (x 2), .int .i64 (x 3), .int .i64 (x 4), .int .i64 (x 5), .int .i64 (x 6), .int .i64 (x 7), .int .i64 (x 8), .int .i64 (x 9), .int .i64 (x 10), .int .i64 (x 11), .int .i64 (x 12), .int .i64 (x 13), .int .i64 (x 14), .int .i64 (x 15), .int .i64 (x 16), .int .i64 (x 17), .int .i64 (x 18), .int .i64 (x 19), .int .i64 (x 20), .int .i64 (x 21), .int .i64 (x 22), .int .i64 (x 23), .int .i64 (x 24), .int .i64 (x 25), .int .i64 (x 26), .int .i64 (x 27), .int .i64 (x 28), .int .i64 (x 29), .int .i64 (x 30)] 25)).alloc (Obj.cells #[.int .i64 p0, .int .i64 p1] 46)) = z0 at *
    refine unstop ?_
    refine wpList_load_row rfl 25 (.tmp 3) rfl w.heap.size rfl 25 _ (0, 0) _ cr Try.underlying25 rfl (by kernel_rfl) ?_
    go_wp2_with fail
    refine (cn _).mono ?_
    rintro e y0 ⟨rfl, hb⟩
    replace E := b_trans E hb
    clear hb cn cr pr c
    go_wp2_with fail
    refine (fixed_acc _).mono ?_
    rintro e y1 ⟨rfl, hb⟩
    replace E := b_trans E hb
    go_wp2
    go_ret
    exact ⟨rfl, E⟩
end Go.Proofs.Ytoohaphaeccafaa
