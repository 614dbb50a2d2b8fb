/- Layer 19: the chapter's example; ModeOn. -/
import Derived.Test.YtohbneijfibhhaaModB
import Derived.Test.YtohbneijfibhhaaModE
namespace Go.Proofs.Ytohbneijfibhhaa
open Go.RowKit Go.Shelf Go.Joins

set_option maxHeartbeats 4000000 in
set_option maxRecDepth 10000 in
theorem fixed_mod (w : World) : Calls Try.prog 6 #[] w (RetV (.bool true) w) := by
  have hz : ∀ k, k < 3 → ∃ gb off, (some ⟨w.heap.size, 0, none⟩ : Option Addr) = some ⟨gb, off, none⟩ ∧ (w.alloc (Obj.cells #[.int .i64 0, .int .i64 2, .int .i64 2] 3)).cell? ⟨gb, off + k, none⟩ = some (.int .i64 ((fun k => if k = 0 then 0 else 2 : Nat → Int) k)) := fun k hk => ⟨_, _, rfl, by
    rw [Nat.zero_add, cell_of_row _ _ k _ _ _ (heap_alloc_last w _)]
    rcases (by omega : k = 0 ∨ k = 1 ∨ k = 2) with rfl | rfl | rfl <;> rfl⟩
  have cR := run_any _ 3 3 _ 2 3 (by decide) (by decide) _ hz
  clear hz
  go_enter Try.func6, Try.ntmps6
  go_wp2_with fail
  refine cR.mono ?_
  rintro e y0 ⟨rfl, hc, hb⟩
  have E := b_trans (b_alloc (Below.refl w.heap.size w)) hb
  have h0 := hc 0 (by decide)
  have h1 := hc 1 (by decide)
  have h2 := hc 2 (by decide)
  have e0 : clk (fun k => if k = 0 then 0 else 2) 2 3 (0 + 1) = (1, 0) := by decide
  have e1 : clk (fun k => if k = 0 then 0 else 2) 2 3 (1 + 1) = (1, 1) := by decide
  have e2 : clk (fun k => if k = 0 then 0 else 2) 2 3 (2 + 1) = (2, 2) := by decide
  rw [e0] at h0
  rw [e1] at h1
  rw [e2] at h2
  simp only [Nat.zero_mul, Nat.one_mul, Nat.reduceMul, Nat.reduceAdd, Nat.zero_add, World.size_alloc] at h0 h1 h2
  obtain ⟨h00, h01⟩ := h0
  obtain ⟨h10, h11⟩ := h1
  obtain ⟨h20, h21⟩ := h2
  clear hc hb e0 e1 e2 cR
  go_wp2
  go_ret
  exact ⟨rfl, E⟩

set_option maxHeartbeats 4000000 in
set_option maxRecDepth 10000 in
theorem modeOn_any (m s e x y : Int) (hs0 : -9223372036854775808 ≤ s) (hs1 : s ≤ 9223372036854775807) (hy : y ≤ 9223372036854775807) (w : World) :
    Calls Try.prog 3 #[ckv (m, s), .int .i64 e, .agg #[.int .i64 x, .int .i64 y]] w (RetV (.bool true) w) := by
  by_cases o0 : s < -1099511627776
  · go_enter Try.func3, Try.ntmps3
    go_wp2_with fail
    refine (fixed_mod _).mono ?_
    rintro e y0 ⟨rfl, hb⟩
    have E := b_trans (b_alloc (b_alloc (Below.refl _ _))) hb
    go_wp2
    go_ret
    exact ⟨rfl, E⟩
  · by_cases o1 : 1099511627776 < s
    · go_enter Try.func3, Try.ntmps3
      go_wp2_with fail
      refine (fixed_mod _).mono ?_
      rintro e y0 ⟨rfl, hb⟩
      have E := b_trans (b_alloc (b_alloc (Below.refl _ _))) hb
      go_wp2
      go_ret
      exact ⟨rfl, E⟩
    · have cO : ∀ w, Calls Try.prog 7 #[ckv (m, s), .int .i64 e, .int .i64 x, .int .i64 y] w (RetV (ckv ((nxt (m, s) e x y).1, (nxt (m, s) e x y).2)) w) := on_clock m s e x y hs0 hy
      have cR : ∀ w, Calls Try.prog 8 #[ckv (m, s), .int .i64 e, .int .i64 x, .int .i64 y] w (RetV (ckv ((nxt (m, s) e x y).1, (nxt (m, s) e x y).2)) w) := ref_clock m s e x y hs0 (by omega)
      generalize (nxt (m, s) e x y).1 = m2 at *
      generalize (nxt (m, s) e x y).2 = s2 at *
      go_enter Try.func3, Try.ntmps3
      go_wp2_with fail
      refine (cO _).mono ?_
      rintro e1 y0 ⟨rfl, hb⟩
      have r0 : KR (y0.alloc (Obj.cells #[.int .i64 m2, .int .i64 s2] 23)) w.heap.size 23 m s := row_keep (b_alloc (Below.refl _ _)) (row_keep hb (lay_old _ _ _))
      have rp : (y0.alloc (Obj.cells #[.int .i64 m2, .int .i64 s2] 23)).heap[w.heap.size + 1]? = some (.cells #[.int .i64 x, .int .i64 y] 24 (0, 0)) := row_keep (b_alloc (Below.refl _ _)) (row_keep hb (lay_new _ _ _))
      have r2 : KR (y0.alloc (Obj.cells #[.int .i64 m2, .int .i64 s2] 23)) y0.heap.size 23 m2 s2 := heap_alloc_last _ _
      have E := b_alloc (o := Obj.cells #[.int .i64 m2, .int .i64 s2] 23) (b_trans (b_alloc (b_alloc (Below.refl _ _))) hb)
      have g0 : (y0.alloc (Obj.cells #[.int .i64 m2, .int .i64 s2] 23)).cell? ⟨w.heap.size, 0, none⟩ = some (.int .i64 m) := (cell_of_row _ _ 0 _ _ _ r0).trans rfl
      have g1 : (y0.alloc (Obj.cells #[.int .i64 m2, .int .i64 s2] 23)).cell? ⟨w.heap.size, 1, none⟩ = some (.int .i64 s) := (cell_of_row _ _ 1 _ _ _ r0).trans rfl
      have g2 : (y0.alloc (Obj.cells #[.int .i64 m2, .int .i64 s2] 23)).cell? ⟨w.heap.size + 1, 0, none⟩ = some (.int .i64 x) := (cell_of_row _ _ 0 _ _ _ rp).trans rfl
      have g3 : (y0.alloc (Obj.cells #[.int .i64 m2, .int .i64 s2] 23)).cell? ⟨w.heap.size + 1, 1, none⟩ = some (.int .i64 y) := (cell_of_row _ _ 1 _ _ _ rp).trans rfl
      have H0 := Lib.hid r0
      have H2 := Lib.hid r2
      clear hb r0 r2 rp cO
      go_wp2_with fail
      refine (cR _).mono ?_
      rintro e2 y1 ⟨rfl, hb⟩
      have r0 : KR (y1.alloc (Obj.cells #[.int .i64 m2, .int .i64 s2] 27)) w.heap.size 23 m s := row_keep (b_alloc (Below.refl _ _)) (row_keep hb H0.out)
      have r2 : KR (y1.alloc (Obj.cells #[.int .i64 m2, .int .i64 s2] 27)) y0.heap.size 23 m2 s2 := row_keep (b_alloc (Below.refl _ _)) (row_keep hb H2.out)
      have r3 : KR (y1.alloc (Obj.cells #[.int .i64 m2, .int .i64 s2] 27)) y1.heap.size 27 m2 s2 := heap_alloc_last _ _
      replace E := b_alloc (o := Obj.cells #[.int .i64 m2, .int .i64 s2] 27) (b_trans E hb)
      clear hb cR g0 g1 g2 g3 H0 H2
      have q0 := cell_regrown (show (y1.alloc (Obj.cells #[.int .i64 m2, .int .i64 s2] 27)).cell? ⟨w.heap.size, 0, none⟩ = some (.int .i64 m) from (cell_of_row _ _ 0 _ _ _ r0).trans rfl)
      have q1 := cell_regrown (show (y1.alloc (Obj.cells #[.int .i64 m2, .int .i64 s2] 27)).cell? ⟨w.heap.size, 1, none⟩ = some (.int .i64 s) from (cell_of_row _ _ 1 _ _ _ r0).trans rfl)
      have q2 := cell_regrown (show (y1.alloc (Obj.cells #[.int .i64 m2, .int .i64 s2] 27)).cell? ⟨y0.heap.size, 0, none⟩ = some (.int .i64 m2) from (cell_of_row _ _ 0 _ _ _ r2).trans rfl)
      have q3 := cell_regrown (show (y1.alloc (Obj.cells #[.int .i64 m2, .int .i64 s2] 27)).cell? ⟨y0.heap.size, 1, none⟩ = some (.int .i64 s2) from (cell_of_row _ _ 1 _ _ _ r2).trans rfl)
      have q4 := cell_regrown (show (y1.alloc (Obj.cells #[.int .i64 m2, .int .i64 s2] 27)).cell? ⟨y1.heap.size, 0, none⟩ = some (.int .i64 m2) from (cell_of_row _ _ 0 _ _ _ r3).trans rfl)
      have q5 := cell_regrown (show (y1.alloc (Obj.cells #[.int .i64 m2, .int .i64 s2] 27)).cell? ⟨y1.heap.size, 1, none⟩ = some (.int .i64 s2) from (cell_of_row _ _ 1 _ _ _ r3).trans rfl)
      clear r0 r2 r3
      have c0 := retV_regrown fixed_mod (w := y1.alloc (Obj.cells #[.int .i64 m2, .int .i64 s2] 27))
      have c1 := retV_regrown (valid_any m s) (w := y1.alloc (Obj.cells #[.int .i64 m2, .int .i64 s2] 27))
      have c2 := retV_regrown (seeks_any m s) (w := y1.alloc (Obj.cells #[.int .i64 m2, .int .i64 s2] 27))
      go_wp2
      generalize y1.alloc (Obj.cells #[.int .i64 m2, .int .i64 s2] 27) = y2 at *
      rcases (by omega : m = 1 ∨ m = 2 ∨ m = 0 ∨ m = 3 ∨ (m ≠ 0 ∧ m ≠ 1 ∧ m ≠ 2 ∧ m ≠ 3)) with rfl | rfl | rfl | rfl | ⟨n0, n1, n2, n3⟩
      · rw [show vld 1 = true from rfl] at c1
        rw [show sks 1 = false from rfl] at c2
        refine wp_region_quiet_below (by kernel_rfl) (by kernel_rfl) ?_
        repeat (with_reducible refine wpQuiet_step (fun KQ hKQ => ?_); go_simp; first | (with_reducible refine hKQ _ ?_; clear hKQ KQ) | (apply Exists.intro; with_reducible refine ⟨fun _ => ?_, hKQ _ ?_⟩; (first | with_reducible exact c0 _ _ | with_reducible exact c1 _ _ | with_reducible exact c2 _ _); clear hKQ KQ))
        refine wpQuiet_nil ?_
        intro _ hw'
        obtain ⟨⟨dq, osq⟩, hw''⟩ := hw'
        subst hw''
        replace E := b_trans E (below_regrown y2 dq osq)
        clear q0 q1 q2 q3 q4 q5 c0 c1 c2
        generalize Sort.grow (redrawn y2 dq) osq = y3 at *
        go_wp2
        go_ret
        exact ⟨rfl, E⟩
      · rw [show vld 2 = true from rfl] at c1
        rw [show sks 2 = false from rfl] at c2
        refine wp_region_quiet_below (by kernel_rfl) (by kernel_rfl) ?_
        repeat (with_reducible refine wpQuiet_step (fun KQ hKQ => ?_); go_simp; first | (with_reducible refine hKQ _ ?_; clear hKQ KQ) | (apply Exists.intro; with_reducible refine ⟨fun _ => ?_, hKQ _ ?_⟩; (first | with_reducible exact c0 _ _ | with_reducible exact c1 _ _ | with_reducible exact c2 _ _); clear hKQ KQ))
        refine wpQuiet_nil ?_
        intro _ hw'
        obtain ⟨⟨dq, osq⟩, hw''⟩ := hw'
        subst hw''
        replace E := b_trans E (below_regrown y2 dq osq)
        clear q0 q1 q2 q3 q4 q5 c0 c1 c2
        generalize Sort.grow (redrawn y2 dq) osq = y3 at *
        go_wp2
        go_ret
        exact ⟨rfl, E⟩
      · rw [show vld 0 = false from rfl] at c1
        rw [show sks 0 = true from rfl] at c2
        refine wp_region_quiet_below (by kernel_rfl) (by kernel_rfl) ?_
        repeat (with_reducible refine wpQuiet_step (fun KQ hKQ => ?_); go_simp; first | (with_reducible refine hKQ _ ?_; clear hKQ KQ) | (apply Exists.intro; with_reducible refine ⟨fun _ => ?_, hKQ _ ?_⟩; (first | with_reducible exact c0 _ _ | with_reducible exact c1 _ _ | with_reducible exact c2 _ _); clear hKQ KQ))
        refine wpQuiet_nil ?_
        intro _ hw'
        obtain ⟨⟨dq, osq⟩, hw''⟩ := hw'
        subst hw''
        replace E := b_trans E (below_regrown y2 dq osq)
        clear q0 q1 q2 q3 q4 q5 c0 c1 c2
        generalize Sort.grow (redrawn y2 dq) osq = y3 at *
        go_wp2
        go_ret
        exact ⟨rfl, E⟩
      · rw [show vld 3 = false from rfl] at c1
        rw [show sks 3 = true from rfl] at c2
        refine wp_region_quiet_below (by kernel_rfl) (by kernel_rfl) ?_
        repeat (with_reducible refine wpQuiet_step (fun KQ hKQ => ?_); go_simp; first | (with_reducible refine hKQ _ ?_; clear hKQ KQ) | (apply Exists.intro; with_reducible refine ⟨fun _ => ?_, hKQ _ ?_⟩; (first | with_reducible exact c0 _ _ | with_reducible exact c1 _ _ | with_reducible exact c2 _ _); clear hKQ KQ))
        refine wpQuiet_nil ?_
        intro _ hw'
        obtain ⟨⟨dq, osq⟩, hw''⟩ := hw'
        subst hw''
        replace E := b_trans E (below_regrown y2 dq osq)
        clear q0 q1 q2 q3 q4 q5 c0 c1 c2
        generalize Sort.grow (redrawn y2 dq) osq = y3 at *
        go_wp2
        go_ret
        exact ⟨rfl, E⟩
      · rw [show vld m = false by simp [vld, n1, n2]] at c1
        rw [show sks m = false by simp [sks, n0, n3]] at c2
        have b0 : (m == 0) = false := by simpa using n0
        have b1 : (m == 1) = false := by simpa using n1
        have b2 : (m == 2) = false := by simpa using n2
        have b3 : (m == 3) = false := by simpa using n3
        clear n0 n1 n2 n3
        refine wp_region_quiet_below (by kernel_rfl) (by kernel_rfl) ?_
        repeat (with_reducible refine wpQuiet_step (fun KQ hKQ => ?_); go_simp; first | (with_reducible refine hKQ _ ?_; clear hKQ KQ) | (apply Exists.intro; with_reducible refine ⟨fun _ => ?_, hKQ _ ?_⟩; (first | with_reducible exact c0 _ _ | with_reducible exact c1 _ _ | with_reducible exact c2 _ _); clear hKQ KQ))
        refine wpQuiet_nil ?_
        intro _ hw'
        obtain ⟨⟨dq, osq⟩, hw''⟩ := hw'
        subst hw''
        replace E := b_trans E (below_regrown y2 dq osq)
        clear q0 q1 q2 q3 q4 q5 c0 c1 c2
        generalize Sort.grow (redrawn y2 dq) osq = y3 at *
        go_wp2
        go_ret
        exact ⟨rfl, E⟩
end Go.Proofs.Ytohbneijfibhhaa
