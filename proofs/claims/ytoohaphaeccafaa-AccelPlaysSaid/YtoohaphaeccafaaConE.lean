/- Layer 13: the document's rules of rows: the first that isn't kept. -/
import Derived.Test.YtoohaphaeccafaaConD
namespace Go.Proofs.Ytoohaphaeccafaa
open Go.RowKit Go.Shelf Go.Joins

theorem big17 (w : World) : Calls Try.prog 23 #[.int .i64 17] w (RetV (.int .i64 131072) w) := by
  have h := big_any 17 (by decide) w
  rw [show (2 : Int) ^ 17 = 131072 from by decide] at h
  exact h
theorem big38 (w : World) : Calls Try.prog 23 #[.int .i64 38] w (RetV (.int .i64 274877906944) w) := by
  have h := big_any 38 (by decide) w
  rw [show (2 : Int) ^ 38 = 274877906944 from by decide] at h
  exact h
theorem big40 (w : World) : Calls Try.prog 23 #[.int .i64 40] w (RetV (.int .i64 1099511627776) w) := by
  have h := big_any 40 (by decide) w
  rw [show (2 : Int) ^ 40 = 1099511627776 from by decide] at h
  exact h
theorem big42 (w : World) : Calls Try.prog 23 #[.int .i64 42] w (RetV (.int .i64 4398046511104) w) := by
  have h := big_any 42 (by decide) w
  rw [show (2 : Int) ^ 42 = 4398046511104 from by decide] at h
  exact h
theorem big50 (w : World) : Calls Try.prog 23 #[.int .i64 50] w (RetV (.int .i64 1125899906842624) w) := by
  have h := big_any 50 (by decide) w
  rw [show (2 : Int) ^ 50 = 1125899906842624 from by decide] at h
  exact h
theorem big54 (w : World) : Calls Try.prog 23 #[.int .i64 54] w (RetV (.int .i64 18014398509481984) w) := by
  have h := big_any 54 (by decide) w
  rw [show (2 : Int) ^ 54 = 18014398509481984 from by decide] at h
  exact h
theorem big56 (w : World) : Calls Try.prog 23 #[.int .i64 56] w (RetV (.int .i64 72057594037927936) w) := by
  have h := big_any 56 (by decide) w
  rw [show (2 : Int) ^ 56 = 72057594037927936 from by decide] at h
  exact h
/-- The first of the first seven rules that isn't kept; 0. -/
def rks (x : Nat → Int) : Int := bif k1 x then (bif k2 x then (bif k3 x then (bif k4 x then (bif k5 x then (bif k6 x then (bif k7 x then 0 else 7) else 6) else 5) else 4) else 3) else 2) else 1
theorem b3_no0 {v0 v1 v2 l0 l1 l2 h0 h1 h2 : Int} (q : inb v0 l0 h0 = false) : b3 v0 v1 v2 l0 l1 l2 h0 h1 h2 = false := by unfold b3; rw [q]; rfl
theorem b3_no1 {v0 v1 v2 l0 l1 l2 h0 h1 h2 : Int} (p : inb v0 l0 h0 = true) (q : inb v1 l1 h1 = false) : b3 v0 v1 v2 l0 l1 l2 h0 h1 h2 = false := by unfold b3; rw [p, q]; rfl
theorem b3_no2 {v0 v1 v2 l0 l1 l2 h0 h1 h2 : Int} (p : inb v0 l0 h0 = true) (p' : inb v1 l1 h1 = true) (q : inb v2 l2 h2 = false) : b3 v0 v1 v2 l0 l1 l2 h0 h1 h2 = false := by unfold b3; rw [p, p', q]; rfl
theorem b3_yes {v0 v1 v2 l0 l1 l2 h0 h1 h2 : Int} (p : inb v0 l0 h0 = true) (p' : inb v1 l1 h1 = true) (q : inb v2 l2 h2 = true) : b3 v0 v1 v2 l0 l1 l2 h0 h1 h2 = true := by unfold b3; rw [p, p', q]; rfl
theorem k5_may {x : Nat → Int} (m : mayb (x 11) (x 12) (x 13) (x 14) (x 15) (x 16) = false) : k5 x = false := by unfold k5; rw [m]; rfl
theorem k5_no {x : Nat → Int} (h : 72057594037927936 < x 14 ∨ 72057594037927936 < x 15 ∨ 72057594037927936 < x 16) : k5 x = false := by
  cases e : k5 x
  · rfl
  · unfold k5 b3 at e
    simp only [Bool.and_eq_true] at e
    obtain ⟨_, a, b, c⟩ := e
    have := inb_iff.1 a
    have := inb_iff.1 b
    have := inb_iff.1 c
    omega
theorem k5_yes {x : Nat → Int} (m : mayb (x 11) (x 12) (x 13) (x 14) (x 15) (x 16) = true) (h0 : x 14 ≤ 72057594037927936) (h1 : x 15 ≤ 72057594037927936) (h2 : x 16 ≤ 72057594037927936) : k5 x = true := by
  have f : FB3 (x 11) (x 12) (x 13) (x 14) (x 15) (x 16) := of_decide_eq_true m
  obtain ⟨a, b, c⟩ := f
  unfold k5
  rw [m]
  exact b3_yes (inb_iff.2 ⟨a.2.1, h0⟩) (inb_iff.2 ⟨b.2.1, h1⟩) (inb_iff.2 ⟨c.2.1, h2⟩)

set_option maxHeartbeats 8000000 in
set_option maxRecDepth 20000 in
theorem rows_any (x : Nat → Int) (hx : C64 x) (w : World) : Calls Try.prog 21 #[cv x] w (RetV (.int .i64 (rks x)) w) := by
  have E : Below w.heap.size w (w.alloc (Obj.cells #[.int .i64 (x 0), .int .i64 (x 1), .int .i64 (x 2), .int .i64 (x 3), .int .i64 (x 4), .int .i64 (x 5), .int .i64 (x 6), .int .i64 (x 7), .int .i64 (x 8), .int .i64 (x 9), .int .i64 (x 10), .int .i64 (x 11), .int .i64 (x 12), .int .i64 (x 13), .int .i64 (x 14), .int .i64 (x 15), .int .i64 (x 16), .int .i64 (x 17), .int .i64 (x 18), .int .i64 (x 19), .int .i64 (x 20), .int .i64 (x 21), .int .i64 (x 22), .int .i64 (x 23), .int .i64 (x 24), .int .i64 (x 25), .int .i64 (x 26), .int .i64 (x 27), .int .i64 (x 28), .int .i64 (x 29), .int .i64 (x 30)] 25)) := b_alloc (Below.refl _ _)
  have K : CF (w.alloc (Obj.cells #[.int .i64 (x 0), .int .i64 (x 1), .int .i64 (x 2), .int .i64 (x 3), .int .i64 (x 4), .int .i64 (x 5), .int .i64 (x 6), .int .i64 (x 7), .int .i64 (x 8), .int .i64 (x 9), .int .i64 (x 10), .int .i64 (x 11), .int .i64 (x 12), .int .i64 (x 13), .int .i64 (x 14), .int .i64 (x 15), .int .i64 (x 16), .int .i64 (x 17), .int .i64 (x 18), .int .i64 (x 19), .int .i64 (x 20), .int .i64 (x 21), .int .i64 (x 22), .int .i64 (x 23), .int .i64 (x 24), .int .i64 (x 25), .int .i64 (x 26), .int .i64 (x 27), .int .i64 (x 28), .int .i64 (x 29), .int .i64 (x 30)] 25)) w.heap.size x := cf_new rfl
  go_enter Try.func21, Try.ntmps21
  go_wp2
  generalize (w.alloc (Obj.cells #[.int .i64 (x 0), .int .i64 (x 1), .int .i64 (x 2), .int .i64 (x 3), .int .i64 (x 4), .int .i64 (x 5), .int .i64 (x 6), .int .i64 (x 7), .int .i64 (x 8), .int .i64 (x 9), .int .i64 (x 10), .int .i64 (x 11), .int .i64 (x 12), .int .i64 (x 13), .int .i64 (x 14), .int .i64 (x 15), .int .i64 (x 16), .int .i64 (x 17), .int .i64 (x 18), .int .i64 (x 19), .int .i64 (x 20), .int .i64 (x 21), .int .i64 (x 22), .int .i64 (x 23), .int .i64 (x 24), .int .i64 (x 25), .int .i64 (x 26), .int .i64 (x 27), .int .i64 (x 28), .int .i64 (x 29), .int .i64 (x 30)] 25)) = y0 at *
  refine wp_loop_rounds 4 ?_
  rw [rounds_succ]
  have cu := fun w => in_any (x 0) 0 1125899906842624 w
  cases p0 : inb (x 0) 0 1125899906842624
  · rw [p0] at cu
    have h0 := cell_regrown (K 0 (by decide))
    go_wp2
    have c0 := retV_regrown (w := y0) (fun w => big50 w)
    have c1 := retV_regrown (w := y0) (cu)
    refine wp_region_quiet_below (by kernel_rfl) (by kernel_rfl) ?_
    repeat (with_reducible refine wpQuiet_step (fun KQ hKQ => ?_); go_simp; first | (with_reducible refine hKQ _ ?_; clear hKQ KQ) | (apply Exists.intro; with_reducible refine ⟨fun _ => ?_, hKQ _ ?_⟩; (with_reducible first | exact c0 _ _ | exact c1 _ _); clear hKQ KQ))
    refine wpQuiet_nil ?_
    intro _ hw'
    obtain ⟨⟨dq, osq⟩, hw''⟩ := hw'
    subst hw''
    replace E := b_trans E (below_regrown _ dq osq)
    replace K := cf_keep (below_regrown _ dq osq) K
    clear h0 c0 c1
    generalize Sort.grow (redrawn y0 dq) osq = y1 at *
    go_wp2
    go_ret
    exact ⟨by rw [show rks x = 1 from by unfold rks; rw [show k1 x = false from b3_no0 p0]; rfl]; rfl, E⟩
  · rw [p0] at cu
    have h0 := cell_regrown (K 0 (by decide))
    go_wp2
    have c0 := retV_regrown (w := y0) (fun w => big50 w)
    have c1 := retV_regrown (w := y0) (cu)
    refine wp_region_quiet_below (by kernel_rfl) (by kernel_rfl) ?_
    repeat (with_reducible refine wpQuiet_step (fun KQ hKQ => ?_); go_simp; first | (with_reducible refine hKQ _ ?_; clear hKQ KQ) | (apply Exists.intro; with_reducible refine ⟨fun _ => ?_, hKQ _ ?_⟩; (with_reducible first | exact c0 _ _ | exact c1 _ _); clear hKQ KQ))
    refine wpQuiet_nil ?_
    intro _ hw'
    obtain ⟨⟨dq, osq⟩, hw''⟩ := hw'
    subst hw''
    replace E := b_trans E (below_regrown _ dq osq)
    replace K := cf_keep (below_regrown _ dq osq) K
    clear h0 c0 c1
    generalize Sort.grow (redrawn y0 dq) osq = y1 at *
    clear cu
    go_wp2
    rw [rounds_succ]
    have cu := fun w => in_any (x 1) 0 1125899906842624 w
    cases p1 : inb (x 1) 0 1125899906842624
    · rw [p1] at cu
      have h1 := cell_regrown (K 1 (by decide))
      go_wp2
      have c0 := retV_regrown (w := y1) (fun w => big50 w)
      have c1 := retV_regrown (w := y1) (cu)
      refine wp_region_quiet_below (by kernel_rfl) (by kernel_rfl) ?_
      repeat (with_reducible refine wpQuiet_step (fun KQ hKQ => ?_); go_simp; first | (with_reducible refine hKQ _ ?_; clear hKQ KQ) | (apply Exists.intro; with_reducible refine ⟨fun _ => ?_, hKQ _ ?_⟩; (with_reducible first | exact c0 _ _ | exact c1 _ _); clear hKQ KQ))
      refine wpQuiet_nil ?_
      intro _ hw'
      obtain ⟨⟨dq, osq⟩, hw''⟩ := hw'
      subst hw''
      replace E := b_trans E (below_regrown _ dq osq)
      replace K := cf_keep (below_regrown _ dq osq) K
      clear h1 c0 c1
      generalize Sort.grow (redrawn y1 dq) osq = y2 at *
      go_wp2
      go_ret
      exact ⟨by rw [show rks x = 1 from by unfold rks; rw [show k1 x = false from b3_no1 p0 p1]; rfl]; rfl, E⟩
    · rw [p1] at cu
      have h1 := cell_regrown (K 1 (by decide))
      go_wp2
      have c0 := retV_regrown (w := y1) (fun w => big50 w)
      have c1 := retV_regrown (w := y1) (cu)
      refine wp_region_quiet_below (by kernel_rfl) (by kernel_rfl) ?_
      repeat (with_reducible refine wpQuiet_step (fun KQ hKQ => ?_); go_simp; first | (with_reducible refine hKQ _ ?_; clear hKQ KQ) | (apply Exists.intro; with_reducible refine ⟨fun _ => ?_, hKQ _ ?_⟩; (with_reducible first | exact c0 _ _ | exact c1 _ _); clear hKQ KQ))
      refine wpQuiet_nil ?_
      intro _ hw'
      obtain ⟨⟨dq, osq⟩, hw''⟩ := hw'
      subst hw''
      replace E := b_trans E (below_regrown _ dq osq)
      replace K := cf_keep (below_regrown _ dq osq) K
      clear h1 c0 c1
      generalize Sort.grow (redrawn y1 dq) osq = y2 at *
      clear cu
      go_wp2
      rw [rounds_succ]
      have cu := fun w => in_any (x 2) 0 1125899906842624 w
      cases p2 : inb (x 2) 0 1125899906842624
      · rw [p2] at cu
        have h2 := cell_regrown (K 2 (by decide))
        go_wp2
        have c0 := retV_regrown (w := y2) (fun w => big50 w)
        have c1 := retV_regrown (w := y2) (cu)
        refine wp_region_quiet_below (by kernel_rfl) (by kernel_rfl) ?_
        repeat (with_reducible refine wpQuiet_step (fun KQ hKQ => ?_); go_simp; first | (with_reducible refine hKQ _ ?_; clear hKQ KQ) | (apply Exists.intro; with_reducible refine ⟨fun _ => ?_, hKQ _ ?_⟩; (with_reducible first | exact c0 _ _ | exact c1 _ _); clear hKQ KQ))
        refine wpQuiet_nil ?_
        intro _ hw'
        obtain ⟨⟨dq, osq⟩, hw''⟩ := hw'
        subst hw''
        replace E := b_trans E (below_regrown _ dq osq)
        replace K := cf_keep (below_regrown _ dq osq) K
        clear h2 c0 c1
        generalize Sort.grow (redrawn y2 dq) osq = y3 at *
        go_wp2
        go_ret
        exact ⟨by rw [show rks x = 1 from by unfold rks; rw [show k1 x = false from b3_no2 p0 p1 p2]; rfl]; rfl, E⟩
      · rw [p2] at cu
        have h2 := cell_regrown (K 2 (by decide))
        go_wp2
        have c0 := retV_regrown (w := y2) (fun w => big50 w)
        have c1 := retV_regrown (w := y2) (cu)
        refine wp_region_quiet_below (by kernel_rfl) (by kernel_rfl) ?_
        repeat (with_reducible refine wpQuiet_step (fun KQ hKQ => ?_); go_simp; first | (with_reducible refine hKQ _ ?_; clear hKQ KQ) | (apply Exists.intro; with_reducible refine ⟨fun _ => ?_, hKQ _ ?_⟩; (with_reducible first | exact c0 _ _ | exact c1 _ _); clear hKQ KQ))
        refine wpQuiet_nil ?_
        intro _ hw'
        obtain ⟨⟨dq, osq⟩, hw''⟩ := hw'
        subst hw''
        replace E := b_trans E (below_regrown _ dq osq)
        replace K := cf_keep (below_regrown _ dq osq) K
        clear h2 c0 c1
        generalize Sort.grow (redrawn y2 dq) osq = y3 at *
        clear cu
        go_wp2
        have q1 : k1 x = true := b3_yes p0 p1 p2
        clear p0 p1 p2
        rw [rounds_succ]
        go_wp2
        refine wp_loop_rounds 4 ?_
        rw [rounds_succ]
        have cu := fun w => in_any (x 3) (x 0) 1125899906842624 w
        cases p0 : inb (x 3) (x 0) 1125899906842624
        · rw [p0] at cu
          have h0 := cell_regrown (K 0 (by decide))
          have h3 := cell_regrown (K 3 (by decide))
          go_wp2
          have c0 := retV_regrown (w := y3) (fun w => big50 w)
          have c1 := retV_regrown (w := y3) (cu)
          refine wp_region_quiet_below (by kernel_rfl) (by kernel_rfl) ?_
          repeat (with_reducible refine wpQuiet_step (fun KQ hKQ => ?_); go_simp; first | (with_reducible refine hKQ _ ?_; clear hKQ KQ) | (apply Exists.intro; with_reducible refine ⟨fun _ => ?_, hKQ _ ?_⟩; (with_reducible first | exact c0 _ _ | exact c1 _ _); clear hKQ KQ))
          refine wpQuiet_nil ?_
          intro _ hw'
          obtain ⟨⟨dq, osq⟩, hw''⟩ := hw'
          subst hw''
          replace E := b_trans E (below_regrown _ dq osq)
          replace K := cf_keep (below_regrown _ dq osq) K
          clear h0 h3 c0 c1
          generalize Sort.grow (redrawn y3 dq) osq = y4 at *
          go_wp2
          go_ret
          exact ⟨by rw [show rks x = 2 from by unfold rks; rw [q1, show k2 x = false from b3_no0 p0]; rfl]; rfl, E⟩
        · rw [p0] at cu
          have h0 := cell_regrown (K 0 (by decide))
          have h3 := cell_regrown (K 3 (by decide))
          go_wp2
          have c0 := retV_regrown (w := y3) (fun w => big50 w)
          have c1 := retV_regrown (w := y3) (cu)
          refine wp_region_quiet_below (by kernel_rfl) (by kernel_rfl) ?_
          repeat (with_reducible refine wpQuiet_step (fun KQ hKQ => ?_); go_simp; first | (with_reducible refine hKQ _ ?_; clear hKQ KQ) | (apply Exists.intro; with_reducible refine ⟨fun _ => ?_, hKQ _ ?_⟩; (with_reducible first | exact c0 _ _ | exact c1 _ _); clear hKQ KQ))
          refine wpQuiet_nil ?_
          intro _ hw'
          obtain ⟨⟨dq, osq⟩, hw''⟩ := hw'
          subst hw''
          replace E := b_trans E (below_regrown _ dq osq)
          replace K := cf_keep (below_regrown _ dq osq) K
          clear h0 h3 c0 c1
          generalize Sort.grow (redrawn y3 dq) osq = y4 at *
          clear cu
          go_wp2
          rw [rounds_succ]
          have cu := fun w => in_any (x 4) (x 1) 1125899906842624 w
          cases p1 : inb (x 4) (x 1) 1125899906842624
          · rw [p1] at cu
            have h1 := cell_regrown (K 1 (by decide))
            have h4 := cell_regrown (K 4 (by decide))
            go_wp2
            have c0 := retV_regrown (w := y4) (fun w => big50 w)
            have c1 := retV_regrown (w := y4) (cu)
            refine wp_region_quiet_below (by kernel_rfl) (by kernel_rfl) ?_
            repeat (with_reducible refine wpQuiet_step (fun KQ hKQ => ?_); go_simp; first | (with_reducible refine hKQ _ ?_; clear hKQ KQ) | (apply Exists.intro; with_reducible refine ⟨fun _ => ?_, hKQ _ ?_⟩; (with_reducible first | exact c0 _ _ | exact c1 _ _); clear hKQ KQ))
            refine wpQuiet_nil ?_
            intro _ hw'
            obtain ⟨⟨dq, osq⟩, hw''⟩ := hw'
            subst hw''
            replace E := b_trans E (below_regrown _ dq osq)
            replace K := cf_keep (below_regrown _ dq osq) K
            clear h1 h4 c0 c1
            generalize Sort.grow (redrawn y4 dq) osq = y5 at *
            go_wp2
            go_ret
            exact ⟨by rw [show rks x = 2 from by unfold rks; rw [q1, show k2 x = false from b3_no1 p0 p1]; rfl]; rfl, E⟩
          · rw [p1] at cu
            have h1 := cell_regrown (K 1 (by decide))
            have h4 := cell_regrown (K 4 (by decide))
            go_wp2
            have c0 := retV_regrown (w := y4) (fun w => big50 w)
            have c1 := retV_regrown (w := y4) (cu)
            refine wp_region_quiet_below (by kernel_rfl) (by kernel_rfl) ?_
            repeat (with_reducible refine wpQuiet_step (fun KQ hKQ => ?_); go_simp; first | (with_reducible refine hKQ _ ?_; clear hKQ KQ) | (apply Exists.intro; with_reducible refine ⟨fun _ => ?_, hKQ _ ?_⟩; (with_reducible first | exact c0 _ _ | exact c1 _ _); clear hKQ KQ))
            refine wpQuiet_nil ?_
            intro _ hw'
            obtain ⟨⟨dq, osq⟩, hw''⟩ := hw'
            subst hw''
            replace E := b_trans E (below_regrown _ dq osq)
            replace K := cf_keep (below_regrown _ dq osq) K
            clear h1 h4 c0 c1
            generalize Sort.grow (redrawn y4 dq) osq = y5 at *
            clear cu
            go_wp2
            rw [rounds_succ]
            have cu := fun w => in_any (x 5) (x 2) 1125899906842624 w
            cases p2 : inb (x 5) (x 2) 1125899906842624
            · rw [p2] at cu
              have h2 := cell_regrown (K 2 (by decide))
              have h5 := cell_regrown (K 5 (by decide))
              go_wp2
              have c0 := retV_regrown (w := y5) (fun w => big50 w)
              have c1 := retV_regrown (w := y5) (cu)
              refine wp_region_quiet_below (by kernel_rfl) (by kernel_rfl) ?_
              repeat (with_reducible refine wpQuiet_step (fun KQ hKQ => ?_); go_simp; first | (with_reducible refine hKQ _ ?_; clear hKQ KQ) | (apply Exists.intro; with_reducible refine ⟨fun _ => ?_, hKQ _ ?_⟩; (with_reducible first | exact c0 _ _ | exact c1 _ _); clear hKQ KQ))
              refine wpQuiet_nil ?_
              intro _ hw'
              obtain ⟨⟨dq, osq⟩, hw''⟩ := hw'
              subst hw''
              replace E := b_trans E (below_regrown _ dq osq)
              replace K := cf_keep (below_regrown _ dq osq) K
              clear h2 h5 c0 c1
              generalize Sort.grow (redrawn y5 dq) osq = y6 at *
              go_wp2
              go_ret
              exact ⟨by rw [show rks x = 2 from by unfold rks; rw [q1, show k2 x = false from b3_no2 p0 p1 p2]; rfl]; rfl, E⟩
            · rw [p2] at cu
              have h2 := cell_regrown (K 2 (by decide))
              have h5 := cell_regrown (K 5 (by decide))
              go_wp2
              have c0 := retV_regrown (w := y5) (fun w => big50 w)
              have c1 := retV_regrown (w := y5) (cu)
              refine wp_region_quiet_below (by kernel_rfl) (by kernel_rfl) ?_
              repeat (with_reducible refine wpQuiet_step (fun KQ hKQ => ?_); go_simp; first | (with_reducible refine hKQ _ ?_; clear hKQ KQ) | (apply Exists.intro; with_reducible refine ⟨fun _ => ?_, hKQ _ ?_⟩; (with_reducible first | exact c0 _ _ | exact c1 _ _); clear hKQ KQ))
              refine wpQuiet_nil ?_
              intro _ hw'
              obtain ⟨⟨dq, osq⟩, hw''⟩ := hw'
              subst hw''
              replace E := b_trans E (below_regrown _ dq osq)
              replace K := cf_keep (below_regrown _ dq osq) K
              clear h2 h5 c0 c1
              generalize Sort.grow (redrawn y5 dq) osq = y6 at *
              clear cu
              go_wp2
              have q2 : k2 x = true := b3_yes p0 p1 p2
              clear p0 p1 p2
              rw [rounds_succ]
              go_wp2
              have cu := fun w => in_any (x 6) 274877906944 1125899906842624 w
              cases q3 : inb (x 6) 274877906944 1125899906842624
              · rw [q3] at cu
                have h6 := cell_regrown (K 6 (by decide))
                try go_wp2
                have c0 := retV_regrown (w := y6) (fun w => big38 w)
                have c1 := retV_regrown (w := y6) (fun w => big50 w)
                have c2 := retV_regrown (w := y6) (cu)
                refine wp_region_quiet_below (by kernel_rfl) (by kernel_rfl) ?_
                repeat (with_reducible refine wpQuiet_step (fun KQ hKQ => ?_); go_simp; first | (with_reducible refine hKQ _ ?_; clear hKQ KQ) | (apply Exists.intro; with_reducible refine ⟨fun _ => ?_, hKQ _ ?_⟩; (with_reducible first | exact c0 _ _ | exact c1 _ _ | exact c2 _ _); clear hKQ KQ))
                refine wpQuiet_nil ?_
                intro _ hw'
                obtain ⟨⟨dq, osq⟩, hw''⟩ := hw'
                subst hw''
                replace E := b_trans E (below_regrown _ dq osq)
                replace K := cf_keep (below_regrown _ dq osq) K
                clear h6 c0 c1 c2
                generalize Sort.grow (redrawn y6 dq) osq = y7 at *
                go_wp2
                go_ret
                exact ⟨by rw [show rks x = 3 from by unfold rks; rw [q1, q2, show k3 x = false from q3]; rfl]; rfl, E⟩
              · rw [q3] at cu
                have h6 := cell_regrown (K 6 (by decide))
                try go_wp2
                have c0 := retV_regrown (w := y6) (fun w => big38 w)
                have c1 := retV_regrown (w := y6) (fun w => big50 w)
                have c2 := retV_regrown (w := y6) (cu)
                refine wp_region_quiet_below (by kernel_rfl) (by kernel_rfl) ?_
                repeat (with_reducible refine wpQuiet_step (fun KQ hKQ => ?_); go_simp; first | (with_reducible refine hKQ _ ?_; clear hKQ KQ) | (apply Exists.intro; with_reducible refine ⟨fun _ => ?_, hKQ _ ?_⟩; (with_reducible first | exact c0 _ _ | exact c1 _ _ | exact c2 _ _); clear hKQ KQ))
                refine wpQuiet_nil ?_
                intro _ hw'
                obtain ⟨⟨dq, osq⟩, hw''⟩ := hw'
                subst hw''
                replace E := b_trans E (below_regrown _ dq osq)
                replace K := cf_keep (below_regrown _ dq osq) K
                clear h6 c0 c1 c2
                generalize Sort.grow (redrawn y6 dq) osq = y7 at *
                replace q3 : k3 x = true := q3
                clear cu
                go_wp2
                have cu := fun w => in_any (x 7) (x 6) 1125899906842624 w
                cases q4 : inb (x 7) (x 6) 1125899906842624
                · rw [q4] at cu
                  have h6 := cell_regrown (K 6 (by decide))
                  have h7 := cell_regrown (K 7 (by decide))
                  try go_wp2
                  have c0 := retV_regrown (w := y7) (fun w => big50 w)
                  have c1 := retV_regrown (w := y7) (cu)
                  refine wp_region_quiet_below (by kernel_rfl) (by kernel_rfl) ?_
                  repeat (with_reducible refine wpQuiet_step (fun KQ hKQ => ?_); go_simp; first | (with_reducible refine hKQ _ ?_; clear hKQ KQ) | (apply Exists.intro; with_reducible refine ⟨fun _ => ?_, hKQ _ ?_⟩; (with_reducible first | exact c0 _ _ | exact c1 _ _); clear hKQ KQ))
                  refine wpQuiet_nil ?_
                  intro _ hw'
                  obtain ⟨⟨dq, osq⟩, hw''⟩ := hw'
                  subst hw''
                  replace E := b_trans E (below_regrown _ dq osq)
                  replace K := cf_keep (below_regrown _ dq osq) K
                  clear h6 h7 c0 c1
                  generalize Sort.grow (redrawn y7 dq) osq = y8 at *
                  go_wp2
                  go_ret
                  exact ⟨by rw [show rks x = 4 from by unfold rks; rw [q1, q2, q3, show k4 x = false from q4]; rfl]; rfl, E⟩
                · rw [q4] at cu
                  have h6 := cell_regrown (K 6 (by decide))
                  have h7 := cell_regrown (K 7 (by decide))
                  try go_wp2
                  have c0 := retV_regrown (w := y7) (fun w => big50 w)
                  have c1 := retV_regrown (w := y7) (cu)
                  refine wp_region_quiet_below (by kernel_rfl) (by kernel_rfl) ?_
                  repeat (with_reducible refine wpQuiet_step (fun KQ hKQ => ?_); go_simp; first | (with_reducible refine hKQ _ ?_; clear hKQ KQ) | (apply Exists.intro; with_reducible refine ⟨fun _ => ?_, hKQ _ ?_⟩; (with_reducible first | exact c0 _ _ | exact c1 _ _); clear hKQ KQ))
                  refine wpQuiet_nil ?_
                  intro _ hw'
                  obtain ⟨⟨dq, osq⟩, hw''⟩ := hw'
                  subst hw''
                  replace E := b_trans E (below_regrown _ dq osq)
                  replace K := cf_keep (below_regrown _ dq osq) K
                  clear h6 h7 c0 c1
                  generalize Sort.grow (redrawn y7 dq) osq = y8 at *
                  replace q4 : k4 x = true := q4
                  clear cu
                  go_wp2
                  have cu := fun w => rmay_any (x 11) (x 12) (x 13) (x 14) (x 15) (x 16) (hx 14 (by decide)) (hx 15 (by decide)) (hx 16 (by decide)) w
                  cases m : mayb (x 11) (x 12) (x 13) (x 14) (x 15) (x 16)
                  · rw [m] at cu
                    have h11 := cell_regrown (K 11 (by decide))
                    have h12 := cell_regrown (K 12 (by decide))
                    have h13 := cell_regrown (K 13 (by decide))
                    have h14 := cell_regrown (K 14 (by decide))
                    have h15 := cell_regrown (K 15 (by decide))
                    have h16 := cell_regrown (K 16 (by decide))
                    try go_wp2
                    have c0 := retV_regrown (w := y8) (fun w => big56 w)
                    have c1 := retV_regrown (w := y8) (cu)
                    refine wp_region_quiet_below (by kernel_rfl) (by kernel_rfl) ?_
                    repeat (with_reducible refine wpQuiet_step (fun KQ hKQ => ?_); go_simp; first | (with_reducible refine hKQ _ ?_; clear hKQ KQ) | (apply Exists.intro; with_reducible refine ⟨fun _ => ?_, hKQ _ ?_⟩; (with_reducible first | exact c0 _ _ | exact c1 _ _); clear hKQ KQ))
                    refine wpQuiet_nil ?_
                    intro _ hw'
                    obtain ⟨⟨dq, osq⟩, hw''⟩ := hw'
                    subst hw''
                    replace E := b_trans E (below_regrown _ dq osq)
                    replace K := cf_keep (below_regrown _ dq osq) K
                    clear h11 h12 h13 h14 h15 h16 c0 c1
                    generalize Sort.grow (redrawn y8 dq) osq = y9 at *
                    go_wp2
                    go_ret
                    exact ⟨by rw [show rks x = 5 from by unfold rks; rw [q1, q2, q3, q4, k5_may m]; rfl]; rfl, E⟩
                  · rw [m] at cu
                    by_cases g0 : 72057594037927936 < x 14
                    · have d0 : decide (72057594037927936 < x 14) = true := decide_eq_true g0
                      have h11 := cell_regrown (K 11 (by decide))
                      have h12 := cell_regrown (K 12 (by decide))
                      have h13 := cell_regrown (K 13 (by decide))
                      have h14 := cell_regrown (K 14 (by decide))
                      have h15 := cell_regrown (K 15 (by decide))
                      have h16 := cell_regrown (K 16 (by decide))
                      try go_wp2
                      have c0 := retV_regrown (w := y8) (fun w => big56 w)
                      have c1 := retV_regrown (w := y8) (cu)
                      refine wp_region_quiet_below (by kernel_rfl) (by kernel_rfl) ?_
                      repeat (with_reducible refine wpQuiet_step (fun KQ hKQ => ?_); go_simp; first | (with_reducible refine hKQ _ ?_; clear hKQ KQ) | (apply Exists.intro; with_reducible refine ⟨fun _ => ?_, hKQ _ ?_⟩; (with_reducible first | exact c0 _ _ | exact c1 _ _); clear hKQ KQ))
                      refine wpQuiet_nil ?_
                      intro _ hw'
                      obtain ⟨⟨dq, osq⟩, hw''⟩ := hw'
                      subst hw''
                      replace E := b_trans E (below_regrown _ dq osq)
                      replace K := cf_keep (below_regrown _ dq osq) K
                      clear h11 h12 h13 h14 h15 h16 c0 c1
                      generalize Sort.grow (redrawn y8 dq) osq = y9 at *
                      go_wp2
                      go_ret
                      exact ⟨by rw [show rks x = 5 from by unfold rks; rw [q1, q2, q3, q4, k5_no (by omega)]; rfl]; rfl, E⟩
                    · have d0 : decide (72057594037927936 < x 14) = false := decide_eq_false g0
                      by_cases g1 : 72057594037927936 < x 15
                      · have d1 : decide (72057594037927936 < x 15) = true := decide_eq_true g1
                        have h11 := cell_regrown (K 11 (by decide))
                        have h12 := cell_regrown (K 12 (by decide))
                        have h13 := cell_regrown (K 13 (by decide))
                        have h14 := cell_regrown (K 14 (by decide))
                        have h15 := cell_regrown (K 15 (by decide))
                        have h16 := cell_regrown (K 16 (by decide))
                        try go_wp2
                        have c0 := retV_regrown (w := y8) (fun w => big56 w)
                        have c1 := retV_regrown (w := y8) (cu)
                        refine wp_region_quiet_below (by kernel_rfl) (by kernel_rfl) ?_
                        repeat (with_reducible refine wpQuiet_step (fun KQ hKQ => ?_); go_simp; first | (with_reducible refine hKQ _ ?_; clear hKQ KQ) | (apply Exists.intro; with_reducible refine ⟨fun _ => ?_, hKQ _ ?_⟩; (with_reducible first | exact c0 _ _ | exact c1 _ _); clear hKQ KQ))
                        refine wpQuiet_nil ?_
                        intro _ hw'
                        obtain ⟨⟨dq, osq⟩, hw''⟩ := hw'
                        subst hw''
                        replace E := b_trans E (below_regrown _ dq osq)
                        replace K := cf_keep (below_regrown _ dq osq) K
                        clear h11 h12 h13 h14 h15 h16 c0 c1
                        generalize Sort.grow (redrawn y8 dq) osq = y9 at *
                        go_wp2
                        go_ret
                        exact ⟨by rw [show rks x = 5 from by unfold rks; rw [q1, q2, q3, q4, k5_no (by omega)]; rfl]; rfl, E⟩
                      · have d1 : decide (72057594037927936 < x 15) = false := decide_eq_false g1
                        by_cases g2 : 72057594037927936 < x 16
                        · have d2 : decide (72057594037927936 < x 16) = true := decide_eq_true g2
                          have h11 := cell_regrown (K 11 (by decide))
                          have h12 := cell_regrown (K 12 (by decide))
                          have h13 := cell_regrown (K 13 (by decide))
                          have h14 := cell_regrown (K 14 (by decide))
                          have h15 := cell_regrown (K 15 (by decide))
                          have h16 := cell_regrown (K 16 (by decide))
                          try go_wp2
                          have c0 := retV_regrown (w := y8) (fun w => big56 w)
                          have c1 := retV_regrown (w := y8) (cu)
                          refine wp_region_quiet_below (by kernel_rfl) (by kernel_rfl) ?_
                          repeat (with_reducible refine wpQuiet_step (fun KQ hKQ => ?_); go_simp; first | (with_reducible refine hKQ _ ?_; clear hKQ KQ) | (apply Exists.intro; with_reducible refine ⟨fun _ => ?_, hKQ _ ?_⟩; (with_reducible first | exact c0 _ _ | exact c1 _ _); clear hKQ KQ))
                          refine wpQuiet_nil ?_
                          intro _ hw'
                          obtain ⟨⟨dq, osq⟩, hw''⟩ := hw'
                          subst hw''
                          replace E := b_trans E (below_regrown _ dq osq)
                          replace K := cf_keep (below_regrown _ dq osq) K
                          clear h11 h12 h13 h14 h15 h16 c0 c1
                          generalize Sort.grow (redrawn y8 dq) osq = y9 at *
                          go_wp2
                          go_ret
                          exact ⟨by rw [show rks x = 5 from by unfold rks; rw [q1, q2, q3, q4, k5_no (by omega)]; rfl]; rfl, E⟩
                        · have d2 : decide (72057594037927936 < x 16) = false := decide_eq_false g2
                          have h11 := cell_regrown (K 11 (by decide))
                          have h12 := cell_regrown (K 12 (by decide))
                          have h13 := cell_regrown (K 13 (by decide))
                          have h14 := cell_regrown (K 14 (by decide))
                          have h15 := cell_regrown (K 15 (by decide))
                          have h16 := cell_regrown (K 16 (by decide))
                          try go_wp2
                          have c0 := retV_regrown (w := y8) (fun w => big56 w)
                          have c1 := retV_regrown (w := y8) (cu)
                          refine wp_region_quiet_below (by kernel_rfl) (by kernel_rfl) ?_
                          repeat (with_reducible refine wpQuiet_step (fun KQ hKQ => ?_); go_simp; first | (with_reducible refine hKQ _ ?_; clear hKQ KQ) | (apply Exists.intro; with_reducible refine ⟨fun _ => ?_, hKQ _ ?_⟩; (with_reducible first | exact c0 _ _ | exact c1 _ _); clear hKQ KQ))
                          refine wpQuiet_nil ?_
                          intro _ hw'
                          obtain ⟨⟨dq, osq⟩, hw''⟩ := hw'
                          subst hw''
                          replace E := b_trans E (below_regrown _ dq osq)
                          replace K := cf_keep (below_regrown _ dq osq) K
                          clear h11 h12 h13 h14 h15 h16 c0 c1
                          generalize Sort.grow (redrawn y8 dq) osq = y9 at *
                          have q5 : k5 x = true := k5_yes m (by omega) (by omega) (by omega)
                          clear cu m g0 g1 g2 d0 d1 d2
                          go_wp2
                          refine wp_loop_rounds 4 ?_
                          rw [rounds_succ]
                          have cu := fun w => in_any (x 8) (x 11) (x 14) w
                          cases p0 : inb (x 8) (x 11) (x 14)
                          · rw [p0] at cu
                            have h8 := cell_regrown (K 8 (by decide))
                            have h11 := cell_regrown (K 11 (by decide))
                            have h14 := cell_regrown (K 14 (by decide))
                            go_wp2
                            have c0 := retV_regrown (w := y9) (cu)
                            refine wp_region_quiet_below (by kernel_rfl) (by kernel_rfl) ?_
                            repeat (with_reducible refine wpQuiet_step (fun KQ hKQ => ?_); go_simp; first | (with_reducible refine hKQ _ ?_; clear hKQ KQ) | (apply Exists.intro; with_reducible refine ⟨fun _ => ?_, hKQ _ ?_⟩; (with_reducible first | exact c0 _ _); clear hKQ KQ))
                            refine wpQuiet_nil ?_
                            intro _ hw'
                            obtain ⟨⟨dq, osq⟩, hw''⟩ := hw'
                            subst hw''
                            replace E := b_trans E (below_regrown _ dq osq)
                            replace K := cf_keep (below_regrown _ dq osq) K
                            clear h8 h11 h14 c0
                            generalize Sort.grow (redrawn y9 dq) osq = y10 at *
                            go_wp2
                            go_ret
                            exact ⟨by rw [show rks x = 6 from by unfold rks; rw [q1, q2, q3, q4, q5, show k6 x = false from b3_no0 p0]; rfl]; rfl, E⟩
                          · rw [p0] at cu
                            have h8 := cell_regrown (K 8 (by decide))
                            have h11 := cell_regrown (K 11 (by decide))
                            have h14 := cell_regrown (K 14 (by decide))
                            go_wp2
                            have c0 := retV_regrown (w := y9) (cu)
                            refine wp_region_quiet_below (by kernel_rfl) (by kernel_rfl) ?_
                            repeat (with_reducible refine wpQuiet_step (fun KQ hKQ => ?_); go_simp; first | (with_reducible refine hKQ _ ?_; clear hKQ KQ) | (apply Exists.intro; with_reducible refine ⟨fun _ => ?_, hKQ _ ?_⟩; (with_reducible first | exact c0 _ _); clear hKQ KQ))
                            refine wpQuiet_nil ?_
                            intro _ hw'
                            obtain ⟨⟨dq, osq⟩, hw''⟩ := hw'
                            subst hw''
                            replace E := b_trans E (below_regrown _ dq osq)
                            replace K := cf_keep (below_regrown _ dq osq) K
                            clear h8 h11 h14 c0
                            generalize Sort.grow (redrawn y9 dq) osq = y10 at *
                            clear cu
                            go_wp2
                            rw [rounds_succ]
                            have cu := fun w => in_any (x 9) (x 12) (x 15) w
                            cases p1 : inb (x 9) (x 12) (x 15)
                            · rw [p1] at cu
                              have h9 := cell_regrown (K 9 (by decide))
                              have h12 := cell_regrown (K 12 (by decide))
                              have h15 := cell_regrown (K 15 (by decide))
                              go_wp2
                              have c0 := retV_regrown (w := y10) (cu)
                              refine wp_region_quiet_below (by kernel_rfl) (by kernel_rfl) ?_
                              repeat (with_reducible refine wpQuiet_step (fun KQ hKQ => ?_); go_simp; first | (with_reducible refine hKQ _ ?_; clear hKQ KQ) | (apply Exists.intro; with_reducible refine ⟨fun _ => ?_, hKQ _ ?_⟩; (with_reducible first | exact c0 _ _); clear hKQ KQ))
                              refine wpQuiet_nil ?_
                              intro _ hw'
                              obtain ⟨⟨dq, osq⟩, hw''⟩ := hw'
                              subst hw''
                              replace E := b_trans E (below_regrown _ dq osq)
                              replace K := cf_keep (below_regrown _ dq osq) K
                              clear h9 h12 h15 c0
                              generalize Sort.grow (redrawn y10 dq) osq = y11 at *
                              go_wp2
                              go_ret
                              exact ⟨by rw [show rks x = 6 from by unfold rks; rw [q1, q2, q3, q4, q5, show k6 x = false from b3_no1 p0 p1]; rfl]; rfl, E⟩
                            · rw [p1] at cu
                              have h9 := cell_regrown (K 9 (by decide))
                              have h12 := cell_regrown (K 12 (by decide))
                              have h15 := cell_regrown (K 15 (by decide))
                              go_wp2
                              have c0 := retV_regrown (w := y10) (cu)
                              refine wp_region_quiet_below (by kernel_rfl) (by kernel_rfl) ?_
                              repeat (with_reducible refine wpQuiet_step (fun KQ hKQ => ?_); go_simp; first | (with_reducible refine hKQ _ ?_; clear hKQ KQ) | (apply Exists.intro; with_reducible refine ⟨fun _ => ?_, hKQ _ ?_⟩; (with_reducible first | exact c0 _ _); clear hKQ KQ))
                              refine wpQuiet_nil ?_
                              intro _ hw'
                              obtain ⟨⟨dq, osq⟩, hw''⟩ := hw'
                              subst hw''
                              replace E := b_trans E (below_regrown _ dq osq)
                              replace K := cf_keep (below_regrown _ dq osq) K
                              clear h9 h12 h15 c0
                              generalize Sort.grow (redrawn y10 dq) osq = y11 at *
                              clear cu
                              go_wp2
                              rw [rounds_succ]
                              have cu := fun w => in_any (x 10) (x 13) (x 16) w
                              cases p2 : inb (x 10) (x 13) (x 16)
                              · rw [p2] at cu
                                have h10 := cell_regrown (K 10 (by decide))
                                have h13 := cell_regrown (K 13 (by decide))
                                have h16 := cell_regrown (K 16 (by decide))
                                go_wp2
                                have c0 := retV_regrown (w := y11) (cu)
                                refine wp_region_quiet_below (by kernel_rfl) (by kernel_rfl) ?_
                                repeat (with_reducible refine wpQuiet_step (fun KQ hKQ => ?_); go_simp; first | (with_reducible refine hKQ _ ?_; clear hKQ KQ) | (apply Exists.intro; with_reducible refine ⟨fun _ => ?_, hKQ _ ?_⟩; (with_reducible first | exact c0 _ _); clear hKQ KQ))
                                refine wpQuiet_nil ?_
                                intro _ hw'
                                obtain ⟨⟨dq, osq⟩, hw''⟩ := hw'
                                subst hw''
                                replace E := b_trans E (below_regrown _ dq osq)
                                replace K := cf_keep (below_regrown _ dq osq) K
                                clear h10 h13 h16 c0
                                generalize Sort.grow (redrawn y11 dq) osq = y12 at *
                                go_wp2
                                go_ret
                                exact ⟨by rw [show rks x = 6 from by unfold rks; rw [q1, q2, q3, q4, q5, show k6 x = false from b3_no2 p0 p1 p2]; rfl]; rfl, E⟩
                              · rw [p2] at cu
                                have h10 := cell_regrown (K 10 (by decide))
                                have h13 := cell_regrown (K 13 (by decide))
                                have h16 := cell_regrown (K 16 (by decide))
                                go_wp2
                                have c0 := retV_regrown (w := y11) (cu)
                                refine wp_region_quiet_below (by kernel_rfl) (by kernel_rfl) ?_
                                repeat (with_reducible refine wpQuiet_step (fun KQ hKQ => ?_); go_simp; first | (with_reducible refine hKQ _ ?_; clear hKQ KQ) | (apply Exists.intro; with_reducible refine ⟨fun _ => ?_, hKQ _ ?_⟩; (with_reducible first | exact c0 _ _); clear hKQ KQ))
                                refine wpQuiet_nil ?_
                                intro _ hw'
                                obtain ⟨⟨dq, osq⟩, hw''⟩ := hw'
                                subst hw''
                                replace E := b_trans E (below_regrown _ dq osq)
                                replace K := cf_keep (below_regrown _ dq osq) K
                                clear h10 h13 h16 c0
                                generalize Sort.grow (redrawn y11 dq) osq = y12 at *
                                clear cu
                                go_wp2
                                have q6 : k6 x = true := b3_yes p0 p1 p2
                                clear p0 p1 p2
                                rw [rounds_succ]
                                go_wp2
                                have cu0 := fun w => in_any (x 17) 18014398509481984 72057594037927936 w
                                have cu1 := fun w => in_any (x 18) 0 72057594037927936 w
                                have cu2 := fun w => in_any (x 19) 0 72057594037927936 w
                                cases p0 : inb (x 17) 18014398509481984 72057594037927936
                                · rw [p0] at cu0
                                  have h17 := cell_regrown (K 17 (by decide))
                                  have h18 := cell_regrown (K 18 (by decide))
                                  have h19 := cell_regrown (K 19 (by decide))
                                  try go_wp2
                                  have c0 := retV_regrown (w := y12) (fun w => big54 w)
                                  have c1 := retV_regrown (w := y12) (fun w => big56 w)
                                  have c2 := retV_regrown (w := y12) (cu0)
                                  refine wp_region_quiet_below (by kernel_rfl) (by kernel_rfl) ?_
                                  repeat (with_reducible refine wpQuiet_step (fun KQ hKQ => ?_); go_simp; first | (with_reducible refine hKQ _ ?_; clear hKQ KQ) | (apply Exists.intro; with_reducible refine ⟨fun _ => ?_, hKQ _ ?_⟩; (with_reducible first | exact c0 _ _ | exact c1 _ _ | exact c2 _ _); clear hKQ KQ))
                                  refine wpQuiet_nil ?_
                                  intro _ hw'
                                  obtain ⟨⟨dq, osq⟩, hw''⟩ := hw'
                                  subst hw''
                                  replace E := b_trans E (below_regrown _ dq osq)
                                  clear K h17 h18 h19 c0 c1 c2
                                  generalize Sort.grow (redrawn y12 dq) osq = y13 at *
                                  go_wp2
                                  go_ret
                                  exact ⟨by rw [show rks x = 7 from by unfold rks; rw [q1, q2, q3, q4, q5, q6, show k7 x = false from b3_no0 p0]; rfl]; rfl, E⟩
                                · rw [p0] at cu0
                                  cases p1 : inb (x 18) 0 72057594037927936
                                  · rw [p1] at cu1
                                    have h17 := cell_regrown (K 17 (by decide))
                                    have h18 := cell_regrown (K 18 (by decide))
                                    have h19 := cell_regrown (K 19 (by decide))
                                    try go_wp2
                                    have c0 := retV_regrown (w := y12) (fun w => big54 w)
                                    have c1 := retV_regrown (w := y12) (fun w => big56 w)
                                    have c2 := retV_regrown (w := y12) (cu0)
                                    have c3 := retV_regrown (w := y12) (cu1)
                                    refine wp_region_quiet_below (by kernel_rfl) (by kernel_rfl) ?_
                                    repeat (with_reducible refine wpQuiet_step (fun KQ hKQ => ?_); go_simp; first | (with_reducible refine hKQ _ ?_; clear hKQ KQ) | (apply Exists.intro; with_reducible refine ⟨fun _ => ?_, hKQ _ ?_⟩; (with_reducible first | exact c0 _ _ | exact c1 _ _ | exact c2 _ _ | exact c3 _ _); clear hKQ KQ))
                                    refine wpQuiet_nil ?_
                                    intro _ hw'
                                    obtain ⟨⟨dq, osq⟩, hw''⟩ := hw'
                                    subst hw''
                                    replace E := b_trans E (below_regrown _ dq osq)
                                    clear K h17 h18 h19 c0 c1 c2 c3
                                    generalize Sort.grow (redrawn y12 dq) osq = y13 at *
                                    go_wp2
                                    go_ret
                                    exact ⟨by rw [show rks x = 7 from by unfold rks; rw [q1, q2, q3, q4, q5, q6, show k7 x = false from b3_no1 p0 p1]; rfl]; rfl, E⟩
                                  · rw [p1] at cu1
                                    cases p2 : inb (x 19) 0 72057594037927936
                                    · rw [p2] at cu2
                                      have h17 := cell_regrown (K 17 (by decide))
                                      have h18 := cell_regrown (K 18 (by decide))
                                      have h19 := cell_regrown (K 19 (by decide))
                                      try go_wp2
                                      have c0 := retV_regrown (w := y12) (fun w => big54 w)
                                      have c1 := retV_regrown (w := y12) (fun w => big56 w)
                                      have c2 := retV_regrown (w := y12) (cu0)
                                      have c3 := retV_regrown (w := y12) (cu1)
                                      have c4 := retV_regrown (w := y12) (cu2)
                                      refine wp_region_quiet_below (by kernel_rfl) (by kernel_rfl) ?_
                                      repeat (with_reducible refine wpQuiet_step (fun KQ hKQ => ?_); go_simp; first | (with_reducible refine hKQ _ ?_; clear hKQ KQ) | (apply Exists.intro; with_reducible refine ⟨fun _ => ?_, hKQ _ ?_⟩; (with_reducible first | exact c0 _ _ | exact c1 _ _ | exact c2 _ _ | exact c3 _ _ | exact c4 _ _); clear hKQ KQ))
                                      refine wpQuiet_nil ?_
                                      intro _ hw'
                                      obtain ⟨⟨dq, osq⟩, hw''⟩ := hw'
                                      subst hw''
                                      replace E := b_trans E (below_regrown _ dq osq)
                                      clear K h17 h18 h19 c0 c1 c2 c3 c4
                                      generalize Sort.grow (redrawn y12 dq) osq = y13 at *
                                      go_wp2
                                      go_ret
                                      exact ⟨by rw [show rks x = 7 from by unfold rks; rw [q1, q2, q3, q4, q5, q6, show k7 x = false from b3_no2 p0 p1 p2]; rfl]; rfl, E⟩
                                    · rw [p2] at cu2
                                      have h17 := cell_regrown (K 17 (by decide))
                                      have h18 := cell_regrown (K 18 (by decide))
                                      have h19 := cell_regrown (K 19 (by decide))
                                      try go_wp2
                                      have c0 := retV_regrown (w := y12) (fun w => big54 w)
                                      have c1 := retV_regrown (w := y12) (fun w => big56 w)
                                      have c2 := retV_regrown (w := y12) (cu0)
                                      have c3 := retV_regrown (w := y12) (cu1)
                                      have c4 := retV_regrown (w := y12) (cu2)
                                      refine wp_region_quiet_below (by kernel_rfl) (by kernel_rfl) ?_
                                      repeat (with_reducible refine wpQuiet_step (fun KQ hKQ => ?_); go_simp; first | (with_reducible refine hKQ _ ?_; clear hKQ KQ) | (apply Exists.intro; with_reducible refine ⟨fun _ => ?_, hKQ _ ?_⟩; (with_reducible first | exact c0 _ _ | exact c1 _ _ | exact c2 _ _ | exact c3 _ _ | exact c4 _ _); clear hKQ KQ))
                                      refine wpQuiet_nil ?_
                                      intro _ hw'
                                      obtain ⟨⟨dq, osq⟩, hw''⟩ := hw'
                                      subst hw''
                                      replace E := b_trans E (below_regrown _ dq osq)
                                      clear K h17 h18 h19 c0 c1 c2 c3 c4
                                      generalize Sort.grow (redrawn y12 dq) osq = y13 at *
                                      go_wp2
                                      go_ret
                                      exact ⟨by rw [show rks x = 0 from by unfold rks; rw [q1, q2, q3, q4, q5, q6, show k7 x = true from b3_yes p0 p1 p2]; rfl]; rfl, E⟩
end Go.Proofs.Ytoohaphaeccafaa
