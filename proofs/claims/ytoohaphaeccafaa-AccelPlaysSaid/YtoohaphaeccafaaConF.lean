/- Layer 13: the document's Check and Thrust. -/
import Derived.Test.YtoohaphaeccafaaConE
namespace Go.Proofs.Ytoohaphaeccafaa
open Go.RowKit Go.Shelf Go.Joins

/-- The first of the rules from the eighth on that isn't kept; 0. -/
def tks (x : Nat → Int) : Int := bif k8 x then (bif k9 x then (bif k10 x then (bif k11 x then (bif k12 x then (bif k13 x then (bif k14 x then 0 else 14) else 13) else 12) else 11) else 10) else 9) else 8
theorem cks_rows (x : Nat → Int) : cks x = if rks x = 0 then tks x else rks x := by
  unfold cks rks tks
  cases k1 x
  · rfl
  cases k2 x
  · rfl
  cases k3 x
  · rfl
  cases k4 x
  · rfl
  cases k5 x
  · rfl
  cases k6 x
  · rfl
  cases k7 x
  · rfl
  rfl
theorem bif_pos {a : Bool} {b c : Int} (hc : 0 < c) (h : 0 ≤ b) : 0 ≤ (bif a then b else c) := by cases a <;> (simp only [cond_true, cond_false]; omega)
theorem rks_pos (x : Nat → Int) : 0 ≤ rks x := by
  unfold rks
  exact bif_pos (by decide) (bif_pos (by decide) (bif_pos (by decide) (bif_pos (by decide) (bif_pos (by decide) (bif_pos (by decide) (bif_pos (by decide) (by decide)))))))
theorem tks_pos (x : Nat → Int) : 0 ≤ tks x := by
  unfold tks
  exact bif_pos (by decide) (bif_pos (by decide) (bif_pos (by decide) (bif_pos (by decide) (bif_pos (by decide) (bif_pos (by decide) (bif_pos (by decide) (by decide)))))))
theorem cks_pos (x : Nat → Int) : 0 ≤ cks x := by
  rw [cks_rows]
  split
  · exact tks_pos x
  · exact rks_pos x

set_option maxHeartbeats 8000000 in
set_option maxRecDepth 20000 in
theorem rcheck_any (x : Nat → Int) (hx : C64 x) (w : World) : Calls Try.prog 16 #[cv x] w (RetV (.int .i64 (cks x)) w) := by
  have cr0 := rows_any x hx
  by_cases c : rks x = 0
  · rw [c] at cr0
    have E : Below w.heap.size w (w.alloc (Obj.cells #[.int .i64 (x 0), .int .i64 (x 1), .int .i64 (x 2), .int .i64 (x 3), .int .i64 (x 4), .int .i64 (x 5), .int .i64 (x 6), .int .i64 (x 7), .int .i64 (x 8), .int .i64 (x 9), .int .i64 (x 10), .int .i64 (x 11), .int .i64 (x 12), .int .i64 (x 13), .int .i64 (x 14), .int .i64 (x 15), .int .i64 (x 16), .int .i64 (x 17), .int .i64 (x 18), .int .i64 (x 19), .int .i64 (x 20), .int .i64 (x 21), .int .i64 (x 22), .int .i64 (x 23), .int .i64 (x 24), .int .i64 (x 25), .int .i64 (x 26), .int .i64 (x 27), .int .i64 (x 28), .int .i64 (x 29), .int .i64 (x 30)] 25)) := b_alloc (Below.refl _ _)
    have cr : CR (w.alloc (Obj.cells #[.int .i64 (x 0), .int .i64 (x 1), .int .i64 (x 2), .int .i64 (x 3), .int .i64 (x 4), .int .i64 (x 5), .int .i64 (x 6), .int .i64 (x 7), .int .i64 (x 8), .int .i64 (x 9), .int .i64 (x 10), .int .i64 (x 11), .int .i64 (x 12), .int .i64 (x 13), .int .i64 (x 14), .int .i64 (x 15), .int .i64 (x 16), .int .i64 (x 17), .int .i64 (x 18), .int .i64 (x 19), .int .i64 (x 20), .int .i64 (x 21), .int .i64 (x 22), .int .i64 (x 23), .int .i64 (x 24), .int .i64 (x 25), .int .i64 (x 26), .int .i64 (x 27), .int .i64 (x 28), .int .i64 (x 29), .int .i64 (x 30)] 25)) w.heap.size x := cr_new
    go_enter Try.func16, Try.ntmps16
    go_wp2_with (with_reducible refine stop_at (some 4) rfl ?_)
    generalize (w.alloc (Obj.cells #[.int .i64 (x 0), .int .i64 (x 1), .int .i64 (x 2), .int .i64 (x 3), .int .i64 (x 4), .int .i64 (x 5), .int .i64 (x 6), .int .i64 (x 7), .int .i64 (x 8), .int .i64 (x 9), .int .i64 (x 10), .int .i64 (x 11), .int .i64 (x 12), .int .i64 (x 13), .int .i64 (x 14), .int .i64 (x 15), .int .i64 (x 16), .int .i64 (x 17), .int .i64 (x 18), .int .i64 (x 19), .int .i64 (x 20), .int .i64 (x 21), .int .i64 (x 22), .int .i64 (x 23), .int .i64 (x 24), .int .i64 (x 25), .int .i64 (x 26), .int .i64 (x 27), .int .i64 (x 28), .int .i64 (x 29), .int .i64 (x 30)] 25)) = z0 at *
    refine unstop ?_
    refine wpList_load_row rfl 25 (.tmp 1) rfl w.heap.size rfl 25 _ (0, 0) _ cr Try.underlying25 rfl (by kernel_rfl) ?_
    go_wp2_with fail
    refine (cr0 _).mono ?_
    rintro e y0 ⟨rfl, hb⟩
    replace E := b_trans E hb
    have K := cf_keep hb (cr_cell cr)
    clear hb cr cr0
    have h20 := K 20 (by decide)
    go_wp2_with fail
    refine (in_any (x 20) 1 1000 _).mono ?_
    rintro e y1 ⟨rfl, hb⟩
    replace E := b_trans E hb
    replace K := cf_keep hb K
    clear hb h20
    cases q8 : inb (x 20) 1 1000
    · go_wp2
      go_ret
      exact ⟨by rw [show cks x = 8 from by rw [cks_rows, if_pos c]; unfold tks; rw [show k8 x = false from q8]; rfl]; rfl, E⟩
    · replace q8 : k8 x = true := q8
      go_wp2
      have cu0 := fun w => in_any (x 21) 0 1099511627776 w
      have cu1 := fun w => in_any (x 22) (-4398046511104) 4398046511104 w
      have cu2 := fun w => in_any (x 23) (-4398046511104) 4398046511104 w
      have ng : IntKind.i64.wrap (-4398046511104) = -4398046511104 := by decide
      cases p0 : inb (x 21) 0 1099511627776
      · rw [p0] at cu0
        have h21 := cell_regrown (K 21 (by decide))
        have h22 := cell_regrown (K 22 (by decide))
        have h23 := cell_regrown (K 23 (by decide))
        have c0 := retV_regrown (w := y1) (fun w => big40 w)
        have c1 := retV_regrown (w := y1) (fun w => big42 w)
        have c2 := retV_regrown (w := y1) (cu0)
        try go_wp2
        refine wp_region_quiet_below (by kernel_rfl) (by kernel_rfl) ?_
        repeat (with_reducible refine wpQuiet_step (fun KQ hKQ => ?_); go_simp; first | (with_reducible refine hKQ _ ?_; clear hKQ KQ) | (apply Exists.intro; with_reducible refine ⟨fun _ => ?_, hKQ _ ?_⟩; (with_reducible first | exact c0 _ _ | exact c1 _ _ | exact c2 _ _); clear hKQ KQ))
        refine wpQuiet_nil ?_
        intro _ hw'
        obtain ⟨⟨dq, osq⟩, hw''⟩ := hw'
        subst hw''
        replace E := b_trans E (below_regrown _ dq osq)
        replace K := cf_keep (below_regrown _ dq osq) K
        clear h21 h22 h23 c0 c1 c2
        generalize Sort.grow (redrawn y1 dq) osq = y2 at *
        go_wp2
        go_ret
        exact ⟨by rw [show cks x = 9 from by rw [cks_rows, if_pos c]; unfold tks; rw [q8, show k9 x = false from b3_no0 p0]; rfl]; rfl, E⟩
      · rw [p0] at cu0
        cases p1 : inb (x 22) (-4398046511104) 4398046511104
        · rw [p1] at cu1
          have h21 := cell_regrown (K 21 (by decide))
          have h22 := cell_regrown (K 22 (by decide))
          have h23 := cell_regrown (K 23 (by decide))
          have c0 := retV_regrown (w := y1) (fun w => big40 w)
          have c1 := retV_regrown (w := y1) (fun w => big42 w)
          have c2 := retV_regrown (w := y1) (cu0)
          have c3 := retV_regrown (w := y1) (cu1)
          try go_wp2
          refine wp_region_quiet_below (by kernel_rfl) (by kernel_rfl) ?_
          repeat (with_reducible refine wpQuiet_step (fun KQ hKQ => ?_); go_simp; first | (with_reducible refine hKQ _ ?_; clear hKQ KQ) | (apply Exists.intro; with_reducible refine ⟨fun _ => ?_, hKQ _ ?_⟩; (with_reducible first | exact c0 _ _ | exact c1 _ _ | exact c2 _ _ | exact c3 _ _); clear hKQ KQ))
          refine wpQuiet_nil ?_
          intro _ hw'
          obtain ⟨⟨dq, osq⟩, hw''⟩ := hw'
          subst hw''
          replace E := b_trans E (below_regrown _ dq osq)
          replace K := cf_keep (below_regrown _ dq osq) K
          clear h21 h22 h23 c0 c1 c2 c3
          generalize Sort.grow (redrawn y1 dq) osq = y2 at *
          go_wp2
          go_ret
          exact ⟨by rw [show cks x = 9 from by rw [cks_rows, if_pos c]; unfold tks; rw [q8, show k9 x = false from b3_no1 p0 p1]; rfl]; rfl, E⟩
        · rw [p1] at cu1
          cases p2 : inb (x 23) (-4398046511104) 4398046511104
          · rw [p2] at cu2
            have h21 := cell_regrown (K 21 (by decide))
            have h22 := cell_regrown (K 22 (by decide))
            have h23 := cell_regrown (K 23 (by decide))
            have c0 := retV_regrown (w := y1) (fun w => big40 w)
            have c1 := retV_regrown (w := y1) (fun w => big42 w)
            have c2 := retV_regrown (w := y1) (cu0)
            have c3 := retV_regrown (w := y1) (cu1)
            have c4 := retV_regrown (w := y1) (cu2)
            try go_wp2
            refine wp_region_quiet_below (by kernel_rfl) (by kernel_rfl) ?_
            repeat (with_reducible refine wpQuiet_step (fun KQ hKQ => ?_); go_simp; first | (with_reducible refine hKQ _ ?_; clear hKQ KQ) | (apply Exists.intro; with_reducible refine ⟨fun _ => ?_, hKQ _ ?_⟩; (with_reducible first | exact c0 _ _ | exact c1 _ _ | exact c2 _ _ | exact c3 _ _ | exact c4 _ _); clear hKQ KQ))
            refine wpQuiet_nil ?_
            intro _ hw'
            obtain ⟨⟨dq, osq⟩, hw''⟩ := hw'
            subst hw''
            replace E := b_trans E (below_regrown _ dq osq)
            replace K := cf_keep (below_regrown _ dq osq) K
            clear h21 h22 h23 c0 c1 c2 c3 c4
            generalize Sort.grow (redrawn y1 dq) osq = y2 at *
            go_wp2
            go_ret
            exact ⟨by rw [show cks x = 9 from by rw [cks_rows, if_pos c]; unfold tks; rw [q8, show k9 x = false from b3_no2 p0 p1 p2]; rfl]; rfl, E⟩
          · rw [p2] at cu2
            have h21 := cell_regrown (K 21 (by decide))
            have h22 := cell_regrown (K 22 (by decide))
            have h23 := cell_regrown (K 23 (by decide))
            have c0 := retV_regrown (w := y1) (fun w => big40 w)
            have c1 := retV_regrown (w := y1) (fun w => big42 w)
            have c2 := retV_regrown (w := y1) (cu0)
            have c3 := retV_regrown (w := y1) (cu1)
            have c4 := retV_regrown (w := y1) (cu2)
            try go_wp2
            refine wp_region_quiet_below (by kernel_rfl) (by kernel_rfl) ?_
            repeat (with_reducible refine wpQuiet_step (fun KQ hKQ => ?_); go_simp; first | (with_reducible refine hKQ _ ?_; clear hKQ KQ) | (apply Exists.intro; with_reducible refine ⟨fun _ => ?_, hKQ _ ?_⟩; (with_reducible first | exact c0 _ _ | exact c1 _ _ | exact c2 _ _ | exact c3 _ _ | exact c4 _ _); clear hKQ KQ))
            refine wpQuiet_nil ?_
            intro _ hw'
            obtain ⟨⟨dq, osq⟩, hw''⟩ := hw'
            subst hw''
            replace E := b_trans E (below_regrown _ dq osq)
            replace K := cf_keep (below_regrown _ dq osq) K
            clear h21 h22 h23 c0 c1 c2 c3 c4
            generalize Sort.grow (redrawn y1 dq) osq = y2 at *
            have q9 : k9 x = true := b3_yes p0 p1 p2
            clear cu0 cu1 cu2 p0 p1 p2 ng
            go_wp2
            have cu := fun w => in_any (x 24) 1 1099511627776 w
            cases q10 : inb (x 24) 1 1099511627776
            · rw [q10] at cu
              have h24 := cell_regrown (K 24 (by decide))
              have c0 := retV_regrown (w := y2) (fun w => big40 w)
              have c1 := retV_regrown (w := y2) (cu)
              try go_wp2
              refine wp_region_quiet_below (by kernel_rfl) (by kernel_rfl) ?_
              repeat (with_reducible refine wpQuiet_step (fun KQ hKQ => ?_); go_simp; first | (with_reducible refine hKQ _ ?_; clear hKQ KQ) | (apply Exists.intro; with_reducible refine ⟨fun _ => ?_, hKQ _ ?_⟩; (with_reducible first | exact c0 _ _ | exact c1 _ _); clear hKQ KQ))
              refine wpQuiet_nil ?_
              intro _ hw'
              obtain ⟨⟨dq, osq⟩, hw''⟩ := hw'
              subst hw''
              replace E := b_trans E (below_regrown _ dq osq)
              replace K := cf_keep (below_regrown _ dq osq) K
              clear h24 c0 c1
              generalize Sort.grow (redrawn y2 dq) osq = y3 at *
              go_wp2
              go_ret
              exact ⟨by rw [show cks x = 10 from by rw [cks_rows, if_pos c]; unfold tks; rw [q8, q9, show k10 x = false from q10]; rfl]; rfl, E⟩
            · rw [q10] at cu
              have h24 := cell_regrown (K 24 (by decide))
              have c0 := retV_regrown (w := y2) (fun w => big40 w)
              have c1 := retV_regrown (w := y2) (cu)
              try go_wp2
              refine wp_region_quiet_below (by kernel_rfl) (by kernel_rfl) ?_
              repeat (with_reducible refine wpQuiet_step (fun KQ hKQ => ?_); go_simp; first | (with_reducible refine hKQ _ ?_; clear hKQ KQ) | (apply Exists.intro; with_reducible refine ⟨fun _ => ?_, hKQ _ ?_⟩; (with_reducible first | exact c0 _ _ | exact c1 _ _); clear hKQ KQ))
              refine wpQuiet_nil ?_
              intro _ hw'
              obtain ⟨⟨dq, osq⟩, hw''⟩ := hw'
              subst hw''
              replace E := b_trans E (below_regrown _ dq osq)
              replace K := cf_keep (below_regrown _ dq osq) K
              clear h24 c0 c1
              generalize Sort.grow (redrawn y2 dq) osq = y3 at *
              replace q10 : k10 x = true := q10
              clear cu
              go_wp2
              have cu0 := fun w => in_any (x 26) 1 131072 w
              have cu1 := fun w => in_any (x 25) (1 - x 26) (x 26 - 1) w
              cases p0 : inb (x 26) 1 131072
              · rw [p0] at cu0
                have h25 := cell_regrown (K 25 (by decide))
                have h26 := cell_regrown (K 26 (by decide))
                have c0 := retV_regrown (w := y3) (fun w => big17 w)
                have c1 := retV_regrown (w := y3) (cu0)
                try go_wp2
                refine wp_region_quiet_below (by kernel_rfl) (by kernel_rfl) ?_
                repeat (with_reducible refine wpQuiet_step (fun KQ hKQ => ?_); go_simp; first | (with_reducible refine hKQ _ ?_; clear hKQ KQ) | (apply Exists.intro; with_reducible refine ⟨fun _ => ?_, hKQ _ ?_⟩; (with_reducible first | exact c0 _ _ | exact c1 _ _); clear hKQ KQ))
                refine wpQuiet_nil ?_
                intro _ hw'
                obtain ⟨⟨dq, osq⟩, hw''⟩ := hw'
                subst hw''
                replace E := b_trans E (below_regrown _ dq osq)
                replace K := cf_keep (below_regrown _ dq osq) K
                clear h25 h26 c0 c1
                generalize Sort.grow (redrawn y3 dq) osq = y4 at *
                go_wp2
                go_ret
                exact ⟨by rw [show cks x = 11 from by rw [cks_rows, if_pos c]; unfold tks; rw [q8, q9, q10, show k11 x = false from by unfold k11; rw [p0]; rfl]; rfl]; rfl, E⟩
              · rw [p0] at cu0
                have w1 : IntKind.i64.wrap (1 - x 26) = 1 - x 26 := by have := inb_iff.1 p0; rw [IntKind.wrap_i64]; omega
                have w2 : IntKind.i64.wrap (x 26 - 1) = x 26 - 1 := by have := inb_iff.1 p0; rw [IntKind.wrap_i64]; omega
                cases p1 : inb (x 25) (1 - x 26) (x 26 - 1)
                · rw [p1] at cu1
                  have h25 := cell_regrown (K 25 (by decide))
                  have h26 := cell_regrown (K 26 (by decide))
                  have c0 := retV_regrown (w := y3) (fun w => big17 w)
                  have c1 := retV_regrown (w := y3) (cu0)
                  have c2 := retV_regrown (w := y3) (cu1)
                  try go_wp2
                  refine wp_region_quiet_below (by kernel_rfl) (by kernel_rfl) ?_
                  repeat (with_reducible refine wpQuiet_step (fun KQ hKQ => ?_); go_simp; first | (with_reducible refine hKQ _ ?_; clear hKQ KQ) | (apply Exists.intro; with_reducible refine ⟨fun _ => ?_, hKQ _ ?_⟩; (with_reducible first | exact c0 _ _ | exact c1 _ _ | exact c2 _ _); clear hKQ KQ))
                  refine wpQuiet_nil ?_
                  intro _ hw'
                  obtain ⟨⟨dq, osq⟩, hw''⟩ := hw'
                  subst hw''
                  replace E := b_trans E (below_regrown _ dq osq)
                  replace K := cf_keep (below_regrown _ dq osq) K
                  clear h25 h26 c0 c1 c2
                  generalize Sort.grow (redrawn y3 dq) osq = y4 at *
                  go_wp2
                  go_ret
                  exact ⟨by rw [show cks x = 11 from by rw [cks_rows, if_pos c]; unfold tks; rw [q8, q9, q10, show k11 x = false from by unfold k11; rw [p0, p1]; rfl]; rfl]; rfl, E⟩
                · rw [p1] at cu1
                  have h25 := cell_regrown (K 25 (by decide))
                  have h26 := cell_regrown (K 26 (by decide))
                  have c0 := retV_regrown (w := y3) (fun w => big17 w)
                  have c1 := retV_regrown (w := y3) (cu0)
                  have c2 := retV_regrown (w := y3) (cu1)
                  try go_wp2
                  refine wp_region_quiet_below (by kernel_rfl) (by kernel_rfl) ?_
                  repeat (with_reducible refine wpQuiet_step (fun KQ hKQ => ?_); go_simp; first | (with_reducible refine hKQ _ ?_; clear hKQ KQ) | (apply Exists.intro; with_reducible refine ⟨fun _ => ?_, hKQ _ ?_⟩; (with_reducible first | exact c0 _ _ | exact c1 _ _ | exact c2 _ _); clear hKQ KQ))
                  refine wpQuiet_nil ?_
                  intro _ hw'
                  obtain ⟨⟨dq, osq⟩, hw''⟩ := hw'
                  subst hw''
                  replace E := b_trans E (below_regrown _ dq osq)
                  replace K := cf_keep (below_regrown _ dq osq) K
                  clear h25 h26 c0 c1 c2
                  generalize Sort.grow (redrawn y3 dq) osq = y4 at *
                  have q11 : k11 x = true := by unfold k11; rw [p0, p1]; rfl
                  clear cu0 cu1 p0 p1 w1 w2
                  have h27 := K 27 (by decide)
                  go_wp2_with fail
                  refine (in_any (x 27) 0 1000 _).mono ?_
                  rintro e y5 ⟨rfl, hb⟩
                  replace E := b_trans E hb
                  replace K := cf_keep hb K
                  clear hb h27
                  cases q12 : inb (x 27) 0 1000
                  · go_wp2
                    go_ret
                    exact ⟨by rw [show cks x = 12 from by rw [cks_rows, if_pos c]; unfold tks; rw [q8, q9, q10, q11, show k12 x = false from q12]; rfl]; rfl, E⟩
                  · replace q12 : k12 x = true := q12
                    have h28 := K 28 (by decide)
                    have h29 := K 29 (by decide)
                    go_wp2_with fail
                    refine (in_any (x 28) 1 (x 29) _).mono ?_
                    rintro e y6 ⟨rfl, hb⟩
                    replace E := b_trans E hb
                    replace K := cf_keep hb K
                    clear hb h28 h29
                    cases p0 : inb (x 28) 1 (x 29)
                    · go_wp2
                      go_ret
                      exact ⟨by rw [show cks x = 13 from by rw [cks_rows, if_pos c]; unfold tks; rw [q8, q9, q10, q11, q12, show k13 x = false from by unfold k13; rw [p0]; rfl]; rfl]; rfl, E⟩
                    · have h29 := K 29 (by decide)
                      by_cases g : 100000 < x 29
                      · go_wp2
                        go_ret
                        exact ⟨by rw [show cks x = 13 from by rw [cks_rows, if_pos c]; unfold tks; rw [q8, q9, q10, q11, q12, show k13 x = false from by unfold k13; rw [p0, decide_eq_false (by omega)]; rfl]; rfl]; rfl, E⟩
                      · have q13 : k13 x = true := by unfold k13; rw [p0, decide_eq_true (by omega)]; rfl
                        have h30 := K 30 (by decide)
                        go_wp2_with fail
                        refine (in_any (x 30) 0 400000 _).mono ?_
                        rintro e y7 ⟨rfl, hb⟩
                        replace E := b_trans E hb
                        replace K := cf_keep hb K
                        clear hb h30
                        cases q14 : inb (x 30) 0 400000
                        · go_wp2
                          go_ret
                          exact ⟨by rw [show cks x = 14 from by rw [cks_rows, if_pos c]; unfold tks; rw [q8, q9, q10, q11, q12, q13, show k14 x = false from q14]; rfl]; rfl, E⟩
                        · replace q14 : k14 x = true := q14
                          go_wp2
                          go_ret
                          exact ⟨by rw [show cks x = 0 from by rw [cks_rows, if_pos c]; unfold tks; rw [q8, q9, q10, q11, q12, q13, q14]; rfl]; rfl, E⟩
  · have m0 := rks_pos x
    rw [show cks x = rks x from by rw [cks_rows, if_neg c]]
    generalize rks x = m at *
    have m1 : 0 < m := by omega
    clear c m0
    have E : Below w.heap.size w (w.alloc (Obj.cells #[.int .i64 (x 0), .int .i64 (x 1), .int .i64 (x 2), .int .i64 (x 3), .int .i64 (x 4), .int .i64 (x 5), .int .i64 (x 6), .int .i64 (x 7), .int .i64 (x 8), .int .i64 (x 9), .int .i64 (x 10), .int .i64 (x 11), .int .i64 (x 12), .int .i64 (x 13), .int .i64 (x 14), .int .i64 (x 15), .int .i64 (x 16), .int .i64 (x 17), .int .i64 (x 18), .int .i64 (x 19), .int .i64 (x 20), .int .i64 (x 21), .int .i64 (x 22), .int .i64 (x 23), .int .i64 (x 24), .int .i64 (x 25), .int .i64 (x 26), .int .i64 (x 27), .int .i64 (x 28), .int .i64 (x 29), .int .i64 (x 30)] 25)) := b_alloc (Below.refl _ _)
    have cr : CR (w.alloc (Obj.cells #[.int .i64 (x 0), .int .i64 (x 1), .int .i64 (x 2), .int .i64 (x 3), .int .i64 (x 4), .int .i64 (x 5), .int .i64 (x 6), .int .i64 (x 7), .int .i64 (x 8), .int .i64 (x 9), .int .i64 (x 10), .int .i64 (x 11), .int .i64 (x 12), .int .i64 (x 13), .int .i64 (x 14), .int .i64 (x 15), .int .i64 (x 16), .int .i64 (x 17), .int .i64 (x 18), .int .i64 (x 19), .int .i64 (x 20), .int .i64 (x 21), .int .i64 (x 22), .int .i64 (x 23), .int .i64 (x 24), .int .i64 (x 25), .int .i64 (x 26), .int .i64 (x 27), .int .i64 (x 28), .int .i64 (x 29), .int .i64 (x 30)] 25)) w.heap.size x := cr_new
    go_enter Try.func16, Try.ntmps16
    go_wp2_with (with_reducible refine stop_at (some 4) rfl ?_)
    generalize (w.alloc (Obj.cells #[.int .i64 (x 0), .int .i64 (x 1), .int .i64 (x 2), .int .i64 (x 3), .int .i64 (x 4), .int .i64 (x 5), .int .i64 (x 6), .int .i64 (x 7), .int .i64 (x 8), .int .i64 (x 9), .int .i64 (x 10), .int .i64 (x 11), .int .i64 (x 12), .int .i64 (x 13), .int .i64 (x 14), .int .i64 (x 15), .int .i64 (x 16), .int .i64 (x 17), .int .i64 (x 18), .int .i64 (x 19), .int .i64 (x 20), .int .i64 (x 21), .int .i64 (x 22), .int .i64 (x 23), .int .i64 (x 24), .int .i64 (x 25), .int .i64 (x 26), .int .i64 (x 27), .int .i64 (x 28), .int .i64 (x 29), .int .i64 (x 30)] 25)) = z0 at *
    refine unstop ?_
    refine wpList_load_row rfl 25 (.tmp 1) rfl w.heap.size rfl 25 _ (0, 0) _ cr Try.underlying25 rfl (by kernel_rfl) ?_
    go_wp2_with fail
    refine (cr0 _).mono ?_
    rintro e y0 ⟨rfl, hb⟩
    replace E := b_trans E hb
    have K := cf_keep hb (cr_cell cr)
    clear hb cr cr0
    go_wp2
    go_ret
    exact ⟨rfl, E⟩

theorem rthrust_any (x : Nat → Int) (hx : C64 x) (n : Int) (w : World) : Calls Try.prog 18 #[cv x, .int .i64 n] w (RetV (.tuple #[.int .i64 (thv x n), .int .i64 (the x n)]) w) := by
  have ck := rcheck_any x hx
  by_cases c : cks x = 0
  · rw [c] at ck
    have kp := kept_of c
    have ci := in_any n (1 - x 26) (x 26 - 1)
    have v1 : IntKind.i64.wrap (1 - x 26) = 1 - x 26 := by
      have := kp.c1
      have := kp.c2
      rw [IntKind.wrap_i64]; omega
    have v2 : IntKind.i64.wrap (x 26 - 1) = x 26 - 1 := by
      have := kp.c1
      have := kp.c2
      rw [IntKind.wrap_i64]; omega
    cases i : inb n (1 - x 26) (x 26 - 1)
    · obtain ⟨e1, e2⟩ := th_out c i
      rw [e1, e2]
      clear e1 e2
      have E : Below w.heap.size w (w.alloc (Obj.cells #[.int .i64 (x 0), .int .i64 (x 1), .int .i64 (x 2), .int .i64 (x 3), .int .i64 (x 4), .int .i64 (x 5), .int .i64 (x 6), .int .i64 (x 7), .int .i64 (x 8), .int .i64 (x 9), .int .i64 (x 10), .int .i64 (x 11), .int .i64 (x 12), .int .i64 (x 13), .int .i64 (x 14), .int .i64 (x 15), .int .i64 (x 16), .int .i64 (x 17), .int .i64 (x 18), .int .i64 (x 19), .int .i64 (x 20), .int .i64 (x 21), .int .i64 (x 22), .int .i64 (x 23), .int .i64 (x 24), .int .i64 (x 25), .int .i64 (x 26), .int .i64 (x 27), .int .i64 (x 28), .int .i64 (x 29), .int .i64 (x 30)] 25)) := b_alloc (Below.refl _ _)
      have cr : CR (w.alloc (Obj.cells #[.int .i64 (x 0), .int .i64 (x 1), .int .i64 (x 2), .int .i64 (x 3), .int .i64 (x 4), .int .i64 (x 5), .int .i64 (x 6), .int .i64 (x 7), .int .i64 (x 8), .int .i64 (x 9), .int .i64 (x 10), .int .i64 (x 11), .int .i64 (x 12), .int .i64 (x 13), .int .i64 (x 14), .int .i64 (x 15), .int .i64 (x 16), .int .i64 (x 17), .int .i64 (x 18), .int .i64 (x 19), .int .i64 (x 20), .int .i64 (x 21), .int .i64 (x 22), .int .i64 (x 23), .int .i64 (x 24), .int .i64 (x 25), .int .i64 (x 26), .int .i64 (x 27), .int .i64 (x 28), .int .i64 (x 29), .int .i64 (x 30)] 25)) w.heap.size x := cr_new
      go_enter Try.func18, Try.ntmps18
      go_wp2_with (with_reducible refine stop_at (some 6) rfl ?_)
      generalize (w.alloc (Obj.cells #[.int .i64 (x 0), .int .i64 (x 1), .int .i64 (x 2), .int .i64 (x 3), .int .i64 (x 4), .int .i64 (x 5), .int .i64 (x 6), .int .i64 (x 7), .int .i64 (x 8), .int .i64 (x 9), .int .i64 (x 10), .int .i64 (x 11), .int .i64 (x 12), .int .i64 (x 13), .int .i64 (x 14), .int .i64 (x 15), .int .i64 (x 16), .int .i64 (x 17), .int .i64 (x 18), .int .i64 (x 19), .int .i64 (x 20), .int .i64 (x 21), .int .i64 (x 22), .int .i64 (x 23), .int .i64 (x 24), .int .i64 (x 25), .int .i64 (x 26), .int .i64 (x 27), .int .i64 (x 28), .int .i64 (x 29), .int .i64 (x 30)] 25)) = z0 at *
      refine unstop ?_
      refine wpList_load_row rfl 25 (.tmp 2) rfl w.heap.size rfl 25 _ (0, 0) _ cr Try.underlying25 rfl (by kernel_rfl) ?_
      go_wp2_with fail
      refine (ck _).mono ?_
      rintro e y0 ⟨rfl, hb⟩
      replace cr := cr_keep hb cr
      replace E := b_trans E hb
      clear hb
      have g6 := cr_cell cr 26 (by decide)
      rw [i] at ci
      clear i kp c ck
      go_wp2_with fail
      refine (ci _).mono ?_
      rintro e y1 ⟨rfl, hb⟩
      replace E := b_trans E hb
      clear hb cr
      go_wp2
      go_ret2
      exact ⟨rfl, E⟩
    · obtain ⟨e1, e2⟩ := th_ok c i
      rw [e1, e2]
      clear e1 e2
      have E : Below w.heap.size w (w.alloc (Obj.cells #[.int .i64 (x 0), .int .i64 (x 1), .int .i64 (x 2), .int .i64 (x 3), .int .i64 (x 4), .int .i64 (x 5), .int .i64 (x 6), .int .i64 (x 7), .int .i64 (x 8), .int .i64 (x 9), .int .i64 (x 10), .int .i64 (x 11), .int .i64 (x 12), .int .i64 (x 13), .int .i64 (x 14), .int .i64 (x 15), .int .i64 (x 16), .int .i64 (x 17), .int .i64 (x 18), .int .i64 (x 19), .int .i64 (x 20), .int .i64 (x 21), .int .i64 (x 22), .int .i64 (x 23), .int .i64 (x 24), .int .i64 (x 25), .int .i64 (x 26), .int .i64 (x 27), .int .i64 (x 28), .int .i64 (x 29), .int .i64 (x 30)] 25)) := b_alloc (Below.refl _ _)
      have cr : CR (w.alloc (Obj.cells #[.int .i64 (x 0), .int .i64 (x 1), .int .i64 (x 2), .int .i64 (x 3), .int .i64 (x 4), .int .i64 (x 5), .int .i64 (x 6), .int .i64 (x 7), .int .i64 (x 8), .int .i64 (x 9), .int .i64 (x 10), .int .i64 (x 11), .int .i64 (x 12), .int .i64 (x 13), .int .i64 (x 14), .int .i64 (x 15), .int .i64 (x 16), .int .i64 (x 17), .int .i64 (x 18), .int .i64 (x 19), .int .i64 (x 20), .int .i64 (x 21), .int .i64 (x 22), .int .i64 (x 23), .int .i64 (x 24), .int .i64 (x 25), .int .i64 (x 26), .int .i64 (x 27), .int .i64 (x 28), .int .i64 (x 29), .int .i64 (x 30)] 25)) w.heap.size x := cr_new
      go_enter Try.func18, Try.ntmps18
      go_wp2_with (with_reducible refine stop_at (some 6) rfl ?_)
      generalize (w.alloc (Obj.cells #[.int .i64 (x 0), .int .i64 (x 1), .int .i64 (x 2), .int .i64 (x 3), .int .i64 (x 4), .int .i64 (x 5), .int .i64 (x 6), .int .i64 (x 7), .int .i64 (x 8), .int .i64 (x 9), .int .i64 (x 10), .int .i64 (x 11), .int .i64 (x 12), .int .i64 (x 13), .int .i64 (x 14), .int .i64 (x 15), .int .i64 (x 16), .int .i64 (x 17), .int .i64 (x 18), .int .i64 (x 19), .int .i64 (x 20), .int .i64 (x 21), .int .i64 (x 22), .int .i64 (x 23), .int .i64 (x 24), .int .i64 (x 25), .int .i64 (x 26), .int .i64 (x 27), .int .i64 (x 28), .int .i64 (x 29), .int .i64 (x 30)] 25)) = z0 at *
      refine unstop ?_
      refine wpList_load_row rfl 25 (.tmp 2) rfl w.heap.size rfl 25 _ (0, 0) _ cr Try.underlying25 rfl (by kernel_rfl) ?_
      go_wp2_with fail
      refine (ck _).mono ?_
      rintro e y0 ⟨rfl, hb⟩
      replace cr := cr_keep hb cr
      replace E := b_trans E hb
      clear hb
      have g6 := cr_cell cr 26 (by decide)
      rw [i] at ci
      obtain ⟨a1, a2⟩ := inb_iff.1 i
      obtain ⟨t1, t2⟩ := thrust_small kp a1 a2
      have w1 : IntKind.i64.wrap (n - x 25) = n - x 25 := by
        have := kp.r1
        have := kp.r2
        have := kp.c2
        rw [IntKind.wrap_i64]; omega
      have w2 : IntKind.i64.wrap ((n - x 25) * x 24) = (n - x 25) * x 24 := by rw [IntKind.wrap_i64]; omega
      clear i kp c ck a1 a2 t1 t2
      go_wp2_with fail
      refine (ci _).mono ?_
      rintro e y1 ⟨rfl, hb⟩
      replace E := b_trans E hb
      replace cr := cr_keep hb cr
      have g4 := cr_cell cr 24 (by decide)
      have g5 := cr_cell cr 25 (by decide)
      clear hb cr
      go_wp2
      go_ret2
      exact ⟨rfl, E⟩
  · obtain ⟨e1, e2⟩ := th_bad (n := n) c
    rw [e1, e2]
    clear e1 e2
    have m0 := cks_pos x
    generalize cks x = m at *
    have m1 : 0 < m := by omega
    clear c m0
    have E : Below w.heap.size w (w.alloc (Obj.cells #[.int .i64 (x 0), .int .i64 (x 1), .int .i64 (x 2), .int .i64 (x 3), .int .i64 (x 4), .int .i64 (x 5), .int .i64 (x 6), .int .i64 (x 7), .int .i64 (x 8), .int .i64 (x 9), .int .i64 (x 10), .int .i64 (x 11), .int .i64 (x 12), .int .i64 (x 13), .int .i64 (x 14), .int .i64 (x 15), .int .i64 (x 16), .int .i64 (x 17), .int .i64 (x 18), .int .i64 (x 19), .int .i64 (x 20), .int .i64 (x 21), .int .i64 (x 22), .int .i64 (x 23), .int .i64 (x 24), .int .i64 (x 25), .int .i64 (x 26), .int .i64 (x 27), .int .i64 (x 28), .int .i64 (x 29), .int .i64 (x 30)] 25)) := b_alloc (Below.refl _ _)
    have cr : CR (w.alloc (Obj.cells #[.int .i64 (x 0), .int .i64 (x 1), .int .i64 (x 2), .int .i64 (x 3), .int .i64 (x 4), .int .i64 (x 5), .int .i64 (x 6), .int .i64 (x 7), .int .i64 (x 8), .int .i64 (x 9), .int .i64 (x 10), .int .i64 (x 11), .int .i64 (x 12), .int .i64 (x 13), .int .i64 (x 14), .int .i64 (x 15), .int .i64 (x 16), .int .i64 (x 17), .int .i64 (x 18), .int .i64 (x 19), .int .i64 (x 20), .int .i64 (x 21), .int .i64 (x 22), .int .i64 (x 23), .int .i64 (x 24), .int .i64 (x 25), .int .i64 (x 26), .int .i64 (x 27), .int .i64 (x 28), .int .i64 (x 29), .int .i64 (x 30)] 25)) w.heap.size x := cr_new
    go_enter Try.func18, Try.ntmps18
    go_wp2_with (with_reducible refine stop_at (some 6) rfl ?_)
    generalize (w.alloc (Obj.cells #[.int .i64 (x 0), .int .i64 (x 1), .int .i64 (x 2), .int .i64 (x 3), .int .i64 (x 4), .int .i64 (x 5), .int .i64 (x 6), .int .i64 (x 7), .int .i64 (x 8), .int .i64 (x 9), .int .i64 (x 10), .int .i64 (x 11), .int .i64 (x 12), .int .i64 (x 13), .int .i64 (x 14), .int .i64 (x 15), .int .i64 (x 16), .int .i64 (x 17), .int .i64 (x 18), .int .i64 (x 19), .int .i64 (x 20), .int .i64 (x 21), .int .i64 (x 22), .int .i64 (x 23), .int .i64 (x 24), .int .i64 (x 25), .int .i64 (x 26), .int .i64 (x 27), .int .i64 (x 28), .int .i64 (x 29), .int .i64 (x 30)] 25)) = z0 at *
    refine unstop ?_
    refine wpList_load_row rfl 25 (.tmp 2) rfl w.heap.size rfl 25 _ (0, 0) _ cr Try.underlying25 rfl (by kernel_rfl) ?_
    go_wp2_with fail
    refine (ck _).mono ?_
    rintro e y0 ⟨rfl, hb⟩
    replace cr := cr_keep hb cr
    replace E := b_trans E hb
    clear hb
    have g6 := cr_cell cr 26 (by decide)
    go_wp2
    go_ret2
    exact ⟨rfl, E⟩
end Go.Proofs.Ytoohaphaeccafaa
