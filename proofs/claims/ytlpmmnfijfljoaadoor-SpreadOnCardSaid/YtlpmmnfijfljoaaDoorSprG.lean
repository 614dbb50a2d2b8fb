/- The document's On of layer 8: the call's answer. -/
import Derived.Test.YtlpmmnfijfljoaaDoorSprE
import Derived.Test.YtlpmmnfijfljoaaDoorSprF
namespace Go.Proofs.YtlpmmnfijfljoaaDoor
open Go.RowKit Go.Shelf

theorem power_30 (w : World) : Calls Tryd.prog 21 #[.int .i64 30] w (RetB 1073741824 w) := by
  have := power_any 30 (by decide) w
  rwa [show (2 : Int) ^ 30 = 1073741824 by decide] at this
theorem rwn_tiny {m : Nat → Int} (hm : I6 m) (i j : Nat) : Tiny (rwn m i j) := by
  have h := clp_three hm i j (Nat.le_refl 3)
  rw [clp_rwn] at h
  exact ⟨by omega, by omega⟩
theorem even_entry (va vb : Value) (z : Int) (w : World) (hx : BG w va z) (hy : BG w vb 1073741824) (t : Tiny z) : Calls Tryd.prog 20 #[va, vb] w (RetB (evn z 1073741824) w) := by
  have h := even_big va vb z 1073741824 w hx hy (by decide) t ⟨by decide, by decide⟩
  rwa [ef_pos z (by decide)] at h

set_option maxHeartbeats 4000000 in
set_option maxRecDepth 10000 in
theorem on_dref_no (m : Nat → Int) (d0 d1 d2 : Int) (hm : I6 m) (ca : ¬ F6 m) (w : World) (hp : PL w) :
    Calls Tryd.prog 7 #[sv m, tv d0 d1 d2] w (RetV (.tuple #[sv (onz m d0 d1 d2), .int .i64 (one m d0 d1 d2)]) w) := by
  have eq := Lib.hid (on_bad (m := m) (d0 := d0) (d1 := d1) (d2 := d2) (fun h => ca h.1))
  have ea := Lib.hid (f6b_no ca)
  clear ca
  have s0 : ON w w.heap.size (w.heap.size + 1) (w.heap.size + 1 + 1) m d0 d1 d2 (((w.alloc (Obj.cells #[.int .i64 (m 0), .int .i64 (m 1), .int .i64 (m 2), .int .i64 (m 3), .int .i64 (m 4), .int .i64 (m 5)] 23)).alloc (Obj.cells #[.int .i64 d0, .int .i64 d1, .int .i64 d2] 25)).alloc (Obj.cells #[.int .i64 0, .int .i64 0, .int .i64 0, .int .i64 0, .int .i64 0, .int .i64 0] 23)) := ⟨b_alloc (b_alloc (b_alloc (Below.refl _ _))), sc_alloc (sc_alloc (sc_new (w := w) (m := m) (t := 23) rfl)), tc_alloc (tc_new (by simp)), sc_new (m := fun _ => 0) (by simp), sf_new (by simp), pl_keep (b_alloc (b_alloc (b_alloc (Below.refl _ _)))) hp⟩
  clear hp
  have l6 := sc_six s0.a
  go_enter Tryd.func7, Tryd.ntmps7
  go_wp2_with fail
  refine (fits_sref m hm _).mono ?_
  rintro e1 w1 ⟨rfl, hb9⟩
  rw [ea.out]
  replace s0 := on_keep s0 hb9
  clear hb9 l6
  have r6 := sc_six s0.r
  have f6 := sf_six s0.rf
  have B9 := s0.b
  clear s0
  go_wp2
  obtain ⟨r0, r1, r2, r3, r4, r5⟩ := r6
  refine bodyPost_ret (v := .tuple #[sv (fun _ => 0), .int .i64 1]) (by simp [results, Tryd.results7, go_sem, r0, r1, r2, r3, r4, r5]) rfl ⟨by rw [eq.out.1, eq.out.2], ?_⟩
  exact bb_set B9 (by omega)

set_option maxHeartbeats 4000000 in
set_option maxRecDepth 10000 in
theorem on_dref_add (m : Nat → Int) (d0 d1 d2 : Int) (hm : I6 m) (hd0 : I64 d0) (hd1 : I64 d1) (hd2 : I64 d2) (ca : F6 m) (cb : ¬ F3 d0 d1 d2) (w : World) (hp : PL w) :
    Calls Tryd.prog 7 #[sv m, tv d0 d1 d2] w (RetV (.tuple #[sv (onz m d0 d1 d2), .int .i64 (one m d0 d1 d2)]) w) := by
  have eq := Lib.hid (on_bad (m := m) (d0 := d0) (d1 := d1) (d2 := d2) (fun h => cb h.2))
  have ea := Lib.hid (f6b_yes ca)
  have eb := Lib.hid (f3b_no cb)
  clear ca cb
  have s0 : ON w w.heap.size (w.heap.size + 1) (w.heap.size + 1 + 1) m d0 d1 d2 (((w.alloc (Obj.cells #[.int .i64 (m 0), .int .i64 (m 1), .int .i64 (m 2), .int .i64 (m 3), .int .i64 (m 4), .int .i64 (m 5)] 23)).alloc (Obj.cells #[.int .i64 d0, .int .i64 d1, .int .i64 d2] 25)).alloc (Obj.cells #[.int .i64 0, .int .i64 0, .int .i64 0, .int .i64 0, .int .i64 0, .int .i64 0] 23)) := ⟨b_alloc (b_alloc (b_alloc (Below.refl _ _))), sc_alloc (sc_alloc (sc_new (w := w) (m := m) (t := 23) rfl)), tc_alloc (tc_new (by simp)), sc_new (m := fun _ => 0) (by simp), sf_new (by simp), pl_keep (b_alloc (b_alloc (b_alloc (Below.refl _ _)))) hp⟩
  clear hp
  have l6 := sc_six s0.a
  go_enter Tryd.func7, Tryd.ntmps7
  go_wp2_with fail
  refine (fits_sref m hm _).mono ?_
  rintro e1 w1 ⟨rfl, hb9⟩
  rw [ea.out]
  replace s0 := on_keep s0 hb9
  clear hb9 l6
  have l3 := s0.d
  go_wp2_with fail
  refine (fits3_ref d0 d1 d2 hd0 hd1 hd2 _).mono ?_
  rintro e2 w2 ⟨rfl, hb9⟩
  rw [eb.out]
  replace s0 := on_keep s0 hb9
  clear hb9 l3
  have r6 := sc_six s0.r
  have f6 := sf_six s0.rf
  have B9 := s0.b
  clear s0
  go_wp2
  obtain ⟨r0, r1, r2, r3, r4, r5⟩ := r6
  refine bodyPost_ret (v := .tuple #[sv (fun _ => 0), .int .i64 1]) (by simp [results, Tryd.results7, go_sem, r0, r1, r2, r3, r4, r5]) rfl ⟨by rw [eq.out.1, eq.out.2], ?_⟩
  exact bb_set B9 (by omega)

set_option maxHeartbeats 8000000 in
set_option maxRecDepth 10000 in
theorem on_dref_go (m : Nat → Int) (d0 d1 d2 : Int) (hm : I6 m) (hd0 : I64 d0) (hd1 : I64 d1) (hd2 : I64 d2) (ca : F6 m) (cb : F3 d0 d1 d2) (w : World) (hp : PL w) :
    Calls Tryd.prog 7 #[sv m, tv d0 d1 d2] w (RetV (.tuple #[sv (onz m d0 d1 d2), .int .i64 (one m d0 d1 d2)]) w) := by
  have AB := Lib.hid (And.intro ca cb)
  have ea := Lib.hid (f6b_yes ca)
  have eb := Lib.hid (f3b_yes cb)
  have QT : ∀ k, Tiny (qun m k) := fun k => by have h := evn30_bd (rawn_bd ca k); exact ⟨by unfold qun; omega, by unfold qun; omega⟩
  clear ca cb
  have s0 : ON w w.heap.size (w.heap.size + 1) (w.heap.size + 1 + 1) m d0 d1 d2 (((w.alloc (Obj.cells #[.int .i64 (m 0), .int .i64 (m 1), .int .i64 (m 2), .int .i64 (m 3), .int .i64 (m 4), .int .i64 (m 5)] 23)).alloc (Obj.cells #[.int .i64 d0, .int .i64 d1, .int .i64 d2] 25)).alloc (Obj.cells #[.int .i64 0, .int .i64 0, .int .i64 0, .int .i64 0, .int .i64 0, .int .i64 0] 23)) := ⟨b_alloc (b_alloc (b_alloc (Below.refl _ _))), sc_alloc (sc_alloc (sc_new (w := w) (m := m) (t := 23) rfl)), tc_alloc (tc_new (by simp)), sc_new (m := fun _ => 0) (by simp), sf_new (by simp), pl_keep (b_alloc (b_alloc (b_alloc (Below.refl _ _)))) hp⟩
  clear hp
  have l6 := sc_six s0.a
  go_enter Tryd.func7, Tryd.ntmps7
  go_wp2_with fail
  refine (fits_sref m hm _).mono ?_
  rintro e1 w1 ⟨rfl, hb9⟩
  rw [ea.out]
  replace s0 := on_keep s0 hb9
  clear hb9 l6
  have l3 := s0.d
  go_wp2_with fail
  refine (fits3_ref d0 d1 d2 hd0 hd1 hd2 _).mono ?_
  rintro e2 w2 ⟨rfl, hb9⟩
  rw [eb.out]
  replace s0 := on_keep s0 hb9
  clear hb9 l3
  have zr := sc_lt s0.r
  have z2 := s0.b.size
  have j0 : OQ w w.heap.size (w.heap.size + 1) (w.heap.size + 1 + 1) w2.heap.size m d0 d1 d2 (qun m) 0 (w2.alloc (Obj.cells #[.int .i64 0, .int .i64 0, .int .i64 0, .int .i64 0, .int .i64 0, .int .i64 0] 23)) := ⟨on_keep s0 (b_alloc (Below.refl _ _)), by rw [show (fun i => if i < 0 then qun m i else 0) = (fun _ => 0) by funext i; rw [if_neg (Nat.not_lt_zero i)]]; exact sc_new (m := fun _ => 0) rfl, sf_new rfl⟩
  clear s0
  have qA : w2.heap.size ≠ w.heap.size := by omega
  have qB : w2.heap.size ≠ w.heap.size + 1 := by omega
  have qR : w2.heap.size ≠ w.heap.size + 1 + 1 := by omega
  have q0 : 0 < w2.heap.size := by omega
  clear zr
  go_wp2
  generalize w2.alloc (Obj.cells #[.int .i64 0, .int .i64 0, .int .i64 0, .int .i64 0, .int .i64 0, .int .i64 0] 23) = u at *
  generalize w2.heap.size = Q at *
  refine wp_loop_rounds 4 ?_
  rw [rounds_succ]
  go_wp2
  refine wp_loop_rounds 4 ?_
  rw [rounds_succ]
  have l6 := sc_six j0.o.a
  go_wp2_with fail
  refine (raw_ref m 0 0 hm (by decide) (by decide) _).mono ?_
  rintro e3 x3 ⟨v3, rfl, g3, hb9⟩
  obtain ⟨n3, a3, k3, c3, rfl⟩ := bg_form g3
  replace j0 := oq_keep j0 hb9
  clear hb9 l6
  go_wp2_with fail
  refine (power_30 _).mono ?_
  rintro e4 x4 ⟨v4, rfl, g4, hb9⟩
  obtain ⟨n4, a4, k4, c4, rfl⟩ := bg_form g4
  replace g3 := bg_keep g3 hb9
  replace j0 := oq_keep j0 hb9
  clear hb9
  go_wp2_with fail
  refine (even_entry _ _ _ _ g3 g4 (rwn_tiny hm 0 0)).mono ?_
  rintro e5 x5 ⟨v5, rfl, g5, hb9⟩
  obtain ⟨n5, a5, k5, c5, rfl⟩ := bg_form g5
  replace j0 := oq_keep j0 hb9
  clear hb9 g3 g4
  replace g5 : BG x5 (.agg #[.bool n5, .slice a5 k5 c5]) (qun m 0) := g5
  go_wp2_with fail
  refine (to_ref _ _ _ g5 (QT 0)).mono ?_
  rintro e6 x6 ⟨rfl, hb9⟩
  replace j0 := oq_keep j0 hb9
  clear hb9 g5
  by_cases c0 : FitP (qun m 0)
  rotate_left
  · have hN := nz_no c0
    rw [hN.1, hN.2]
    have eq := Lib.hid (on_far (m := m) (d0 := d0) (d1 := d1) (d2 := d2) AB.out (fun h => c0 (h 0 (by decide))))
    clear c0 hN
    have s0 := j0.o
    clear j0
    have r6 := sc_six s0.r
    have f6 := sf_six s0.rf
    have B9 := s0.b
    clear s0
    go_wp2
    obtain ⟨r0, r1, r2, r3, r4, r5⟩ := r6
    refine bodyPost_ret (v := .tuple #[sv (fun _ => 0), .int .i64 3]) (by simp [results, Tryd.results7, go_sem, r0, r1, r2, r3, r4, r5]) rfl ⟨by rw [eq.out.1, eq.out.2], ?_⟩
    exact bb_set B9 (by omega)
  have hN := nz_of c0
  rw [hN.1, hN.2]
  clear hN
  have C0 := Lib.hid c0
  clear c0
  go_wp2_with fail
  refine (place_ok 0 0 0 (by decide) _).mono ?_
  rintro e7 x7 ⟨rfl, hb9⟩
  replace j0 := oq_keep j0 hb9
  clear hb9
  have y1 := j0.q 0 (by decide)
  have y2 := j0.f 0 (by decide)
  have j2 := Lib.hid (oq_put j0 (show 0 < 6 by decide) z2 q0 qA qB qR)
  clear j0
  go_wp2
  generalize x7.setCell ⟨Q, 0, none⟩ (.int .i64 (qun m 0)) = u0 at *
  have j0 := j2.out
  clear j2 y1 y2
  rw [rounds_succ]
  have l6 := sc_six j0.o.a
  go_wp2_with fail
  refine (raw_ref m 0 1 hm (by decide) (by decide) _).mono ?_
  rintro e3 x3 ⟨v3, rfl, g3, hb9⟩
  obtain ⟨n3, a3, k3, c3, rfl⟩ := bg_form g3
  replace j0 := oq_keep j0 hb9
  clear hb9 l6
  go_wp2_with fail
  refine (power_30 _).mono ?_
  rintro e4 x4 ⟨v4, rfl, g4, hb9⟩
  obtain ⟨n4, a4, k4, c4, rfl⟩ := bg_form g4
  replace g3 := bg_keep g3 hb9
  replace j0 := oq_keep j0 hb9
  clear hb9
  go_wp2_with fail
  refine (even_entry _ _ _ _ g3 g4 (rwn_tiny hm 0 1)).mono ?_
  rintro e5 x5 ⟨v5, rfl, g5, hb9⟩
  obtain ⟨n5, a5, k5, c5, rfl⟩ := bg_form g5
  replace j0 := oq_keep j0 hb9
  clear hb9 g3 g4
  replace g5 : BG x5 (.agg #[.bool n5, .slice a5 k5 c5]) (qun m 1) := g5
  go_wp2_with fail
  refine (to_ref _ _ _ g5 (QT 1)).mono ?_
  rintro e6 x6 ⟨rfl, hb9⟩
  replace j0 := oq_keep j0 hb9
  clear hb9 g5
  by_cases c1 : FitP (qun m 1)
  rotate_left
  · have hN := nz_no c1
    rw [hN.1, hN.2]
    have eq := Lib.hid (on_far (m := m) (d0 := d0) (d1 := d1) (d2 := d2) AB.out (fun h => c1 (h 1 (by decide))))
    clear c1 hN
    have s0 := j0.o
    clear j0
    have r6 := sc_six s0.r
    have f6 := sf_six s0.rf
    have B9 := s0.b
    clear s0
    go_wp2
    obtain ⟨r0, r1, r2, r3, r4, r5⟩ := r6
    refine bodyPost_ret (v := .tuple #[sv (fun _ => 0), .int .i64 3]) (by simp [results, Tryd.results7, go_sem, r0, r1, r2, r3, r4, r5]) rfl ⟨by rw [eq.out.1, eq.out.2], ?_⟩
    exact bb_set B9 (by omega)
  have hN := nz_of c1
  rw [hN.1, hN.2]
  clear hN
  have C1 := Lib.hid c1
  clear c1
  go_wp2_with fail
  refine (place_ok 0 1 1 (by decide) _).mono ?_
  rintro e7 x7 ⟨rfl, hb9⟩
  replace j0 := oq_keep j0 hb9
  clear hb9
  have y1 := j0.q 1 (by decide)
  have y2 := j0.f 1 (by decide)
  have j2 := Lib.hid (oq_put j0 (show 1 < 6 by decide) z2 q0 qA qB qR)
  clear j0
  go_wp2
  generalize x7.setCell ⟨Q, 1, none⟩ (.int .i64 (qun m 1)) = u1 at *
  have j0 := j2.out
  clear j2 y1 y2
  rw [rounds_succ]
  have l6 := sc_six j0.o.a
  go_wp2_with fail
  refine (raw_ref m 0 2 hm (by decide) (by decide) _).mono ?_
  rintro e3 x3 ⟨v3, rfl, g3, hb9⟩
  obtain ⟨n3, a3, k3, c3, rfl⟩ := bg_form g3
  replace j0 := oq_keep j0 hb9
  clear hb9 l6
  go_wp2_with fail
  refine (power_30 _).mono ?_
  rintro e4 x4 ⟨v4, rfl, g4, hb9⟩
  obtain ⟨n4, a4, k4, c4, rfl⟩ := bg_form g4
  replace g3 := bg_keep g3 hb9
  replace j0 := oq_keep j0 hb9
  clear hb9
  go_wp2_with fail
  refine (even_entry _ _ _ _ g3 g4 (rwn_tiny hm 0 2)).mono ?_
  rintro e5 x5 ⟨v5, rfl, g5, hb9⟩
  obtain ⟨n5, a5, k5, c5, rfl⟩ := bg_form g5
  replace j0 := oq_keep j0 hb9
  clear hb9 g3 g4
  replace g5 : BG x5 (.agg #[.bool n5, .slice a5 k5 c5]) (qun m 2) := g5
  go_wp2_with fail
  refine (to_ref _ _ _ g5 (QT 2)).mono ?_
  rintro e6 x6 ⟨rfl, hb9⟩
  replace j0 := oq_keep j0 hb9
  clear hb9 g5
  by_cases c2 : FitP (qun m 2)
  rotate_left
  · have hN := nz_no c2
    rw [hN.1, hN.2]
    have eq := Lib.hid (on_far (m := m) (d0 := d0) (d1 := d1) (d2 := d2) AB.out (fun h => c2 (h 2 (by decide))))
    clear c2 hN
    have s0 := j0.o
    clear j0
    have r6 := sc_six s0.r
    have f6 := sf_six s0.rf
    have B9 := s0.b
    clear s0
    go_wp2
    obtain ⟨r0, r1, r2, r3, r4, r5⟩ := r6
    refine bodyPost_ret (v := .tuple #[sv (fun _ => 0), .int .i64 3]) (by simp [results, Tryd.results7, go_sem, r0, r1, r2, r3, r4, r5]) rfl ⟨by rw [eq.out.1, eq.out.2], ?_⟩
    exact bb_set B9 (by omega)
  have hN := nz_of c2
  rw [hN.1, hN.2]
  clear hN
  have C2 := Lib.hid c2
  clear c2
  go_wp2_with fail
  refine (place_ok 0 2 2 (by decide) _).mono ?_
  rintro e7 x7 ⟨rfl, hb9⟩
  replace j0 := oq_keep j0 hb9
  clear hb9
  have y1 := j0.q 2 (by decide)
  have y2 := j0.f 2 (by decide)
  have j2 := Lib.hid (oq_put j0 (show 2 < 6 by decide) z2 q0 qA qB qR)
  clear j0
  go_wp2
  generalize x7.setCell ⟨Q, 2, none⟩ (.int .i64 (qun m 2)) = u2 at *
  have j0 := j2.out
  clear j2 y1 y2
  rw [rounds_succ]
  go_wp2
  rw [rounds_succ]
  go_wp2
  refine wp_loop_rounds 4 ?_
  rw [rounds_succ]
  have l6 := sc_six j0.o.a
  go_wp2_with fail
  refine (raw_ref m 1 1 hm (by decide) (by decide) _).mono ?_
  rintro e3 x3 ⟨v3, rfl, g3, hb9⟩
  obtain ⟨n3, a3, k3, c3, rfl⟩ := bg_form g3
  replace j0 := oq_keep j0 hb9
  clear hb9 l6
  go_wp2_with fail
  refine (power_30 _).mono ?_
  rintro e4 x4 ⟨v4, rfl, g4, hb9⟩
  obtain ⟨n4, a4, k4, c4, rfl⟩ := bg_form g4
  replace g3 := bg_keep g3 hb9
  replace j0 := oq_keep j0 hb9
  clear hb9
  go_wp2_with fail
  refine (even_entry _ _ _ _ g3 g4 (rwn_tiny hm 1 1)).mono ?_
  rintro e5 x5 ⟨v5, rfl, g5, hb9⟩
  obtain ⟨n5, a5, k5, c5, rfl⟩ := bg_form g5
  replace j0 := oq_keep j0 hb9
  clear hb9 g3 g4
  replace g5 : BG x5 (.agg #[.bool n5, .slice a5 k5 c5]) (qun m 3) := g5
  go_wp2_with fail
  refine (to_ref _ _ _ g5 (QT 3)).mono ?_
  rintro e6 x6 ⟨rfl, hb9⟩
  replace j0 := oq_keep j0 hb9
  clear hb9 g5
  by_cases c3 : FitP (qun m 3)
  rotate_left
  · have hN := nz_no c3
    rw [hN.1, hN.2]
    have eq := Lib.hid (on_far (m := m) (d0 := d0) (d1 := d1) (d2 := d2) AB.out (fun h => c3 (h 3 (by decide))))
    clear c3 hN
    have s0 := j0.o
    clear j0
    have r6 := sc_six s0.r
    have f6 := sf_six s0.rf
    have B9 := s0.b
    clear s0
    go_wp2
    obtain ⟨r0, r1, r2, r3, r4, r5⟩ := r6
    refine bodyPost_ret (v := .tuple #[sv (fun _ => 0), .int .i64 3]) (by simp [results, Tryd.results7, go_sem, r0, r1, r2, r3, r4, r5]) rfl ⟨by rw [eq.out.1, eq.out.2], ?_⟩
    exact bb_set B9 (by omega)
  have hN := nz_of c3
  rw [hN.1, hN.2]
  clear hN
  have C3 := Lib.hid c3
  clear c3
  go_wp2_with fail
  refine (place_ok 1 1 3 (by decide) _).mono ?_
  rintro e7 x7 ⟨rfl, hb9⟩
  replace j0 := oq_keep j0 hb9
  clear hb9
  have y1 := j0.q 3 (by decide)
  have y2 := j0.f 3 (by decide)
  have j2 := Lib.hid (oq_put j0 (show 3 < 6 by decide) z2 q0 qA qB qR)
  clear j0
  go_wp2
  generalize x7.setCell ⟨Q, 3, none⟩ (.int .i64 (qun m 3)) = u3 at *
  have j0 := j2.out
  clear j2 y1 y2
  rw [rounds_succ]
  have l6 := sc_six j0.o.a
  go_wp2_with fail
  refine (raw_ref m 1 2 hm (by decide) (by decide) _).mono ?_
  rintro e3 x3 ⟨v3, rfl, g3, hb9⟩
  obtain ⟨n3, a3, k3, c3, rfl⟩ := bg_form g3
  replace j0 := oq_keep j0 hb9
  clear hb9 l6
  go_wp2_with fail
  refine (power_30 _).mono ?_
  rintro e4 x4 ⟨v4, rfl, g4, hb9⟩
  obtain ⟨n4, a4, k4, c4, rfl⟩ := bg_form g4
  replace g3 := bg_keep g3 hb9
  replace j0 := oq_keep j0 hb9
  clear hb9
  go_wp2_with fail
  refine (even_entry _ _ _ _ g3 g4 (rwn_tiny hm 1 2)).mono ?_
  rintro e5 x5 ⟨v5, rfl, g5, hb9⟩
  obtain ⟨n5, a5, k5, c5, rfl⟩ := bg_form g5
  replace j0 := oq_keep j0 hb9
  clear hb9 g3 g4
  replace g5 : BG x5 (.agg #[.bool n5, .slice a5 k5 c5]) (qun m 4) := g5
  go_wp2_with fail
  refine (to_ref _ _ _ g5 (QT 4)).mono ?_
  rintro e6 x6 ⟨rfl, hb9⟩
  replace j0 := oq_keep j0 hb9
  clear hb9 g5
  by_cases c4 : FitP (qun m 4)
  rotate_left
  · have hN := nz_no c4
    rw [hN.1, hN.2]
    have eq := Lib.hid (on_far (m := m) (d0 := d0) (d1 := d1) (d2 := d2) AB.out (fun h => c4 (h 4 (by decide))))
    clear c4 hN
    have s0 := j0.o
    clear j0
    have r6 := sc_six s0.r
    have f6 := sf_six s0.rf
    have B9 := s0.b
    clear s0
    go_wp2
    obtain ⟨r0, r1, r2, r3, r4, r5⟩ := r6
    refine bodyPost_ret (v := .tuple #[sv (fun _ => 0), .int .i64 3]) (by simp [results, Tryd.results7, go_sem, r0, r1, r2, r3, r4, r5]) rfl ⟨by rw [eq.out.1, eq.out.2], ?_⟩
    exact bb_set B9 (by omega)
  have hN := nz_of c4
  rw [hN.1, hN.2]
  clear hN
  have C4 := Lib.hid c4
  clear c4
  go_wp2_with fail
  refine (place_ok 1 2 4 (by decide) _).mono ?_
  rintro e7 x7 ⟨rfl, hb9⟩
  replace j0 := oq_keep j0 hb9
  clear hb9
  have y1 := j0.q 4 (by decide)
  have y2 := j0.f 4 (by decide)
  have j2 := Lib.hid (oq_put j0 (show 4 < 6 by decide) z2 q0 qA qB qR)
  clear j0
  go_wp2
  generalize x7.setCell ⟨Q, 4, none⟩ (.int .i64 (qun m 4)) = u4 at *
  have j0 := j2.out
  clear j2 y1 y2
  rw [rounds_succ]
  go_wp2
  rw [rounds_succ]
  go_wp2
  refine wp_loop_rounds 4 ?_
  rw [rounds_succ]
  have l6 := sc_six j0.o.a
  go_wp2_with fail
  refine (raw_ref m 2 2 hm (by decide) (by decide) _).mono ?_
  rintro e3 x3 ⟨v3, rfl, g3, hb9⟩
  obtain ⟨n3, a3, k3, c3, rfl⟩ := bg_form g3
  replace j0 := oq_keep j0 hb9
  clear hb9 l6
  go_wp2_with fail
  refine (power_30 _).mono ?_
  rintro e4 x4 ⟨v4, rfl, g4, hb9⟩
  obtain ⟨n4, a4, k4, c4, rfl⟩ := bg_form g4
  replace g3 := bg_keep g3 hb9
  replace j0 := oq_keep j0 hb9
  clear hb9
  go_wp2_with fail
  refine (even_entry _ _ _ _ g3 g4 (rwn_tiny hm 2 2)).mono ?_
  rintro e5 x5 ⟨v5, rfl, g5, hb9⟩
  obtain ⟨n5, a5, k5, c5, rfl⟩ := bg_form g5
  replace j0 := oq_keep j0 hb9
  clear hb9 g3 g4
  replace g5 : BG x5 (.agg #[.bool n5, .slice a5 k5 c5]) (qun m 5) := g5
  go_wp2_with fail
  refine (to_ref _ _ _ g5 (QT 5)).mono ?_
  rintro e6 x6 ⟨rfl, hb9⟩
  replace j0 := oq_keep j0 hb9
  clear hb9 g5
  by_cases c5 : FitP (qun m 5)
  rotate_left
  · have hN := nz_no c5
    rw [hN.1, hN.2]
    have eq := Lib.hid (on_far (m := m) (d0 := d0) (d1 := d1) (d2 := d2) AB.out (fun h => c5 (h 5 (by decide))))
    clear c5 hN
    have s0 := j0.o
    clear j0
    have r6 := sc_six s0.r
    have f6 := sf_six s0.rf
    have B9 := s0.b
    clear s0
    go_wp2
    obtain ⟨r0, r1, r2, r3, r4, r5⟩ := r6
    refine bodyPost_ret (v := .tuple #[sv (fun _ => 0), .int .i64 3]) (by simp [results, Tryd.results7, go_sem, r0, r1, r2, r3, r4, r5]) rfl ⟨by rw [eq.out.1, eq.out.2], ?_⟩
    exact bb_set B9 (by omega)
  have hN := nz_of c5
  rw [hN.1, hN.2]
  clear hN
  have C5 := Lib.hid c5
  clear c5
  go_wp2_with fail
  refine (place_ok 2 2 5 (by decide) _).mono ?_
  rintro e7 x7 ⟨rfl, hb9⟩
  replace j0 := oq_keep j0 hb9
  clear hb9
  have y1 := j0.q 5 (by decide)
  have y2 := j0.f 5 (by decide)
  have j2 := Lib.hid (oq_put j0 (show 5 < 6 by decide) z2 q0 qA qB qR)
  clear j0
  go_wp2
  generalize x7.setCell ⟨Q, 5, none⟩ (.int .i64 (qun m 5)) = u5 at *
  have j0 := j2.out
  clear j2 y1 y2
  rw [rounds_succ]
  go_wp2
  rw [rounds_succ]
  have FQ : F6 (qun m) := six (P := fun i => FitP (qun m i)) C0.out C1.out C2.out C3.out C4.out C5.out
  have eq := Lib.hid (on_good (m := m) (d0 := d0) (d1 := d1) (d2 := d2) AB.out FQ)
  have iq : I6 (qun m) := fun i hi => by have := FQ i hi; exact ⟨by omega, by omega⟩
  have id : I6 (dgm d0 d1 d2) := dgm_i6 hd0 hd1 hd2
  clear FQ C0 C1 C2 C3 C4 C5
  have kQ : SC6 _ Q (qun m) := sc_six (fun i hi => by have := j0.q i hi; dsimp only at this; rwa [if_pos hi] at this)
  have s0 := j0.o
  have l3 := s0.d
  clear j0
  have cS : ∀ w, Calls Tryd.prog 23 #[sv (qun m), .agg #[.int .i64 d0, .int .i64 0, .int .i64 0, .int .i64 d1, .int .i64 0, .int .i64 d2]] w (RetV (.tuple #[sv (sumz (qun m) (dgm d0 d1 d2)), .int .i64 (sume (qun m) (dgm d0 d1 d2))]) w) := add_sref (qun m) (dgm d0 d1 d2) iq id
  clear iq id hd0 hd1 hd2
  go_wp2_with fail
  refine (cS _).mono ?_
  rintro e8 x8 ⟨rfl, hb9⟩
  replace s0 := on_keep s0 hb9
  clear hb9 kQ l3 cS
  have r6 := sc_six s0.r
  have f6 := sf_six s0.rf
  have B9 := s0.b
  clear s0
  generalize sumz (qun m) (dgm d0 d1 d2) = x at *
  generalize sume (qun m) (dgm d0 d1 d2) = e at *
  go_wp2
  obtain ⟨r0, r1, r2, r3, r4, r5⟩ := r6
  refine bodyPost_ret (v := .tuple #[sv x, .int .i64 e]) (by simp [results, Tryd.results7, go_sem, r0, r1, r2, r3, r4, r5]) rfl ⟨by rw [eq.out.1, eq.out.2], ?_⟩
  exact bb_set B9 (by omega)
theorem on_dref (m : Nat → Int) (d0 d1 d2 : Int) (hm : I6 m) (hd0 : I64 d0) (hd1 : I64 d1) (hd2 : I64 d2) (w : World) (hp : PL w) :
    Calls Tryd.prog 7 #[sv m, tv d0 d1 d2] w (RetV (.tuple #[sv (onz m d0 d1 d2), .int .i64 (one m d0 d1 d2)]) w) := by
  by_cases ca : F6 m
  · by_cases cb : F3 d0 d1 d2
    · exact on_dref_go m d0 d1 d2 hm hd0 hd1 hd2 ca cb w hp
    · exact on_dref_add m d0 d1 d2 hm hd0 hd1 hd2 ca cb w hp
  · exact on_dref_no m d0 d1 d2 hm ca w hp
end Go.Proofs.YtlpmmnfijfljoaaDoor
