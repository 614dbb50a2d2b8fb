/- Rows: the program's and the document's answers side by side; the chapter's examples; what VecSums and VecProducts answer: true, for every argument. -/
import Derived.Test.YtokjljmamiipbaaVecF
import Derived.Test.YtokjljmamiipbaaVecG
import Derived.Test.YtokjljmamiipbaaVecH
import Derived.Test.YtokjljmamiipbaaVecI
namespace Go.Proofs.Ytokjljmamiipbaa
open Go.RowKit Go.Shelf

theorem add3_all (a0 a1 a2 b0 b1 b2 : Int) (ha0 : I64 a0) (ha1 : I64 a1) (ha2 : I64 a2) (hb0 : I64 b0) (hb1 : I64 b1) (hb2 : I64 b2) : ∃ x0 x1 x2 e : Int,
    (∀ w, Calls Try.prog 6 #[tv a0 a1 a2, tv b0 b1 b2] w (RetV (.tuple #[tv x0 x1 x2, .int .i64 e]) w)) ∧
    (∀ w, Calls Try.prog 7 #[tv a0 a1 a2, tv b0 b1 b2] w (RetV (.tuple #[tv x0 x1 x2, .int .i64 e]) w)) ∧
    (∀ w, Calls Try.prog 6 #[tv b0 b1 b2, tv a0 a1 a2] w (RetV (.tuple #[tv x0 x1 x2, .int .i64 e]) w)) := by
  by_cases c : F3 a0 a1 a2 ∧ F3 b0 b1 b2
  · obtain ⟨ca, cb⟩ := c
    have P : ∀ {a b : Int}, I64 a → I64 b → FitP a → FitP b → ∀ w, Calls Try.prog 20 #[.int .i64 a, .int .i64 b] w (RetV (.tuple #[.int .i64 (nz (a + b)), .int .i64 (ne (a + b))]) w) := fun {a b} ha hb fa fb w => by
      have h := add_fix a b ha.1 ha.2 hb.1 hb.2 w
      rwa [(gz_of ⟨fa, fb⟩ _).1, (gz_of ⟨fa, fb⟩ _).2] at h
    have R : ∀ {a b : Int}, I64 a → I64 b → FitP a → FitP b → ∀ w, Calls Try.prog 21 #[.int .i64 a, .int .i64 b] w (RetV (.tuple #[.int .i64 (nz (a + b)), .int .i64 (ne (a + b))]) w) := fun {a b} ha hb fa fb w => by
      have h := add_ref a b ha.1 ha.2 hb.1 hb.2 w
      rwa [(gz_of ⟨fa, fb⟩ _).1, (gz_of ⟨fa, fb⟩ _).2] at h
    have Q0 := P hb0 ha0 cb.1 ca.1
    have Q1 := P hb1 ha1 cb.2.1 ca.2.1
    have Q2 := P hb2 ha2 cb.2.2 ca.2.2
    rw [Int.add_comm b0 a0] at Q0
    rw [Int.add_comm b1 a1] at Q1
    rw [Int.add_comm b2 a2] at Q2
    exact ⟨_, _, _, _, fun w => add3_vec_ok _ _ _ _ _ _ _ _ _ _ _ _ ha0 ha1 ha2 hb0 hb1 hb2 ca cb (P ha0 hb0 ca.1 cb.1) (P ha1 hb1 ca.2.1 cb.2.1) (P ha2 hb2 ca.2.2 cb.2.2) w,
      fun w => add3_ref_ok _ _ _ _ _ _ _ _ _ _ _ _ ha0 ha1 ha2 hb0 hb1 hb2 ca cb (R ha0 hb0 ca.1 cb.1) (R ha1 hb1 ca.2.1 cb.2.1) (R ha2 hb2 ca.2.2 cb.2.2) w,
      fun w => add3_vec_ok _ _ _ _ _ _ _ _ _ _ _ _ hb0 hb1 hb2 ha0 ha1 ha2 cb ca Q0 Q1 Q2 w⟩
  · exact ⟨_, _, _, _, fun w => add3_vec_bad _ _ _ _ _ _ ha0 ha1 ha2 hb0 hb1 hb2 c w, fun w => add3_ref_bad _ _ _ _ _ _ ha0 ha1 ha2 hb0 hb1 hb2 c w, fun w => add3_vec_bad _ _ _ _ _ _ hb0 hb1 hb2 ha0 ha1 ha2 (fun h => c ⟨h.2, h.1⟩) w⟩

theorem scale3_all (a0 a1 a2 k : Int) (ha0 : I64 a0) (ha1 : I64 a1) (ha2 : I64 a2) (hk : I64 k) : ∃ x0 x1 x2 e : Int,
    (∀ w, Calls Try.prog 14 #[tv a0 a1 a2, .int .i64 k] w (RetV (.tuple #[tv x0 x1 x2, .int .i64 e]) w)) ∧
    (∀ w, Calls Try.prog 15 #[tv a0 a1 a2, .int .i64 k] w (RetV (.tuple #[tv x0 x1 x2, .int .i64 e]) w)) := by
  by_cases c : F3 a0 a1 a2 ∧ FitP k
  · obtain ⟨ca, cb⟩ := c
    have P : ∀ {a : Int}, I64 a → FitP a → ∀ w, Calls Try.prog 28 #[.int .i64 a, .int .i64 k] w (RetV (.tuple #[.int .i64 (nz (evn (a * k) 1099511627776)), .int .i64 (ne (evn (a * k) 1099511627776))]) w) := fun {a} ha fa w => by
      have h := mul_fix a k ha.1 ha.2 hk.1 hk.2 w
      rwa [(gz_of ⟨fa, cb⟩ _).1, (gz_of ⟨fa, cb⟩ _).2] at h
    have R : ∀ {a : Int}, I64 a → FitP a → ∀ w, Calls Try.prog 29 #[.int .i64 a, .int .i64 k] w (RetV (.tuple #[.int .i64 (nz (evn (a * k) 1099511627776)), .int .i64 (ne (evn (a * k) 1099511627776))]) w) := fun {a} ha fa w => by
      have h := mul_ref a k ha.1 ha.2 hk.1 hk.2 w
      rwa [(gz_of ⟨fa, cb⟩ _).1, (gz_of ⟨fa, cb⟩ _).2] at h
    exact ⟨_, _, _, _, fun w => scale3_vec_ok _ _ _ _ _ _ _ _ _ _ ha0 ha1 ha2 hk ca cb (P ha0 ca.1) (P ha1 ca.2.1) (P ha2 ca.2.2) w,
      fun w => scale3_ref_ok _ _ _ _ _ _ _ _ _ _ ha0 ha1 ha2 hk ca cb (R ha0 ca.1) (R ha1 ca.2.1) (R ha2 ca.2.2) w⟩
  · exact ⟨_, _, _, _, fun w => scale3_vec_bad _ _ _ _ ha0 ha1 ha2 hk c w, fun w => scale3_ref_bad _ _ _ _ ha0 ha1 ha2 hk c w⟩

theorem dot_all (a0 a1 a2 b0 b1 b2 : Int) (ha0 : I64 a0) (ha1 : I64 a1) (ha2 : I64 a2) (hb0 : I64 b0) (hb1 : I64 b1) (hb2 : I64 b2) : ∃ x e : Int,
    (∀ w, Calls Try.prog 16 #[tv a0 a1 a2, tv b0 b1 b2] w (RetV (.tuple #[.int .i64 x, .int .i64 e]) w)) ∧
    (∀ w, Calls Try.prog 17 #[tv a0 a1 a2, tv b0 b1 b2] w (RetV (.tuple #[.int .i64 x, .int .i64 e]) w)) ∧
    (∀ w, Calls Try.prog 16 #[tv b0 b1 b2, tv a0 a1 a2] w (RetV (.tuple #[.int .i64 x, .int .i64 e]) w)) := by
  by_cases c : F3 a0 a1 a2 ∧ F3 b0 b1 b2
  · obtain ⟨ca, cb⟩ := c
    have Q := dot_vec_ok b0 b1 b2 a0 a1 a2 hb0 hb1 hb2 ha0 ha1 ha2 cb ca
    rw [Int.mul_comm b0 a0, Int.mul_comm b1 a1, Int.mul_comm b2 a2] at Q
    exact ⟨_, _, dot_vec_ok a0 a1 a2 b0 b1 b2 ha0 ha1 ha2 hb0 hb1 hb2 ca cb, dot_ref_ok a0 a1 a2 b0 b1 b2 ha0 ha1 ha2 hb0 hb1 hb2 ca cb, Q⟩
  · exact ⟨_, _, dot_vec_bad a0 a1 a2 b0 b1 b2 ha0 ha1 ha2 hb0 hb1 hb2 c, dot_ref_bad a0 a1 a2 b0 b1 b2 ha0 ha1 ha2 hb0 hb1 hb2 c, dot_vec_bad b0 b1 b2 a0 a1 a2 hb0 hb1 hb2 ha0 ha1 ha2 (fun h => c ⟨h.2, h.1⟩)⟩

/-- A row's dot with a row of one 1. -/
theorem dot_one (a0 a1 a2 : Int) (ha0 : I64 a0) (ha1 : I64 a1) (ha2 : I64 a2) (ca : F3 a0 a1 a2) :
    (∀ w, Calls Try.prog 16 #[tv a0 a1 a2, tv 1099511627776 0 0] w (RetV (.tuple #[.int .i64 a0, .int .i64 0]) w)) ∧
    (∀ w, Calls Try.prog 16 #[tv a0 a1 a2, tv 0 1099511627776 0] w (RetV (.tuple #[.int .i64 a1, .int .i64 0]) w)) ∧
    (∀ w, Calls Try.prog 16 #[tv a0 a1 a2, tv 0 0 1099511627776] w (RetV (.tuple #[.int .i64 a2, .int .i64 0]) w)) := by
  refine ⟨fun w => ?_, fun w => ?_, fun w => ?_⟩
  · have h := dot_vec_ok a0 a1 a2 1099511627776 0 0 ha0 ha1 ha2 (by decide) (by decide) (by decide) ca (by decide) w
    rwa [show 0 + a0 * 1099511627776 + a1 * 0 + a2 * 0 = a0 * 1099511627776 by omega, evn_mul a0 (by decide), (nz_of ca.1).1, (nz_of ca.1).2] at h
  · have h := dot_vec_ok a0 a1 a2 0 1099511627776 0 ha0 ha1 ha2 (by decide) (by decide) (by decide) ca (by decide) w
    rwa [show 0 + a0 * 0 + a1 * 1099511627776 + a2 * 0 = a1 * 1099511627776 by omega, evn_mul a1 (by decide), (nz_of ca.2.1).1, (nz_of ca.2.1).2] at h
  · have h := dot_vec_ok a0 a1 a2 0 0 1099511627776 ha0 ha1 ha2 (by decide) (by decide) (by decide) ca (by decide) w
    rwa [show 0 + a0 * 0 + a1 * 0 + a2 * 1099511627776 = a2 * 1099511627776 by omega, evn_mul a2 (by decide), (nz_of ca.2.2).1, (nz_of ca.2.2).2] at h

set_option maxHeartbeats 1000000 in
theorem fixed_vec (w : World) : Calls Try.prog 8 #[] w (RetV (.bool true) w) := by
  have cM : ∀ (a r : Int), I64 a → FitP a → nz (evn (a * 2199023255552) 1099511627776) = r → ne (evn (a * 2199023255552) 1099511627776) = 0 → ∀ w, Calls Try.prog 28 #[.int .i64 a, .int .i64 2199023255552] w (RetV (.tuple #[.int .i64 r, .int .i64 0]) w) := fun a r ha fa e1 e2 w => by
    have h := mul_fix a 2199023255552 ha.1 ha.2 (by decide) (by decide) w
    rwa [(gz_of ⟨fa, by decide⟩ _).1, (gz_of ⟨fa, by decide⟩ _).2, e1, e2] at h
  have cS := fun w => scale3_vec_ok 1099511627776 2199023255552 3298534883328 2199023255552 2199023255552 4398046511104 6597069766656 0 0 0 (by decide) (by decide) (by decide) (by decide) (by decide) (by decide)
    (cM _ _ (by decide) (by decide) (by decide) (by decide)) (cM _ _ (by decide) (by decide) (by decide) (by decide)) (cM _ _ (by decide) (by decide) (by decide) (by decide)) w
  rw [(tz_3 _).1, (tz_3 _).1, (tz_3 _).1, (tz_3 0).2] at cS
  have cD := (dot_one 2199023255552 4398046511104 6597069766656 (by decide) (by decide) (by decide) (by decide)).1
  clear cM
  have hve := vec_eq_self
  go_enter Try.func8, Try.ntmps8
  go_wp2_with fail
  refine (cS _).mono ?_
  rintro e w1 ⟨rfl, hb1⟩
  have k1 : TC (w1.alloc (Obj.cells #[.int .i64 2199023255552, .int .i64 4398046511104, .int .i64 6597069766656] 23)) w1.heap.size 2199023255552 4398046511104 6597069766656 := tc_new rfl
  have B := b_alloc (o := (Obj.cells #[.int .i64 2199023255552, .int .i64 4398046511104, .int .i64 6597069766656] 23)) hb1
  clear hb1 cS
  go_wp2_with fail
  refine (cD _).mono ?_
  rintro e w2 ⟨rfl, hb2⟩
  replace k1 := tc_keep hb2 k1
  replace B := b_trans B hb2
  clear hb2 cD
  go_wp2
  go_ret
  exact ⟨rfl, B⟩

set_option maxHeartbeats 4000000 in
set_option maxRecDepth 10000 in
theorem vecProducts_any (a0 a1 a2 b0 b1 b2 k : Int) (ha0 : I64 a0) (ha1 : I64 a1) (ha2 : I64 a2) (hb0 : I64 b0) (hb1 : I64 b1) (hb2 : I64 b2) (hk : I64 k) (w : World) :
    Calls Try.prog 4 #[tv a0 a1 a2, tv b0 b1 b2, .int .i64 k] w (RetV (.bool true) w) := by
  obtain ⟨x0, x1, x2, xe, c1, c2⟩ := scale3_all a0 a1 a2 k ha0 ha1 ha2 hk
  obtain ⟨d, de, c3, c4, _⟩ := dot_all a0 a1 a2 b0 b1 b2 ha0 ha1 ha2 hb0 hb1 hb2
  clear ha0 ha1 ha2 hb0 hb1 hb2 hk
  have hve := vec_eq_self
  have kA : TC ((w.alloc (Obj.cells #[.int .i64 a0, .int .i64 a1, .int .i64 a2] 23)).alloc (Obj.cells #[.int .i64 b0, .int .i64 b1, .int .i64 b2] 23)) (w.heap.size) a0 a1 a2 := tc_alloc (tc_new rfl)
  have kB : TC ((w.alloc (Obj.cells #[.int .i64 a0, .int .i64 a1, .int .i64 a2] 23)).alloc (Obj.cells #[.int .i64 b0, .int .i64 b1, .int .i64 b2] 23)) (w.heap.size + 1) b0 b1 b2 := tc_new (by simp)
  have B0 : Below w.heap.size w ((w.alloc (Obj.cells #[.int .i64 a0, .int .i64 a1, .int .i64 a2] 23)).alloc (Obj.cells #[.int .i64 b0, .int .i64 b1, .int .i64 b2] 23)) := b_alloc (b_alloc (Below.refl _ _))
  go_enter Try.func4, Try.ntmps4
  go_wp2_with fail
  refine (c1 _).mono ?_
  rintro ew1 w1 ⟨rfl, hb9⟩
  replace kA := tc_keep hb9 kA
  replace kB := tc_keep hb9 kB
  replace B0 := b_trans B0 hb9
  clear hb9
  have kx : TC (w1.alloc (Obj.cells #[.int .i64 x0, .int .i64 x1, .int .i64 x2] 23)) w1.heap.size x0 x1 x2 := tc_new rfl
  replace kA := tc_alloc (o := (Obj.cells #[.int .i64 x0, .int .i64 x1, .int .i64 x2] 23)) kA
  replace kB := tc_alloc (o := (Obj.cells #[.int .i64 x0, .int .i64 x1, .int .i64 x2] 23)) kB
  replace B0 := b_alloc (o := (Obj.cells #[.int .i64 x0, .int .i64 x1, .int .i64 x2] 23)) B0
  go_wp2_with fail
  refine (c2 _).mono ?_
  rintro ew2 w2 ⟨rfl, hb9⟩
  replace kA := tc_keep hb9 kA
  replace kB := tc_keep hb9 kB
  replace kx := tc_keep hb9 kx
  replace B0 := b_trans B0 hb9
  clear hb9
  have ky : TC (w2.alloc (Obj.cells #[.int .i64 x0, .int .i64 x1, .int .i64 x2] 23)) w2.heap.size x0 x1 x2 := tc_new rfl
  replace kA := tc_alloc (o := (Obj.cells #[.int .i64 x0, .int .i64 x1, .int .i64 x2] 23)) kA
  replace kB := tc_alloc (o := (Obj.cells #[.int .i64 x0, .int .i64 x1, .int .i64 x2] 23)) kB
  replace kx := tc_alloc (o := (Obj.cells #[.int .i64 x0, .int .i64 x1, .int .i64 x2] 23)) kx
  replace B0 := b_alloc (o := (Obj.cells #[.int .i64 x0, .int .i64 x1, .int .i64 x2] 23)) B0
  go_wp2_with fail
  refine (c3 _).mono ?_
  rintro ew3 w3 ⟨rfl, hb9⟩
  replace kA := tc_keep hb9 kA
  replace kB := tc_keep hb9 kB
  replace kx := tc_keep hb9 kx
  replace ky := tc_keep hb9 ky
  replace B0 := b_trans B0 hb9
  clear hb9
  go_wp2_with fail
  refine (c4 _).mono ?_
  rintro ew4 w4 ⟨rfl, hb9⟩
  replace kx := tc_keep hb9 kx
  replace ky := tc_keep hb9 ky
  replace B0 := b_trans B0 hb9
  clear hb9
  clear kA kB c1 c2 c3 c4
  go_wp2_with fail
  refine (fixed_vec _).mono ?_
  rintro ew5 w5 ⟨rfl, hb9⟩
  replace kx := tc_keep hb9 kx
  replace ky := tc_keep hb9 ky
  replace B0 := b_trans B0 hb9
  clear hb9
  go_wp2
  go_ret
  exact ⟨by simp, B0⟩

end Go.Proofs.Ytokjljmamiipbaa
