/- The document's Tame, by the three roots; a floor and a ceiling made of any two rows; the chapter's example. -/
import Derived.Test.YtjafcnbghbfehaaDoorTamF
import Derived.BigRegion
namespace Go.Proofs.YtjafcnbghbfehaaDoor
open Go.RowKit Go.Shelf

theorem rtmz_sv (m : Nat → Int) (f0 f1 f2 c0 c1 c2 a b c : Int) : sv (umk (umk (umk (umk (umk (umk m 0 (tdg (m 0) f0 c0)) 3 (tdg (m 3) f1 c1)) 5 (tdg (m 5) f2 c2)) 1 (clz (m 1) a)) 2 (clz (m 2) b)) 4 (clz (m 4) c)) = sv (tmz m f0 f1 f2 c0 c1 c2 a b c) := by
  simp [sv, umk, tmz]
theorem rtame_ok (m : Nat → Int) (f0 f1 f2 c0 c1 c2 a b c : Int) (hm : I6 m) (h0 : FB f0 c0) (h1 : FB f1 c1) (h2 : FB f2 c2) (R : TR m f0 f1 f2 c0 c1 c2 a b c) (w : World) :
    Calls Tryd.prog 7 #[sv m, tv f0 f1 f2, tv c0 c1 c2] w (RetV (.tuple #[sv (tmz m f0 f1 f2 c0 c1 c2 a b c), .int .i64 0]) w) := by
  have d0 := tdg_in (x := m 0) h0.2.1
  have d1 := tdg_in (x := m 3) h1.2.1
  have d2 := tdg_in (x := m 5) h2.2.1
  obtain ⟨ha, hb, hc⟩ := tr_fits h0 h1 h2 R
  have k1 := hm 1 (by decide)
  have k2 := hm 2 (by decide)
  have k4 := hm 4 (by decide)
  obtain ⟨h00, h01, h02⟩ := h0
  obtain ⟨h10, h11, h12⟩ := h1
  obtain ⟨h20, h21, h22⟩ := h2
  have w0 := sub_i64 (x := tdg (m 0) f0 c0) (f := f0) (by omega) (by omega)
  have w1 := sub_i64 (x := tdg (m 3) f1 c1) (f := f1) (by omega) (by omega)
  have w2 := sub_i64 (x := tdg (m 5) f2 c2) (f := f2) (by omega) (by omega)
  rw [← rtmz_sv]
  refine rtame_go m (umk m 0 (tdg (m 0) f0 c0)) (umk (umk m 0 (tdg (m 0) f0 c0)) 3 (tdg (m 3) f1 c1)) (umk (umk (umk m 0 (tdg (m 0) f0 c0)) 3 (tdg (m 3) f1 c1)) 5 (tdg (m 5) f2 c2)) _ _ _ f0 f1 f2 c0 c1 c2 (tdg (m 0) f0 c0 - f0) (tdg (m 3) f1 c1 - f1) (tdg (m 5) f2 c2 - f2) a b c (clz (m 1) a) (clz (m 2) b) (clz (m 4) c) ?_ h01 (Lib.hid rfl) h11 (Lib.hid rfl) h21 (Lib.hid rfl)
    (Lib.hid w0) (Lib.hid w1) (Lib.hid w0) (Lib.hid w2) (Lib.hid w1) (Lib.hid w2)
    (fun w => refmean_of _ _ a (by omega) (by omega) (by omega) (by omega) R.a w) (fun w => refmean_of _ _ b (by omega) (by omega) (by omega) (by omega) R.b w) (fun w => refmean_of _ _ c (by omega) (by omega) (by omega) (by omega) R.c w)
    (fun w => retV_same (clamp_ref (m 1) a k1.1 k1.2 (by omega) (by omega) w)) (Lib.hid rfl) (fun w => retV_same (clamp_ref (m 2) b k2.1 k2.2 (by omega) (by omega) w)) (Lib.hid rfl) (fun w => retV_same (clamp_ref (m 4) c k4.1 k4.2 (by omega) (by omega) w)) (Lib.hid rfl) w
  intro w
  have q := rmay_any f0 f1 f2 c0 c1 c2 ⟨by omega, by omega⟩ ⟨by omega, by omega⟩ ⟨by omega, by omega⟩ w
  rwa [mayb_yes ⟨⟨h00, h01, h02⟩, ⟨h10, h11, h12⟩, ⟨h20, h21, h22⟩⟩] at q
theorem rtame_no (m : Nat → Int) (f0 f1 f2 c0 c1 c2 : Int) (k0 : I64 c0) (k1 : I64 c1) (k2 : I64 c2) (h : ¬ FB3 f0 f1 f2 c0 c1 c2) (w : World) :
    Calls Tryd.prog 7 #[sv m, tv f0 f1 f2, tv c0 c1 c2] w (RetV (.tuple #[sv (fun _ => 0), .int .i64 1]) w) := by
  refine rtame_bad m f0 f1 f2 c0 c1 c2 ?_ w
  intro w
  have q := rmay_any f0 f1 f2 c0 c1 c2 k0 k1 k2 w
  rwa [mayb_no h] at q

/-- The example's matrix. -/
def fxm : Nat → Int := fun i => if i = 0 then 20 else if i = 1 then 50 else if i = 2 then 0 else if i = 3 then 5 else if i = 4 then 0 else 5
theorem fxm_tr : TR fxm 1 1 1 9 9 9 5 5 4 := by
  have e0 : (tdg (fxm 0) 1 9 - 1) * (tdg (fxm 3) 1 9 - 1) = 32 := by decide +kernel
  have e1 : (tdg (fxm 0) 1 9 - 1) * (tdg (fxm 5) 1 9 - 1) = 32 := by decide +kernel
  have e2 : (tdg (fxm 3) 1 9 - 1) * (tdg (fxm 5) 1 9 - 1) = 16 := by decide +kernel
  exact ⟨e0 ▸ ⟨by decide, by decide, by decide⟩, e1 ▸ ⟨by decide, by decide, by decide⟩, e2 ▸ ⟨by decide, by decide, by decide⟩⟩
theorem fxm_nums : tmz fxm 1 1 1 9 9 9 5 5 4 0 = 9 ∧ tmz fxm 1 1 1 9 9 9 5 5 4 1 = 5 ∧ tmz fxm 1 1 1 9 9 9 5 5 4 2 = 0 ∧ tmz fxm 1 1 1 9 9 9 5 5 4 3 = 5 ∧ tmz fxm 1 1 1 9 9 9 5 5 4 4 = 0 ∧ tmz fxm 1 1 1 9 9 9 5 5 4 5 = 5 := by
  decide +kernel
theorem fxm_i6 : I6 fxm := six (P := fun i => I64 (fxm i)) (by decide) (by decide) (by decide) (by decide) (by decide) (by decide)
set_option maxHeartbeats 2000000 in
set_option maxRecDepth 10000 in
theorem fixed_tam (w : World) (hp : PL w) : Calls Tryd.prog 8 #[] w (RetV (.bool true) w) := by
  obtain ⟨n0, n1, n2, n3, n4, n5⟩ := fxm_nums
  have cT : ∀ w, PL w → Calls Tryd.prog 6 #[.agg #[.int .i64 20, .int .i64 50, .int .i64 0, .int .i64 5, .int .i64 0, .int .i64 5], .agg #[.int .i64 1, .int .i64 1, .int .i64 1], .agg #[.int .i64 9, .int .i64 9, .int .i64 9]] w (RetV (.tuple #[.agg #[.int .i64 9, .int .i64 5, .int .i64 0, .int .i64 5, .int .i64 0, .int .i64 5], .int .i64 0]) w) := fun w k => by
    have c := tame_ok fxm 1 1 1 9 9 9 5 5 4 fxm_i6 ⟨by decide, by decide, by decide⟩ ⟨by decide, by decide, by decide⟩ ⟨by decide, by decide, by decide⟩ fxm_tr w k
    simp only [sv, n0, n1, n2, n3, n4, n5] at c
    exact c
  have hse : ∀ w, (Op.equalIn 10000 23 (.agg #[.int .i64 9, .int .i64 5, .int .i64 0, .int .i64 5, .int .i64 0, .int .i64 5]) (.agg #[.int .i64 9, .int .i64 5, .int .i64 0, .int .i64 5, .int .i64 0, .int .i64 5])).run Tryd.prog w = .ok true w := fun w => by rw [sym_eq6]; rfl
  clear n0 n1 n2 n3 n4 n5
  go_enter Tryd.func8, Tryd.ntmps8
  go_wp2_with fail
  refine (cT _ hp).mono ?_
  rintro e1 w1 ⟨rfl, hb1⟩
  clear hp cT
  go_wp2
  go_ret
  exact ⟨rfl, b_alloc hb1⟩

/-- What the laws' between keeps. -/
structure LM (W : World) (a0 a1 a2 b0 b1 b2 : Int) (U : World) : Prop where
  b : Below W.heap.size W U
  ka : TC U W.heap.size a0 a1 a2
  fa : TF U W.heap.size
  kb : TC U (W.heap.size + 1) b0 b1 b2
  fb : TF U (W.heap.size + 1)
  kc : TC U (W.heap.size + 1 + 1) 0 0 0
  fc : TF U (W.heap.size + 1 + 1)
  kd : TC U (W.heap.size + 1 + 1 + 1) 0 0 0
  fd : TF U (W.heap.size + 1 + 1 + 1)
theorem lm_keep {W U U' : World} {a0 a1 a2 b0 b1 b2 : Int} (h : LM W a0 a1 a2 b0 b1 b2 U) (hb : Below U.heap.size U U') : LM W a0 a1 a2 b0 b1 b2 U' :=
  ⟨b_trans h.b hb, tc_keep hb h.ka, tf_keep hb h.ka h.fa, tc_keep hb h.kb, tf_keep hb h.kb h.fb, tc_keep hb h.kc, tf_keep hb h.kc h.fc, tc_keep hb h.kd, tf_keep hb h.kd h.fd⟩
theorem lm_drew {W U : World} {a0 a1 a2 b0 b1 b2 : Int} (h : LM W a0 a1 a2 b0 b1 b2 U) : LM W a0 a1 a2 b0 b1 b2 U.drew := lm_keep h (b_drew (Below.refl _ _))
theorem lm_put0 {W U : World} {a0 a1 a2 b0 b1 b2 u v : Int} (h : LM W a0 a1 a2 b0 b1 b2 U) : LM W u a1 a2 v b1 b2 ((U.setCell ⟨W.heap.size, 0, none⟩ (.int .i64 u)).setCell ⟨W.heap.size + 1, 0, none⟩ (.int .i64 v)) := by
  have q1 : W.heap.size ≠ W.heap.size + 1 := by omega
  have q2 : W.heap.size ≠ W.heap.size + 1 + 1 := by omega
  have q3 : W.heap.size ≠ W.heap.size + 1 + 1 + 1 := by omega
  have q4 : W.heap.size + 1 ≠ W.heap.size + 1 + 1 := by omega
  have q5 : W.heap.size + 1 ≠ W.heap.size + 1 + 1 + 1 := by omega
  exact ⟨b_set (b_set h.b (Nat.le_refl _)) (Nat.le_succ _), tc_set (tc_at0 h.ka) q1.symm, tf_set (tf_set h.fa), tc_at0 (tc_set h.kb q1), tf_set (tf_set h.fb), tc_set (tc_set h.kc q2) q4, tf_set (tf_set h.fc), tc_set (tc_set h.kd q3) q5, tf_set (tf_set h.fd)⟩
theorem lm_put1 {W U : World} {a0 a1 a2 b0 b1 b2 u v : Int} (h : LM W a0 a1 a2 b0 b1 b2 U) : LM W a0 u a2 b0 v b2 ((U.setCell ⟨W.heap.size, 1, none⟩ (.int .i64 u)).setCell ⟨W.heap.size + 1, 1, none⟩ (.int .i64 v)) := by
  have q1 : W.heap.size ≠ W.heap.size + 1 := by omega
  have q2 : W.heap.size ≠ W.heap.size + 1 + 1 := by omega
  have q3 : W.heap.size ≠ W.heap.size + 1 + 1 + 1 := by omega
  have q4 : W.heap.size + 1 ≠ W.heap.size + 1 + 1 := by omega
  have q5 : W.heap.size + 1 ≠ W.heap.size + 1 + 1 + 1 := by omega
  exact ⟨b_set (b_set h.b (Nat.le_refl _)) (Nat.le_succ _), tc_set (tc_at1 h.ka) q1.symm, tf_set (tf_set h.fa), tc_at1 (tc_set h.kb q1), tf_set (tf_set h.fb), tc_set (tc_set h.kc q2) q4, tf_set (tf_set h.fc), tc_set (tc_set h.kd q3) q5, tf_set (tf_set h.fd)⟩
theorem lm_put2 {W U : World} {a0 a1 a2 b0 b1 b2 u v : Int} (h : LM W a0 a1 a2 b0 b1 b2 U) : LM W a0 a1 u b0 b1 v ((U.setCell ⟨W.heap.size, 2, none⟩ (.int .i64 u)).setCell ⟨W.heap.size + 1, 2, none⟩ (.int .i64 v)) := by
  have q1 : W.heap.size ≠ W.heap.size + 1 := by omega
  have q2 : W.heap.size ≠ W.heap.size + 1 + 1 := by omega
  have q3 : W.heap.size ≠ W.heap.size + 1 + 1 + 1 := by omega
  have q4 : W.heap.size + 1 ≠ W.heap.size + 1 + 1 := by omega
  have q5 : W.heap.size + 1 ≠ W.heap.size + 1 + 1 + 1 := by omega
  exact ⟨b_set (b_set h.b (Nat.le_refl _)) (Nat.le_succ _), tc_set (tc_at2 h.ka) q1.symm, tf_set (tf_set h.fa), tc_at2 (tc_set h.kb q1), tf_set (tf_set h.fb), tc_set (tc_set h.kc q2) q4, tf_set (tf_set h.fc), tc_set (tc_set h.kd q3) q5, tf_set (tf_set h.fd)⟩

set_option maxHeartbeats 8000000 in
set_option maxRecDepth 10000 in
theorem lbetween_go (a0 a1 a2 b0 b1 b2 p0 p1 p2 x0 x1 x2 q0 q1 q2 y0 y1 y2 u0 u1 u2 v0 v1 v2 : Int)
    (nn0 : (if 288230376151711744 < a0 then 288230376151711744 else a0) = p0) (nx0 : (if p0 < 0 then 0 else p0) = x0) (mm0 : (if 288230376151711744 < b0 then 288230376151711744 else b0) = q0) (mx0 : (if q0 < 0 then 0 else q0) = y0) (lo0 : (if y0 < x0 then y0 else x0) = u0) (hi0 : (if x0 < y0 then y0 else x0) = v0)
    (nn1 : (if 288230376151711744 < a1 then 288230376151711744 else a1) = p1) (nx1 : (if p1 < 0 then 0 else p1) = x1) (mm1 : (if 288230376151711744 < b1 then 288230376151711744 else b1) = q1) (mx1 : (if q1 < 0 then 0 else q1) = y1) (lo1 : (if y1 < x1 then y1 else x1) = u1) (hi1 : (if x1 < y1 then y1 else x1) = v1)
    (nn2 : (if 288230376151711744 < a2 then 288230376151711744 else a2) = p2) (nx2 : (if p2 < 0 then 0 else p2) = x2) (mm2 : (if 288230376151711744 < b2 then 288230376151711744 else b2) = q2) (mx2 : (if q2 < 0 then 0 else q2) = y2) (lo2 : (if y2 < x2 then y2 else x2) = u2) (hi2 : (if x2 < y2 then y2 else x2) = v2) (w : World) :
    Calls Tryd.prog 12 #[tv a0 a1 a2, tv b0 b1 b2] w (RetV (.tuple #[tv u0 u1 u2, tv v0 v1 v2]) w) := by
  have H0 := Lib.hid (And.intro nn0 (And.intro nx0 (And.intro mm0 mx0)))
  have H1 := Lib.hid (And.intro nn1 (And.intro nx1 (And.intro mm1 mx1)))
  have H2 := Lib.hid (And.intro nn2 (And.intro nx2 (And.intro mm2 mx2)))
  have G0 := Lib.hid (And.intro lo0 hi0)
  have G1 := Lib.hid (And.intro lo1 hi1)
  have G2 := Lib.hid (And.intro lo2 hi2)
  clear nn0 nx0 mm0 mx0 lo0 hi0 nn1 nx1 mm1 mx1 lo1 hi1 nn2 nx2 mm2 mx2 lo2 hi2
  have s : LM w a0 a1 a2 b0 b1 b2 ((((w.alloc (Obj.cells #[.int .i64 a0, .int .i64 a1, .int .i64 a2] 25)).alloc (Obj.cells #[.int .i64 b0, .int .i64 b1, .int .i64 b2] 25)).alloc (Obj.cells #[.int .i64 0, .int .i64 0, .int .i64 0] 25)).alloc (Obj.cells #[.int .i64 0, .int .i64 0, .int .i64 0] 25)) := ⟨b_alloc (b_alloc (b_alloc (b_alloc (Below.refl _ _)))), tc_alloc (tc_alloc (tc_alloc (tc_new rfl))), tf_keep (b_alloc (b_alloc (b_alloc (Below.refl _ _)))) (tc_new (w := w) (t := 25) (x := a0) (y := a1) (z := a2) rfl) (tf_new rfl), tc_alloc (tc_alloc (tc_new (by simp))), tf_keep (b_alloc (b_alloc (Below.refl _ _))) (tc_new (w := (w.alloc (Obj.cells #[.int .i64 a0, .int .i64 a1, .int .i64 a2] 25))) (t := 25) (x := b0) (y := b1) (z := b2) (by simp)) (tf_new (by simp)), tc_alloc (tc_new (by simp)), tf_keep (b_alloc (Below.refl _ _)) (tc_new (w := ((w.alloc (Obj.cells #[.int .i64 a0, .int .i64 a1, .int .i64 a2] 25)).alloc (Obj.cells #[.int .i64 b0, .int .i64 b1, .int .i64 b2] 25))) (t := 25) (x := 0) (y := 0) (z := 0) (by simp)) (tf_new (by simp)), tc_new (by simp), tf_new (by simp)⟩
  replace s := Lib.hid s
  go_enter Tryd.func12, Tryd.ntmps12
  go_wp2
  generalize ((((w.alloc (Obj.cells #[.int .i64 a0, .int .i64 a1, .int .i64 a2] 25)).alloc (Obj.cells #[.int .i64 b0, .int .i64 b1, .int .i64 b2] 25)).alloc (Obj.cells #[.int .i64 0, .int .i64 0, .int .i64 0] 25)).alloc (Obj.cells #[.int .i64 0, .int .i64 0, .int .i64 0] 25)) = y_ at *
  replace s := s.out
  refine wp_loop_rounds 4 ?_
  rw [rounds_succ]
  obtain ⟨nn0, nx0, mm0, mx0⟩ := H0.out
  clear H0
  go_wp2
  refine wp_part (fun a_ w_ => a_ = ⟨#[tv a0 a1 a2, tv b0 b1 b2, .pointer (some ⟨w.heap.size, 0, none⟩), .pointer (some ⟨w.heap.size + 1, 0, none⟩), .pointer (some ⟨w.heap.size + 1 + 1, 0, none⟩), .pointer (some ⟨w.heap.size + 1 + 1 + 1, 0, none⟩), .int .i64 0, .int .i64 x0, .int .i64 y0, .int .i64 0, .bool true, .int .i64 0, .int .i64 0, .pointer (some ⟨w.heap.size, 0, none⟩), .int .i64 a0, .int .i64 p0, .int .i64 x0, .int .i64 0, .pointer (some ⟨w.heap.size + 1, 0, none⟩), .int .i64 b0, .int .i64 q0, .int .i64 y0, undef, undef, undef, undef, undef, undef, undef, undef, undef, undef, undef, undef, undef], []⟩ ∧ LM w a0 a1 a2 b0 b1 b2 w_) ?rest0 ?first0
  case first0 =>
    intro Q hQ
    have ka := s.ka
    have kb := s.kb
    have K := Lib.hid (lm_drew s)
    go_region
    exact hQ _ _ ⟨rfl, K.out⟩
  clear nn0 nx0 mm0 mx0 s
  rintro _ y0_ ⟨rfl, s⟩
  obtain ⟨lo0, hi0⟩ := G0.out
  clear G0
  have fa := s.fa
  have fb := s.fb
  have ka := s.ka
  have kb := s.kb
  have K := Lib.hid (lm_put0 (u := u0) (v := v0) s)
  clear s
  go_wp2
  generalize (y0_.setCell ⟨w.heap.size, 0, none⟩ (.int .i64 u0)).setCell ⟨w.heap.size + 1, 0, none⟩ (.int .i64 v0) = z0_ at *
  have s := K.out
  clear K fa fb ka kb lo0 hi0
  rw [rounds_succ]
  obtain ⟨nn1, nx1, mm1, mx1⟩ := H1.out
  clear H1
  go_wp2
  refine wp_part (fun a_ w_ => a_ = ⟨#[tv a0 a1 a2, tv b0 b1 b2, .pointer (some ⟨w.heap.size, 0, none⟩), .pointer (some ⟨w.heap.size + 1, 0, none⟩), .pointer (some ⟨w.heap.size + 1 + 1, 0, none⟩), .pointer (some ⟨w.heap.size + 1 + 1 + 1, 0, none⟩), .int .i64 1, .int .i64 x1, .int .i64 y1, .int .i64 1, .bool true, .int .i64 1, .int .i64 1, .pointer (some ⟨w.heap.size, 1, none⟩), .int .i64 a1, .int .i64 p1, .int .i64 x1, .int .i64 1, .pointer (some ⟨w.heap.size + 1, 1, none⟩), .int .i64 b1, .int .i64 q1, .int .i64 y1, .int .i64 0, .int .i64 0, .int .i64 x0, .int .i64 y0, .int .i64 u0, .int .i64 x0, .int .i64 y0, .int .i64 v0, .pointer (some ⟨w.heap.size, 0, none⟩), .pointer (some ⟨w.heap.size + 1, 0, none⟩), .int .i64 1, undef, undef], []⟩ ∧ LM w u0 a1 a2 v0 b1 b2 w_) ?rest1 ?first1
  case first1 =>
    intro Q hQ
    have ka := s.ka
    have kb := s.kb
    have K := Lib.hid (lm_drew s)
    go_region
    exact hQ _ _ ⟨rfl, K.out⟩
  clear nn1 nx1 mm1 mx1 s
  rintro _ y1_ ⟨rfl, s⟩
  obtain ⟨lo1, hi1⟩ := G1.out
  clear G1
  have fa := s.fa
  have fb := s.fb
  have ka := s.ka
  have kb := s.kb
  have K := Lib.hid (lm_put1 (u := u1) (v := v1) s)
  clear s
  go_wp2
  generalize (y1_.setCell ⟨w.heap.size, 1, none⟩ (.int .i64 u1)).setCell ⟨w.heap.size + 1, 1, none⟩ (.int .i64 v1) = z1_ at *
  have s := K.out
  clear K fa fb ka kb lo1 hi1
  rw [rounds_succ]
  obtain ⟨nn2, nx2, mm2, mx2⟩ := H2.out
  clear H2
  go_wp2
  refine wp_part (fun a_ w_ => a_ = ⟨#[tv a0 a1 a2, tv b0 b1 b2, .pointer (some ⟨w.heap.size, 0, none⟩), .pointer (some ⟨w.heap.size + 1, 0, none⟩), .pointer (some ⟨w.heap.size + 1 + 1, 0, none⟩), .pointer (some ⟨w.heap.size + 1 + 1 + 1, 0, none⟩), .int .i64 2, .int .i64 x2, .int .i64 y2, .int .i64 2, .bool true, .int .i64 2, .int .i64 2, .pointer (some ⟨w.heap.size, 2, none⟩), .int .i64 a2, .int .i64 p2, .int .i64 x2, .int .i64 2, .pointer (some ⟨w.heap.size + 1, 2, none⟩), .int .i64 b2, .int .i64 q2, .int .i64 y2, .int .i64 1, .int .i64 1, .int .i64 x1, .int .i64 y1, .int .i64 u1, .int .i64 x1, .int .i64 y1, .int .i64 v1, .pointer (some ⟨w.heap.size, 1, none⟩), .pointer (some ⟨w.heap.size + 1, 1, none⟩), .int .i64 2, undef, undef], []⟩ ∧ LM w u0 u1 a2 v0 v1 b2 w_) ?rest2 ?first2
  case first2 =>
    intro Q hQ
    have ka := s.ka
    have kb := s.kb
    have K := Lib.hid (lm_drew s)
    go_region
    exact hQ _ _ ⟨rfl, K.out⟩
  clear nn2 nx2 mm2 mx2 s
  rintro _ y2_ ⟨rfl, s⟩
  obtain ⟨lo2, hi2⟩ := G2.out
  clear G2
  have fa := s.fa
  have fb := s.fb
  have ka := s.ka
  have kb := s.kb
  have K := Lib.hid (lm_put2 (u := u2) (v := v2) s)
  clear s
  go_wp2
  generalize (y2_.setCell ⟨w.heap.size, 2, none⟩ (.int .i64 u2)).setCell ⟨w.heap.size + 1, 2, none⟩ (.int .i64 v2) = z2_ at *
  have s := K.out
  clear K fa fb ka kb lo2 hi2
  rw [rounds_succ]
  go_wp2
  refine wp_part (fun a_ w_ => a_ = ⟨#[tv a0 a1 a2, tv b0 b1 b2, .pointer (some ⟨w.heap.size, 0, none⟩), .pointer (some ⟨w.heap.size + 1, 0, none⟩), .pointer (some ⟨w.heap.size + 1 + 1, 0, none⟩), .pointer (some ⟨w.heap.size + 1 + 1 + 1, 0, none⟩), .int .i64 2, .int .i64 x2, .int .i64 y2, .int .i64 3, .bool false, .int .i64 2, .int .i64 2, .pointer (some ⟨w.heap.size, 2, none⟩), .int .i64 a2, .int .i64 p2, .int .i64 x2, .int .i64 2, .pointer (some ⟨w.heap.size + 1, 2, none⟩), .int .i64 b2, .int .i64 q2, .int .i64 y2, .int .i64 2, .int .i64 2, .int .i64 x2, .int .i64 y2, .int .i64 u2, .int .i64 x2, .int .i64 y2, .int .i64 v2, .pointer (some ⟨w.heap.size, 2, none⟩), .pointer (some ⟨w.heap.size + 1, 2, none⟩), .int .i64 3, tv u0 u1 u2, tv v0 v1 v2], []⟩ ∧ TC w_ (w.heap.size + 1 + 1) u0 u1 u2 ∧ TC w_ (w.heap.size + 1 + 1 + 1) v0 v1 v2 ∧ Below w.heap.size w w_) ?rest ?first
  case first =>
    intro Q hQ
    have ka := s.ka
    have kb := s.kb
    have fc := s.fc
    have fd := s.fd
    have kc := s.kc
    have kd := s.kd
    have q1 : w.heap.size ≤ w.heap.size + 1 + 1 := by omega
    have q2 : w.heap.size ≤ w.heap.size + 1 + 1 + 1 := by omega
    have q3 : w.heap.size + 1 + 1 ≠ w.heap.size + 1 + 1 + 1 := by omega
    have K : Hid (TC ((((((z2_.setCell ⟨w.heap.size + 1 + 1, 0, none⟩ (.int .i64 u0)).setCell ⟨w.heap.size + 1 + 1, 1, none⟩ (.int .i64 u1)).setCell ⟨w.heap.size + 1 + 1, 2, none⟩ (.int .i64 u2)).setCell ⟨w.heap.size + 1 + 1 + 1, 0, none⟩ (.int .i64 v0)).setCell ⟨w.heap.size + 1 + 1 + 1, 1, none⟩ (.int .i64 v1)).setCell ⟨w.heap.size + 1 + 1 + 1, 2, none⟩ (.int .i64 v2)) (w.heap.size + 1 + 1) u0 u1 u2 ∧ TC ((((((z2_.setCell ⟨w.heap.size + 1 + 1, 0, none⟩ (.int .i64 u0)).setCell ⟨w.heap.size + 1 + 1, 1, none⟩ (.int .i64 u1)).setCell ⟨w.heap.size + 1 + 1, 2, none⟩ (.int .i64 u2)).setCell ⟨w.heap.size + 1 + 1 + 1, 0, none⟩ (.int .i64 v0)).setCell ⟨w.heap.size + 1 + 1 + 1, 1, none⟩ (.int .i64 v1)).setCell ⟨w.heap.size + 1 + 1 + 1, 2, none⟩ (.int .i64 v2)) (w.heap.size + 1 + 1 + 1) v0 v1 v2 ∧ Below w.heap.size w ((((((z2_.setCell ⟨w.heap.size + 1 + 1, 0, none⟩ (.int .i64 u0)).setCell ⟨w.heap.size + 1 + 1, 1, none⟩ (.int .i64 u1)).setCell ⟨w.heap.size + 1 + 1, 2, none⟩ (.int .i64 u2)).setCell ⟨w.heap.size + 1 + 1 + 1, 0, none⟩ (.int .i64 v0)).setCell ⟨w.heap.size + 1 + 1 + 1, 1, none⟩ (.int .i64 v1)).setCell ⟨w.heap.size + 1 + 1 + 1, 2, none⟩ (.int .i64 v2))) := Lib.hid ⟨tc_set (tc_set (tc_set (tc_whole (a := u0) (b := u1) (c := u2) kc) q3.symm) q3.symm) q3.symm, tc_whole (a := v0) (b := v1) (c := v2) (tc_set (tc_set (tc_set kd q3) q3) q3), b_set (b_set (b_set (b_set (b_set (b_set s.b q1) q1) q1) q2) q2) q2⟩
    clear s q1 q2 q3
    go_region
    exact hQ _ _ ⟨rfl, tc_keep (b_drew (Below.refl _ _)) K.out.1, tc_keep (b_drew (Below.refl _ _)) K.out.2.1, b_trans K.out.2.2 (b_drew (Below.refl _ _))⟩
  clear s
  rintro _ y9_ ⟨rfl, ⟨r0, r1, r2⟩, ⟨t0, t1, t2⟩, B9⟩
  go_wp2
  exact bodyPost_ret (v := .tuple #[tv u0 u1 u2, tv v0 v1 v2]) (by simp [results, Tryd.results12, go_sem, r0, r1, r2, t0, t1, t2]) rfl ⟨rfl, B9⟩
end Go.Proofs.YtjafcnbghbfehaaDoor
