/- Package motion: On, Kept, Rest: each call's answer. -/
import Derived.Test.YtahpiakjhdnigaaMotB
import Derived.Test.YtahpiakjhdnigaaVecG
namespace Go.Proofs.Ytahpiakjhdnigaa
open Go.RowKit Go.Shelf

/-- What stands while a tick is reckoned: the state A, which stays; the result Q, untouched; the step S, which is written. -/
structure OS (w : World) (A Q S : Nat) (x0 x1 x2 y0 y1 y2 : Int) (U : World) : Prop where
  b : Below w.heap.size w U
  ka : TC U A x0 x1 x2
  qc : TC U Q 0 0 0
  qf : TF U Q
  ks : TC U S y0 y1 y2
  fs : TF U S
theorem os_keep {w U U' : World} {A Q S : Nat} {x0 x1 x2 y0 y1 y2 : Int} (s : OS w A Q S x0 x1 x2 y0 y1 y2 U) (hb : Below U.heap.size U U') : OS w A Q S x0 x1 x2 y0 y1 y2 U' :=
  ⟨b_trans s.b hb, tc_keep hb s.ka, tc_keep hb s.qc, tf_keep hb s.qc s.qf, tc_keep hb s.ks, tf_keep hb s.ks s.fs⟩
theorem os_put0 {w U : World} {A Q S : Nat} {x0 x1 x2 y0 y1 y2 v : Int} (s : OS w A Q S x0 x1 x2 y0 y1 y2 U) (nA : S ≠ A) (nQ : S ≠ Q) (h : w.heap.size ≤ S) : OS w A Q S x0 x1 x2 v y1 y2 (U.setCell ⟨S, 0, none⟩ (.int .i64 v)) :=
  ⟨b_set s.b h, tc_set s.ka nA, tc_set s.qc nQ, tf_set s.qf, tc_put0 s.ks, tf_set s.fs⟩
theorem os_put1 {w U : World} {A Q S : Nat} {x0 x1 x2 y0 y1 y2 v : Int} (s : OS w A Q S x0 x1 x2 y0 y1 y2 U) (nA : S ≠ A) (nQ : S ≠ Q) (h : w.heap.size ≤ S) : OS w A Q S x0 x1 x2 y0 v y2 (U.setCell ⟨S, 1, none⟩ (.int .i64 v)) :=
  ⟨b_set s.b h, tc_set s.ka nA, tc_set s.qc nQ, tf_set s.qf, tc_put1 s.ks, tf_set s.fs⟩

set_option maxHeartbeats 1000000 in
theorem on_mot_bad (x0 x1 x2 t : Int) (hx0 : I64 x0) (hx1 : I64 x1) (hx2 : I64 x2) (_ht : I64 t) (c : ¬ F3 x0 x1 x2) (w : World) :
    Calls Try.prog 6 #[tv x0 x1 x2, .int .i64 t] w (RetV (.tuple #[tv 0 0 0, .int .i64 1]) w) := by
  have ea := Lib.hid (f3b_no c)
  clear c
  have kA : TC ((w.alloc (Obj.cells #[.int .i64 x0, .int .i64 x1, .int .i64 x2] 23)).alloc (Obj.cells #[.int .i64 0, .int .i64 0, .int .i64 0] 23)) (w.heap.size) x0 x1 x2 := tc_alloc (tc_new rfl)
  have qc : TC ((w.alloc (Obj.cells #[.int .i64 x0, .int .i64 x1, .int .i64 x2] 23)).alloc (Obj.cells #[.int .i64 0, .int .i64 0, .int .i64 0] 23)) (w.heap.size + 1) 0 0 0 := tc_new (by simp)
  have qf : TF ((w.alloc (Obj.cells #[.int .i64 x0, .int .i64 x1, .int .i64 x2] 23)).alloc (Obj.cells #[.int .i64 0, .int .i64 0, .int .i64 0] 23)) (w.heap.size + 1) := tf_new (by simp)
  have B0 : Below w.heap.size w ((w.alloc (Obj.cells #[.int .i64 x0, .int .i64 x1, .int .i64 x2] 23)).alloc (Obj.cells #[.int .i64 0, .int .i64 0, .int .i64 0] 23)) := b_alloc (b_alloc (Below.refl _ _))
  go_enter Try.func6, Try.ntmps6
  go_wp2_with fail
  refine (fits3_vec x0 x1 x2 hx0 hx1 hx2 _).mono ?_
  rintro e1 w1 ⟨rfl, hb9⟩
  rw [ea.out]
  have qf9 := tf_keep hb9 qc qf
  replace kA := tc_keep hb9 kA
  replace qc := tc_keep hb9 qc
  replace B0 := b_trans B0 hb9
  clear qf
  have qf := qf9
  clear qf9 hb9
  clear kA
  have B9 := b_set (p := ⟨w.heap.size + 1, 2, none⟩) (v := .int .i64 0) (b_set (p := ⟨w.heap.size + 1, 1, none⟩) (v := .int .i64 0) (b_set (p := ⟨w.heap.size + 1, 0, none⟩) (v := .int .i64 0) B0 (Nat.le_succ _)) (Nat.le_succ _)) (Nat.le_succ _)
  go_wp2
  exact bodyPost_ret (v := .tuple #[tv 0 0 0, .int .i64 1]) (by simp [results, Try.results6, go_sem, qc]) rfl ⟨rfl, B9⟩

set_option maxHeartbeats 1000000 in
theorem on_mot_sub (x0 x1 x2 t y e : Int) (hx0 : I64 x0) (hx1 : I64 x1) (hx2 : I64 x2) (_ht : I64 t) (c : F3 x0 x1 x2) (e0 : (e == 0) = false)
    (cS : ∀ w, Calls Try.prog 13 #[.int .i64 t, .int .i64 x2] w (RetV (.tuple #[.int .i64 y, .int .i64 e]) w)) (w : World) :
    Calls Try.prog 6 #[tv x0 x1 x2, .int .i64 t] w (RetV (.tuple #[tv 0 0 0, .int .i64 e]) w) := by
  have ea := Lib.hid (f3b_yes c)
  clear c
  have kA : TC ((w.alloc (Obj.cells #[.int .i64 x0, .int .i64 x1, .int .i64 x2] 23)).alloc (Obj.cells #[.int .i64 0, .int .i64 0, .int .i64 0] 23)) (w.heap.size) x0 x1 x2 := tc_alloc (tc_new rfl)
  have qc : TC ((w.alloc (Obj.cells #[.int .i64 x0, .int .i64 x1, .int .i64 x2] 23)).alloc (Obj.cells #[.int .i64 0, .int .i64 0, .int .i64 0] 23)) (w.heap.size + 1) 0 0 0 := tc_new (by simp)
  have qf : TF ((w.alloc (Obj.cells #[.int .i64 x0, .int .i64 x1, .int .i64 x2] 23)).alloc (Obj.cells #[.int .i64 0, .int .i64 0, .int .i64 0] 23)) (w.heap.size + 1) := tf_new (by simp)
  have B0 : Below w.heap.size w ((w.alloc (Obj.cells #[.int .i64 x0, .int .i64 x1, .int .i64 x2] 23)).alloc (Obj.cells #[.int .i64 0, .int .i64 0, .int .i64 0] 23)) := b_alloc (b_alloc (Below.refl _ _))
  go_enter Try.func6, Try.ntmps6
  go_wp2_with fail
  refine (fits3_vec x0 x1 x2 hx0 hx1 hx2 _).mono ?_
  rintro e1 w1 ⟨rfl, hb9⟩
  rw [ea.out]
  have qf9 := tf_keep hb9 qc qf
  replace kA := tc_keep hb9 kA
  replace qc := tc_keep hb9 qc
  replace B0 := b_trans B0 hb9
  clear qf
  have qf := qf9
  clear qf9 hb9
  go_wp2_with fail
  refine (cS _).mono ?_
  rintro e2 w2 ⟨rfl, hb9⟩
  have qf9 := tf_keep hb9 qc qf
  replace kA := tc_keep hb9 kA
  replace qc := tc_keep hb9 qc
  replace B0 := b_trans B0 hb9
  clear qf
  have qf := qf9
  clear qf9 hb9
  clear kA
  have B9 := b_set (p := ⟨w.heap.size + 1, 2, none⟩) (v := .int .i64 0) (b_set (p := ⟨w.heap.size + 1, 1, none⟩) (v := .int .i64 0) (b_set (p := ⟨w.heap.size + 1, 0, none⟩) (v := .int .i64 0) B0 (Nat.le_succ _)) (Nat.le_succ _)) (Nat.le_succ _)
  go_wp2
  exact bodyPost_ret (v := .tuple #[tv 0 0 0, .int .i64 e]) (by simp [results, Try.results6, go_sem, qc]) rfl ⟨rfl, B9⟩

set_option maxHeartbeats 4000000 in
theorem on_mot_go (x0 x1 x2 t d mh ml dh dl h v y0 y1 y2 e : Int) (hx0 : I64 x0) (hx1 : I64 x1) (hx2 : I64 x2) (_ht : I64 t) (c : F3 x0 x1 x2)
    (cS : ∀ w, Calls Try.prog 13 #[.int .i64 t, .int .i64 x2] w (RetV (.tuple #[.int .i64 d, .int .i64 0]) w))
    (cM : ∀ w, Calls Try.prog 15 #[.int .i64 256, .int .i64 x1] w (RetV (wv mh ml) w))
    (cO : ∀ w, Calls Try.prog 16 #[.int .i64 d] w (RetV (wv dh dl) w))
    (r2 : ∀ G w, W2 w G mh ml dh dl → Calls Try.prog 14 #[.int .i64 15, .slice (some ⟨G, 0, none⟩) 2 2] w (RetV (.int .i64 h) w))
    (r1 : ∀ G w, WC w G dh dl → Calls Try.prog 14 #[.int .i64 7, .slice (some ⟨G, 0, none⟩) 1 1] w (RetV (.int .i64 v) w))
    (cA : ∀ w, Calls Try.prog 17 #[tv x0 x1 x2, tv h v 0] w (RetV (.tuple #[tv y0 y1 y2, .int .i64 e]) w)) (w : World) :
    Calls Try.prog 6 #[tv x0 x1 x2, .int .i64 t] w (RetV (.tuple #[tv y0 y1 y2, .int .i64 e]) w) := by
  have ea := Lib.hid (f3b_yes c)
  clear c
  have kA : TC ((w.alloc (Obj.cells #[.int .i64 x0, .int .i64 x1, .int .i64 x2] 23)).alloc (Obj.cells #[.int .i64 0, .int .i64 0, .int .i64 0] 23)) (w.heap.size) x0 x1 x2 := tc_alloc (tc_new rfl)
  have qc : TC ((w.alloc (Obj.cells #[.int .i64 x0, .int .i64 x1, .int .i64 x2] 23)).alloc (Obj.cells #[.int .i64 0, .int .i64 0, .int .i64 0] 23)) (w.heap.size + 1) 0 0 0 := tc_new (by simp)
  have qf : TF ((w.alloc (Obj.cells #[.int .i64 x0, .int .i64 x1, .int .i64 x2] 23)).alloc (Obj.cells #[.int .i64 0, .int .i64 0, .int .i64 0] 23)) (w.heap.size + 1) := tf_new (by simp)
  have B0 : Below w.heap.size w ((w.alloc (Obj.cells #[.int .i64 x0, .int .i64 x1, .int .i64 x2] 23)).alloc (Obj.cells #[.int .i64 0, .int .i64 0, .int .i64 0] 23)) := b_alloc (b_alloc (Below.refl _ _))
  go_enter Try.func6, Try.ntmps6
  go_wp2_with fail
  refine (fits3_vec x0 x1 x2 hx0 hx1 hx2 _).mono ?_
  rintro e1 w1 ⟨rfl, hb9⟩
  rw [ea.out]
  have qf9 := tf_keep hb9 qc qf
  replace kA := tc_keep hb9 kA
  replace qc := tc_keep hb9 qc
  replace B0 := b_trans B0 hb9
  clear qf
  have qf := qf9
  clear qf9 hb9
  go_wp2_with fail
  refine (cS _).mono ?_
  rintro e2 w2 ⟨rfl, hb9⟩
  have qf9 := tf_keep hb9 qc qf
  replace kA := tc_keep hb9 kA
  replace qc := tc_keep hb9 qc
  replace B0 := b_trans B0 hb9
  clear qf
  have qf := qf9
  clear qf9 hb9
  clear cS
  have hS : w.heap.size ≤ w2.heap.size := B0.size
  have nA : w2.heap.size ≠ w.heap.size := fun c => by have := tc_lt kA; omega
  have nQ : w2.heap.size ≠ w.heap.size + 1 := fun c => by have := tc_lt qc; omega
  have s0 : OS w (w.heap.size) (w.heap.size + 1) w2.heap.size x0 x1 x2 0 0 0 (w2.alloc (Obj.cells #[.int .i64 0, .int .i64 0, .int .i64 0] 23)) := ⟨b_alloc B0, tc_alloc kA, tc_alloc qc, tf_keep (b_alloc (Below.refl _ _)) qc qf, tc_new rfl, tf_new rfl⟩
  clear kA qc qf B0
  have kA := s0.ka
  have kS := s0.ks
  have kF := s0.fs
  go_wp2_with fail
  generalize w2.alloc (Obj.cells #[.int .i64 0, .int .i64 0, .int .i64 0] 23) = u0 at *
  generalize w2.heap.size = S at *
  refine (cM _).mono ?_
  rintro e3 w3 ⟨rfl, hb9⟩
  replace s0 := os_keep s0 hb9
  clear hb9 kA kS kF cM
  have kA := s0.ka
  have kS := s0.ks
  have kF := s0.fs
  go_wp2_with fail
  refine (cO _).mono ?_
  rintro e4 w4 ⟨rfl, hb9⟩
  replace s0 := os_keep s0 hb9
  clear hb9 kA kS kF
  have kA := s0.ka
  have kS := s0.ks
  have kF := s0.fs
  go_wp2_with fail
  refine (r2 _ _ ?hG).mono ?_
  case hG => simp [W2, WC, go_sem]
  rintro e5 w5 ⟨rfl, hb9⟩
  replace s0 := os_keep (os_keep s0 (b_alloc (o := (Obj.cells #[.int .i64 mh, .int .u64 ml, .int .i64 dh, .int .u64 dl] 40)) (Below.refl _ _))) hb9
  clear hb9 kA kS kF r2
  have kS := s0.ks
  have kF := s0.fs
  have KK := Lib.hid (os_put0 (v := h) s0 nA nQ hS)
  clear s0
  go_wp2_with fail
  generalize w5.setCell ⟨S, 0, none⟩ (.int .i64 h) = u1 at *
  have s0 := KK.out
  clear KK kS kF
  refine (cO _).mono ?_
  rintro e6 w6 ⟨rfl, hb9⟩
  replace s0 := os_keep s0 hb9
  clear hb9 cO
  have kA := s0.ka
  have kS := s0.ks
  have kF := s0.fs
  go_wp2_with fail
  refine (r1 _ _ ?hG).mono ?_
  case hG => simp [WC, go_sem]
  rintro e7 w7 ⟨rfl, hb9⟩
  replace s0 := os_keep (os_keep s0 (b_alloc (o := (Obj.cells #[.int .i64 dh, .int .u64 dl] 40)) (Below.refl _ _))) hb9
  clear hb9 kA kS kF r1
  have kS := s0.ks
  have kF := s0.fs
  have KK := Lib.hid (os_put1 (v := v) s0 nA nQ hS)
  have kA := tc_set (b1 := S) (o := 1) (v := .int .i64 v) s0.ka nA
  have kS1 := tc_put1 (v := v) kS
  clear s0
  go_wp2_with fail
  generalize w7.setCell ⟨S, 1, none⟩ (.int .i64 v) = u2 at *
  have s0 := KK.out
  clear KK kS kF kA kS1
  refine (cA _).mono ?_
  rintro e8 w8 ⟨rfl, hb9⟩
  obtain ⟨B0, kA, qc, qf, kS, kF⟩ := os_keep s0 hb9
  clear hb9 cA s0 kA kS kF
  have B9 := b_set (p := ⟨w.heap.size + 1, 2, none⟩) (v := .int .i64 y2) (b_set (p := ⟨w.heap.size + 1, 1, none⟩) (v := .int .i64 y1) (b_set (p := ⟨w.heap.size + 1, 0, none⟩) (v := .int .i64 y0) B0 (Nat.le_succ _)) (Nat.le_succ _)) (Nat.le_succ _)
  go_wp2
  exact bodyPost_ret (v := .tuple #[tv y0 y1 y2, .int .i64 e]) (by simp [results, Try.results6, go_sem, qc]) rfl ⟨rfl, B9⟩

theorem tz_oz (a b x : Int) : tz x (ne a) (ne b) 0 = oz (ne a) (ne b) x ∧ te (ne a) (ne b) 0 = oe (ne a) (ne b) := by
  unfold tz te oz oe ne
  by_cases ca : FitP a
  · rw [if_pos ca]
    by_cases cb : FitP b
    · rw [if_pos cb]
      exact ⟨rfl, rfl⟩
    · rw [if_neg cb]
      exact ⟨rfl, rfl⟩
  · rw [if_neg ca]
    exact ⟨rfl, rfl⟩
theorem on_mot_ok (x0 x1 x2 t : Int) (hx0 : I64 x0) (hx1 : I64 x1) (hx2 : I64 x2) (ht : I64 t) (c : F3 x0 x1 x2) (ct : FitP t) (cd : FitP (t - x2)) (w : World) :
    Calls Try.prog 6 #[tv x0 x1 x2, .int .i64 t] w (RetV (.tuple #[tv (oz (ne (x0 + mvh x1 (t - x2))) (ne (x1 + mvs (t - x2))) (nz (x0 + mvh x1 (t - x2)))) (oz (ne (x0 + mvh x1 (t - x2))) (ne (x1 + mvs (t - x2))) (nz (x1 + mvs (t - x2)))) (oz (ne (x0 + mvh x1 (t - x2))) (ne (x1 + mvs (t - x2))) x2), .int .i64 (oe (ne (x0 + mvh x1 (t - x2))) (ne (x1 + mvs (t - x2))))]) w) := by
  have cS : ∀ w, Calls Try.prog 13 #[.int .i64 t, .int .i64 x2] w (RetV (.tuple #[.int .i64 (t - x2), .int .i64 0]) w) := fun w => by
    have h := sub_fix t x2 ht.1 ht.2 hx2.1 hx2.2 w
    rwa [(gz_of ⟨ct, c.2.2⟩ _).1, (gz_of ⟨ct, c.2.2⟩ _).2, (nz_of cd).1, (nz_of cd).2] at h
  have hd : I64 (t - x2) := ⟨by omega, by omega⟩
  generalize t - x2 = d at *
  obtain ⟨f1, f2, f3, f4, f5, f6⟩ := far_fits c.2.1 cd
  have b1 := mvh_bd c.2.1 cd
  have b2 := mvs_bd cd
  have E1 : evn (0 + 256 * x1 + d) (2 ^ (15 : Int).toNat) = mvh x1 d := by
    rw [show 0 + 256 * x1 + d = 256 * x1 + d by omega]
    rfl
  have E2 : evn (0 + d) (2 ^ (7 : Int).toNat) = mvs d := by
    rw [show 0 + d = d by omega]
    rfl
  have F1 : evn (0 + 256 * x1 + d) 32768 = mvh x1 d := E1
  have F2 : evn (0 + d) 128 = mvs d := E2
  rw [F1] at f5
  rw [F2] at f6
  obtain ⟨mh, ml, m⟩ : ∃ h l, IsW h l (256 * x1) := ⟨_, _, IsW.mk' f1⟩
  obtain ⟨dh, dl, dw⟩ : ∃ h l, IsW h l d := ⟨_, _, IsW.mk' ⟨by omega, by omega⟩⟩
  have P : ∀ {a b : Int}, FitP a → I64 b → FitP b → ∀ w, Calls Try.prog 38 #[.int .i64 a, .int .i64 b] w (RetV (.tuple #[.int .i64 (nz (a + b)), .int .i64 (ne (a + b))]) w) := fun {a b} fa hb fb w => by
    have h := add_fix a b (by omega) (by omega) hb.1 hb.2 w
    rwa [(gz_of ⟨fa, fb⟩ _).1, (gz_of ⟨fa, fb⟩ _).2] at h
  have cA := fun w => add3_vec_ok x0 x1 x2 (mvh x1 d) (mvs d) 0 _ _ _ _ _ _ hx0 hx1 hx2 ⟨by omega, by omega⟩ ⟨by omega, by omega⟩ (by decide) c ⟨⟨by omega, by omega⟩, ⟨by omega, by omega⟩, by decide⟩
    (P c.1 ⟨by omega, by omega⟩ ⟨by omega, by omega⟩) (P c.2.1 ⟨by omega, by omega⟩ ⟨by omega, by omega⟩) (P c.2.2 (by decide) (by decide)) w
  rw [show x2 + 0 = x2 by omega, (nz_of c.2.2).1, (nz_of c.2.2).2, (tz_oz _ _ _).1, (tz_oz _ _ _).1, (tz_oz _ _ _).1, (tz_oz _ _ 0).2] at cA
  exact on_mot_go x0 x1 x2 t d mh ml dh dl (mvh x1 d) (mvs d) _ _ _ _ hx0 hx1 hx2 ht c cS
    (fun w => (mul_any 256 x1 (by decide) (by decide) hx1.1 hx1.2 w).mono fun _ _ => retW_det m)
    (fun w => (of_any d hd.1 hd.2 w).mono fun _ _ => retW_det dw)
    (fun G w k => by have h := rounded_2 15 (256 * x1) d m dw (by decide) (by decide) f2 f3 (by rw [E1]; exact f5) (by rw [E1]; exact ⟨by omega, by omega⟩) G w k; rwa [E1] at h)
    (fun G w k => by have h := rounded_1 7 d dw (by decide) (by decide) f4 (by rw [E2]; exact f6) (by rw [E2]; exact ⟨by omega, by omega⟩) G w k; rwa [E2] at h)
    cA w

set_option maxHeartbeats 1000000 in
theorem kept_mot (a0 a1 a2 b0 b1 b2 : Int) (ha0 : I64 a0) (ha1 : I64 a1) (ha2 : I64 a2) (hb0 : I64 b0) (hb1 : I64 b1) (hb2 : I64 b2) (w : World) :
    Calls Try.prog 9 #[tv a0 a1 a2, tv b0 b1 b2] w (RetV (tv (clz a0 b0) (clz a1 b1) (clz a2 b2)) w) := by
  have cC := clamp_vec a0 a1 a2 b0 b1 b2 ha0 ha1 ha2 hb0 hb1 hb2
  clear ha0 ha1 ha2 hb0 hb1 hb2
  generalize clz a0 b0 = x0 at *
  generalize clz a1 b1 = x1 at *
  generalize clz a2 b2 = x2 at *
  have kA : TC (((w.alloc (Obj.cells #[.int .i64 a0, .int .i64 a1, .int .i64 a2] 23)).alloc (Obj.cells #[.int .i64 b0, .int .i64 b1, .int .i64 b2] 23)).alloc (Obj.cells #[.int .i64 0, .int .i64 0, .int .i64 0] 23)) w.heap.size a0 a1 a2 := tc_alloc (tc_alloc (tc_new rfl))
  have kB : TC (((w.alloc (Obj.cells #[.int .i64 a0, .int .i64 a1, .int .i64 a2] 23)).alloc (Obj.cells #[.int .i64 b0, .int .i64 b1, .int .i64 b2] 23)).alloc (Obj.cells #[.int .i64 0, .int .i64 0, .int .i64 0] 23)) (w.heap.size + 1) b0 b1 b2 := tc_alloc (tc_new (by simp))
  have q0 : TC (((w.alloc (Obj.cells #[.int .i64 a0, .int .i64 a1, .int .i64 a2] 23)).alloc (Obj.cells #[.int .i64 b0, .int .i64 b1, .int .i64 b2] 23)).alloc (Obj.cells #[.int .i64 0, .int .i64 0, .int .i64 0] 23)) (w.heap.size + 1 + 1) 0 0 0 := tc_new (by simp)
  have B0 : Below w.heap.size w (((w.alloc (Obj.cells #[.int .i64 a0, .int .i64 a1, .int .i64 a2] 23)).alloc (Obj.cells #[.int .i64 b0, .int .i64 b1, .int .i64 b2] 23)).alloc (Obj.cells #[.int .i64 0, .int .i64 0, .int .i64 0] 23)) := b_alloc (b_alloc (b_alloc (Below.refl _ _)))
  have f0 : TF (((w.alloc (Obj.cells #[.int .i64 a0, .int .i64 a1, .int .i64 a2] 23)).alloc (Obj.cells #[.int .i64 b0, .int .i64 b1, .int .i64 b2] 23)).alloc (Obj.cells #[.int .i64 0, .int .i64 0, .int .i64 0] 23)) (w.heap.size + 1 + 1) := tf_new (by simp)
  go_enter Try.func9, Try.ntmps9
  go_wp2_with fail
  refine (cC _).mono ?_
  rintro e w1 ⟨rfl, hb1⟩
  have q1 := tc_keep hb1 q0
  have f1 := tf_keep hb1 q0 f0
  have B2 := b_set (p := ⟨w.heap.size + 1 + 1, 2, none⟩) (v := .int .i64 x2) (b_set (p := ⟨w.heap.size + 1 + 1, 1, none⟩) (v := .int .i64 x1) (b_set (p := ⟨w.heap.size + 1 + 1, 0, none⟩) (v := .int .i64 x0) (b_trans B0 hb1) (Nat.le_trans (Nat.le_succ _) (Nat.le_succ _))) (Nat.le_trans (Nat.le_succ _) (Nat.le_succ _))) (Nat.le_trans (Nat.le_succ _) (Nat.le_succ _))
  clear hb1 q0 f0 B0 cC kA kB
  go_wp2
  exact bodyPost_ret (v := tv x0 x1 x2) (by simp [results, Try.results9, go_sem, q1]) rfl ⟨rfl, B2⟩

set_option maxHeartbeats 1000000 in
theorem rest_mot (x0 x1 x2 : Int) (w : World) : Calls Try.prog 11 #[tv x0 x1 x2] w (RetV (.bool (x1 == 0 && x2 == 0)) w) := by
  have kA : TC (w.alloc (Obj.cells #[.int .i64 x0, .int .i64 x1, .int .i64 x2] 23)) w.heap.size x0 x1 x2 := tc_new rfl
  have B0 := b_alloc (o := (Obj.cells #[.int .i64 x0, .int .i64 x1, .int .i64 x2] 23)) (Below.refl w.heap.size w)
  by_cases c : x1 = 0
  · subst c
    go_enter Try.func11, Try.ntmps11
    go_wp2
    go_ret
    exact ⟨by simp, B0⟩
  · have n := neq_of c
    have E : (x1 == 0 && x2 == 0) = false := by rw [n]; rfl
    rw [E]
    clear E c
    go_enter Try.func11, Try.ntmps11
    go_wp2
    go_ret
    exact ⟨by simp, B0⟩

end Go.Proofs.Ytahpiakjhdnigaa
