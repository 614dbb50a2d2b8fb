/- Package tame: a diagonal between a floor and a ceiling. -/
import Derived.Test.YtjafcnbghbfehaaDoorTamB
import Derived.BigRegion
namespace Go.Proofs.YtjafcnbghbfehaaDoor
open Go.RowKit Go.Shelf

/-- A statement by itself, and what follows once. -/
theorem wp_part {P : Program} {s : Code} {Q : Exit → Act → World → Prop} {a : Act} {w : World} (R : Act → World → Prop) (rest : ∀ a' w', R a' w' → Q .normal a' w') (first : ∀ K : Act → World → Prop, (∀ a' w', R a' w' → K a' w') → s.wp P (Exit.then K fun _ _ _ => False) a w) : s.wp P Q a w := by
  refine wp_mono (first R fun _ _ q => q) ?_
  intro e a' w' hq
  cases e with
  | normal => exact rest _ _ hq
  | exit id => exact hq.elim
  | goto l => exact hq.elim
  | ret => exact hq.elim
  | panic ch => exact hq.elim
  | outgrown => exact hq.elim

/-- What between keeps: the diagonal, the floor, the ceiling, the answer's variable. -/
structure BM (W : World) (A B C D : Nat) (d0 d1 d2 f0 f1 f2 c0 c1 c2 : Int) (U : World) : Prop where
  b : Below W.heap.size W U
  ka : TC U A d0 d1 d2
  fa : TF U A
  kb : TC U B f0 f1 f2
  kc : TC U C c0 c1 c2
  kd : TC U D 0 0 0
  fd : TF U D
theorem bm_keep {W U U' : World} {A B C D : Nat} {d0 d1 d2 f0 f1 f2 c0 c1 c2 : Int} (h : BM W A B C D d0 d1 d2 f0 f1 f2 c0 c1 c2 U) (hb : Below U.heap.size U U') : BM W A B C D d0 d1 d2 f0 f1 f2 c0 c1 c2 U' :=
  ⟨b_trans h.b hb, tc_keep hb h.ka, tf_keep hb h.ka h.fa, tc_keep hb h.kb, tc_keep hb h.kc, tc_keep hb h.kd, tf_keep hb h.kd h.fd⟩
theorem bm_drew {W U : World} {A B C D : Nat} {d0 d1 d2 f0 f1 f2 c0 c1 c2 : Int} (h : BM W A B C D d0 d1 d2 f0 f1 f2 c0 c1 c2 U) : BM W A B C D d0 d1 d2 f0 f1 f2 c0 c1 c2 U.drew := bm_keep h (b_drew (Below.refl _ _))
theorem tc_at0 {w : World} {b : Nat} {x y z v : Int} (c : TC w b x y z) : TC (w.setCell ⟨b, 0, none⟩ (.int .i64 v)) b v y z := by
  obtain ⟨c0, c1, c2⟩ := c
  simp [TC, go_sem, c0, c1, c2]
theorem tc_at1 {w : World} {b : Nat} {x y z v : Int} (c : TC w b x y z) : TC (w.setCell ⟨b, 1, none⟩ (.int .i64 v)) b x v z := by
  obtain ⟨c0, c1, c2⟩ := c
  simp [TC, go_sem, c0, c1, c2]
theorem tc_at2 {w : World} {b : Nat} {x y z v : Int} (c : TC w b x y z) : TC (w.setCell ⟨b, 2, none⟩ (.int .i64 v)) b x y v := by
  obtain ⟨c0, c1, c2⟩ := c
  simp [TC, go_sem, c0, c1, c2]
theorem bm_put0 {W U : World} {A B C D : Nat} {d0 d1 d2 f0 f1 f2 c0 c1 c2 u : Int} (h : BM W A B C D d0 d1 d2 f0 f1 f2 c0 c1 c2 U) (qA : W.heap.size ≤ A) (nB : A ≠ B) (nC : A ≠ C) (nD : A ≠ D) :
    BM W A B C D u d1 d2 f0 f1 f2 c0 c1 c2 (U.setCell ⟨A, 0, none⟩ (.int .i64 u)) :=
  ⟨b_set h.b qA, tc_at0 h.ka, tf_set h.fa, tc_set h.kb nB, tc_set h.kc nC, tc_set h.kd nD, tf_set h.fd⟩
theorem bm_put1 {W U : World} {A B C D : Nat} {d0 d1 d2 f0 f1 f2 c0 c1 c2 u : Int} (h : BM W A B C D d0 d1 d2 f0 f1 f2 c0 c1 c2 U) (qA : W.heap.size ≤ A) (nB : A ≠ B) (nC : A ≠ C) (nD : A ≠ D) :
    BM W A B C D d0 u d2 f0 f1 f2 c0 c1 c2 (U.setCell ⟨A, 1, none⟩ (.int .i64 u)) :=
  ⟨b_set h.b qA, tc_at1 h.ka, tf_set h.fa, tc_set h.kb nB, tc_set h.kc nC, tc_set h.kd nD, tf_set h.fd⟩
theorem bm_put2 {W U : World} {A B C D : Nat} {d0 d1 d2 f0 f1 f2 c0 c1 c2 u : Int} (h : BM W A B C D d0 d1 d2 f0 f1 f2 c0 c1 c2 U) (qA : W.heap.size ≤ A) (nB : A ≠ B) (nC : A ≠ C) (nD : A ≠ D) :
    BM W A B C D d0 d1 u f0 f1 f2 c0 c1 c2 (U.setCell ⟨A, 2, none⟩ (.int .i64 u)) :=
  ⟨b_set h.b qA, tc_at2 h.ka, tf_set h.fa, tc_set h.kb nB, tc_set h.kc nC, tc_set h.kd nD, tf_set h.fd⟩

set_option maxHeartbeats 4000000 in
set_option maxRecDepth 10000 in
theorem between_go (x0 x1 x2 f0 f1 f2 c0 c1 c2 u0 u1 u2 v0 v1 v2 : Int)
    (mx0 : (if x0 < f0 then f0 else x0) = u0) (mn0 : (if c0 < u0 then c0 else u0) = v0)
    (mx1 : (if x1 < f1 then f1 else x1) = u1) (mn1 : (if c1 < u1 then c1 else u1) = v1)
    (mx2 : (if x2 < f2 then f2 else x2) = u2) (mn2 : (if c2 < u2 then c2 else u2) = v2) (w : World) :
    Calls Tryd.prog 15 #[tv x0 x1 x2, tv f0 f1 f2, tv c0 c1 c2] w (RetV (tv v0 v1 v2) w) := by
  have H0 := Lib.hid (And.intro mx0 mn0)
  have H1 := Lib.hid (And.intro mx1 mn1)
  have H2 := Lib.hid (And.intro mx2 mn2)
  clear mx0 mn0 mx1 mn1 mx2 mn2
  have s : BM w w.heap.size (w.heap.size + 1) (w.heap.size + 1 + 1) (w.heap.size + 1 + 1 + 1) x0 x1 x2 f0 f1 f2 c0 c1 c2 ((((w.alloc (Obj.cells #[.int .i64 x0, .int .i64 x1, .int .i64 x2] 25)).alloc (Obj.cells #[.int .i64 f0, .int .i64 f1, .int .i64 f2] 25)).alloc (Obj.cells #[.int .i64 c0, .int .i64 c1, .int .i64 c2] 25)).alloc (Obj.cells #[.int .i64 0, .int .i64 0, .int .i64 0] 25)) := ⟨b_alloc (b_alloc (b_alloc (b_alloc (Below.refl _ _)))), tc_alloc (tc_alloc (tc_alloc (tc_new rfl))), tf_keep (b_alloc (b_alloc (b_alloc (Below.refl _ _)))) (tc_new (w := w) (t := 25) (x := x0) (y := x1) (z := x2) rfl) (tf_new rfl), tc_alloc (tc_alloc (tc_new (by simp))), tc_alloc (tc_new (by simp)), tc_new (by simp), tf_new (by simp)⟩
  replace s := Lib.hid s
  obtain ⟨i0, i1, i2⟩ := ix_vec x0 x1 x2
  have qA : w.heap.size ≤ w.heap.size := Nat.le_refl _
  have nB : w.heap.size ≠ w.heap.size + 1 := by omega
  have nC : w.heap.size ≠ w.heap.size + 1 + 1 := by omega
  have nD : w.heap.size ≠ w.heap.size + 1 + 1 + 1 := by omega
  go_enter Tryd.func15, Tryd.ntmps15
  go_wp2
  generalize ((((w.alloc (Obj.cells #[.int .i64 x0, .int .i64 x1, .int .i64 x2] 25)).alloc (Obj.cells #[.int .i64 f0, .int .i64 f1, .int .i64 f2] 25)).alloc (Obj.cells #[.int .i64 c0, .int .i64 c1, .int .i64 c2] 25)).alloc (Obj.cells #[.int .i64 0, .int .i64 0, .int .i64 0] 25)) = y0 at *
  replace s := s.out
  refine wp_loop_rounds 4 ?_
  rw [rounds_succ]
  obtain ⟨mx0, mn0⟩ := H0.out
  clear H0
  have ka := s.ka
  go_wp2
  refine wp_part (fun a_ w_ => a_ = ⟨#[tv x0 x1 x2, tv f0 f1 f2, tv c0 c1 c2, .pointer (some ⟨w.heap.size, 0, none⟩), .pointer (some ⟨w.heap.size + 1, 0, none⟩), .pointer (some ⟨w.heap.size + 1 + 1, 0, none⟩), .pointer (some ⟨w.heap.size + 1 + 1 + 1, 0, none⟩), .int .i64 0, .int .i64 x0, tv x0 x1 x2, .int .i64 0, .bool true, .int .i64 0, .int .i64 x0, .int .i64 0, .int .i64 x0, .int .i64 0, .pointer (some ⟨w.heap.size + 1, 0, none⟩), .int .i64 f0, .int .i64 u0, .int .i64 0, .pointer (some ⟨w.heap.size + 1 + 1, 0, none⟩), .int .i64 c0, .int .i64 v0, .pointer (some ⟨w.heap.size, 0, none⟩), undef, undef], []⟩ ∧ BM w w.heap.size (w.heap.size + 1) (w.heap.size + 1 + 1) (w.heap.size + 1 + 1 + 1) v0 x1 x2 f0 f1 f2 c0 c1 c2 w_) ?rest0 ?first0
  case first0 =>
    intro Q hQ
    have fa := s.fa
    have kb := s.kb
    have kc := s.kc
    have K := Lib.hid (bm_drew (bm_put0 (u := v0) s qA nB nC nD))
    go_region
    exact hQ _ _ ⟨rfl, K.out⟩
  clear mx0 mn0 s ka
  rintro _ y1 ⟨rfl, s⟩
  go_wp2
  rw [rounds_succ]
  obtain ⟨mx1, mn1⟩ := H1.out
  clear H1
  have ka := s.ka
  go_wp2
  refine wp_part (fun a_ w_ => a_ = ⟨#[tv x0 x1 x2, tv f0 f1 f2, tv c0 c1 c2, .pointer (some ⟨w.heap.size, 0, none⟩), .pointer (some ⟨w.heap.size + 1, 0, none⟩), .pointer (some ⟨w.heap.size + 1 + 1, 0, none⟩), .pointer (some ⟨w.heap.size + 1 + 1 + 1, 0, none⟩), .int .i64 1, .int .i64 x1, tv x0 x1 x2, .int .i64 1, .bool true, .int .i64 1, .int .i64 x1, .int .i64 1, .int .i64 x1, .int .i64 1, .pointer (some ⟨w.heap.size + 1, 1, none⟩), .int .i64 f1, .int .i64 u1, .int .i64 1, .pointer (some ⟨w.heap.size + 1 + 1, 1, none⟩), .int .i64 c1, .int .i64 v1, .pointer (some ⟨w.heap.size, 1, none⟩), .int .i64 1, undef], []⟩ ∧ BM w w.heap.size (w.heap.size + 1) (w.heap.size + 1 + 1) (w.heap.size + 1 + 1 + 1) v0 v1 x2 f0 f1 f2 c0 c1 c2 w_) ?rest1 ?first1
  case first1 =>
    intro Q hQ
    have fa := s.fa
    have kb := s.kb
    have kc := s.kc
    have K := Lib.hid (bm_drew (bm_put1 (u := v1) s qA nB nC nD))
    go_region
    exact hQ _ _ ⟨rfl, K.out⟩
  clear mx1 mn1 s ka
  rintro _ y2 ⟨rfl, s⟩
  go_wp2
  rw [rounds_succ]
  obtain ⟨mx2, mn2⟩ := H2.out
  clear H2
  have ka := s.ka
  go_wp2
  refine wp_part (fun a_ w_ => a_ = ⟨#[tv x0 x1 x2, tv f0 f1 f2, tv c0 c1 c2, .pointer (some ⟨w.heap.size, 0, none⟩), .pointer (some ⟨w.heap.size + 1, 0, none⟩), .pointer (some ⟨w.heap.size + 1 + 1, 0, none⟩), .pointer (some ⟨w.heap.size + 1 + 1 + 1, 0, none⟩), .int .i64 2, .int .i64 x2, tv x0 x1 x2, .int .i64 2, .bool true, .int .i64 2, .int .i64 x2, .int .i64 2, .int .i64 x2, .int .i64 2, .pointer (some ⟨w.heap.size + 1, 2, none⟩), .int .i64 f2, .int .i64 u2, .int .i64 2, .pointer (some ⟨w.heap.size + 1 + 1, 2, none⟩), .int .i64 c2, .int .i64 v2, .pointer (some ⟨w.heap.size, 2, none⟩), .int .i64 2, undef], []⟩ ∧ BM w w.heap.size (w.heap.size + 1) (w.heap.size + 1 + 1) (w.heap.size + 1 + 1 + 1) v0 v1 v2 f0 f1 f2 c0 c1 c2 w_) ?rest2 ?first2
  case first2 =>
    intro Q hQ
    have fa := s.fa
    have kb := s.kb
    have kc := s.kc
    have K := Lib.hid (bm_drew (bm_put2 (u := v2) s qA nB nC nD))
    go_region
    exact hQ _ _ ⟨rfl, K.out⟩
  clear mx2 mn2 s ka
  rintro _ y3 ⟨rfl, s⟩
  go_wp2
  rw [rounds_succ]
  clear nB nC nD qA
  have ka := s.ka
  have kd := s.kd
  have fd := s.fd
  have B9 := s.b
  clear s
  go_wp2
  obtain ⟨q0, q1, q2⟩ := kd
  refine bodyPost_ret (v := tv v0 v1 v2) (by simp [results, Tryd.results15, go_sem, q0, q1, q2]) rfl ⟨rfl, ?_⟩
  have q : w.heap.size ≤ w.heap.size + 1 + 1 + 1 := by omega
  exact b_set (b_set (b_set B9 q) q) q

theorem between_tam (x0 x1 x2 f0 f1 f2 c0 c1 c2 : Int) (w : World) :
    Calls Tryd.prog 15 #[tv x0 x1 x2, tv f0 f1 f2, tv c0 c1 c2] w (RetV (tv (tdg x0 f0 c0) (tdg x1 f1 c1) (tdg x2 f2 c2)) w) :=
  between_go x0 x1 x2 f0 f1 f2 c0 c1 c2 _ _ _ _ _ _ rfl rfl rfl rfl rfl rfl w
end Go.Proofs.YtjafcnbghbfehaaDoor
