/- SpreadGrows: what the law's call answers: true, for every two rows. -/
import Derived.Test.YtlpmmnfijfljoaaDoorSprH
import Derived.BigRegion
namespace Go.Proofs.YtlpmmnfijfljoaaDoor
open Go.RowKit Go.Shelf

/-- A statement by itself, and what follows once. -/
theorem wp_part {P : Program} {s : Code} {Q : Exit → Act → World → Prop} {a : Act} {w : World} (R : Act → World → Prop) (rest : ∀ a' w', R a' w' → Q .normal a' w') (first : ∀ K : Act → World → Prop, (∀ a' w', R a' w' → K a' w') → s.wp P (Exit.then K fun _ _ _ => False) a w) : s.wp P Q a w := by
  refine wp_mono (first R fun _ _ q => q) ?_
  intro e a' w' hq
  cases e with
  | normal => exact rest _ _ hq
  | exit id => exact hq.elim
  | goto l => exact hq.elim
  | ret => exact hq.elim
  | panic ch => exact hq.elim
  | outgrown => exact hq.elim
/-- What SpreadGrows keeps: its two rows, the tables. -/
structure GM (W : World) (A B : Nat) (d0 d1 d2 a0 a1 a2 : Int) (U : World) : Prop where
  b : Below W.heap.size W U
  ka : TC U A d0 d1 d2
  fa : TF U A
  kb : TC U B a0 a1 a2
  fb : TF U B
  ml : ML U
  pl : PL U
theorem gm_keep {W U U' : World} {A B : Nat} {d0 d1 d2 a0 a1 a2 : Int} (h : GM W A B d0 d1 d2 a0 a1 a2 U) (hb : Below U.heap.size U U') : GM W A B d0 d1 d2 a0 a1 a2 U' :=
  ⟨b_trans h.b hb, tc_keep hb h.ka, tf_keep hb h.ka h.fa, tc_keep hb h.kb, tf_keep hb h.kb h.fb, ml_keep hb h.ml, pl_keep hb h.pl⟩
theorem gm_put0 {W U : World} {A B : Nat} {d0 d1 d2 a0 a1 a2 u v : Int} (h : GM W A B d0 d1 d2 a0 a1 a2 U) (qA : W.heap.size ≤ A) (qB : W.heap.size ≤ B) (oA : 1 < A) (oB : 1 < B) (n : A ≠ B) :
    GM W A B u d1 d2 v a1 a2 ((U.setCell ⟨A, 0, none⟩ (.int .i64 u)).setCell ⟨B, 0, none⟩ (.int .i64 v)) :=
  ⟨b_set (b_set h.b qA) qB, tc_set (tc_put0 h.ka) n.symm, tf_set (tf_set h.fa), tc_put0 (tc_set h.kb n), tf_set (tf_set h.fb), ml_set (ml_set h.ml oA) oB, pl_put (pl_put h.pl (by omega)) (by omega)⟩
theorem gm_put1 {W U : World} {A B : Nat} {d0 d1 d2 a0 a1 a2 u v : Int} (h : GM W A B d0 d1 d2 a0 a1 a2 U) (qA : W.heap.size ≤ A) (qB : W.heap.size ≤ B) (oA : 1 < A) (oB : 1 < B) (n : A ≠ B) :
    GM W A B d0 u d2 a0 v a2 ((U.setCell ⟨A, 1, none⟩ (.int .i64 u)).setCell ⟨B, 1, none⟩ (.int .i64 v)) :=
  ⟨b_set (b_set h.b qA) qB, tc_set (tc_put1 h.ka) n.symm, tf_set (tf_set h.fa), tc_put1 (tc_set h.kb n), tf_set (tf_set h.fb), ml_set (ml_set h.ml oA) oB, pl_put (pl_put h.pl (by omega)) (by omega)⟩
theorem gm_put2 {W U : World} {A B : Nat} {d0 d1 d2 a0 a1 a2 u v : Int} (h : GM W A B d0 d1 d2 a0 a1 a2 U) (qA : W.heap.size ≤ A) (qB : W.heap.size ≤ B) (oA : 1 < A) (oB : 1 < B) (n : A ≠ B) :
    GM W A B d0 d1 u a0 a1 v ((U.setCell ⟨A, 2, none⟩ (.int .i64 u)).setCell ⟨B, 2, none⟩ (.int .i64 v)) :=
  ⟨b_set (b_set h.b qA) qB, tc_set (tc_put2 h.ka) n.symm, tf_set (tf_set h.fa), tc_put2 (tc_set h.kb n), tf_set (tf_set h.fb), ml_set (ml_set h.ml oA) oB, pl_put (pl_put h.pl (by omega)) (by omega)⟩
theorem gm_drew {W U : World} {A B : Nat} {d0 d1 d2 a0 a1 a2 : Int} (h : GM W A B d0 d1 d2 a0 a1 a2 U) : GM W A B d0 d1 d2 a0 a1 a2 U.drew := gm_keep h (b_drew (Below.refl _ _))
theorem gm_one {W U : World} {A B g o : Nat} {d0 d1 d2 a0 a1 a2 : Int} {x : Value} (h : GM W A B d0 d1 d2 a0 a1 a2 U) (q : W.heap.size ≤ g) (q1 : 1 < g) (gA : g ≠ A) (gB : g ≠ B) : GM W A B d0 d1 d2 a0 a1 a2 (U.setCell ⟨g, o, none⟩ x) :=
  ⟨b_set h.b q, tc_set h.ka gA, tf_set h.fa, tc_set h.kb gB, tf_set h.fb, ml_set h.ml q1, pl_put h.pl (by omega)⟩
theorem gm_far {W w : World} {A B g : Nat} {d0 d1 d2 a0 a1 a2 : Int} {m' : Nat → Int} (h : GM W A B d0 d1 d2 a0 a1 a2 w) (q : W.heap.size ≤ g) (q1 : 1 < g) (gA : g ≠ A) (gB : g ≠ B) : GM W A B d0 d1 d2 a0 a1 a2 ((((((w.setCell ⟨g, 0, none⟩ (.int .i64 (m' 0))).setCell ⟨g, 1, none⟩ (.int .i64 (m' 1))).setCell ⟨g, 2, none⟩ (.int .i64 (m' 2))).setCell ⟨g, 3, none⟩ (.int .i64 (m' 3))).setCell ⟨g, 4, none⟩ (.int .i64 (m' 4))).setCell ⟨g, 5, none⟩ (.int .i64 (m' 5))) :=
  gm_one (gm_one (gm_one (gm_one (gm_one (gm_one h q q1 gA gB) q q1 gA gB) q q1 gA gB) q q1 gA gB) q q1 gA gB) q q1 gA gB
theorem sc_whole {w : World} {g : Nat} {m m' : Nat → Int} (h : SC w g m) : SC ((((((w.setCell ⟨g, 0, none⟩ (.int .i64 (m' 0))).setCell ⟨g, 1, none⟩ (.int .i64 (m' 1))).setCell ⟨g, 2, none⟩ (.int .i64 (m' 2))).setCell ⟨g, 3, none⟩ (.int .i64 (m' 3))).setCell ⟨g, 4, none⟩ (.int .i64 (m' 4))).setCell ⟨g, 5, none⟩ (.int .i64 (m' 5))) g m' := by
  obtain ⟨c0, c1, c2, c3, c4, c5⟩ := sc_six h
  exact six_sc (by simp [SC6, go_sem, c0, c1, c2, c3, c4, c5])

set_option maxHeartbeats 8000000 in
set_option maxRecDepth 10000 in
theorem spreadGrows_go (d0 d1 d2 a0 a1 a2 c0 c1 c2 u0 u1 u2 e0 e1 e2 v0 v1 v2 : Int) (X : Nat → Int)
    (mn0 : (if 72057594037927936 < d0 then 72057594037927936 else d0) = c0) (mx0 : (if c0 < 0 then 0 else c0) = u0) (mm0 : (if 72057594037927936 < a0 then 72057594037927936 else a0) = e0) (my0 : (if e0 < 0 then 0 else e0) = v0)
    (mn1 : (if 72057594037927936 < d1 then 72057594037927936 else d1) = c1) (mx1 : (if c1 < 0 then 0 else c1) = u1) (mm1 : (if 72057594037927936 < a1 then 72057594037927936 else a1) = e1) (my1 : (if e1 < 0 then 0 else e1) = v1)
    (mn2 : (if 72057594037927936 < d2 then 72057594037927936 else d2) = c2) (mx2 : (if c2 < 0 then 0 else c2) = u2) (mm2 : (if 72057594037927936 < a2 then 72057594037927936 else a2) = e2) (my2 : (if e2 < 0 then 0 else e2) = v2)
    (cO : ∀ w, ML w → PL w → Calls Tryd.prog 6 #[sv (dgm u0 u1 u2), tv v0 v1 v2] w (RetV (.tuple #[sv X, .int .i64 0]) w)) (hX0 : u0 ≤ X 0) (hX1 : u1 ≤ X 3) (hX2 : IntKind.i64.wrap (u2 + v2) = X 5) (w : World) (hl : ML w) (hp : PL w) :
    Calls Tryd.prog 4 #[tv d0 d1 d2, tv a0 a1 a2] w (RetV (.bool true) w) := by
  have H0 := Lib.hid (And.intro mn0 (And.intro mx0 (And.intro mm0 my0)))
  have H1 := Lib.hid (And.intro mn1 (And.intro mx1 (And.intro mm1 my1)))
  have H2 := Lib.hid (And.intro mn2 (And.intro mx2 (And.intro mm2 my2)))
  have HX := Lib.hid (And.intro hX0 (And.intro hX1 hX2))
  clear mn0 mx0 mm0 my0 mn1 mx1 mm1 my1 mn2 mx2 mm2 my2 hX0 hX1 hX2
  have z1 := ml_lt hl
  have s : GM w w.heap.size (w.heap.size + 1) d0 d1 d2 a0 a1 a2 ((w.alloc (Obj.cells #[.int .i64 d0, .int .i64 d1, .int .i64 d2] 25)).alloc (Obj.cells #[.int .i64 a0, .int .i64 a1, .int .i64 a2] 25)) := ⟨b_alloc (b_alloc (Below.refl _ _)), tc_alloc (tc_new rfl), tf_keep (b_alloc (Below.refl _ _)) (tc_new rfl) (tf_new rfl), tc_new (by simp), tf_new (by simp), ml_keep (b_alloc (b_alloc (Below.refl _ _))) hl, pl_keep (b_alloc (b_alloc (Below.refl _ _))) hp⟩
  clear hl hp
  replace s := Lib.hid s
  have qA : w.heap.size ≤ w.heap.size := Nat.le_refl _
  have qB : w.heap.size ≤ w.heap.size + 1 := Nat.le_succ _
  have oA : 1 < w.heap.size := z1
  have oB : 1 < w.heap.size + 1 := by omega
  have nAB : w.heap.size ≠ w.heap.size + 1 := by omega
  clear z1
  go_enter Tryd.func4, Tryd.ntmps4
  go_wp2
  generalize ((w.alloc (Obj.cells #[.int .i64 d0, .int .i64 d1, .int .i64 d2] 25)).alloc (Obj.cells #[.int .i64 a0, .int .i64 a1, .int .i64 a2] 25)) = y0 at *
  replace s := s.out
  refine wp_loop_rounds 4 ?_
  rw [rounds_succ]
  obtain ⟨mn0, mx0, mm0, my0⟩ := H0.out
  clear H0
  go_wp2
  refine wp_part (fun a_ w_ => a_ = ⟨#[tv d0 d1 d2, tv a0 a1 a2, .pointer (some ⟨w.heap.size, 0, none⟩), (.pointer (some ⟨w.heap.size + 1, 0, none⟩)), .bool false, .int .i64 0, undef, undef, undef, .int .i64 0, .bool true, .int .i64 0, .int .i64 0, .int .i64 0, .int .i64 0, .pointer (some ⟨w.heap.size, 0, none⟩), .int .i64 d0, .int .i64 c0, .int .i64 u0, .int .i64 0, (.pointer (some ⟨w.heap.size + 1, 0, none⟩)), .int .i64 a0, .int .i64 e0, .int .i64 v0, .pointer (some ⟨w.heap.size, 0, none⟩), (.pointer (some ⟨w.heap.size + 1, 0, none⟩)), undef, undef, undef, undef, undef, undef, undef, undef, undef, undef, undef, undef, undef, undef, undef, undef, undef, undef, undef, undef, undef, undef, undef, undef, undef, undef, undef, undef, undef, undef, undef, undef, undef, undef, undef, undef, undef], []⟩ ∧ GM w w.heap.size (w.heap.size + 1) u0 d1 d2 v0 a1 a2  w_) ?rest0 ?first0
  case first0 =>
    intro Q hQ
    have ka := s.ka
    have fa := s.fa
    have kb := s.kb
    have fb := s.fb
    have K := Lib.hid (gm_drew (gm_put0 (u := u0) (v := v0) s qA qB oA oB nAB))
    go_region
    exact hQ _ _ ⟨rfl, K.out⟩
  clear mn0 mx0 mm0 my0 s
  rintro _ y1 ⟨rfl, s⟩
  go_wp2
  rw [rounds_succ]
  obtain ⟨mn1, mx1, mm1, my1⟩ := H1.out
  clear H1
  go_wp2
  refine wp_part (fun a_ w_ => a_ = ⟨#[tv d0 d1 d2, tv a0 a1 a2, .pointer (some ⟨w.heap.size, 0, none⟩), (.pointer (some ⟨w.heap.size + 1, 0, none⟩)), .bool false, .int .i64 1, undef, undef, undef, .int .i64 1, .bool true, .int .i64 1, .int .i64 1, .int .i64 1, .int .i64 1, .pointer (some ⟨w.heap.size, 1, none⟩), .int .i64 d1, .int .i64 c1, .int .i64 u1, .int .i64 1, (.pointer (some ⟨w.heap.size + 1, 1, none⟩)), .int .i64 a1, .int .i64 e1, .int .i64 v1, .pointer (some ⟨w.heap.size, 1, none⟩), (.pointer (some ⟨w.heap.size + 1, 1, none⟩)), .int .i64 1, undef, undef, undef, undef, undef, undef, undef, undef, undef, undef, undef, undef, undef, undef, undef, undef, undef, undef, undef, undef, undef, undef, undef, undef, undef, undef, undef, undef, undef, undef, undef, undef, undef, undef, undef, undef], []⟩ ∧ GM w w.heap.size (w.heap.size + 1) u0 u1 d2 v0 v1 a2  w_) ?rest1 ?first1
  case first1 =>
    intro Q hQ
    have ka := s.ka
    have fa := s.fa
    have kb := s.kb
    have fb := s.fb
    have K := Lib.hid (gm_drew (gm_put1 (u := u1) (v := v1) s qA qB oA oB nAB))
    go_region
    exact hQ _ _ ⟨rfl, K.out⟩
  clear mn1 mx1 mm1 my1 s
  rintro _ y2 ⟨rfl, s⟩
  go_wp2
  rw [rounds_succ]
  obtain ⟨mn2, mx2, mm2, my2⟩ := H2.out
  clear H2
  go_wp2
  refine wp_part (fun a_ w_ => a_ = ⟨#[tv d0 d1 d2, tv a0 a1 a2, .pointer (some ⟨w.heap.size, 0, none⟩), (.pointer (some ⟨w.heap.size + 1, 0, none⟩)), .bool false, .int .i64 2, undef, undef, undef, .int .i64 2, .bool true, .int .i64 2, .int .i64 2, .int .i64 2, .int .i64 2, .pointer (some ⟨w.heap.size, 2, none⟩), .int .i64 d2, .int .i64 c2, .int .i64 u2, .int .i64 2, (.pointer (some ⟨w.heap.size + 1, 2, none⟩)), .int .i64 a2, .int .i64 e2, .int .i64 v2, .pointer (some ⟨w.heap.size, 2, none⟩), (.pointer (some ⟨w.heap.size + 1, 2, none⟩)), .int .i64 2, undef, undef, undef, undef, undef, undef, undef, undef, undef, undef, undef, undef, undef, undef, undef, undef, undef, undef, undef, undef, undef, undef, undef, undef, undef, undef, undef, undef, undef, undef, undef, undef, undef, undef, undef, undef], []⟩ ∧ GM w w.heap.size (w.heap.size + 1) u0 u1 u2 v0 v1 v2  w_) ?rest2 ?first2
  case first2 =>
    intro Q hQ
    have ka := s.ka
    have fa := s.fa
    have kb := s.kb
    have fb := s.fb
    have K := Lib.hid (gm_drew (gm_put2 (u := u2) (v := v2) s qA qB oA oB nAB))
    go_region
    exact hQ _ _ ⟨rfl, K.out⟩
  clear mn2 mx2 mm2 my2 s
  rintro _ y3 ⟨rfl, s⟩
  go_wp2
  rw [rounds_succ]
  clear oB nAB
  go_wp2
  refine region_late [28, 29, 30, 31, 27, 32, 33, 6] 6 (fun i_ X_ U_ => match i_ with | 0 => X_ = .agg #[.int .i64 u0, .int .i64 u1, .int .i64 u2] | 1 => X_ = .agg #[.int .i64 (dgm u0 u1 u2 0), .int .i64 (dgm u0 u1 u2 1), .int .i64 (dgm u0 u1 u2 2), .int .i64 (dgm u0 u1 u2 3), .int .i64 (dgm u0 u1 u2 4), .int .i64 (dgm u0 u1 u2 5)] | 2 => X_ = .agg #[.int .i64 v0, .int .i64 v1, .int .i64 v2] | 3 => X_ = .tuple #[.agg #[.int .i64 (X 0), .int .i64 (X 1), .int .i64 (X 2), .int .i64 (X 3), .int .i64 (X 4), .int .i64 (X 5)], .int .i64 0] | 4 => X_ = .tuple #[.agg #[.int .i64 (X 0), .int .i64 (X 1), .int .i64 (X 2), .int .i64 (X 3), .int .i64 (X 4), .int .i64 (X 5)], .int .i64 0] | 5 => X_ = .agg #[.int .i64 (X 0), .int .i64 (X 1), .int .i64 (X 2), .int .i64 (X 3), .int .i64 (X 4), .int .i64 (X 5)] | 6 => X_ = .int .i64 0 | 7 => ∃ g, X_ = .pointer (some ⟨g, 0, none⟩) ∧ y3.heap.size ≤ g ∧ SC U_ g (fun _ => 0) ∧ SF U_ g | _ => True) (fun i_ => i_ == 7) (by kernel_rfl) (by kernel_rfl) (by kernel_rfl) (by kernel_rfl) ?_ ?_ ?_ ?_ ?_
  · refine swp (upS (upS (upS (upS (upS (upS (upS (upS up0 ?_) ?_) ?_) ?_) ?_) ?_) ?_) ?_)
    · exact fun _ _ _ h _ => h
    · exact fun _ _ _ h _ => h
    · exact fun _ _ _ h _ => h
    · exact fun _ _ _ h _ => h
    · exact fun _ _ _ h _ => h
    · exact fun _ _ _ h _ => h
    · exact fun _ _ _ h _ => h
    · intro x w w' h hb; obtain ⟨g, e, hg, hc, hf⟩ := h; exact ⟨g, e, hg, sc_keep hb hc, sf_keep hb hc hf⟩
  · refine swa (upS (upS (upS (upS (upS (upS (upS (upS up0 ?_) ?_) ?_) ?_) ?_) ?_) ?_) ?_)
    · exact fun _ _ ha => absurd ha (by decide)
    · exact fun _ _ ha => absurd ha (by decide)
    · exact fun _ _ ha => absurd ha (by decide)
    · exact fun _ _ ha => absurd ha (by decide)
    · exact fun _ _ ha => absurd ha (by decide)
    · exact fun _ _ ha => absurd ha (by decide)
    · exact fun _ _ ha => absurd ha (by decide)
    · intro x w _ h; obtain ⟨g, rfl, _, hg, _⟩ := h; exact sc_lt hg
  · refine upS (upS (upS (upS (upS (upS (upS (upS up0 ?_) ?_) ?_) ?_) ?_) ?_) ?_) ?_
    all_goals intro v f w' hb hv hB hd
    · have b2 : f.tmps[2]? = some (.pointer (some ⟨w.heap.size, 0, none⟩)) := (hb 2 (by decide)).trans rfl
      clear hb hv hd
      have c := tc_keep hB s.ka
      refine wpOp_step rfl fun K hK => ?_
      go_simp
      exact hK _ _ ⟨_, rfl, Below.refl _ _, rfl, fun h => absurd h (by decide)⟩
    · have d0 := got (hv 0 28 rfl) (hd 0 (by kernel_rfl))
      clear hb hv hd
      refine wpOp_call rfl Tryd.call13 (args1 (eval_tmp d0)) (diag_any u0 u1 u2 _ (pl_keep hB s.pl)) ?_
      rintro e5 w5_ ⟨rfl, hb5⟩
      exact ⟨_, rfl, _, rfl, hb5, rfl, fun h => absurd h (by decide)⟩
    · have b3 : f.tmps[3]? = some (.pointer (some ⟨w.heap.size + 1, 0, none⟩)) := (hb 3 (by decide)).trans rfl
      clear hb hv hd
      have c := tc_keep hB s.kb
      refine wpOp_step rfl fun K hK => ?_
      go_simp
      exact hK _ _ ⟨_, rfl, Below.refl _ _, rfl, fun h => absurd h (by decide)⟩
    · have d1 := got (hv 1 29 rfl) (hd 1 (by kernel_rfl))
      have d2 := got (hv 2 30 rfl) (hd 2 (by kernel_rfl))
      clear hb hv hd
      refine wpOp_call rfl Tryd.call6 (args2 (eval_tmp d1) (eval_tmp d2)) (cO _ (ml_keep hB s.ml) (pl_keep hB s.pl)) ?_
      rintro e5 w5_ ⟨rfl, hb5⟩
      exact ⟨_, rfl, _, rfl, hb5, rfl, fun h => absurd h (by decide)⟩
    · have d3 := got (hv 3 31 rfl) (hd 3 (by kernel_rfl))
      clear hb hv hd
      refine wpOp_step rfl fun K hK => ?_
      go_simp
      exact hK _ _ ⟨_, rfl, Below.refl _ _, rfl, fun h => absurd h (by decide)⟩
    · have d4 := got (hv 4 27 rfl) (hd 4 (by kernel_rfl))
      clear hb hv hd
      refine wpOp_step rfl fun K hK => ?_
      go_simp
      exact hK _ _ ⟨_, rfl, Below.refl _ _, rfl, fun h => absurd h (by decide)⟩
    · have d4 := got (hv 4 27 rfl) (hd 4 (by kernel_rfl))
      clear hb hv hd
      refine wpOp_step rfl fun K hK => ?_
      go_simp
      exact hK _ _ ⟨_, rfl, Below.refl _ _, rfl, fun h => absurd h (by decide)⟩
    · clear hb hv hd
      refine wpOp_step rfl fun K hK => ?_
      go_simp
      exact hK _ _ ⟨_, rfl, b_alloc (Below.refl _ _), ⟨_, rfl, hB.size, sc_new (m := fun _ => 0) rfl, sf_new rfl⟩, fun _ => Nat.le_refl _⟩
  · intro v w' hB hF hD
    have F0 : v 0 = _ := hF 0 (by simp)
    have F1 : v 1 = _ := hF 1 (by simp)
    have F2 : v 2 = _ := hF 2 (by simp)
    have F3 : v 3 = _ := hF 3 (by simp)
    have F4 : v 4 = _ := hF 4 (by simp)
    have F5 : v 5 = _ := hF 5 (by simp)
    have F6 : v 6 = _ := hF 6 (by simp)
    have F7 : ∃ g, (v 7) = .pointer (some ⟨g, 0, none⟩) ∧ y3.heap.size ≤ g ∧ SC w' g (fun _ => 0) ∧ SF w' g := hF 7 (by simp)
    clear hF
    obtain ⟨g, e7, p7, v7, f7⟩ := F7
    simp only [frOf, frGo, Nat.zero_add, Nat.reduceAdd, F0, F1, F2, F3, F4, F5, F6, e7]
    have hz := s.b.size
    have hA := tc_lt s.ka
    have hC := tc_lt s.kb
    replace s := gm_keep s hB
    have kg : SC ((((((w'.setCell ⟨g, 0, none⟩ (.int .i64 (X 0))).setCell ⟨g, 1, none⟩ (.int .i64 (X 1))).setCell ⟨g, 2, none⟩ (.int .i64 (X 2))).setCell ⟨g, 3, none⟩ (.int .i64 (X 3))).setCell ⟨g, 4, none⟩ (.int .i64 (X 4))).setCell ⟨g, 5, none⟩ (.int .i64 (X 5))) g X := sc_whole v7
    have s1 := gm_far (m' := X) s (g := g) (by omega) (by omega) (by omega) (by omega)
    have KK := Lib.hid (And.intro kg s1)
    replace v7 := sc_six v7
    replace f7 := sf_six f7
    clear F0 F1 F2 F3 F4 F5 F6 e7 hB hD kg s1 s cO
    go_wp2_with fail
    generalize (((((w'.setCell ⟨g, 0, none⟩ (.int .i64 (X 0))).setCell ⟨g, 1, none⟩ (.int .i64 (X 1))).setCell ⟨g, 2, none⟩ (.int .i64 (X 2))).setCell ⟨g, 3, none⟩ (.int .i64 (X 3))).setCell ⟨g, 4, none⟩ (.int .i64 (X 4))).setCell ⟨g, 5, none⟩ (.int .i64 (X 5)) = wz at *
    obtain ⟨kg, s⟩ := KK.out
    clear KK p7 hz v7 f7
    refine (main_any X _ s.pl).mono ?_
    rintro e8 w8 ⟨rfl, hb8⟩
    replace s := gm_keep s hb8
    clear hb8 kg
    have k8 : TC (w8.alloc (Obj.cells #[.int .i64 (X 0), .int .i64 (X 3), .int .i64 (X 5)] 25)) w8.heap.size (X 0) (X 3) (X 5) := tc_new rfl
    replace s := gm_keep s (b_alloc (o := (Obj.cells #[.int .i64 (X 0), .int .i64 (X 3), .int .i64 (X 5)] 25)) (Below.refl _ _))
    go_wp2_with fail
    generalize w8.alloc (Obj.cells #[.int .i64 (X 0), .int .i64 (X 3), .int .i64 (X 5)] 25) = w9 at *
    generalize w8.heap.size = Mb at *
    refine (fixed_spr _ s.ml s.pl).mono ?_
    rintro e9 wa ⟨rfl, hb9⟩
    replace s := gm_keep s hb9
    replace k8 := tc_keep hb9 k8
    clear hb9
    have ka := s.ka
    have kb := s.kb
    have B9 := s.b
    clear s
    obtain ⟨hX0, hX1, hX2⟩ := HX.out
    clear HX
    go_wp2
    go_ret
    exact ⟨by simp, B9⟩
  · intro v w' hB hF hD
    have F0 : v 0 = _ := hF 0 (by simp) (by decide)
    have F1 : v 1 = _ := hF 1 (by simp) (by decide)
    have F2 : v 2 = _ := hF 2 (by simp) (by decide)
    have F3 : v 3 = _ := hF 3 (by simp) (by decide)
    have F4 : v 4 = _ := hF 4 (by simp) (by decide)
    have F5 : v 5 = _ := hF 5 (by simp) (by decide)
    have F7 : ∃ g, (v 7) = .pointer (some ⟨g, 0, none⟩) ∧ y3.heap.size ≤ g ∧ SC w' g (fun _ => 0) ∧ SF w' g := hF 7 (by simp) (by decide)
    clear hF
    obtain ⟨g, e7, p7, v7, f7⟩ := F7
    simp only [frOf, frGo, Nat.zero_add, Nat.reduceAdd, F0, F1, F2, F3, F4, F5, e7]
    have hz := s.b.size
    have hA := tc_lt s.ka
    have hC := tc_lt s.kb
    replace s := gm_keep s hB
    have kg : SC ((((((w'.setCell ⟨g, 0, none⟩ (.int .i64 (X 0))).setCell ⟨g, 1, none⟩ (.int .i64 (X 1))).setCell ⟨g, 2, none⟩ (.int .i64 (X 2))).setCell ⟨g, 3, none⟩ (.int .i64 (X 3))).setCell ⟨g, 4, none⟩ (.int .i64 (X 4))).setCell ⟨g, 5, none⟩ (.int .i64 (X 5))) g X := sc_whole v7
    have s1 := gm_far (m' := X) s (g := g) (by omega) (by omega) (by omega) (by omega)
    have KK := Lib.hid (And.intro kg s1)
    replace v7 := sc_six v7
    replace f7 := sf_six f7
    clear F0 F1 F2 F3 F4 F5 e7 hB hD kg s1 s cO
    refine wpOp_step rfl (fun K hK => ?_)
    go_simp
    refine hK _ _ ?_
    clear hK K
    refine wpOp_step rfl (fun K hK => ?_)
    go_simp
    refine hK _ _ ?_
    clear hK K
    go_wp2_with fail
    generalize (((((w'.setCell ⟨g, 0, none⟩ (.int .i64 (X 0))).setCell ⟨g, 1, none⟩ (.int .i64 (X 1))).setCell ⟨g, 2, none⟩ (.int .i64 (X 2))).setCell ⟨g, 3, none⟩ (.int .i64 (X 3))).setCell ⟨g, 4, none⟩ (.int .i64 (X 4))).setCell ⟨g, 5, none⟩ (.int .i64 (X 5)) = wz at *
    obtain ⟨kg, s⟩ := KK.out
    clear KK p7 hz v7 f7
    refine (main_any X _ s.pl).mono ?_
    rintro e8 w8 ⟨rfl, hb8⟩
    replace s := gm_keep s hb8
    clear hb8 kg
    have k8 : TC (w8.alloc (Obj.cells #[.int .i64 (X 0), .int .i64 (X 3), .int .i64 (X 5)] 25)) w8.heap.size (X 0) (X 3) (X 5) := tc_new rfl
    replace s := gm_keep s (b_alloc (o := (Obj.cells #[.int .i64 (X 0), .int .i64 (X 3), .int .i64 (X 5)] 25)) (Below.refl _ _))
    go_wp2_with fail
    generalize w8.alloc (Obj.cells #[.int .i64 (X 0), .int .i64 (X 3), .int .i64 (X 5)] 25) = w9 at *
    generalize w8.heap.size = Mb at *
    refine (fixed_spr _ s.ml s.pl).mono ?_
    rintro e9 wa ⟨rfl, hb9⟩
    replace s := gm_keep s hb9
    replace k8 := tc_keep hb9 k8
    clear hb9
    have ka := s.ka
    have kb := s.kb
    have B9 := s.b
    clear s
    obtain ⟨hX0, hX1, hX2⟩ := HX.out
    clear HX
    go_wp2
    go_ret
    exact ⟨by simp, B9⟩

/-- The entries of a diagonal's product. -/
theorem grow_nums (x y z : Int) : rawn (dgm x y z) 0 = 1073741824 * x + 65536 * y + z ∧ rawn (dgm x y z) 1 = 8388608 * y + 256 * z ∧ rawn (dgm x y z) 2 = -32768 * z ∧
    rawn (dgm x y z) 3 = 1073741824 * y + 65536 * z ∧ rawn (dgm x y z) 4 = -8388608 * z ∧ rawn (dgm x y z) 5 = 1073741824 * z := by
  refine ⟨?_, ?_, ?_, ?_, ?_, ?_⟩ <;> simp [rawn, rwn, smT, tmn, mvn, pln, dgm, List.range, List.range.loop] <;> omega
theorem evn_between {z a b : Int} (h : a * 1073741824 ≤ z) (k : z ≤ b * 1073741824) : a ≤ evn z 1073741824 ∧ evn z 1073741824 ≤ b := by
  have h1 := evn_mono h (B := 1073741824) (by decide)
  have h2 := evn_mono k (B := 1073741824) (by decide)
  rw [evn_mul a (by decide)] at h1
  rw [evn_mul b (by decide)] at h2
  exact ⟨h1, h2⟩
theorem sum_ok {a b : Nat → Int} (ha : F6 a) (hb : F6 b) (h : ∀ i, i < 6 → FitP (a i + b i)) : sume a b = 0 ∧ ∀ i, i < 6 → sumz a b i = a i + b i := by
  have e : se (fun i => ge (a i) (b i) (a i + b i)) = 0 := se_all (fun i hi => (gz_of ⟨ha i hi, hb i hi⟩ _).2.trans (nz_of (h i hi)).2)
  unfold sume sumz
  rw [if_pos ⟨ha, hb⟩, if_pos ⟨ha, hb⟩]
  refine ⟨e, fun i hi => ?_⟩
  unfold sz
  rw [if_pos e]
  exact (gz_of ⟨ha i hi, hb i hi⟩ _).1.trans (nz_of (h i hi)).1
theorem top_bd {d c u : Int} (h : (if 72057594037927936 < d then 72057594037927936 else d) = c) (k : (if c < 0 then 0 else c) = u) : 0 ≤ u ∧ u ≤ 72057594037927936 := by
  by_cases a : 72057594037927936 < d
  · rw [if_pos a] at h
    by_cases b : c < 0
    · rw [if_pos b] at k; omega
    · rw [if_neg b] at k; omega
  · rw [if_neg a] at h
    by_cases b : c < 0
    · rw [if_pos b] at k; omega
    · rw [if_neg b] at k; omega
/-- A number from 0 to 2^56. -/
def top (d : Int) : Int := if (if 72057594037927936 < d then 72057594037927936 else d) < 0 then 0 else (if 72057594037927936 < d then 72057594037927936 else d)
/-- What comes of a diagonal. -/
theorem grow_ok {u0 u1 u2 v0 v1 v2 : Int} (h0 : 0 ≤ u0 ∧ u0 ≤ 72057594037927936) (h1 : 0 ≤ u1 ∧ u1 ≤ 72057594037927936) (h2 : 0 ≤ u2 ∧ u2 ≤ 72057594037927936)
    (k0 : 0 ≤ v0 ∧ v0 ≤ 72057594037927936) (k1 : 0 ≤ v1 ∧ v1 ≤ 72057594037927936) (k2 : 0 ≤ v2 ∧ v2 ≤ 72057594037927936) :
    one (dgm u0 u1 u2) v0 v1 v2 = 0 ∧ u0 ≤ onz (dgm u0 u1 u2) v0 v1 v2 0 ∧ u1 ≤ onz (dgm u0 u1 u2) v0 v1 v2 3 ∧ u2 + v2 = onz (dgm u0 u1 u2) v0 v1 v2 5 := by
  obtain ⟨r0, r1, r2, r3, r4, r5⟩ := grow_nums u0 u1 u2
  have E0 := evn_between (z := rawn (dgm u0 u1 u2) 0) (a := u0) (b := u0 + 8796093022208) (by rw [r0]; omega) (by rw [r0]; omega)
  have E1 := evn_between (z := rawn (dgm u0 u1 u2) 1) (a := 0) (b := 72057594037927936) (by rw [r1]; omega) (by rw [r1]; omega)
  have E2 := evn_between (z := rawn (dgm u0 u1 u2) 2) (a := -72057594037927936) (b := 0) (by rw [r2]; omega) (by rw [r2]; omega)
  have E3 := evn_between (z := rawn (dgm u0 u1 u2) 3) (a := u1) (b := u1 + 8796093022208) (by rw [r3]; omega) (by rw [r3]; omega)
  have E4 := evn_between (z := rawn (dgm u0 u1 u2) 4) (a := -72057594037927936) (b := 0) (by rw [r4]; omega) (by rw [r4]; omega)
  have E5 := evn_between (z := rawn (dgm u0 u1 u2) 5) (a := u2) (b := u2) (by rw [r5]; omega) (by rw [r5]; omega)
  have c : F6 (dgm u0 u1 u2) ∧ F3 v0 v1 v2 := by
    obtain ⟨d0, d1, d2, d3, d4, d5⟩ := dgm_lits u0 u1 u2
    exact ⟨six (P := fun i => FitP (dgm u0 u1 u2 i)) (by rw [d0]; omega) (by rw [d1]; decide) (by rw [d2]; decide) (by rw [d3]; omega) (by rw [d4]; decide) (by rw [d5]; omega), ⟨by omega, by omega⟩, ⟨by omega, by omega⟩, ⟨by omega, by omega⟩⟩
  obtain ⟨d0, d1, d2, d3, d4, d5⟩ := dgm_lits v0 v1 v2
  have Q : F6 (qun (dgm u0 u1 u2)) := six (P := fun i => FitP (qun (dgm u0 u1 u2) i)) (by unfold qun; omega) (by unfold qun; omega) (by unfold qun; omega) (by unfold qun; omega) (by unfold qun; omega) (by unfold qun; omega)
  have D : F6 (dgm v0 v1 v2) := six (P := fun i => FitP (dgm v0 v1 v2 i)) (by rw [d0]; omega) (by rw [d1]; decide) (by rw [d2]; decide) (by rw [d3]; omega) (by rw [d4]; decide) (by rw [d5]; omega)
  have S := sum_ok Q D (six (P := fun i => FitP (qun (dgm u0 u1 u2) i + dgm v0 v1 v2 i)) (by rw [d0]; unfold qun; omega) (by rw [d1]; unfold qun; omega) (by rw [d2]; unfold qun; omega) (by rw [d3]; unfold qun; omega) (by rw [d4]; unfold qun; omega) (by rw [d5]; unfold qun; omega))
  rw [(on_good c Q).1, (on_good c Q).2]
  refine ⟨S.1, ?_, ?_, ?_⟩
  · rw [S.2 0 (by decide), d0]; unfold qun; omega
  · rw [S.2 3 (by decide), d3]; unfold qun; omega
  · rw [S.2 5 (by decide), d5]; unfold qun; omega
theorem spreadGrows_any (d0 d1 d2 a0 a1 a2 : Int) (w : World) (hl : ML w) (hp : PL w) :
    Calls Tryd.prog 4 #[tv d0 d1 d2, tv a0 a1 a2] w (RetV (.bool true) w) := by
  have T := fun d : Int => top_bd (d := d) (u := top d) rfl rfl
  obtain ⟨h1, h2, h3, h4⟩ := grow_ok (T d0) (T d1) (T d2) (T a0) (T a1) (T a2)
  have b : ∀ d, I64 (top d) := fun d => ⟨by have := T d; omega, by have := T d; omega⟩
  have cO := fun w h k => on_spr (dgm (top d0) (top d1) (top d2)) (top a0) (top a1) (top a2) (dgm_i6 (b d0) (b d1) (b d2)) (b a0) (b a1) (b a2) w h k
  rw [h1] at cO
  refine spreadGrows_go d0 d1 d2 a0 a1 a2 _ _ _ (top d0) (top d1) (top d2) _ _ _ (top a0) (top a1) (top a2) _ rfl rfl rfl rfl rfl rfl rfl rfl rfl rfl rfl rfl cO h2 h3 ?_ w hl hp
  rw [← h4, IntKind.wrap_i64]
  have := T d2
  have := T a2
  omega
end Go.Proofs.YtlpmmnfijfljoaaDoor
