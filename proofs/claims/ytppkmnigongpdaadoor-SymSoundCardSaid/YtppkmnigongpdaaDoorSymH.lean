/- SymSound: what the law's call answers: true, for every matrix and every two rows. -/
import Derived.Test.YtppkmnigongpdaaDoorSymG
namespace Go.Proofs.YtppkmnigongpdaaDoor
open Go.RowKit Go.Shelf

/-- What the law's walk keeps: the arguments, the lower floor, what is added. -/
def HM (W : World) (A B C L U : Nat) (m : Nat → Int) (f0 f1 f2 b0 b1 b2 l0 l1 l2 u0 u1 u2 : Int) (w : World) : Prop :=
  Below W.heap.size W w ∧ SC w A m ∧ TC w B f0 f1 f2 ∧ TC w C b0 b1 b2 ∧ TC w L l0 l1 l2 ∧ TF w L ∧ TC w U u0 u1 u2 ∧ TF w U ∧ PL w
theorem hm_keep {W : World} {A B C L U : Nat} {m : Nat → Int} {f0 f1 f2 b0 b1 b2 l0 l1 l2 u0 u1 u2 : Int} {w : World} {w' : World} (h : HM W A B C L U m f0 f1 f2 b0 b1 b2 l0 l1 l2 u0 u1 u2 w) (hb : Below w.heap.size w w') : HM W A B C L U m f0 f1 f2 b0 b1 b2 l0 l1 l2 u0 u1 u2 w' := by
  obtain ⟨h0, h1, h2, h3, h4, h5, h6, h7, h8⟩ := h
  exact ⟨b_trans h0 hb, sc_keep hb h1, tc_keep hb h2, tc_keep hb h3, tc_keep hb h4, tf_keep hb h4 h5, tc_keep hb h6, tf_keep hb h6 h7, pl_keep hb h8⟩
theorem hm_far {W : World} {A B C L U : Nat} {m : Nat → Int} {f0 f1 f2 b0 b1 b2 l0 l1 l2 u0 u1 u2 : Int} {w : World} {g o : Nat} {v : Value} (h : HM W A B C L U m f0 f1 f2 b0 b1 b2 l0 l1 l2 u0 u1 u2 w) (hg : W.heap.size ≤ g) (g0 : 0 < g) (ga : g ≠ A) (gb : g ≠ B) (gc : g ≠ C) (gl : g ≠ L) (gu : g ≠ U) : HM W A B C L U m f0 f1 f2 b0 b1 b2 l0 l1 l2 u0 u1 u2 (w.setCell ⟨g, o, none⟩ v) := by
  obtain ⟨h0, h1, h2, h3, h4, h5, h6, h7, h8⟩ := h
  exact ⟨b_set h0 hg, sc_set h1 ga, tc_set h2 gb, tc_set h3 gc, tc_set h4 gl, tf_set h5, tc_set h6 gu, tf_set h7, pl_set h8 g0⟩
theorem hm_lt {W : World} {A B C L U : Nat} {m : Nat → Int} {f0 f1 f2 b0 b1 b2 l0 l1 l2 u0 u1 u2 : Int} {w : World} (h : HM W A B C L U m f0 f1 f2 b0 b1 b2 l0 l1 l2 u0 u1 u2 w) : A < w.heap.size ∧ B < w.heap.size ∧ C < w.heap.size ∧ L < w.heap.size ∧ U < w.heap.size ∧ 0 < w.heap.size ∧ W.heap.size ≤ w.heap.size := by
  obtain ⟨h0, h1, h2, h3, h4, h5, h6, h7, h8⟩ := h
  exact ⟨sc_lt h1, tc_lt h2, tc_lt h3, tc_lt h4, tc_lt h6, pl_lt h8, h0.size⟩
theorem hm_up0 {W : World} {A B C L U : Nat} {m : Nat → Int} {f0 f1 f2 b0 b1 b2 l0 l1 l2 u0 u1 u2 : Int} {w : World} {v : Int} (h : HM W A B C L U m f0 f1 f2 b0 b1 b2 l0 l1 l2 u0 u1 u2 w) (hg : W.heap.size ≤ U) (g0 : 0 < U) (ga : U ≠ A) (gb : U ≠ B) (gc : U ≠ C) (go : U ≠ L) : HM W A B C L U m f0 f1 f2 b0 b1 b2 l0 l1 l2 v u1 u2 (w.setCell ⟨U, 0, none⟩ (.int .i64 v)) := by
  obtain ⟨h0, h1, h2, h3, h4, h5, h6, h7, h8⟩ := h
  obtain ⟨c0, c1, c2⟩ := h6
  exact ⟨b_set h0 hg, sc_set h1 ga, tc_set h2 gb, tc_set h3 gc, tc_set h4 go, tf_set h5, (by simp [TC, go_sem, c0, c1, c2]), tf_set h7, pl_set h8 g0⟩
theorem hm_up1 {W : World} {A B C L U : Nat} {m : Nat → Int} {f0 f1 f2 b0 b1 b2 l0 l1 l2 u0 u1 u2 : Int} {w : World} {v : Int} (h : HM W A B C L U m f0 f1 f2 b0 b1 b2 l0 l1 l2 u0 u1 u2 w) (hg : W.heap.size ≤ U) (g0 : 0 < U) (ga : U ≠ A) (gb : U ≠ B) (gc : U ≠ C) (go : U ≠ L) : HM W A B C L U m f0 f1 f2 b0 b1 b2 l0 l1 l2 u0 v u2 (w.setCell ⟨U, 1, none⟩ (.int .i64 v)) := by
  obtain ⟨h0, h1, h2, h3, h4, h5, h6, h7, h8⟩ := h
  obtain ⟨c0, c1, c2⟩ := h6
  exact ⟨b_set h0 hg, sc_set h1 ga, tc_set h2 gb, tc_set h3 gc, tc_set h4 go, tf_set h5, (by simp [TC, go_sem, c0, c1, c2]), tf_set h7, pl_set h8 g0⟩
theorem hm_up2 {W : World} {A B C L U : Nat} {m : Nat → Int} {f0 f1 f2 b0 b1 b2 l0 l1 l2 u0 u1 u2 : Int} {w : World} {v : Int} (h : HM W A B C L U m f0 f1 f2 b0 b1 b2 l0 l1 l2 u0 u1 u2 w) (hg : W.heap.size ≤ U) (g0 : 0 < U) (ga : U ≠ A) (gb : U ≠ B) (gc : U ≠ C) (go : U ≠ L) : HM W A B C L U m f0 f1 f2 b0 b1 b2 l0 l1 l2 u0 u1 v (w.setCell ⟨U, 2, none⟩ (.int .i64 v)) := by
  obtain ⟨h0, h1, h2, h3, h4, h5, h6, h7, h8⟩ := h
  obtain ⟨c0, c1, c2⟩ := h6
  exact ⟨b_set h0 hg, sc_set h1 ga, tc_set h2 gb, tc_set h3 gc, tc_set h4 go, tf_set h5, (by simp [TC, go_sem, c0, c1, c2]), tf_set h7, pl_set h8 g0⟩
theorem hm_lo0 {W : World} {A B C L U : Nat} {m : Nat → Int} {f0 f1 f2 b0 b1 b2 l0 l1 l2 u0 u1 u2 : Int} {w : World} {v : Int} (h : HM W A B C L U m f0 f1 f2 b0 b1 b2 l0 l1 l2 u0 u1 u2 w) (hg : W.heap.size ≤ L) (g0 : 0 < L) (ga : L ≠ A) (gb : L ≠ B) (gc : L ≠ C) (go : L ≠ U) : HM W A B C L U m f0 f1 f2 b0 b1 b2 v l1 l2 u0 u1 u2 (w.setCell ⟨L, 0, none⟩ (.int .i64 v)) := by
  obtain ⟨h0, h1, h2, h3, h4, h5, h6, h7, h8⟩ := h
  obtain ⟨c0, c1, c2⟩ := h4
  exact ⟨b_set h0 hg, sc_set h1 ga, tc_set h2 gb, tc_set h3 gc, (by simp [TC, go_sem, c0, c1, c2]), tf_set h5, tc_set h6 go, tf_set h7, pl_set h8 g0⟩
theorem hm_lo1 {W : World} {A B C L U : Nat} {m : Nat → Int} {f0 f1 f2 b0 b1 b2 l0 l1 l2 u0 u1 u2 : Int} {w : World} {v : Int} (h : HM W A B C L U m f0 f1 f2 b0 b1 b2 l0 l1 l2 u0 u1 u2 w) (hg : W.heap.size ≤ L) (g0 : 0 < L) (ga : L ≠ A) (gb : L ≠ B) (gc : L ≠ C) (go : L ≠ U) : HM W A B C L U m f0 f1 f2 b0 b1 b2 l0 v l2 u0 u1 u2 (w.setCell ⟨L, 1, none⟩ (.int .i64 v)) := by
  obtain ⟨h0, h1, h2, h3, h4, h5, h6, h7, h8⟩ := h
  obtain ⟨c0, c1, c2⟩ := h4
  exact ⟨b_set h0 hg, sc_set h1 ga, tc_set h2 gb, tc_set h3 gc, (by simp [TC, go_sem, c0, c1, c2]), tf_set h5, tc_set h6 go, tf_set h7, pl_set h8 g0⟩
theorem hm_lo2 {W : World} {A B C L U : Nat} {m : Nat → Int} {f0 f1 f2 b0 b1 b2 l0 l1 l2 u0 u1 u2 : Int} {w : World} {v : Int} (h : HM W A B C L U m f0 f1 f2 b0 b1 b2 l0 l1 l2 u0 u1 u2 w) (hg : W.heap.size ≤ L) (g0 : 0 < L) (ga : L ≠ A) (gb : L ≠ B) (gc : L ≠ C) (go : L ≠ U) : HM W A B C L U m f0 f1 f2 b0 b1 b2 l0 l1 v u0 u1 u2 (w.setCell ⟨L, 2, none⟩ (.int .i64 v)) := by
  obtain ⟨h0, h1, h2, h3, h4, h5, h6, h7, h8⟩ := h
  obtain ⟨c0, c1, c2⟩ := h4
  exact ⟨b_set h0 hg, sc_set h1 ga, tc_set h2 gb, tc_set h3 gc, (by simp [TC, go_sem, c0, c1, c2]), tf_set h5, tc_set h6 go, tf_set h7, pl_set h8 g0⟩
theorem hm_all {W : World} {A B C L U : Nat} {m : Nat → Int} {f0 f1 f2 b0 b1 b2 l0 l1 l2 u0 u1 u2 : Int} {w : World} {g : Nat} {m' : Nat → Int} (h : HM W A B C L U m f0 f1 f2 b0 b1 b2 l0 l1 l2 u0 u1 u2 w) (hg : W.heap.size ≤ g) (g0 : 0 < g) (ga : g ≠ A) (gb : g ≠ B) (gc : g ≠ C) (gl : g ≠ L) (gu : g ≠ U) : HM W A B C L U m f0 f1 f2 b0 b1 b2 l0 l1 l2 u0 u1 u2 ((((((w.setCell ⟨g, 0, none⟩ (.int .i64 (m' 0))).setCell ⟨g, 1, none⟩ (.int .i64 (m' 1))).setCell ⟨g, 2, none⟩ (.int .i64 (m' 2))).setCell ⟨g, 3, none⟩ (.int .i64 (m' 3))).setCell ⟨g, 4, none⟩ (.int .i64 (m' 4))).setCell ⟨g, 5, none⟩ (.int .i64 (m' 5))) :=
  hm_far (hm_far (hm_far (hm_far (hm_far (hm_far h hg g0 ga gb gc gl gu) hg g0 ga gb gc gl gu) hg g0 ga gb gc gl gu) hg g0 ga gb gc gl gu) hg g0 ga gb gc gl gu) hg g0 ga gb gc gl gu
theorem sc_all {w : World} {g : Nat} {m m' : Nat → Int} (h : SC w g m) : SC ((((((w.setCell ⟨g, 0, none⟩ (.int .i64 (m' 0))).setCell ⟨g, 1, none⟩ (.int .i64 (m' 1))).setCell ⟨g, 2, none⟩ (.int .i64 (m' 2))).setCell ⟨g, 3, none⟩ (.int .i64 (m' 3))).setCell ⟨g, 4, none⟩ (.int .i64 (m' 4))).setCell ⟨g, 5, none⟩ (.int .i64 (m' 5))) g m' := by
  obtain ⟨c0, c1, c2, c3, c4, c5⟩ := sc_six h
  exact six_sc (by simp [SC6, go_sem, c0, c1, c2, c3, c4, c5])
set_option maxRecDepth 10000 in
set_option maxHeartbeats 16000000 in
theorem symSound_go (m X : Nat → Int) (f0 f1 f2 b0 b1 b2 c0 c1 c2 u0 u1 u2 g0 g1 g2 l0 l1 l2 n0 n1 n2 e : Int) (sb : Bool)
    (mn0 : (if 1099511627776 < b0 then 1099511627776 else b0) = c0) (mx0 : (if c0 < 0 then 0 else c0) = u0) (mg0 : (if f0 < -1152921504606846976 then -1152921504606846976 else f0) = g0) (ml0 : IntKind.i64.wrap (g0 - u0) = l0) (nn0 : (if f0 < l0 then f0 else l0) = n0)
    (mn1 : (if 1099511627776 < b1 then 1099511627776 else b1) = c1) (mx1 : (if c1 < 0 then 0 else c1) = u1) (mg1 : (if f1 < -1152921504606846976 then -1152921504606846976 else f1) = g1) (ml1 : IntKind.i64.wrap (g1 - u1) = l1) (nn1 : (if f1 < l1 then f1 else l1) = n1)
    (mn2 : (if 1099511627776 < b2 then 1099511627776 else b2) = c2) (mx2 : (if c2 < 0 then 0 else c2) = u2) (mg2 : (if f2 < -1152921504606846976 then -1152921504606846976 else f2) = g2) (ml2 : IntKind.i64.wrap (g2 - u2) = l2) (nn2 : (if f2 < l2 then f2 else l2) = n2)
    (cS : ∀ w, PL w → Calls Tryd.prog 15 #[sv m, tv f0 f1 f2] w (RetV (.bool sb) w))
    (cN : sb = true → ∀ w, PL w → Calls Tryd.prog 15 #[sv m, tv n0 n1 n2] w (RetV (.bool true) w))
    (cA : ∀ w, Calls Tryd.prog 12 #[sv m, sv (dgm u0 u1 u2)] w (RetV (.tuple #[sv X, .int .i64 e]) w))
    (cU : ∀ w, PL w → Calls Tryd.prog 15 #[sv (dgm u0 u1 u2), tv u0 u1 u2] w (RetV (.bool true) w))
    (hs : sb = false ∨ sb = true ∧ (¬ e = 0 ∨ e = 0 ∧ ∀ w, PL w → Calls Tryd.prog 15 #[sv X, tv f0 f1 f2] w (RetV (.bool true) w))) (w : World) (hp : PL w) :
    Calls Tryd.prog 5 #[sv m, tv f0 f1 f2, tv b0 b1 b2] w (RetV (.bool true) w) := by
  have z0 := pl_lt hp
  have s : HM w (w.heap.size) (w.heap.size + 1) (w.heap.size + 1 + 1) (w.heap.size + 1 + 1 + 1) (w.heap.size + 1 + 1 + 1 + 1) m f0 f1 f2 b0 b1 b2 f0 f1 f2 0 0 0 (((((w.alloc (Obj.cells #[.int .i64 (m 0), .int .i64 (m 1), .int .i64 (m 2), .int .i64 (m 3), .int .i64 (m 4), .int .i64 (m 5)] 23)).alloc (Obj.cells #[.int .i64 f0, .int .i64 f1, .int .i64 f2] 32)).alloc (Obj.cells #[.int .i64 b0, .int .i64 b1, .int .i64 b2] 32)).alloc (Obj.cells #[.int .i64 f0, .int .i64 f1, .int .i64 f2] 32)).alloc (Obj.cells #[.int .i64 0, .int .i64 0, .int .i64 0] 32)) := ⟨b_alloc (b_alloc (b_alloc (b_alloc (b_alloc (Below.refl _ _))))), sc_alloc (sc_alloc (sc_alloc (sc_alloc (sc_new (w := w) (m := m) (t := 23) rfl)))), tc_alloc (tc_alloc (tc_alloc (tc_new (w := (w.alloc (Obj.cells #[.int .i64 (m 0), .int .i64 (m 1), .int .i64 (m 2), .int .i64 (m 3), .int .i64 (m 4), .int .i64 (m 5)] 23))) (t := 32) (by simp)))), tc_alloc (tc_alloc (tc_new (w := ((w.alloc (Obj.cells #[.int .i64 (m 0), .int .i64 (m 1), .int .i64 (m 2), .int .i64 (m 3), .int .i64 (m 4), .int .i64 (m 5)] 23)).alloc (Obj.cells #[.int .i64 f0, .int .i64 f1, .int .i64 f2] 32))) (t := 32) (by simp))), tc_alloc (tc_new (w := (((w.alloc (Obj.cells #[.int .i64 (m 0), .int .i64 (m 1), .int .i64 (m 2), .int .i64 (m 3), .int .i64 (m 4), .int .i64 (m 5)] 23)).alloc (Obj.cells #[.int .i64 f0, .int .i64 f1, .int .i64 f2] 32)).alloc (Obj.cells #[.int .i64 b0, .int .i64 b1, .int .i64 b2] 32))) (t := 32) (by simp)), tf_keep (b_alloc (Below.refl _ _)) (tc_new (w := (((w.alloc (Obj.cells #[.int .i64 (m 0), .int .i64 (m 1), .int .i64 (m 2), .int .i64 (m 3), .int .i64 (m 4), .int .i64 (m 5)] 23)).alloc (Obj.cells #[.int .i64 f0, .int .i64 f1, .int .i64 f2] 32)).alloc (Obj.cells #[.int .i64 b0, .int .i64 b1, .int .i64 b2] 32))) (t := 32) (by simp)) (tf_new (w := (((w.alloc (Obj.cells #[.int .i64 (m 0), .int .i64 (m 1), .int .i64 (m 2), .int .i64 (m 3), .int .i64 (m 4), .int .i64 (m 5)] 23)).alloc (Obj.cells #[.int .i64 f0, .int .i64 f1, .int .i64 f2] 32)).alloc (Obj.cells #[.int .i64 b0, .int .i64 b1, .int .i64 b2] 32))) (t := 32) (x := f0) (y := f1) (z := f2) (by simp)), tc_new (w := ((((w.alloc (Obj.cells #[.int .i64 (m 0), .int .i64 (m 1), .int .i64 (m 2), .int .i64 (m 3), .int .i64 (m 4), .int .i64 (m 5)] 23)).alloc (Obj.cells #[.int .i64 f0, .int .i64 f1, .int .i64 f2] 32)).alloc (Obj.cells #[.int .i64 b0, .int .i64 b1, .int .i64 b2] 32)).alloc (Obj.cells #[.int .i64 f0, .int .i64 f1, .int .i64 f2] 32))) (t := 32) (by simp), tf_new (w := ((((w.alloc (Obj.cells #[.int .i64 (m 0), .int .i64 (m 1), .int .i64 (m 2), .int .i64 (m 3), .int .i64 (m 4), .int .i64 (m 5)] 23)).alloc (Obj.cells #[.int .i64 f0, .int .i64 f1, .int .i64 f2] 32)).alloc (Obj.cells #[.int .i64 b0, .int .i64 b1, .int .i64 b2] 32)).alloc (Obj.cells #[.int .i64 f0, .int .i64 f1, .int .i64 f2] 32))) (t := 32) (x := 0) (y := 0) (z := 0) (by simp), pl_keep (b_alloc (b_alloc (b_alloc (b_alloc (b_alloc (Below.refl _ _)))))) hp⟩
  clear hp
  have s1 := Lib.hid s
  clear s
  go_enter Tryd.func5, Tryd.ntmps5
  go_wp2
  generalize (((((w.alloc (Obj.cells #[.int .i64 (m 0), .int .i64 (m 1), .int .i64 (m 2), .int .i64 (m 3), .int .i64 (m 4), .int .i64 (m 5)] 23)).alloc (Obj.cells #[.int .i64 f0, .int .i64 f1, .int .i64 f2] 32)).alloc (Obj.cells #[.int .i64 b0, .int .i64 b1, .int .i64 b2] 32)).alloc (Obj.cells #[.int .i64 f0, .int .i64 f1, .int .i64 f2] 32)).alloc (Obj.cells #[.int .i64 0, .int .i64 0, .int .i64 0] 32)) = v9 at *
  have s := s1.out
  clear s1
  refine wp_loop_rounds 4 ?_
  rw [rounds_succ]
  have cb := s.2.2.2.1
  have cu := s.2.2.2.2.2.2.1
  have fu := s.2.2.2.2.2.2.2.1
  have s1 := Lib.hid (hm_up0 (v := u0) s (by omega) (by omega) (by omega) (by omega) (by omega) (by omega))
  clear s
  go_wp2
  clear cb cu fu
  generalize v9.setCell ⟨w.heap.size + 1 + 1 + 1 + 1, 0, none⟩ (.int .i64 u0) = p0 at *
  have s := s1.out
  clear s1
  refine region_each [24, 25, 26, 27, 28, 29, 30, 31, 32, 33] (fun i_ X_ U_ => match i_ with | 0 => X_ = .int .i64 0 | 1 => X_ = .int .i64 0 | 2 => X_ = .pointer (some ⟨w.heap.size + 1, 0, none⟩) | 3 => X_ = .int .i64 f0 | 4 => X_ = .int .i64 g0 | 5 => X_ = .int .i64 0 | 6 => X_ = .pointer (some ⟨w.heap.size + 1 + 1 + 1 + 1, 0, none⟩) | 7 => X_ = .int .i64 u0 | 8 => X_ = .int .i64 l0 | 9 => X_ = .pointer (some ⟨w.heap.size + 1 + 1 + 1, 0, none⟩) | _ => True) (fun i_ => false) (by kernel_rfl) (by kernel_rfl) (by kernel_rfl) (by kernel_rfl) (by kernel_rfl) ?_ (fun i x w hi ha h => by cases ha) ?_ ?_
  · refine swp (upS (upS (upS (upS (upS (upS (upS (upS (upS (upS up0 ?_) ?_) ?_) ?_) ?_) ?_) ?_) ?_) ?_) ?_)
    all_goals exact fun _ _ _ h _ => h
  · refine upS (upS (upS (upS (upS (upS (upS (upS (upS (upS up0 ?_) ?_) ?_) ?_) ?_) ?_) ?_) ?_) ?_) ?_
    all_goals intro v f w' hb hv hB hd
    · have b9 : f.tmps[9]? = some (.int .i64 0) := (hb 9 (by decide)).trans rfl
      clear hb hv hd
      refine wpOp_step rfl fun K hK => ?_
      go_simp
      exact hK _ _ ⟨_, rfl, Below.refl _ _, rfl, fun h => absurd h (by decide)⟩
    · have b9 : f.tmps[9]? = some (.int .i64 0) := (hb 9 (by decide)).trans rfl
      clear hb hv hd
      refine wpOp_step rfl fun K hK => ?_
      go_simp
      exact hK _ _ ⟨_, rfl, Below.refl _ _, rfl, fun h => absurd h (by decide)⟩
    · have b4 : f.tmps[4]? = some (.pointer (some ⟨w.heap.size + 1, 0, none⟩)) := (hb 4 (by decide)).trans rfl
      have d1 := got (hv 1 25 rfl) (hd 1 (by kernel_rfl))
      clear hb hv hd
      refine wpOp_step rfl fun K hK => ?_
      go_simp
      exact hK _ _ ⟨_, rfl, Below.refl _ _, rfl, fun h => absurd h (by decide)⟩
    · have d2 := got (hv 2 26 rfl) (hd 2 (by kernel_rfl))
      clear hb hv hd
      have c := tc_keep hB s.2.2.1
      refine wpOp_step rfl fun K hK => ?_
      go_simp
      exact hK _ _ ⟨_, rfl, Below.refl _ _, rfl, fun h => absurd h (by decide)⟩
    · have d3 := got (hv 3 27 rfl) (hd 3 (by kernel_rfl))
      clear hb hv hd
      refine wpOp_step rfl fun K hK => ?_
      go_simp
      exact hK _ _ ⟨_, rfl, Below.refl _ _, rfl, fun h => absurd h (by decide)⟩
    · have b9 : f.tmps[9]? = some (.int .i64 0) := (hb 9 (by decide)).trans rfl
      clear hb hv hd
      refine wpOp_step rfl fun K hK => ?_
      go_simp
      exact hK _ _ ⟨_, rfl, Below.refl _ _, rfl, fun h => absurd h (by decide)⟩
    · have b8 : f.tmps[8]? = some (.pointer (some ⟨w.heap.size + 1 + 1 + 1 + 1, 0, none⟩)) := (hb 8 (by decide)).trans rfl
      have d5 := got (hv 5 29 rfl) (hd 5 (by kernel_rfl))
      clear hb hv hd
      refine wpOp_step rfl fun K hK => ?_
      go_simp
      exact hK _ _ ⟨_, rfl, Below.refl _ _, rfl, fun h => absurd h (by decide)⟩
    · have d6 := got (hv 6 30 rfl) (hd 6 (by kernel_rfl))
      clear hb hv hd
      have c := tc_keep hB s.2.2.2.2.2.2.1
      refine wpOp_step rfl fun K hK => ?_
      go_simp
      exact hK _ _ ⟨_, rfl, Below.refl _ _, rfl, fun h => absurd h (by decide)⟩
    · have d4 := got (hv 4 28 rfl) (hd 4 (by kernel_rfl))
      have d7 := got (hv 7 31 rfl) (hd 7 (by kernel_rfl))
      clear hb hv hd
      refine wpOp_step rfl fun K hK => ?_
      go_simp
      exact hK _ _ ⟨_, rfl, Below.refl _ _, rfl, fun h => absurd h (by decide)⟩
    · have b7 : f.tmps[7]? = some (.pointer (some ⟨w.heap.size + 1 + 1 + 1, 0, none⟩)) := (hb 7 (by decide)).trans rfl
      have d0 := got (hv 0 24 rfl) (hd 0 (by kernel_rfl))
      clear hb hv hd
      refine wpOp_step rfl fun K hK => ?_
      go_simp
      exact hK _ _ ⟨_, rfl, Below.refl _ _, rfl, fun h => absurd h (by decide)⟩
  · intro v w' hB hF hD
    have F0 : v 0 = _ := hF 0 (by simp)
    have F1 : v 1 = _ := hF 1 (by simp)
    have F2 : v 2 = _ := hF 2 (by simp)
    have F3 : v 3 = _ := hF 3 (by simp)
    have F4 : v 4 = _ := hF 4 (by simp)
    have F5 : v 5 = _ := hF 5 (by simp)
    have F6 : v 6 = _ := hF 6 (by simp)
    have F7 : v 7 = _ := hF 7 (by simp)
    have F8 : v 8 = _ := hF 8 (by simp)
    have F9 : v 9 = _ := hF 9 (by simp)
    clear hF
    simp only [frOf, frGo, Nat.zero_add, Nat.reduceAdd, F0, F1, F2, F3, F4, F5, F6, F7, F8, F9]
    replace s := hm_keep s hB
    clear F0 F1 F2 F3 F4 F5 F6 F7 F8 F9 hD hB
    have cl := s.2.2.2.2.1
    have fl := s.2.2.2.2.2.1
    have s1 := Lib.hid (hm_lo0 (v := l0) s (by omega) (by omega) (by omega) (by omega) (by omega) (by omega))
    clear s
    go_wp2
    clear cl fl
    generalize w'.setCell ⟨w.heap.size + 1 + 1 + 1, 0, none⟩ (.int .i64 l0) = q0 at *
    have s := s1.out
    clear s1
    rw [rounds_succ]
    have cb := s.2.2.2.1
    have cu := s.2.2.2.2.2.2.1
    have fu := s.2.2.2.2.2.2.2.1
    have s1 := Lib.hid (hm_up1 (v := u1) s (by omega) (by omega) (by omega) (by omega) (by omega) (by omega))
    clear s
    go_wp2
    clear cb cu fu
    generalize q0.setCell ⟨w.heap.size + 1 + 1 + 1 + 1, 1, none⟩ (.int .i64 u1) = p1 at *
    have s := s1.out
    clear s1
    refine region_each [24, 25, 26, 27, 28, 29, 30, 31, 32, 33] (fun i_ X_ U_ => match i_ with | 0 => X_ = .int .i64 1 | 1 => X_ = .int .i64 1 | 2 => X_ = .pointer (some ⟨w.heap.size + 1, 1, none⟩) | 3 => X_ = .int .i64 f1 | 4 => X_ = .int .i64 g1 | 5 => X_ = .int .i64 1 | 6 => X_ = .pointer (some ⟨w.heap.size + 1 + 1 + 1 + 1, 1, none⟩) | 7 => X_ = .int .i64 u1 | 8 => X_ = .int .i64 l1 | 9 => X_ = .pointer (some ⟨w.heap.size + 1 + 1 + 1, 1, none⟩) | _ => True) (fun i_ => false) (by kernel_rfl) (by kernel_rfl) (by kernel_rfl) (by kernel_rfl) (by kernel_rfl) ?_ (fun i x w hi ha h => by cases ha) ?_ ?_
    · refine swp (upS (upS (upS (upS (upS (upS (upS (upS (upS (upS up0 ?_) ?_) ?_) ?_) ?_) ?_) ?_) ?_) ?_) ?_)
      all_goals exact fun _ _ _ h _ => h
    · refine upS (upS (upS (upS (upS (upS (upS (upS (upS (upS up0 ?_) ?_) ?_) ?_) ?_) ?_) ?_) ?_) ?_) ?_
      all_goals intro v f w' hb hv hB hd
      · have b9 : f.tmps[9]? = some (.int .i64 1) := (hb 9 (by decide)).trans rfl
        clear hb hv hd
        refine wpOp_step rfl fun K hK => ?_
        go_simp
        exact hK _ _ ⟨_, rfl, Below.refl _ _, rfl, fun h => absurd h (by decide)⟩
      · have b9 : f.tmps[9]? = some (.int .i64 1) := (hb 9 (by decide)).trans rfl
        clear hb hv hd
        refine wpOp_step rfl fun K hK => ?_
        go_simp
        exact hK _ _ ⟨_, rfl, Below.refl _ _, rfl, fun h => absurd h (by decide)⟩
      · have b4 : f.tmps[4]? = some (.pointer (some ⟨w.heap.size + 1, 0, none⟩)) := (hb 4 (by decide)).trans rfl
        have d1 := got (hv 1 25 rfl) (hd 1 (by kernel_rfl))
        clear hb hv hd
        refine wpOp_step rfl fun K hK => ?_
        go_simp
        exact hK _ _ ⟨_, rfl, Below.refl _ _, rfl, fun h => absurd h (by decide)⟩
      · have d2 := got (hv 2 26 rfl) (hd 2 (by kernel_rfl))
        clear hb hv hd
        have c := tc_keep hB s.2.2.1
        refine wpOp_step rfl fun K hK => ?_
        go_simp
        exact hK _ _ ⟨_, rfl, Below.refl _ _, rfl, fun h => absurd h (by decide)⟩
      · have d3 := got (hv 3 27 rfl) (hd 3 (by kernel_rfl))
        clear hb hv hd
        refine wpOp_step rfl fun K hK => ?_
        go_simp
        exact hK _ _ ⟨_, rfl, Below.refl _ _, rfl, fun h => absurd h (by decide)⟩
      · have b9 : f.tmps[9]? = some (.int .i64 1) := (hb 9 (by decide)).trans rfl
        clear hb hv hd
        refine wpOp_step rfl fun K hK => ?_
        go_simp
        exact hK _ _ ⟨_, rfl, Below.refl _ _, rfl, fun h => absurd h (by decide)⟩
      · have b8 : f.tmps[8]? = some (.pointer (some ⟨w.heap.size + 1 + 1 + 1 + 1, 0, none⟩)) := (hb 8 (by decide)).trans rfl
        have d5 := got (hv 5 29 rfl) (hd 5 (by kernel_rfl))
        clear hb hv hd
        refine wpOp_step rfl fun K hK => ?_
        go_simp
        exact hK _ _ ⟨_, rfl, Below.refl _ _, rfl, fun h => absurd h (by decide)⟩
      · have d6 := got (hv 6 30 rfl) (hd 6 (by kernel_rfl))
        clear hb hv hd
        have c := tc_keep hB s.2.2.2.2.2.2.1
        refine wpOp_step rfl fun K hK => ?_
        go_simp
        exact hK _ _ ⟨_, rfl, Below.refl _ _, rfl, fun h => absurd h (by decide)⟩
      · have d4 := got (hv 4 28 rfl) (hd 4 (by kernel_rfl))
        have d7 := got (hv 7 31 rfl) (hd 7 (by kernel_rfl))
        clear hb hv hd
        refine wpOp_step rfl fun K hK => ?_
        go_simp
        exact hK _ _ ⟨_, rfl, Below.refl _ _, rfl, fun h => absurd h (by decide)⟩
      · have b7 : f.tmps[7]? = some (.pointer (some ⟨w.heap.size + 1 + 1 + 1, 0, none⟩)) := (hb 7 (by decide)).trans rfl
        have d0 := got (hv 0 24 rfl) (hd 0 (by kernel_rfl))
        clear hb hv hd
        refine wpOp_step rfl fun K hK => ?_
        go_simp
        exact hK _ _ ⟨_, rfl, Below.refl _ _, rfl, fun h => absurd h (by decide)⟩
    · intro v w' hB hF hD
      have F0 : v 0 = _ := hF 0 (by simp)
      have F1 : v 1 = _ := hF 1 (by simp)
      have F2 : v 2 = _ := hF 2 (by simp)
      have F3 : v 3 = _ := hF 3 (by simp)
      have F4 : v 4 = _ := hF 4 (by simp)
      have F5 : v 5 = _ := hF 5 (by simp)
      have F6 : v 6 = _ := hF 6 (by simp)
      have F7 : v 7 = _ := hF 7 (by simp)
      have F8 : v 8 = _ := hF 8 (by simp)
      have F9 : v 9 = _ := hF 9 (by simp)
      clear hF
      simp only [frOf, frGo, Nat.zero_add, Nat.reduceAdd, F0, F1, F2, F3, F4, F5, F6, F7, F8, F9]
      replace s := hm_keep s hB
      clear F0 F1 F2 F3 F4 F5 F6 F7 F8 F9 hD hB
      have cl := s.2.2.2.2.1
      have fl := s.2.2.2.2.2.1
      have s1 := Lib.hid (hm_lo1 (v := l1) s (by omega) (by omega) (by omega) (by omega) (by omega) (by omega))
      clear s
      go_wp2
      clear cl fl
      generalize w'.setCell ⟨w.heap.size + 1 + 1 + 1, 1, none⟩ (.int .i64 l1) = q1 at *
      have s := s1.out
      clear s1
      rw [rounds_succ]
      have cb := s.2.2.2.1
      have cu := s.2.2.2.2.2.2.1
      have fu := s.2.2.2.2.2.2.2.1
      have s1 := Lib.hid (hm_up2 (v := u2) s (by omega) (by omega) (by omega) (by omega) (by omega) (by omega))
      clear s
      go_wp2
      clear cb cu fu
      generalize q1.setCell ⟨w.heap.size + 1 + 1 + 1 + 1, 2, none⟩ (.int .i64 u2) = p2 at *
      have s := s1.out
      clear s1
      refine region_each [24, 25, 26, 27, 28, 29, 30, 31, 32, 33] (fun i_ X_ U_ => match i_ with | 0 => X_ = .int .i64 2 | 1 => X_ = .int .i64 2 | 2 => X_ = .pointer (some ⟨w.heap.size + 1, 2, none⟩) | 3 => X_ = .int .i64 f2 | 4 => X_ = .int .i64 g2 | 5 => X_ = .int .i64 2 | 6 => X_ = .pointer (some ⟨w.heap.size + 1 + 1 + 1 + 1, 2, none⟩) | 7 => X_ = .int .i64 u2 | 8 => X_ = .int .i64 l2 | 9 => X_ = .pointer (some ⟨w.heap.size + 1 + 1 + 1, 2, none⟩) | _ => True) (fun i_ => false) (by kernel_rfl) (by kernel_rfl) (by kernel_rfl) (by kernel_rfl) (by kernel_rfl) ?_ (fun i x w hi ha h => by cases ha) ?_ ?_
      · refine swp (upS (upS (upS (upS (upS (upS (upS (upS (upS (upS up0 ?_) ?_) ?_) ?_) ?_) ?_) ?_) ?_) ?_) ?_)
        all_goals exact fun _ _ _ h _ => h
      · refine upS (upS (upS (upS (upS (upS (upS (upS (upS (upS up0 ?_) ?_) ?_) ?_) ?_) ?_) ?_) ?_) ?_) ?_
        all_goals intro v f w' hb hv hB hd
        · have b9 : f.tmps[9]? = some (.int .i64 2) := (hb 9 (by decide)).trans rfl
          clear hb hv hd
          refine wpOp_step rfl fun K hK => ?_
          go_simp
          exact hK _ _ ⟨_, rfl, Below.refl _ _, rfl, fun h => absurd h (by decide)⟩
        · have b9 : f.tmps[9]? = some (.int .i64 2) := (hb 9 (by decide)).trans rfl
          clear hb hv hd
          refine wpOp_step rfl fun K hK => ?_
          go_simp
          exact hK _ _ ⟨_, rfl, Below.refl _ _, rfl, fun h => absurd h (by decide)⟩
        · have b4 : f.tmps[4]? = some (.pointer (some ⟨w.heap.size + 1, 0, none⟩)) := (hb 4 (by decide)).trans rfl
          have d1 := got (hv 1 25 rfl) (hd 1 (by kernel_rfl))
          clear hb hv hd
          refine wpOp_step rfl fun K hK => ?_
          go_simp
          exact hK _ _ ⟨_, rfl, Below.refl _ _, rfl, fun h => absurd h (by decide)⟩
        · have d2 := got (hv 2 26 rfl) (hd 2 (by kernel_rfl))
          clear hb hv hd
          have c := tc_keep hB s.2.2.1
          refine wpOp_step rfl fun K hK => ?_
          go_simp
          exact hK _ _ ⟨_, rfl, Below.refl _ _, rfl, fun h => absurd h (by decide)⟩
        · have d3 := got (hv 3 27 rfl) (hd 3 (by kernel_rfl))
          clear hb hv hd
          refine wpOp_step rfl fun K hK => ?_
          go_simp
          exact hK _ _ ⟨_, rfl, Below.refl _ _, rfl, fun h => absurd h (by decide)⟩
        · have b9 : f.tmps[9]? = some (.int .i64 2) := (hb 9 (by decide)).trans rfl
          clear hb hv hd
          refine wpOp_step rfl fun K hK => ?_
          go_simp
          exact hK _ _ ⟨_, rfl, Below.refl _ _, rfl, fun h => absurd h (by decide)⟩
        · have b8 : f.tmps[8]? = some (.pointer (some ⟨w.heap.size + 1 + 1 + 1 + 1, 0, none⟩)) := (hb 8 (by decide)).trans rfl
          have d5 := got (hv 5 29 rfl) (hd 5 (by kernel_rfl))
          clear hb hv hd
          refine wpOp_step rfl fun K hK => ?_
          go_simp
          exact hK _ _ ⟨_, rfl, Below.refl _ _, rfl, fun h => absurd h (by decide)⟩
        · have d6 := got (hv 6 30 rfl) (hd 6 (by kernel_rfl))
          clear hb hv hd
          have c := tc_keep hB s.2.2.2.2.2.2.1
          refine wpOp_step rfl fun K hK => ?_
          go_simp
          exact hK _ _ ⟨_, rfl, Below.refl _ _, rfl, fun h => absurd h (by decide)⟩
        · have d4 := got (hv 4 28 rfl) (hd 4 (by kernel_rfl))
          have d7 := got (hv 7 31 rfl) (hd 7 (by kernel_rfl))
          clear hb hv hd
          refine wpOp_step rfl fun K hK => ?_
          go_simp
          exact hK _ _ ⟨_, rfl, Below.refl _ _, rfl, fun h => absurd h (by decide)⟩
        · have b7 : f.tmps[7]? = some (.pointer (some ⟨w.heap.size + 1 + 1 + 1, 0, none⟩)) := (hb 7 (by decide)).trans rfl
          have d0 := got (hv 0 24 rfl) (hd 0 (by kernel_rfl))
          clear hb hv hd
          refine wpOp_step rfl fun K hK => ?_
          go_simp
          exact hK _ _ ⟨_, rfl, Below.refl _ _, rfl, fun h => absurd h (by decide)⟩
      · intro v w' hB hF hD
        have F0 : v 0 = _ := hF 0 (by simp)
        have F1 : v 1 = _ := hF 1 (by simp)
        have F2 : v 2 = _ := hF 2 (by simp)
        have F3 : v 3 = _ := hF 3 (by simp)
        have F4 : v 4 = _ := hF 4 (by simp)
        have F5 : v 5 = _ := hF 5 (by simp)
        have F6 : v 6 = _ := hF 6 (by simp)
        have F7 : v 7 = _ := hF 7 (by simp)
        have F8 : v 8 = _ := hF 8 (by simp)
        have F9 : v 9 = _ := hF 9 (by simp)
        clear hF
        simp only [frOf, frGo, Nat.zero_add, Nat.reduceAdd, F0, F1, F2, F3, F4, F5, F6, F7, F8, F9]
        replace s := hm_keep s hB
        clear F0 F1 F2 F3 F4 F5 F6 F7 F8 F9 hD hB
        have cl := s.2.2.2.2.1
        have fl := s.2.2.2.2.2.1
        have s1 := Lib.hid (hm_lo2 (v := l2) s (by omega) (by omega) (by omega) (by omega) (by omega) (by omega))
        clear s
        go_wp2
        clear cl fl
        generalize w'.setCell ⟨w.heap.size + 1 + 1 + 1, 2, none⟩ (.int .i64 l2) = q2 at *
        have s := s1.out
        clear s1
        rw [rounds_succ]
        have l6 := sc_six s.2.1
        have lf := s.2.2.1
        go_wp2_with fail
        refine (cS _ s.2.2.2.2.2.2.2.2).mono ?_
        rintro e_ w5 ⟨rfl, hb9⟩
        replace s := hm_keep s hb9
        clear hb9 l6 lf mn0 mn1 mn2 mx0 mx1 mx2 mg0 mg1 mg2 ml0 ml1 ml2
        have l6 := sc_six s.2.1
        have lf := s.2.2.1
        have ll := s.2.2.2.2.1
        rcases hs with ⟨rfl⟩ | ⟨rfl, he⟩
        · go_wp2
          clear l6 lf ll nn0 nn1 nn2
          obtain ⟨ga, gb, gc, gl, gu, gz, gw⟩ := hm_lt s
          refine region_late [61, 62, 63, 64, 60, 65, 66, 11] 6 (fun i_ X_ U_ => match i_ with | 0 => X_ = .agg #[.int .i64 (m 0), .int .i64 (m 1), .int .i64 (m 2), .int .i64 (m 3), .int .i64 (m 4), .int .i64 (m 5)] | 1 => X_ = .agg #[.int .i64 u0, .int .i64 u1, .int .i64 u2] | 2 => X_ = .agg #[.int .i64 (dgm u0 u1 u2 0), .int .i64 (dgm u0 u1 u2 1), .int .i64 (dgm u0 u1 u2 2), .int .i64 (dgm u0 u1 u2 3), .int .i64 (dgm u0 u1 u2 4), .int .i64 (dgm u0 u1 u2 5)] | 3 => X_ = .tuple #[.agg #[.int .i64 (X 0), .int .i64 (X 1), .int .i64 (X 2), .int .i64 (X 3), .int .i64 (X 4), .int .i64 (X 5)], .int .i64 e] | 4 => X_ = .tuple #[.agg #[.int .i64 (X 0), .int .i64 (X 1), .int .i64 (X 2), .int .i64 (X 3), .int .i64 (X 4), .int .i64 (X 5)], .int .i64 e] | 5 => X_ = .agg #[.int .i64 (X 0), .int .i64 (X 1), .int .i64 (X 2), .int .i64 (X 3), .int .i64 (X 4), .int .i64 (X 5)] | 6 => X_ = .int .i64 e | 7 => ∃ g, X_ = .pointer (some ⟨g, 0, none⟩) ∧ w5.heap.size ≤ g ∧ SC U_ g (fun _ => 0) ∧ SF U_ g | _ => True) (fun i_ => i_ == 7) (by kernel_rfl) (by kernel_rfl) (by kernel_rfl) (by kernel_rfl) ?_ ?_ ?_ ?_ ?_
          · refine swp (upS (upS (upS (upS (upS (upS (upS (upS up0 ?_) ?_) ?_) ?_) ?_) ?_) ?_) ?_)
            · exact fun _ _ _ h _ => h
            · exact fun _ _ _ h _ => h
            · exact fun _ _ _ h _ => h
            · exact fun _ _ _ h _ => h
            · exact fun _ _ _ h _ => h
            · exact fun _ _ _ h _ => h
            · exact fun _ _ _ h _ => h
            · intro x w w' h hb; obtain ⟨g, e, hg, hc, hf⟩ := h; exact ⟨g, e, hg, sc_keep hb hc, sf_keep hb hc hf⟩
          · refine swa (upS (upS (upS (upS (upS (upS (upS (upS up0 ?_) ?_) ?_) ?_) ?_) ?_) ?_) ?_)
            · exact fun _ _ ha => absurd ha (by decide)
            · exact fun _ _ ha => absurd ha (by decide)
            · exact fun _ _ ha => absurd ha (by decide)
            · exact fun _ _ ha => absurd ha (by decide)
            · exact fun _ _ ha => absurd ha (by decide)
            · exact fun _ _ ha => absurd ha (by decide)
            · exact fun _ _ ha => absurd ha (by decide)
            · intro x w _ h; obtain ⟨g, rfl, _, hg, _⟩ := h; exact sc_lt hg
          · refine upS (upS (upS (upS (upS (upS (upS (upS up0 ?_) ?_) ?_) ?_) ?_) ?_) ?_) ?_
            all_goals intro v f w' hb hv hB hd
            · have b3 : f.tmps[3]? = some (.pointer (some ⟨w.heap.size, 0, none⟩)) := (hb 3 (by decide)).trans rfl
              clear hb hv hd
              have c := sc_six (sc_keep hB s.2.1)
              refine wpOp_step rfl fun K hK => ?_
              go_simp
              exact hK _ _ ⟨_, rfl, Below.refl _ _, rfl, fun h => absurd h (by decide)⟩
            · have b8 : f.tmps[8]? = some (.pointer (some ⟨w.heap.size + 1 + 1 + 1 + 1, 0, none⟩)) := (hb 8 (by decide)).trans rfl
              clear hb hv hd
              have c := tc_keep hB s.2.2.2.2.2.2.1
              refine wpOp_step rfl fun K hK => ?_
              go_simp
              exact hK _ _ ⟨_, rfl, Below.refl _ _, rfl, fun h => absurd h (by decide)⟩
            · have d1 := got (hv 1 62 rfl) (hd 1 (by kernel_rfl))
              clear hb hv hd
              refine wpOp_call rfl Tryd.call14 (args1 (eval_tmp d1)) (diag_any u0 u1 u2 _ (pl_keep hB s.2.2.2.2.2.2.2.2)) ?_
              rintro e5 w5_ ⟨rfl, hb5⟩
              exact ⟨_, rfl, _, rfl, hb5, rfl, fun h => absurd h (by decide)⟩
            · have d0 := got (hv 0 61 rfl) (hd 0 (by kernel_rfl))
              have d2 := got (hv 2 63 rfl) (hd 2 (by kernel_rfl))
              clear hb hv hd
              refine wpOp_call rfl Tryd.call12 (args2 (eval_tmp d0) (eval_tmp d2)) (cA _) ?_
              rintro e5 w5_ ⟨rfl, hb5⟩
              exact ⟨_, rfl, _, rfl, hb5, rfl, fun h => absurd h (by decide)⟩
            · have d3 := got (hv 3 64 rfl) (hd 3 (by kernel_rfl))
              clear hb hv hd
              refine wpOp_step rfl fun K hK => ?_
              go_simp
              exact hK _ _ ⟨_, rfl, Below.refl _ _, rfl, fun h => absurd h (by decide)⟩
            · have d4 := got (hv 4 60 rfl) (hd 4 (by kernel_rfl))
              clear hb hv hd
              refine wpOp_step rfl fun K hK => ?_
              go_simp
              exact hK _ _ ⟨_, rfl, Below.refl _ _, rfl, fun h => absurd h (by decide)⟩
            · have d4 := got (hv 4 60 rfl) (hd 4 (by kernel_rfl))
              clear hb hv hd
              refine wpOp_step rfl fun K hK => ?_
              go_simp
              exact hK _ _ ⟨_, rfl, Below.refl _ _, rfl, fun h => absurd h (by decide)⟩
            · clear hb hv hd
              refine wpOp_step rfl fun K hK => ?_
              go_simp
              exact hK _ _ ⟨_, rfl, b_alloc (Below.refl _ _), ⟨_, rfl, hB.size, sc_new (m := fun _ => 0) rfl, sf_new rfl⟩, fun _ => Nat.le_refl _⟩
          · intro v w' hB hF hD
            have F0 : v 0 = _ := hF 0 (by simp)
            have F1 : v 1 = _ := hF 1 (by simp)
            have F2 : v 2 = _ := hF 2 (by simp)
            have F3 : v 3 = _ := hF 3 (by simp)
            have F4 : v 4 = _ := hF 4 (by simp)
            have F5 : v 5 = _ := hF 5 (by simp)
            have F6 : v 6 = _ := hF 6 (by simp)
            have F7 : ∃ g, (v 7) = .pointer (some ⟨g, 0, none⟩) ∧ w5.heap.size ≤ g ∧ SC w' g (fun _ => 0) ∧ SF w' g := hF 7 (by simp)
            clear hF
            obtain ⟨g, e7, p7, v7, f7⟩ := F7
            simp only [frOf, frGo, Nat.zero_add, Nat.reduceAdd, F0, F1, F2, F3, F4, F5, F6, e7]
            replace s := hm_keep s hB
            have hz := p7
            have kg : SC ((((((w'.setCell ⟨g, 0, none⟩ (.int .i64 (X 0))).setCell ⟨g, 1, none⟩ (.int .i64 (X 1))).setCell ⟨g, 2, none⟩ (.int .i64 (X 2))).setCell ⟨g, 3, none⟩ (.int .i64 (X 3))).setCell ⟨g, 4, none⟩ (.int .i64 (X 4))).setCell ⟨g, 5, none⟩ (.int .i64 (X 5))) g X := sc_all v7
            have s1 := hm_all (m' := X) s (by omega) (by omega) (by omega) (by omega) (by omega) (by omega) (by omega) (g := g)
            have KK := Lib.hid (And.intro kg s1)
            replace v7 := sc_six v7
            replace f7 := sf_six f7
            clear F0 F1 F2 F3 F4 F5 F6 e7 hB hD kg s1 s cA
            go_wp2
            clear v7 f7
            generalize (((((w'.setCell ⟨g, 0, none⟩ (.int .i64 (X 0))).setCell ⟨g, 1, none⟩ (.int .i64 (X 1))).setCell ⟨g, 2, none⟩ (.int .i64 (X 2))).setCell ⟨g, 3, none⟩ (.int .i64 (X 3))).setCell ⟨g, 4, none⟩ (.int .i64 (X 4))).setCell ⟨g, 5, none⟩ (.int .i64 (X 5)) = wz at *
            obtain ⟨kg, s⟩ := KK.out
            clear KK p7 hz
            refine region_each [67, 68, 69, 70, 71, 72, 73, 74, 75, 76, 77, 78, 79, 80, 81, 82, 83, 84, 85, 86] (fun i_ X_ U_ => match i_ with | 0 => X_ = .bool true | 1 => X_ = .bool true | 2 => X_ = .agg #[.int .i64 u0, .int .i64 u1, .int .i64 u2] | 3 => X_ = .agg #[.int .i64 (dgm u0 u1 u2 0), .int .i64 (dgm u0 u1 u2 1), .int .i64 (dgm u0 u1 u2 2), .int .i64 (dgm u0 u1 u2 3), .int .i64 (dgm u0 u1 u2 4), .int .i64 (dgm u0 u1 u2 5)] | 4 => X_ = .agg #[.int .i64 u0, .int .i64 u1, .int .i64 u2] | 5 => X_ = .bool true | 6 => X_ = .bool true | 7 => X_ = .bool true | 8 => X_ = .bool false | 9 => X_ = .bool true | 10 => X_ = .bool true | 11 => X_ = undef | 12 => X_ = undef | 13 => X_ = .bool true | 14 => X_ = .bool true | 15 => X_ = undef | 16 => X_ = undef | 17 => X_ = undef | 18 => X_ = .bool true | 19 => X_ = .bool true | _ => True) (fun i_ => false) (by kernel_rfl) (by kernel_rfl) (by kernel_rfl) (by kernel_rfl) (by kernel_rfl) ?_ (fun i x w hi ha h => by cases ha) ?_ ?_
            · refine swp (upS (upS (upS (upS (upS (upS (upS (upS (upS (upS (upS (upS (upS (upS (upS (upS (upS (upS (upS (upS up0 ?_) ?_) ?_) ?_) ?_) ?_) ?_) ?_) ?_) ?_) ?_) ?_) ?_) ?_) ?_) ?_) ?_) ?_) ?_) ?_)
              all_goals exact fun _ _ _ h _ => h
            · refine upS (upS (upS (upS (upS (upS (upS (upS (upS (upS (upS (upS (upS (upS (upS (upS (upS (upS (upS (upS up0 ?_) ?_) ?_) ?_) ?_) ?_) ?_) ?_) ?_) ?_) ?_) ?_) ?_) ?_) ?_) ?_) ?_) ?_) ?_) ?_
              all_goals intro v f w' hb hv hB hd
              · clear hb hv hd
                refine wpOp_call rfl Tryd.call10 args0 (fixed_sym _ (pl_keep hB s.2.2.2.2.2.2.2.2)) ?_
                rintro e5 w5_ ⟨rfl, hb5⟩
                exact ⟨_, rfl, _, rfl, hb5, rfl, fun h => absurd h (by decide)⟩
              · have d0 := got (hv 0 67 rfl) (hd 0 (by kernel_rfl))
                clear hb hv hd
                refine wpOp_step rfl fun K hK => ?_
                go_simp
                exact hK _ _ ⟨_, rfl, Below.refl _ _, rfl, fun h => absurd h (by decide)⟩
              · have b8 : f.tmps[8]? = some (.pointer (some ⟨w.heap.size + 1 + 1 + 1 + 1, 0, none⟩)) := (hb 8 (by decide)).trans rfl
                have d1 := got (hv 1 68 rfl) (hd 1 (by kernel_rfl))
                clear hb hv hd
                have c := tc_keep hB s.2.2.2.2.2.2.1
                refine wpOp_step rfl fun K hK => ?_
                go_simp
                exact hK _ _ ⟨_, rfl, Below.refl _ _, rfl, fun h => absurd h (by decide)⟩
              · have d2 := got (hv 2 69 rfl) (hd 2 (by kernel_rfl))
                have d1 := got (hv 1 68 rfl) (hd 1 (by kernel_rfl))
                clear hb hv hd
                refine wpOp_callg rfl (yields rfl rfl d1) Tryd.call14 (args1 (eval_tmp d2)) (diag_any u0 u1 u2 _ (pl_keep hB s.2.2.2.2.2.2.2.2)) ?_
                rintro e5 w5_ ⟨rfl, hb5⟩
                exact ⟨_, rfl, _, rfl, hb5, rfl, fun h => absurd h (by decide)⟩
              · have b8 : f.tmps[8]? = some (.pointer (some ⟨w.heap.size + 1 + 1 + 1 + 1, 0, none⟩)) := (hb 8 (by decide)).trans rfl
                have d1 := got (hv 1 68 rfl) (hd 1 (by kernel_rfl))
                clear hb hv hd
                have c := tc_keep hB s.2.2.2.2.2.2.1
                refine wpOp_step rfl fun K hK => ?_
                go_simp
                exact hK _ _ ⟨_, rfl, Below.refl _ _, rfl, fun h => absurd h (by decide)⟩
              · have d3 := got (hv 3 70 rfl) (hd 3 (by kernel_rfl))
                have d4 := got (hv 4 71 rfl) (hd 4 (by kernel_rfl))
                have d1 := got (hv 1 68 rfl) (hd 1 (by kernel_rfl))
                clear hb hv hd
                refine wpOp_callg rfl (yields rfl rfl d1) Tryd.call15 (args2 (eval_tmp d3) (eval_tmp d4)) (cU _ (pl_keep hB s.2.2.2.2.2.2.2.2)) ?_
                rintro e5 w5_ ⟨rfl, hb5⟩
                exact ⟨_, rfl, _, rfl, hb5, rfl, fun h => absurd h (by decide)⟩
              · have d1 := got (hv 1 68 rfl) (hd 1 (by kernel_rfl))
                have d5 := got (hv 5 72 rfl) (hd 5 (by kernel_rfl))
                clear hb hv hd
                refine wpOp_step rfl fun K hK => ?_
                go_simp
                exact hK _ _ ⟨_, rfl, Below.refl _ _, rfl, fun h => absurd h (by decide)⟩
              · have d6 := got (hv 6 73 rfl) (hd 6 (by kernel_rfl))
                clear hb hv hd
                refine wpOp_step rfl fun K hK => ?_
                go_simp
                exact hK _ _ ⟨_, rfl, Below.refl _ _, rfl, fun h => absurd h (by decide)⟩
              · have b10 : f.tmps[10]? = some (.bool false) := (hb 10 (by decide)).trans rfl
                have d7 := got (hv 7 74 rfl) (hd 7 (by kernel_rfl))
                clear hb hv hd
                refine wpOp_step rfl fun K hK => ?_
                go_simp
                exact hK _ _ ⟨_, rfl, Below.refl _ _, rfl, fun h => absurd h (by decide)⟩
              · have d8 := got (hv 8 75 rfl) (hd 8 (by kernel_rfl))
                have d7 := got (hv 7 74 rfl) (hd 7 (by kernel_rfl))
                clear hb hv hd
                refine wpOp_step rfl fun K hK => ?_
                go_simp
                exact hK _ _ ⟨_, rfl, Below.refl _ _, rfl, fun h => absurd h (by decide)⟩
              · have d9 := got (hv 9 76 rfl) (hd 9 (by kernel_rfl))
                have d7 := got (hv 7 74 rfl) (hd 7 (by kernel_rfl))
                clear hb hv hd
                refine wpOp_step rfl fun K hK => ?_
                go_simp
                exact hK _ _ ⟨_, rfl, Below.refl _ _, rfl, fun h => absurd h (by decide)⟩
              · have b12 : f.tmps[12]? = some (.int .i64 e) := (hb 12 (by decide)).trans rfl
                have d10 := got (hv 10 77 rfl) (hd 10 (by kernel_rfl))
                clear hb hv hd
                refine wpOp_step rfl fun K hK => ?_
                go_simp
                exact hK _ _ ⟨_, rfl, Below.refl _ _, rfl, fun h => absurd h (by decide)⟩
              · have d11 := got (hv 11 78 rfl) (hd 11 (by kernel_rfl))
                have d10 := got (hv 10 77 rfl) (hd 10 (by kernel_rfl))
                clear hb hv hd
                refine wpOp_step rfl fun K hK => ?_
                go_simp
                exact hK _ _ ⟨_, rfl, Below.refl _ _, rfl, fun h => absurd h (by decide)⟩
              · have d10 := got (hv 10 77 rfl) (hd 10 (by kernel_rfl))
                have d12 := got (hv 12 79 rfl) (hd 12 (by kernel_rfl))
                have d7 := got (hv 7 74 rfl) (hd 7 (by kernel_rfl))
                clear hb hv hd
                refine wpOp_step rfl fun K hK => ?_
                go_simp
                exact hK _ _ ⟨_, rfl, Below.refl _ _, rfl, fun h => absurd h (by decide)⟩
              · have d13 := got (hv 13 80 rfl) (hd 13 (by kernel_rfl))
                have d7 := got (hv 7 74 rfl) (hd 7 (by kernel_rfl))
                clear hb hv hd
                refine wpOp_step rfl fun K hK => ?_
                go_simp
                exact hK _ _ ⟨_, rfl, Below.refl _ _, rfl, fun h => absurd h (by decide)⟩
              · have b11 : f.tmps[11]? = some (.pointer (some ⟨g, 0, none⟩)) := (hb 11 (by decide)).trans rfl
                have d14 := got (hv 14 81 rfl) (hd 14 (by kernel_rfl))
                clear hb hv hd
                refine wpOp_step rfl fun K hK => ?_
                go_simp
                exact hK _ _ ⟨_, rfl, Below.refl _ _, rfl, fun h => absurd h (by decide)⟩
              · have b4 : f.tmps[4]? = some (.pointer (some ⟨w.heap.size + 1, 0, none⟩)) := (hb 4 (by decide)).trans rfl
                have d14 := got (hv 14 81 rfl) (hd 14 (by kernel_rfl))
                clear hb hv hd
                refine wpOp_step rfl fun K hK => ?_
                go_simp
                exact hK _ _ ⟨_, rfl, Below.refl _ _, rfl, fun h => absurd h (by decide)⟩
              · have d15 := got (hv 15 82 rfl) (hd 15 (by kernel_rfl))
                have d16 := got (hv 16 83 rfl) (hd 16 (by kernel_rfl))
                have d14 := got (hv 14 81 rfl) (hd 14 (by kernel_rfl))
                clear hb hv hd
                refine wpOp_step rfl fun K hK => ?_
                go_simp
                exact hK _ _ ⟨_, rfl, Below.refl _ _, rfl, fun h => absurd h (by decide)⟩
              · have d14 := got (hv 14 81 rfl) (hd 14 (by kernel_rfl))
                have d17 := got (hv 17 84 rfl) (hd 17 (by kernel_rfl))
                have d7 := got (hv 7 74 rfl) (hd 7 (by kernel_rfl))
                clear hb hv hd
                refine wpOp_step rfl fun K hK => ?_
                go_simp
                exact hK _ _ ⟨_, rfl, Below.refl _ _, rfl, fun h => absurd h (by decide)⟩
              · have d7 := got (hv 7 74 rfl) (hd 7 (by kernel_rfl))
                have d18 := got (hv 18 85 rfl) (hd 18 (by kernel_rfl))
                clear hb hv hd
                refine wpOp_step rfl fun K hK => ?_
                go_simp
                exact hK _ _ ⟨_, rfl, Below.refl _ _, rfl, fun h => absurd h (by decide)⟩
            · intro v w' hB hF hD
              have F0 : v 0 = _ := hF 0 (by simp)
              have F1 : v 1 = _ := hF 1 (by simp)
              have F2 : v 2 = _ := hF 2 (by simp)
              have F3 : v 3 = _ := hF 3 (by simp)
              have F4 : v 4 = _ := hF 4 (by simp)
              have F5 : v 5 = _ := hF 5 (by simp)
              have F6 : v 6 = _ := hF 6 (by simp)
              have F7 : v 7 = _ := hF 7 (by simp)
              have F8 : v 8 = _ := hF 8 (by simp)
              have F9 : v 9 = _ := hF 9 (by simp)
              have F10 : v 10 = _ := hF 10 (by simp)
              have F11 : v 11 = _ := hF 11 (by simp)
              have F12 : v 12 = _ := hF 12 (by simp)
              have F13 : v 13 = _ := hF 13 (by simp)
              have F14 : v 14 = _ := hF 14 (by simp)
              have F15 : v 15 = _ := hF 15 (by simp)
              have F16 : v 16 = _ := hF 16 (by simp)
              have F17 : v 17 = _ := hF 17 (by simp)
              have F18 : v 18 = _ := hF 18 (by simp)
              have F19 : v 19 = _ := hF 19 (by simp)
              clear hF
              simp only [frOf, frGo, Nat.zero_add, Nat.reduceAdd, F0, F1, F2, F3, F4, F5, F6, F7, F8, F9, F10, F11, F12, F13, F14, F15, F16, F17, F18, F19]
              replace s := hm_keep s hB
              clear F0 F1 F2 F3 F4 F5 F6 F7 F8 F9 F10 F11 F12 F13 F14 F15 F16 F17 F18 F19 hD hB kg
              have B9 := s.1
              clear s
              go_wp2
              go_ret
              exact ⟨rfl, B9⟩
          · intro v w' hB hF hD
            have F0 : v 0 = _ := hF 0 (by simp) (by decide)
            have F1 : v 1 = _ := hF 1 (by simp) (by decide)
            have F2 : v 2 = _ := hF 2 (by simp) (by decide)
            have F3 : v 3 = _ := hF 3 (by simp) (by decide)
            have F4 : v 4 = _ := hF 4 (by simp) (by decide)
            have F5 : v 5 = _ := hF 5 (by simp) (by decide)
            have F7 : ∃ g, (v 7) = .pointer (some ⟨g, 0, none⟩) ∧ w5.heap.size ≤ g ∧ SC w' g (fun _ => 0) ∧ SF w' g := hF 7 (by simp) (by decide)
            clear hF
            obtain ⟨g, e7, p7, v7, f7⟩ := F7
            simp only [frOf, frGo, Nat.zero_add, Nat.reduceAdd, F0, F1, F2, F3, F4, F5, e7]
            replace s := hm_keep s hB
            have hz := p7
            have kg : SC ((((((w'.setCell ⟨g, 0, none⟩ (.int .i64 (X 0))).setCell ⟨g, 1, none⟩ (.int .i64 (X 1))).setCell ⟨g, 2, none⟩ (.int .i64 (X 2))).setCell ⟨g, 3, none⟩ (.int .i64 (X 3))).setCell ⟨g, 4, none⟩ (.int .i64 (X 4))).setCell ⟨g, 5, none⟩ (.int .i64 (X 5))) g X := sc_all v7
            have s1 := hm_all (m' := X) s (by omega) (by omega) (by omega) (by omega) (by omega) (by omega) (by omega) (g := g)
            have KK := Lib.hid (And.intro kg s1)
            replace v7 := sc_six v7
            replace f7 := sf_six f7
            clear F0 F1 F2 F3 F4 F5 e7 hB hD kg s1 s cA
            refine wpOp_step rfl (fun K hK => ?_)
            go_simp
            refine hK _ _ ?_
            clear hK K
            refine wpOp_step rfl (fun K hK => ?_)
            go_simp
            refine hK _ _ ?_
            clear hK K
            go_wp2
            clear v7 f7
            generalize (((((w'.setCell ⟨g, 0, none⟩ (.int .i64 (X 0))).setCell ⟨g, 1, none⟩ (.int .i64 (X 1))).setCell ⟨g, 2, none⟩ (.int .i64 (X 2))).setCell ⟨g, 3, none⟩ (.int .i64 (X 3))).setCell ⟨g, 4, none⟩ (.int .i64 (X 4))).setCell ⟨g, 5, none⟩ (.int .i64 (X 5)) = wz at *
            obtain ⟨kg, s⟩ := KK.out
            clear KK p7 hz
            refine region_each [67, 68, 69, 70, 71, 72, 73, 74, 75, 76, 77, 78, 79, 80, 81, 82, 83, 84, 85, 86] (fun i_ X_ U_ => match i_ with | 0 => X_ = .bool true | 1 => X_ = .bool true | 2 => X_ = .agg #[.int .i64 u0, .int .i64 u1, .int .i64 u2] | 3 => X_ = .agg #[.int .i64 (dgm u0 u1 u2 0), .int .i64 (dgm u0 u1 u2 1), .int .i64 (dgm u0 u1 u2 2), .int .i64 (dgm u0 u1 u2 3), .int .i64 (dgm u0 u1 u2 4), .int .i64 (dgm u0 u1 u2 5)] | 4 => X_ = .agg #[.int .i64 u0, .int .i64 u1, .int .i64 u2] | 5 => X_ = .bool true | 6 => X_ = .bool true | 7 => X_ = .bool true | 8 => X_ = .bool false | 9 => X_ = .bool true | 10 => X_ = .bool true | 11 => X_ = undef | 12 => X_ = undef | 13 => X_ = .bool true | 14 => X_ = .bool true | 15 => X_ = undef | 16 => X_ = undef | 17 => X_ = undef | 18 => X_ = .bool true | 19 => X_ = .bool true | _ => True) (fun i_ => false) (by kernel_rfl) (by kernel_rfl) (by kernel_rfl) (by kernel_rfl) (by kernel_rfl) ?_ (fun i x w hi ha h => by cases ha) ?_ ?_
            · refine swp (upS (upS (upS (upS (upS (upS (upS (upS (upS (upS (upS (upS (upS (upS (upS (upS (upS (upS (upS (upS up0 ?_) ?_) ?_) ?_) ?_) ?_) ?_) ?_) ?_) ?_) ?_) ?_) ?_) ?_) ?_) ?_) ?_) ?_) ?_) ?_)
              all_goals exact fun _ _ _ h _ => h
            · refine upS (upS (upS (upS (upS (upS (upS (upS (upS (upS (upS (upS (upS (upS (upS (upS (upS (upS (upS (upS up0 ?_) ?_) ?_) ?_) ?_) ?_) ?_) ?_) ?_) ?_) ?_) ?_) ?_) ?_) ?_) ?_) ?_) ?_) ?_) ?_
              all_goals intro v f w' hb hv hB hd
              · clear hb hv hd
                refine wpOp_call rfl Tryd.call10 args0 (fixed_sym _ (pl_keep hB s.2.2.2.2.2.2.2.2)) ?_
                rintro e5 w5_ ⟨rfl, hb5⟩
                exact ⟨_, rfl, _, rfl, hb5, rfl, fun h => absurd h (by decide)⟩
              · have d0 := got (hv 0 67 rfl) (hd 0 (by kernel_rfl))
                clear hb hv hd
                refine wpOp_step rfl fun K hK => ?_
                go_simp
                exact hK _ _ ⟨_, rfl, Below.refl _ _, rfl, fun h => absurd h (by decide)⟩
              · have b8 : f.tmps[8]? = some (.pointer (some ⟨w.heap.size + 1 + 1 + 1 + 1, 0, none⟩)) := (hb 8 (by decide)).trans rfl
                have d1 := got (hv 1 68 rfl) (hd 1 (by kernel_rfl))
                clear hb hv hd
                have c := tc_keep hB s.2.2.2.2.2.2.1
                refine wpOp_step rfl fun K hK => ?_
                go_simp
                exact hK _ _ ⟨_, rfl, Below.refl _ _, rfl, fun h => absurd h (by decide)⟩
              · have d2 := got (hv 2 69 rfl) (hd 2 (by kernel_rfl))
                have d1 := got (hv 1 68 rfl) (hd 1 (by kernel_rfl))
                clear hb hv hd
                refine wpOp_callg rfl (yields rfl rfl d1) Tryd.call14 (args1 (eval_tmp d2)) (diag_any u0 u1 u2 _ (pl_keep hB s.2.2.2.2.2.2.2.2)) ?_
                rintro e5 w5_ ⟨rfl, hb5⟩
                exact ⟨_, rfl, _, rfl, hb5, rfl, fun h => absurd h (by decide)⟩
              · have b8 : f.tmps[8]? = some (.pointer (some ⟨w.heap.size + 1 + 1 + 1 + 1, 0, none⟩)) := (hb 8 (by decide)).trans rfl
                have d1 := got (hv 1 68 rfl) (hd 1 (by kernel_rfl))
                clear hb hv hd
                have c := tc_keep hB s.2.2.2.2.2.2.1
                refine wpOp_step rfl fun K hK => ?_
                go_simp
                exact hK _ _ ⟨_, rfl, Below.refl _ _, rfl, fun h => absurd h (by decide)⟩
              · have d3 := got (hv 3 70 rfl) (hd 3 (by kernel_rfl))
                have d4 := got (hv 4 71 rfl) (hd 4 (by kernel_rfl))
                have d1 := got (hv 1 68 rfl) (hd 1 (by kernel_rfl))
                clear hb hv hd
                refine wpOp_callg rfl (yields rfl rfl d1) Tryd.call15 (args2 (eval_tmp d3) (eval_tmp d4)) (cU _ (pl_keep hB s.2.2.2.2.2.2.2.2)) ?_
                rintro e5 w5_ ⟨rfl, hb5⟩
                exact ⟨_, rfl, _, rfl, hb5, rfl, fun h => absurd h (by decide)⟩
              · have d1 := got (hv 1 68 rfl) (hd 1 (by kernel_rfl))
                have d5 := got (hv 5 72 rfl) (hd 5 (by kernel_rfl))
                clear hb hv hd
                refine wpOp_step rfl fun K hK => ?_
                go_simp
                exact hK _ _ ⟨_, rfl, Below.refl _ _, rfl, fun h => absurd h (by decide)⟩
              · have d6 := got (hv 6 73 rfl) (hd 6 (by kernel_rfl))
                clear hb hv hd
                refine wpOp_step rfl fun K hK => ?_
                go_simp
                exact hK _ _ ⟨_, rfl, Below.refl _ _, rfl, fun h => absurd h (by decide)⟩
              · have b10 : f.tmps[10]? = some (.bool false) := (hb 10 (by decide)).trans rfl
                have d7 := got (hv 7 74 rfl) (hd 7 (by kernel_rfl))
                clear hb hv hd
                refine wpOp_step rfl fun K hK => ?_
                go_simp
                exact hK _ _ ⟨_, rfl, Below.refl _ _, rfl, fun h => absurd h (by decide)⟩
              · have d8 := got (hv 8 75 rfl) (hd 8 (by kernel_rfl))
                have d7 := got (hv 7 74 rfl) (hd 7 (by kernel_rfl))
                clear hb hv hd
                refine wpOp_step rfl fun K hK => ?_
                go_simp
                exact hK _ _ ⟨_, rfl, Below.refl _ _, rfl, fun h => absurd h (by decide)⟩
              · have d9 := got (hv 9 76 rfl) (hd 9 (by kernel_rfl))
                have d7 := got (hv 7 74 rfl) (hd 7 (by kernel_rfl))
                clear hb hv hd
                refine wpOp_step rfl fun K hK => ?_
                go_simp
                exact hK _ _ ⟨_, rfl, Below.refl _ _, rfl, fun h => absurd h (by decide)⟩
              · have b12 : f.tmps[12]? = some (.int .i64 e) := (hb 12 (by decide)).trans rfl
                have d10 := got (hv 10 77 rfl) (hd 10 (by kernel_rfl))
                clear hb hv hd
                refine wpOp_step rfl fun K hK => ?_
                go_simp
                exact hK _ _ ⟨_, rfl, Below.refl _ _, rfl, fun h => absurd h (by decide)⟩
              · have d11 := got (hv 11 78 rfl) (hd 11 (by kernel_rfl))
                have d10 := got (hv 10 77 rfl) (hd 10 (by kernel_rfl))
                clear hb hv hd
                refine wpOp_step rfl fun K hK => ?_
                go_simp
                exact hK _ _ ⟨_, rfl, Below.refl _ _, rfl, fun h => absurd h (by decide)⟩
              · have d10 := got (hv 10 77 rfl) (hd 10 (by kernel_rfl))
                have d12 := got (hv 12 79 rfl) (hd 12 (by kernel_rfl))
                have d7 := got (hv 7 74 rfl) (hd 7 (by kernel_rfl))
                clear hb hv hd
                refine wpOp_step rfl fun K hK => ?_
                go_simp
                exact hK _ _ ⟨_, rfl, Below.refl _ _, rfl, fun h => absurd h (by decide)⟩
              · have d13 := got (hv 13 80 rfl) (hd 13 (by kernel_rfl))
                have d7 := got (hv 7 74 rfl) (hd 7 (by kernel_rfl))
                clear hb hv hd
                refine wpOp_step rfl fun K hK => ?_
                go_simp
                exact hK _ _ ⟨_, rfl, Below.refl _ _, rfl, fun h => absurd h (by decide)⟩
              · have b11 : f.tmps[11]? = some (.pointer (some ⟨g, 0, none⟩)) := (hb 11 (by decide)).trans rfl
                have d14 := got (hv 14 81 rfl) (hd 14 (by kernel_rfl))
                clear hb hv hd
                refine wpOp_step rfl fun K hK => ?_
                go_simp
                exact hK _ _ ⟨_, rfl, Below.refl _ _, rfl, fun h => absurd h (by decide)⟩
              · have b4 : f.tmps[4]? = some (.pointer (some ⟨w.heap.size + 1, 0, none⟩)) := (hb 4 (by decide)).trans rfl
                have d14 := got (hv 14 81 rfl) (hd 14 (by kernel_rfl))
                clear hb hv hd
                refine wpOp_step rfl fun K hK => ?_
                go_simp
                exact hK _ _ ⟨_, rfl, Below.refl _ _, rfl, fun h => absurd h (by decide)⟩
              · have d15 := got (hv 15 82 rfl) (hd 15 (by kernel_rfl))
                have d16 := got (hv 16 83 rfl) (hd 16 (by kernel_rfl))
                have d14 := got (hv 14 81 rfl) (hd 14 (by kernel_rfl))
                clear hb hv hd
                refine wpOp_step rfl fun K hK => ?_
                go_simp
                exact hK _ _ ⟨_, rfl, Below.refl _ _, rfl, fun h => absurd h (by decide)⟩
              · have d14 := got (hv 14 81 rfl) (hd 14 (by kernel_rfl))
                have d17 := got (hv 17 84 rfl) (hd 17 (by kernel_rfl))
                have d7 := got (hv 7 74 rfl) (hd 7 (by kernel_rfl))
                clear hb hv hd
                refine wpOp_step rfl fun K hK => ?_
                go_simp
                exact hK _ _ ⟨_, rfl, Below.refl _ _, rfl, fun h => absurd h (by decide)⟩
              · have d7 := got (hv 7 74 rfl) (hd 7 (by kernel_rfl))
                have d18 := got (hv 18 85 rfl) (hd 18 (by kernel_rfl))
                clear hb hv hd
                refine wpOp_step rfl fun K hK => ?_
                go_simp
                exact hK _ _ ⟨_, rfl, Below.refl _ _, rfl, fun h => absurd h (by decide)⟩
            · intro v w' hB hF hD
              have F0 : v 0 = _ := hF 0 (by simp)
              have F1 : v 1 = _ := hF 1 (by simp)
              have F2 : v 2 = _ := hF 2 (by simp)
              have F3 : v 3 = _ := hF 3 (by simp)
              have F4 : v 4 = _ := hF 4 (by simp)
              have F5 : v 5 = _ := hF 5 (by simp)
              have F6 : v 6 = _ := hF 6 (by simp)
              have F7 : v 7 = _ := hF 7 (by simp)
              have F8 : v 8 = _ := hF 8 (by simp)
              have F9 : v 9 = _ := hF 9 (by simp)
              have F10 : v 10 = _ := hF 10 (by simp)
              have F11 : v 11 = _ := hF 11 (by simp)
              have F12 : v 12 = _ := hF 12 (by simp)
              have F13 : v 13 = _ := hF 13 (by simp)
              have F14 : v 14 = _ := hF 14 (by simp)
              have F15 : v 15 = _ := hF 15 (by simp)
              have F16 : v 16 = _ := hF 16 (by simp)
              have F17 : v 17 = _ := hF 17 (by simp)
              have F18 : v 18 = _ := hF 18 (by simp)
              have F19 : v 19 = _ := hF 19 (by simp)
              clear hF
              simp only [frOf, frGo, Nat.zero_add, Nat.reduceAdd, F0, F1, F2, F3, F4, F5, F6, F7, F8, F9, F10, F11, F12, F13, F14, F15, F16, F17, F18, F19]
              replace s := hm_keep s hB
              clear F0 F1 F2 F3 F4 F5 F6 F7 F8 F9 F10 F11 F12 F13 F14 F15 F16 F17 F18 F19 hD hB kg
              have B9 := s.1
              clear s
              go_wp2
              go_ret
              exact ⟨rfl, B9⟩
        · replace cN := cN rfl
          go_wp2_with fail
          refine (cN _ s.2.2.2.2.2.2.2.2).mono ?_
          rintro e_ w6 ⟨rfl, hb9⟩
          replace s := hm_keep s hb9
          clear hb9 l6 lf ll nn0 nn1 nn2
          go_wp2
          rcases he with he | ⟨he, cX⟩
          · have hne := neb_of he
            obtain ⟨ga, gb, gc, gl, gu, gz, gw⟩ := hm_lt s
            refine region_late [61, 62, 63, 64, 60, 65, 66, 11] 6 (fun i_ X_ U_ => match i_ with | 0 => X_ = .agg #[.int .i64 (m 0), .int .i64 (m 1), .int .i64 (m 2), .int .i64 (m 3), .int .i64 (m 4), .int .i64 (m 5)] | 1 => X_ = .agg #[.int .i64 u0, .int .i64 u1, .int .i64 u2] | 2 => X_ = .agg #[.int .i64 (dgm u0 u1 u2 0), .int .i64 (dgm u0 u1 u2 1), .int .i64 (dgm u0 u1 u2 2), .int .i64 (dgm u0 u1 u2 3), .int .i64 (dgm u0 u1 u2 4), .int .i64 (dgm u0 u1 u2 5)] | 3 => X_ = .tuple #[.agg #[.int .i64 (X 0), .int .i64 (X 1), .int .i64 (X 2), .int .i64 (X 3), .int .i64 (X 4), .int .i64 (X 5)], .int .i64 e] | 4 => X_ = .tuple #[.agg #[.int .i64 (X 0), .int .i64 (X 1), .int .i64 (X 2), .int .i64 (X 3), .int .i64 (X 4), .int .i64 (X 5)], .int .i64 e] | 5 => X_ = .agg #[.int .i64 (X 0), .int .i64 (X 1), .int .i64 (X 2), .int .i64 (X 3), .int .i64 (X 4), .int .i64 (X 5)] | 6 => X_ = .int .i64 e | 7 => ∃ g, X_ = .pointer (some ⟨g, 0, none⟩) ∧ w6.heap.size ≤ g ∧ SC U_ g (fun _ => 0) ∧ SF U_ g | _ => True) (fun i_ => i_ == 7) (by kernel_rfl) (by kernel_rfl) (by kernel_rfl) (by kernel_rfl) ?_ ?_ ?_ ?_ ?_
            · refine swp (upS (upS (upS (upS (upS (upS (upS (upS up0 ?_) ?_) ?_) ?_) ?_) ?_) ?_) ?_)
              · exact fun _ _ _ h _ => h
              · exact fun _ _ _ h _ => h
              · exact fun _ _ _ h _ => h
              · exact fun _ _ _ h _ => h
              · exact fun _ _ _ h _ => h
              · exact fun _ _ _ h _ => h
              · exact fun _ _ _ h _ => h
              · intro x w w' h hb; obtain ⟨g, e, hg, hc, hf⟩ := h; exact ⟨g, e, hg, sc_keep hb hc, sf_keep hb hc hf⟩
            · refine swa (upS (upS (upS (upS (upS (upS (upS (upS up0 ?_) ?_) ?_) ?_) ?_) ?_) ?_) ?_)
              · exact fun _ _ ha => absurd ha (by decide)
              · exact fun _ _ ha => absurd ha (by decide)
              · exact fun _ _ ha => absurd ha (by decide)
              · exact fun _ _ ha => absurd ha (by decide)
              · exact fun _ _ ha => absurd ha (by decide)
              · exact fun _ _ ha => absurd ha (by decide)
              · exact fun _ _ ha => absurd ha (by decide)
              · intro x w _ h; obtain ⟨g, rfl, _, hg, _⟩ := h; exact sc_lt hg
            · refine upS (upS (upS (upS (upS (upS (upS (upS up0 ?_) ?_) ?_) ?_) ?_) ?_) ?_) ?_
              all_goals intro v f w' hb hv hB hd
              · have b3 : f.tmps[3]? = some (.pointer (some ⟨w.heap.size, 0, none⟩)) := (hb 3 (by decide)).trans rfl
                clear hb hv hd
                have c := sc_six (sc_keep hB s.2.1)
                refine wpOp_step rfl fun K hK => ?_
                go_simp
                exact hK _ _ ⟨_, rfl, Below.refl _ _, rfl, fun h => absurd h (by decide)⟩
              · have b8 : f.tmps[8]? = some (.pointer (some ⟨w.heap.size + 1 + 1 + 1 + 1, 0, none⟩)) := (hb 8 (by decide)).trans rfl
                clear hb hv hd
                have c := tc_keep hB s.2.2.2.2.2.2.1
                refine wpOp_step rfl fun K hK => ?_
                go_simp
                exact hK _ _ ⟨_, rfl, Below.refl _ _, rfl, fun h => absurd h (by decide)⟩
              · have d1 := got (hv 1 62 rfl) (hd 1 (by kernel_rfl))
                clear hb hv hd
                refine wpOp_call rfl Tryd.call14 (args1 (eval_tmp d1)) (diag_any u0 u1 u2 _ (pl_keep hB s.2.2.2.2.2.2.2.2)) ?_
                rintro e5 w5_ ⟨rfl, hb5⟩
                exact ⟨_, rfl, _, rfl, hb5, rfl, fun h => absurd h (by decide)⟩
              · have d0 := got (hv 0 61 rfl) (hd 0 (by kernel_rfl))
                have d2 := got (hv 2 63 rfl) (hd 2 (by kernel_rfl))
                clear hb hv hd
                refine wpOp_call rfl Tryd.call12 (args2 (eval_tmp d0) (eval_tmp d2)) (cA _) ?_
                rintro e5 w5_ ⟨rfl, hb5⟩
                exact ⟨_, rfl, _, rfl, hb5, rfl, fun h => absurd h (by decide)⟩
              · have d3 := got (hv 3 64 rfl) (hd 3 (by kernel_rfl))
                clear hb hv hd
                refine wpOp_step rfl fun K hK => ?_
                go_simp
                exact hK _ _ ⟨_, rfl, Below.refl _ _, rfl, fun h => absurd h (by decide)⟩
              · have d4 := got (hv 4 60 rfl) (hd 4 (by kernel_rfl))
                clear hb hv hd
                refine wpOp_step rfl fun K hK => ?_
                go_simp
                exact hK _ _ ⟨_, rfl, Below.refl _ _, rfl, fun h => absurd h (by decide)⟩
              · have d4 := got (hv 4 60 rfl) (hd 4 (by kernel_rfl))
                clear hb hv hd
                refine wpOp_step rfl fun K hK => ?_
                go_simp
                exact hK _ _ ⟨_, rfl, Below.refl _ _, rfl, fun h => absurd h (by decide)⟩
              · clear hb hv hd
                refine wpOp_step rfl fun K hK => ?_
                go_simp
                exact hK _ _ ⟨_, rfl, b_alloc (Below.refl _ _), ⟨_, rfl, hB.size, sc_new (m := fun _ => 0) rfl, sf_new rfl⟩, fun _ => Nat.le_refl _⟩
            · intro v w' hB hF hD
              have F0 : v 0 = _ := hF 0 (by simp)
              have F1 : v 1 = _ := hF 1 (by simp)
              have F2 : v 2 = _ := hF 2 (by simp)
              have F3 : v 3 = _ := hF 3 (by simp)
              have F4 : v 4 = _ := hF 4 (by simp)
              have F5 : v 5 = _ := hF 5 (by simp)
              have F6 : v 6 = _ := hF 6 (by simp)
              have F7 : ∃ g, (v 7) = .pointer (some ⟨g, 0, none⟩) ∧ w6.heap.size ≤ g ∧ SC w' g (fun _ => 0) ∧ SF w' g := hF 7 (by simp)
              clear hF
              obtain ⟨g, e7, p7, v7, f7⟩ := F7
              simp only [frOf, frGo, Nat.zero_add, Nat.reduceAdd, F0, F1, F2, F3, F4, F5, F6, e7]
              replace s := hm_keep s hB
              have hz := p7
              have kg : SC ((((((w'.setCell ⟨g, 0, none⟩ (.int .i64 (X 0))).setCell ⟨g, 1, none⟩ (.int .i64 (X 1))).setCell ⟨g, 2, none⟩ (.int .i64 (X 2))).setCell ⟨g, 3, none⟩ (.int .i64 (X 3))).setCell ⟨g, 4, none⟩ (.int .i64 (X 4))).setCell ⟨g, 5, none⟩ (.int .i64 (X 5))) g X := sc_all v7
              have s1 := hm_all (m' := X) s (by omega) (by omega) (by omega) (by omega) (by omega) (by omega) (by omega) (g := g)
              have KK := Lib.hid (And.intro kg s1)
              replace v7 := sc_six v7
              replace f7 := sf_six f7
              clear F0 F1 F2 F3 F4 F5 F6 e7 hB hD kg s1 s cA
              go_wp2
              clear v7 f7
              generalize (((((w'.setCell ⟨g, 0, none⟩ (.int .i64 (X 0))).setCell ⟨g, 1, none⟩ (.int .i64 (X 1))).setCell ⟨g, 2, none⟩ (.int .i64 (X 2))).setCell ⟨g, 3, none⟩ (.int .i64 (X 3))).setCell ⟨g, 4, none⟩ (.int .i64 (X 4))).setCell ⟨g, 5, none⟩ (.int .i64 (X 5)) = wz at *
              obtain ⟨kg, s⟩ := KK.out
              clear KK p7 hz
              refine region_each [67, 68, 69, 70, 71, 72, 73, 74, 75, 76, 77, 78, 79, 80, 81, 82, 83, 84, 85, 86] (fun i_ X_ U_ => match i_ with | 0 => X_ = .bool true | 1 => X_ = .bool true | 2 => X_ = .agg #[.int .i64 u0, .int .i64 u1, .int .i64 u2] | 3 => X_ = .agg #[.int .i64 (dgm u0 u1 u2 0), .int .i64 (dgm u0 u1 u2 1), .int .i64 (dgm u0 u1 u2 2), .int .i64 (dgm u0 u1 u2 3), .int .i64 (dgm u0 u1 u2 4), .int .i64 (dgm u0 u1 u2 5)] | 4 => X_ = .agg #[.int .i64 u0, .int .i64 u1, .int .i64 u2] | 5 => X_ = .bool true | 6 => X_ = .bool true | 7 => X_ = .bool true | 8 => X_ = .bool true | 9 => X_ = .bool false | 10 => X_ = .bool false | 11 => X_ = .int .i64 e | 12 => X_ = .bool true | 13 => X_ = .bool true | 14 => X_ = .bool true | 15 => X_ = undef | 16 => X_ = undef | 17 => X_ = undef | 18 => X_ = .bool true | 19 => X_ = .bool true | _ => True) (fun i_ => false) (by kernel_rfl) (by kernel_rfl) (by kernel_rfl) (by kernel_rfl) (by kernel_rfl) ?_ (fun i x w hi ha h => by cases ha) ?_ ?_
              · refine swp (upS (upS (upS (upS (upS (upS (upS (upS (upS (upS (upS (upS (upS (upS (upS (upS (upS (upS (upS (upS up0 ?_) ?_) ?_) ?_) ?_) ?_) ?_) ?_) ?_) ?_) ?_) ?_) ?_) ?_) ?_) ?_) ?_) ?_) ?_) ?_)
                all_goals exact fun _ _ _ h _ => h
              · refine upS (upS (upS (upS (upS (upS (upS (upS (upS (upS (upS (upS (upS (upS (upS (upS (upS (upS (upS (upS up0 ?_) ?_) ?_) ?_) ?_) ?_) ?_) ?_) ?_) ?_) ?_) ?_) ?_) ?_) ?_) ?_) ?_) ?_) ?_) ?_
                all_goals intro v f w' hb hv hB hd
                · clear hb hv hd
                  refine wpOp_call rfl Tryd.call10 args0 (fixed_sym _ (pl_keep hB s.2.2.2.2.2.2.2.2)) ?_
                  rintro e5 w5_ ⟨rfl, hb5⟩
                  exact ⟨_, rfl, _, rfl, hb5, rfl, fun h => absurd h (by decide)⟩
                · have d0 := got (hv 0 67 rfl) (hd 0 (by kernel_rfl))
                  clear hb hv hd
                  refine wpOp_step rfl fun K hK => ?_
                  go_simp
                  exact hK _ _ ⟨_, rfl, Below.refl _ _, rfl, fun h => absurd h (by decide)⟩
                · have b8 : f.tmps[8]? = some (.pointer (some ⟨w.heap.size + 1 + 1 + 1 + 1, 0, none⟩)) := (hb 8 (by decide)).trans rfl
                  have d1 := got (hv 1 68 rfl) (hd 1 (by kernel_rfl))
                  clear hb hv hd
                  have c := tc_keep hB s.2.2.2.2.2.2.1
                  refine wpOp_step rfl fun K hK => ?_
                  go_simp
                  exact hK _ _ ⟨_, rfl, Below.refl _ _, rfl, fun h => absurd h (by decide)⟩
                · have d2 := got (hv 2 69 rfl) (hd 2 (by kernel_rfl))
                  have d1 := got (hv 1 68 rfl) (hd 1 (by kernel_rfl))
                  clear hb hv hd
                  refine wpOp_callg rfl (yields rfl rfl d1) Tryd.call14 (args1 (eval_tmp d2)) (diag_any u0 u1 u2 _ (pl_keep hB s.2.2.2.2.2.2.2.2)) ?_
                  rintro e5 w5_ ⟨rfl, hb5⟩
                  exact ⟨_, rfl, _, rfl, hb5, rfl, fun h => absurd h (by decide)⟩
                · have b8 : f.tmps[8]? = some (.pointer (some ⟨w.heap.size + 1 + 1 + 1 + 1, 0, none⟩)) := (hb 8 (by decide)).trans rfl
                  have d1 := got (hv 1 68 rfl) (hd 1 (by kernel_rfl))
                  clear hb hv hd
                  have c := tc_keep hB s.2.2.2.2.2.2.1
                  refine wpOp_step rfl fun K hK => ?_
                  go_simp
                  exact hK _ _ ⟨_, rfl, Below.refl _ _, rfl, fun h => absurd h (by decide)⟩
                · have d3 := got (hv 3 70 rfl) (hd 3 (by kernel_rfl))
                  have d4 := got (hv 4 71 rfl) (hd 4 (by kernel_rfl))
                  have d1 := got (hv 1 68 rfl) (hd 1 (by kernel_rfl))
                  clear hb hv hd
                  refine wpOp_callg rfl (yields rfl rfl d1) Tryd.call15 (args2 (eval_tmp d3) (eval_tmp d4)) (cU _ (pl_keep hB s.2.2.2.2.2.2.2.2)) ?_
                  rintro e5 w5_ ⟨rfl, hb5⟩
                  exact ⟨_, rfl, _, rfl, hb5, rfl, fun h => absurd h (by decide)⟩
                · have d1 := got (hv 1 68 rfl) (hd 1 (by kernel_rfl))
                  have d5 := got (hv 5 72 rfl) (hd 5 (by kernel_rfl))
                  clear hb hv hd
                  refine wpOp_step rfl fun K hK => ?_
                  go_simp
                  exact hK _ _ ⟨_, rfl, Below.refl _ _, rfl, fun h => absurd h (by decide)⟩
                · have d6 := got (hv 6 73 rfl) (hd 6 (by kernel_rfl))
                  clear hb hv hd
                  refine wpOp_step rfl fun K hK => ?_
                  go_simp
                  exact hK _ _ ⟨_, rfl, Below.refl _ _, rfl, fun h => absurd h (by decide)⟩
                · have b10 : f.tmps[10]? = some (.bool true) := (hb 10 (by decide)).trans rfl
                  have d7 := got (hv 7 74 rfl) (hd 7 (by kernel_rfl))
                  clear hb hv hd
                  refine wpOp_step rfl fun K hK => ?_
                  go_simp
                  exact hK _ _ ⟨_, rfl, Below.refl _ _, rfl, fun h => absurd h (by decide)⟩
                · have d8 := got (hv 8 75 rfl) (hd 8 (by kernel_rfl))
                  have d7 := got (hv 7 74 rfl) (hd 7 (by kernel_rfl))
                  clear hb hv hd
                  refine wpOp_step rfl fun K hK => ?_
                  go_simp
                  exact hK _ _ ⟨_, rfl, Below.refl _ _, rfl, fun h => absurd h (by decide)⟩
                · have d9 := got (hv 9 76 rfl) (hd 9 (by kernel_rfl))
                  have d7 := got (hv 7 74 rfl) (hd 7 (by kernel_rfl))
                  clear hb hv hd
                  refine wpOp_step rfl fun K hK => ?_
                  go_simp
                  exact hK _ _ ⟨_, rfl, Below.refl _ _, rfl, fun h => absurd h (by decide)⟩
                · have b12 : f.tmps[12]? = some (.int .i64 e) := (hb 12 (by decide)).trans rfl
                  have d10 := got (hv 10 77 rfl) (hd 10 (by kernel_rfl))
                  clear hb hv hd
                  refine wpOp_step rfl fun K hK => ?_
                  go_simp
                  exact hK _ _ ⟨_, rfl, Below.refl _ _, rfl, fun h => absurd h (by decide)⟩
                · have d11 := got (hv 11 78 rfl) (hd 11 (by kernel_rfl))
                  have d10 := got (hv 10 77 rfl) (hd 10 (by kernel_rfl))
                  clear hb hv hd
                  refine wpOp_step rfl fun K hK => ?_
                  go_simp
                  exact hK _ _ ⟨_, rfl, Below.refl _ _, rfl, fun h => absurd h (by decide)⟩
                · have d10 := got (hv 10 77 rfl) (hd 10 (by kernel_rfl))
                  have d12 := got (hv 12 79 rfl) (hd 12 (by kernel_rfl))
                  have d7 := got (hv 7 74 rfl) (hd 7 (by kernel_rfl))
                  clear hb hv hd
                  refine wpOp_step rfl fun K hK => ?_
                  go_simp
                  exact hK _ _ ⟨_, rfl, Below.refl _ _, rfl, fun h => absurd h (by decide)⟩
                · have d13 := got (hv 13 80 rfl) (hd 13 (by kernel_rfl))
                  have d7 := got (hv 7 74 rfl) (hd 7 (by kernel_rfl))
                  clear hb hv hd
                  refine wpOp_step rfl fun K hK => ?_
                  go_simp
                  exact hK _ _ ⟨_, rfl, Below.refl _ _, rfl, fun h => absurd h (by decide)⟩
                · have b11 : f.tmps[11]? = some (.pointer (some ⟨g, 0, none⟩)) := (hb 11 (by decide)).trans rfl
                  have d14 := got (hv 14 81 rfl) (hd 14 (by kernel_rfl))
                  clear hb hv hd
                  refine wpOp_step rfl fun K hK => ?_
                  go_simp
                  exact hK _ _ ⟨_, rfl, Below.refl _ _, rfl, fun h => absurd h (by decide)⟩
                · have b4 : f.tmps[4]? = some (.pointer (some ⟨w.heap.size + 1, 0, none⟩)) := (hb 4 (by decide)).trans rfl
                  have d14 := got (hv 14 81 rfl) (hd 14 (by kernel_rfl))
                  clear hb hv hd
                  refine wpOp_step rfl fun K hK => ?_
                  go_simp
                  exact hK _ _ ⟨_, rfl, Below.refl _ _, rfl, fun h => absurd h (by decide)⟩
                · have d15 := got (hv 15 82 rfl) (hd 15 (by kernel_rfl))
                  have d16 := got (hv 16 83 rfl) (hd 16 (by kernel_rfl))
                  have d14 := got (hv 14 81 rfl) (hd 14 (by kernel_rfl))
                  clear hb hv hd
                  refine wpOp_step rfl fun K hK => ?_
                  go_simp
                  exact hK _ _ ⟨_, rfl, Below.refl _ _, rfl, fun h => absurd h (by decide)⟩
                · have d14 := got (hv 14 81 rfl) (hd 14 (by kernel_rfl))
                  have d17 := got (hv 17 84 rfl) (hd 17 (by kernel_rfl))
                  have d7 := got (hv 7 74 rfl) (hd 7 (by kernel_rfl))
                  clear hb hv hd
                  refine wpOp_step rfl fun K hK => ?_
                  go_simp
                  exact hK _ _ ⟨_, rfl, Below.refl _ _, rfl, fun h => absurd h (by decide)⟩
                · have d7 := got (hv 7 74 rfl) (hd 7 (by kernel_rfl))
                  have d18 := got (hv 18 85 rfl) (hd 18 (by kernel_rfl))
                  clear hb hv hd
                  refine wpOp_step rfl fun K hK => ?_
                  go_simp
                  exact hK _ _ ⟨_, rfl, Below.refl _ _, rfl, fun h => absurd h (by decide)⟩
              · intro v w' hB hF hD
                have F0 : v 0 = _ := hF 0 (by simp)
                have F1 : v 1 = _ := hF 1 (by simp)
                have F2 : v 2 = _ := hF 2 (by simp)
                have F3 : v 3 = _ := hF 3 (by simp)
                have F4 : v 4 = _ := hF 4 (by simp)
                have F5 : v 5 = _ := hF 5 (by simp)
                have F6 : v 6 = _ := hF 6 (by simp)
                have F7 : v 7 = _ := hF 7 (by simp)
                have F8 : v 8 = _ := hF 8 (by simp)
                have F9 : v 9 = _ := hF 9 (by simp)
                have F10 : v 10 = _ := hF 10 (by simp)
                have F11 : v 11 = _ := hF 11 (by simp)
                have F12 : v 12 = _ := hF 12 (by simp)
                have F13 : v 13 = _ := hF 13 (by simp)
                have F14 : v 14 = _ := hF 14 (by simp)
                have F15 : v 15 = _ := hF 15 (by simp)
                have F16 : v 16 = _ := hF 16 (by simp)
                have F17 : v 17 = _ := hF 17 (by simp)
                have F18 : v 18 = _ := hF 18 (by simp)
                have F19 : v 19 = _ := hF 19 (by simp)
                clear hF
                simp only [frOf, frGo, Nat.zero_add, Nat.reduceAdd, F0, F1, F2, F3, F4, F5, F6, F7, F8, F9, F10, F11, F12, F13, F14, F15, F16, F17, F18, F19]
                replace s := hm_keep s hB
                clear F0 F1 F2 F3 F4 F5 F6 F7 F8 F9 F10 F11 F12 F13 F14 F15 F16 F17 F18 F19 hD hB kg
                have B9 := s.1
                clear s
                go_wp2
                go_ret
                exact ⟨rfl, B9⟩
            · intro v w' hB hF hD
              have F0 : v 0 = _ := hF 0 (by simp) (by decide)
              have F1 : v 1 = _ := hF 1 (by simp) (by decide)
              have F2 : v 2 = _ := hF 2 (by simp) (by decide)
              have F3 : v 3 = _ := hF 3 (by simp) (by decide)
              have F4 : v 4 = _ := hF 4 (by simp) (by decide)
              have F5 : v 5 = _ := hF 5 (by simp) (by decide)
              have F7 : ∃ g, (v 7) = .pointer (some ⟨g, 0, none⟩) ∧ w6.heap.size ≤ g ∧ SC w' g (fun _ => 0) ∧ SF w' g := hF 7 (by simp) (by decide)
              clear hF
              obtain ⟨g, e7, p7, v7, f7⟩ := F7
              simp only [frOf, frGo, Nat.zero_add, Nat.reduceAdd, F0, F1, F2, F3, F4, F5, e7]
              replace s := hm_keep s hB
              have hz := p7
              have kg : SC ((((((w'.setCell ⟨g, 0, none⟩ (.int .i64 (X 0))).setCell ⟨g, 1, none⟩ (.int .i64 (X 1))).setCell ⟨g, 2, none⟩ (.int .i64 (X 2))).setCell ⟨g, 3, none⟩ (.int .i64 (X 3))).setCell ⟨g, 4, none⟩ (.int .i64 (X 4))).setCell ⟨g, 5, none⟩ (.int .i64 (X 5))) g X := sc_all v7
              have s1 := hm_all (m' := X) s (by omega) (by omega) (by omega) (by omega) (by omega) (by omega) (by omega) (g := g)
              have KK := Lib.hid (And.intro kg s1)
              replace v7 := sc_six v7
              replace f7 := sf_six f7
              clear F0 F1 F2 F3 F4 F5 e7 hB hD kg s1 s cA
              refine wpOp_step rfl (fun K hK => ?_)
              go_simp
              refine hK _ _ ?_
              clear hK K
              refine wpOp_step rfl (fun K hK => ?_)
              go_simp
              refine hK _ _ ?_
              clear hK K
              go_wp2
              clear v7 f7
              generalize (((((w'.setCell ⟨g, 0, none⟩ (.int .i64 (X 0))).setCell ⟨g, 1, none⟩ (.int .i64 (X 1))).setCell ⟨g, 2, none⟩ (.int .i64 (X 2))).setCell ⟨g, 3, none⟩ (.int .i64 (X 3))).setCell ⟨g, 4, none⟩ (.int .i64 (X 4))).setCell ⟨g, 5, none⟩ (.int .i64 (X 5)) = wz at *
              obtain ⟨kg, s⟩ := KK.out
              clear KK p7 hz
              refine region_each [67, 68, 69, 70, 71, 72, 73, 74, 75, 76, 77, 78, 79, 80, 81, 82, 83, 84, 85, 86] (fun i_ X_ U_ => match i_ with | 0 => X_ = .bool true | 1 => X_ = .bool true | 2 => X_ = .agg #[.int .i64 u0, .int .i64 u1, .int .i64 u2] | 3 => X_ = .agg #[.int .i64 (dgm u0 u1 u2 0), .int .i64 (dgm u0 u1 u2 1), .int .i64 (dgm u0 u1 u2 2), .int .i64 (dgm u0 u1 u2 3), .int .i64 (dgm u0 u1 u2 4), .int .i64 (dgm u0 u1 u2 5)] | 4 => X_ = .agg #[.int .i64 u0, .int .i64 u1, .int .i64 u2] | 5 => X_ = .bool true | 6 => X_ = .bool true | 7 => X_ = .bool true | 8 => X_ = .bool true | 9 => X_ = .bool false | 10 => X_ = .bool false | 11 => X_ = .int .i64 e | 12 => X_ = .bool true | 13 => X_ = .bool true | 14 => X_ = .bool true | 15 => X_ = undef | 16 => X_ = undef | 17 => X_ = undef | 18 => X_ = .bool true | 19 => X_ = .bool true | _ => True) (fun i_ => false) (by kernel_rfl) (by kernel_rfl) (by kernel_rfl) (by kernel_rfl) (by kernel_rfl) ?_ (fun i x w hi ha h => by cases ha) ?_ ?_
              · refine swp (upS (upS (upS (upS (upS (upS (upS (upS (upS (upS (upS (upS (upS (upS (upS (upS (upS (upS (upS (upS up0 ?_) ?_) ?_) ?_) ?_) ?_) ?_) ?_) ?_) ?_) ?_) ?_) ?_) ?_) ?_) ?_) ?_) ?_) ?_) ?_)
                all_goals exact fun _ _ _ h _ => h
              · refine upS (upS (upS (upS (upS (upS (upS (upS (upS (upS (upS (upS (upS (upS (upS (upS (upS (upS (upS (upS up0 ?_) ?_) ?_) ?_) ?_) ?_) ?_) ?_) ?_) ?_) ?_) ?_) ?_) ?_) ?_) ?_) ?_) ?_) ?_) ?_
                all_goals intro v f w' hb hv hB hd
                · clear hb hv hd
                  refine wpOp_call rfl Tryd.call10 args0 (fixed_sym _ (pl_keep hB s.2.2.2.2.2.2.2.2)) ?_
                  rintro e5 w5_ ⟨rfl, hb5⟩
                  exact ⟨_, rfl, _, rfl, hb5, rfl, fun h => absurd h (by decide)⟩
                · have d0 := got (hv 0 67 rfl) (hd 0 (by kernel_rfl))
                  clear hb hv hd
                  refine wpOp_step rfl fun K hK => ?_
                  go_simp
                  exact hK _ _ ⟨_, rfl, Below.refl _ _, rfl, fun h => absurd h (by decide)⟩
                · have b8 : f.tmps[8]? = some (.pointer (some ⟨w.heap.size + 1 + 1 + 1 + 1, 0, none⟩)) := (hb 8 (by decide)).trans rfl
                  have d1 := got (hv 1 68 rfl) (hd 1 (by kernel_rfl))
                  clear hb hv hd
                  have c := tc_keep hB s.2.2.2.2.2.2.1
                  refine wpOp_step rfl fun K hK => ?_
                  go_simp
                  exact hK _ _ ⟨_, rfl, Below.refl _ _, rfl, fun h => absurd h (by decide)⟩
                · have d2 := got (hv 2 69 rfl) (hd 2 (by kernel_rfl))
                  have d1 := got (hv 1 68 rfl) (hd 1 (by kernel_rfl))
                  clear hb hv hd
                  refine wpOp_callg rfl (yields rfl rfl d1) Tryd.call14 (args1 (eval_tmp d2)) (diag_any u0 u1 u2 _ (pl_keep hB s.2.2.2.2.2.2.2.2)) ?_
                  rintro e5 w5_ ⟨rfl, hb5⟩
                  exact ⟨_, rfl, _, rfl, hb5, rfl, fun h => absurd h (by decide)⟩
                · have b8 : f.tmps[8]? = some (.pointer (some ⟨w.heap.size + 1 + 1 + 1 + 1, 0, none⟩)) := (hb 8 (by decide)).trans rfl
                  have d1 := got (hv 1 68 rfl) (hd 1 (by kernel_rfl))
                  clear hb hv hd
                  have c := tc_keep hB s.2.2.2.2.2.2.1
                  refine wpOp_step rfl fun K hK => ?_
                  go_simp
                  exact hK _ _ ⟨_, rfl, Below.refl _ _, rfl, fun h => absurd h (by decide)⟩
                · have d3 := got (hv 3 70 rfl) (hd 3 (by kernel_rfl))
                  have d4 := got (hv 4 71 rfl) (hd 4 (by kernel_rfl))
                  have d1 := got (hv 1 68 rfl) (hd 1 (by kernel_rfl))
                  clear hb hv hd
                  refine wpOp_callg rfl (yields rfl rfl d1) Tryd.call15 (args2 (eval_tmp d3) (eval_tmp d4)) (cU _ (pl_keep hB s.2.2.2.2.2.2.2.2)) ?_
                  rintro e5 w5_ ⟨rfl, hb5⟩
                  exact ⟨_, rfl, _, rfl, hb5, rfl, fun h => absurd h (by decide)⟩
                · have d1 := got (hv 1 68 rfl) (hd 1 (by kernel_rfl))
                  have d5 := got (hv 5 72 rfl) (hd 5 (by kernel_rfl))
                  clear hb hv hd
                  refine wpOp_step rfl fun K hK => ?_
                  go_simp
                  exact hK _ _ ⟨_, rfl, Below.refl _ _, rfl, fun h => absurd h (by decide)⟩
                · have d6 := got (hv 6 73 rfl) (hd 6 (by kernel_rfl))
                  clear hb hv hd
                  refine wpOp_step rfl fun K hK => ?_
                  go_simp
                  exact hK _ _ ⟨_, rfl, Below.refl _ _, rfl, fun h => absurd h (by decide)⟩
                · have b10 : f.tmps[10]? = some (.bool true) := (hb 10 (by decide)).trans rfl
                  have d7 := got (hv 7 74 rfl) (hd 7 (by kernel_rfl))
                  clear hb hv hd
                  refine wpOp_step rfl fun K hK => ?_
                  go_simp
                  exact hK _ _ ⟨_, rfl, Below.refl _ _, rfl, fun h => absurd h (by decide)⟩
                · have d8 := got (hv 8 75 rfl) (hd 8 (by kernel_rfl))
                  have d7 := got (hv 7 74 rfl) (hd 7 (by kernel_rfl))
                  clear hb hv hd
                  refine wpOp_step rfl fun K hK => ?_
                  go_simp
                  exact hK _ _ ⟨_, rfl, Below.refl _ _, rfl, fun h => absurd h (by decide)⟩
                · have d9 := got (hv 9 76 rfl) (hd 9 (by kernel_rfl))
                  have d7 := got (hv 7 74 rfl) (hd 7 (by kernel_rfl))
                  clear hb hv hd
                  refine wpOp_step rfl fun K hK => ?_
                  go_simp
                  exact hK _ _ ⟨_, rfl, Below.refl _ _, rfl, fun h => absurd h (by decide)⟩
                · have b12 : f.tmps[12]? = some (.int .i64 e) := (hb 12 (by decide)).trans rfl
                  have d10 := got (hv 10 77 rfl) (hd 10 (by kernel_rfl))
                  clear hb hv hd
                  refine wpOp_step rfl fun K hK => ?_
                  go_simp
                  exact hK _ _ ⟨_, rfl, Below.refl _ _, rfl, fun h => absurd h (by decide)⟩
                · have d11 := got (hv 11 78 rfl) (hd 11 (by kernel_rfl))
                  have d10 := got (hv 10 77 rfl) (hd 10 (by kernel_rfl))
                  clear hb hv hd
                  refine wpOp_step rfl fun K hK => ?_
                  go_simp
                  exact hK _ _ ⟨_, rfl, Below.refl _ _, rfl, fun h => absurd h (by decide)⟩
                · have d10 := got (hv 10 77 rfl) (hd 10 (by kernel_rfl))
                  have d12 := got (hv 12 79 rfl) (hd 12 (by kernel_rfl))
                  have d7 := got (hv 7 74 rfl) (hd 7 (by kernel_rfl))
                  clear hb hv hd
                  refine wpOp_step rfl fun K hK => ?_
                  go_simp
                  exact hK _ _ ⟨_, rfl, Below.refl _ _, rfl, fun h => absurd h (by decide)⟩
                · have d13 := got (hv 13 80 rfl) (hd 13 (by kernel_rfl))
                  have d7 := got (hv 7 74 rfl) (hd 7 (by kernel_rfl))
                  clear hb hv hd
                  refine wpOp_step rfl fun K hK => ?_
                  go_simp
                  exact hK _ _ ⟨_, rfl, Below.refl _ _, rfl, fun h => absurd h (by decide)⟩
                · have b11 : f.tmps[11]? = some (.pointer (some ⟨g, 0, none⟩)) := (hb 11 (by decide)).trans rfl
                  have d14 := got (hv 14 81 rfl) (hd 14 (by kernel_rfl))
                  clear hb hv hd
                  refine wpOp_step rfl fun K hK => ?_
                  go_simp
                  exact hK _ _ ⟨_, rfl, Below.refl _ _, rfl, fun h => absurd h (by decide)⟩
                · have b4 : f.tmps[4]? = some (.pointer (some ⟨w.heap.size + 1, 0, none⟩)) := (hb 4 (by decide)).trans rfl
                  have d14 := got (hv 14 81 rfl) (hd 14 (by kernel_rfl))
                  clear hb hv hd
                  refine wpOp_step rfl fun K hK => ?_
                  go_simp
                  exact hK _ _ ⟨_, rfl, Below.refl _ _, rfl, fun h => absurd h (by decide)⟩
                · have d15 := got (hv 15 82 rfl) (hd 15 (by kernel_rfl))
                  have d16 := got (hv 16 83 rfl) (hd 16 (by kernel_rfl))
                  have d14 := got (hv 14 81 rfl) (hd 14 (by kernel_rfl))
                  clear hb hv hd
                  refine wpOp_step rfl fun K hK => ?_
                  go_simp
                  exact hK _ _ ⟨_, rfl, Below.refl _ _, rfl, fun h => absurd h (by decide)⟩
                · have d14 := got (hv 14 81 rfl) (hd 14 (by kernel_rfl))
                  have d17 := got (hv 17 84 rfl) (hd 17 (by kernel_rfl))
                  have d7 := got (hv 7 74 rfl) (hd 7 (by kernel_rfl))
                  clear hb hv hd
                  refine wpOp_step rfl fun K hK => ?_
                  go_simp
                  exact hK _ _ ⟨_, rfl, Below.refl _ _, rfl, fun h => absurd h (by decide)⟩
                · have d7 := got (hv 7 74 rfl) (hd 7 (by kernel_rfl))
                  have d18 := got (hv 18 85 rfl) (hd 18 (by kernel_rfl))
                  clear hb hv hd
                  refine wpOp_step rfl fun K hK => ?_
                  go_simp
                  exact hK _ _ ⟨_, rfl, Below.refl _ _, rfl, fun h => absurd h (by decide)⟩
              · intro v w' hB hF hD
                have F0 : v 0 = _ := hF 0 (by simp)
                have F1 : v 1 = _ := hF 1 (by simp)
                have F2 : v 2 = _ := hF 2 (by simp)
                have F3 : v 3 = _ := hF 3 (by simp)
                have F4 : v 4 = _ := hF 4 (by simp)
                have F5 : v 5 = _ := hF 5 (by simp)
                have F6 : v 6 = _ := hF 6 (by simp)
                have F7 : v 7 = _ := hF 7 (by simp)
                have F8 : v 8 = _ := hF 8 (by simp)
                have F9 : v 9 = _ := hF 9 (by simp)
                have F10 : v 10 = _ := hF 10 (by simp)
                have F11 : v 11 = _ := hF 11 (by simp)
                have F12 : v 12 = _ := hF 12 (by simp)
                have F13 : v 13 = _ := hF 13 (by simp)
                have F14 : v 14 = _ := hF 14 (by simp)
                have F15 : v 15 = _ := hF 15 (by simp)
                have F16 : v 16 = _ := hF 16 (by simp)
                have F17 : v 17 = _ := hF 17 (by simp)
                have F18 : v 18 = _ := hF 18 (by simp)
                have F19 : v 19 = _ := hF 19 (by simp)
                clear hF
                simp only [frOf, frGo, Nat.zero_add, Nat.reduceAdd, F0, F1, F2, F3, F4, F5, F6, F7, F8, F9, F10, F11, F12, F13, F14, F15, F16, F17, F18, F19]
                replace s := hm_keep s hB
                clear F0 F1 F2 F3 F4 F5 F6 F7 F8 F9 F10 F11 F12 F13 F14 F15 F16 F17 F18 F19 hD hB kg
                have B9 := s.1
                clear s
                go_wp2
                go_ret
                exact ⟨rfl, B9⟩
          · subst he
            obtain ⟨ga, gb, gc, gl, gu, gz, gw⟩ := hm_lt s
            refine region_late [61, 62, 63, 64, 60, 65, 66, 11] 6 (fun i_ X_ U_ => match i_ with | 0 => X_ = .agg #[.int .i64 (m 0), .int .i64 (m 1), .int .i64 (m 2), .int .i64 (m 3), .int .i64 (m 4), .int .i64 (m 5)] | 1 => X_ = .agg #[.int .i64 u0, .int .i64 u1, .int .i64 u2] | 2 => X_ = .agg #[.int .i64 (dgm u0 u1 u2 0), .int .i64 (dgm u0 u1 u2 1), .int .i64 (dgm u0 u1 u2 2), .int .i64 (dgm u0 u1 u2 3), .int .i64 (dgm u0 u1 u2 4), .int .i64 (dgm u0 u1 u2 5)] | 3 => X_ = .tuple #[.agg #[.int .i64 (X 0), .int .i64 (X 1), .int .i64 (X 2), .int .i64 (X 3), .int .i64 (X 4), .int .i64 (X 5)], .int .i64 0] | 4 => X_ = .tuple #[.agg #[.int .i64 (X 0), .int .i64 (X 1), .int .i64 (X 2), .int .i64 (X 3), .int .i64 (X 4), .int .i64 (X 5)], .int .i64 0] | 5 => X_ = .agg #[.int .i64 (X 0), .int .i64 (X 1), .int .i64 (X 2), .int .i64 (X 3), .int .i64 (X 4), .int .i64 (X 5)] | 6 => X_ = .int .i64 0 | 7 => ∃ g, X_ = .pointer (some ⟨g, 0, none⟩) ∧ w6.heap.size ≤ g ∧ SC U_ g (fun _ => 0) ∧ SF U_ g | _ => True) (fun i_ => i_ == 7) (by kernel_rfl) (by kernel_rfl) (by kernel_rfl) (by kernel_rfl) ?_ ?_ ?_ ?_ ?_
            · refine swp (upS (upS (upS (upS (upS (upS (upS (upS up0 ?_) ?_) ?_) ?_) ?_) ?_) ?_) ?_)
              · exact fun _ _ _ h _ => h
              · exact fun _ _ _ h _ => h
              · exact fun _ _ _ h _ => h
              · exact fun _ _ _ h _ => h
              · exact fun _ _ _ h _ => h
              · exact fun _ _ _ h _ => h
              · exact fun _ _ _ h _ => h
              · intro x w w' h hb; obtain ⟨g, e, hg, hc, hf⟩ := h; exact ⟨g, e, hg, sc_keep hb hc, sf_keep hb hc hf⟩
            · refine swa (upS (upS (upS (upS (upS (upS (upS (upS up0 ?_) ?_) ?_) ?_) ?_) ?_) ?_) ?_)
              · exact fun _ _ ha => absurd ha (by decide)
              · exact fun _ _ ha => absurd ha (by decide)
              · exact fun _ _ ha => absurd ha (by decide)
              · exact fun _ _ ha => absurd ha (by decide)
              · exact fun _ _ ha => absurd ha (by decide)
              · exact fun _ _ ha => absurd ha (by decide)
              · exact fun _ _ ha => absurd ha (by decide)
              · intro x w _ h; obtain ⟨g, rfl, _, hg, _⟩ := h; exact sc_lt hg
            · refine upS (upS (upS (upS (upS (upS (upS (upS up0 ?_) ?_) ?_) ?_) ?_) ?_) ?_) ?_
              all_goals intro v f w' hb hv hB hd
              · have b3 : f.tmps[3]? = some (.pointer (some ⟨w.heap.size, 0, none⟩)) := (hb 3 (by decide)).trans rfl
                clear hb hv hd
                have c := sc_six (sc_keep hB s.2.1)
                refine wpOp_step rfl fun K hK => ?_
                go_simp
                exact hK _ _ ⟨_, rfl, Below.refl _ _, rfl, fun h => absurd h (by decide)⟩
              · have b8 : f.tmps[8]? = some (.pointer (some ⟨w.heap.size + 1 + 1 + 1 + 1, 0, none⟩)) := (hb 8 (by decide)).trans rfl
                clear hb hv hd
                have c := tc_keep hB s.2.2.2.2.2.2.1
                refine wpOp_step rfl fun K hK => ?_
                go_simp
                exact hK _ _ ⟨_, rfl, Below.refl _ _, rfl, fun h => absurd h (by decide)⟩
              · have d1 := got (hv 1 62 rfl) (hd 1 (by kernel_rfl))
                clear hb hv hd
                refine wpOp_call rfl Tryd.call14 (args1 (eval_tmp d1)) (diag_any u0 u1 u2 _ (pl_keep hB s.2.2.2.2.2.2.2.2)) ?_
                rintro e5 w5_ ⟨rfl, hb5⟩
                exact ⟨_, rfl, _, rfl, hb5, rfl, fun h => absurd h (by decide)⟩
              · have d0 := got (hv 0 61 rfl) (hd 0 (by kernel_rfl))
                have d2 := got (hv 2 63 rfl) (hd 2 (by kernel_rfl))
                clear hb hv hd
                refine wpOp_call rfl Tryd.call12 (args2 (eval_tmp d0) (eval_tmp d2)) (cA _) ?_
                rintro e5 w5_ ⟨rfl, hb5⟩
                exact ⟨_, rfl, _, rfl, hb5, rfl, fun h => absurd h (by decide)⟩
              · have d3 := got (hv 3 64 rfl) (hd 3 (by kernel_rfl))
                clear hb hv hd
                refine wpOp_step rfl fun K hK => ?_
                go_simp
                exact hK _ _ ⟨_, rfl, Below.refl _ _, rfl, fun h => absurd h (by decide)⟩
              · have d4 := got (hv 4 60 rfl) (hd 4 (by kernel_rfl))
                clear hb hv hd
                refine wpOp_step rfl fun K hK => ?_
                go_simp
                exact hK _ _ ⟨_, rfl, Below.refl _ _, rfl, fun h => absurd h (by decide)⟩
              · have d4 := got (hv 4 60 rfl) (hd 4 (by kernel_rfl))
                clear hb hv hd
                refine wpOp_step rfl fun K hK => ?_
                go_simp
                exact hK _ _ ⟨_, rfl, Below.refl _ _, rfl, fun h => absurd h (by decide)⟩
              · clear hb hv hd
                refine wpOp_step rfl fun K hK => ?_
                go_simp
                exact hK _ _ ⟨_, rfl, b_alloc (Below.refl _ _), ⟨_, rfl, hB.size, sc_new (m := fun _ => 0) rfl, sf_new rfl⟩, fun _ => Nat.le_refl _⟩
            · intro v w' hB hF hD
              have F0 : v 0 = _ := hF 0 (by simp)
              have F1 : v 1 = _ := hF 1 (by simp)
              have F2 : v 2 = _ := hF 2 (by simp)
              have F3 : v 3 = _ := hF 3 (by simp)
              have F4 : v 4 = _ := hF 4 (by simp)
              have F5 : v 5 = _ := hF 5 (by simp)
              have F6 : v 6 = _ := hF 6 (by simp)
              have F7 : ∃ g, (v 7) = .pointer (some ⟨g, 0, none⟩) ∧ w6.heap.size ≤ g ∧ SC w' g (fun _ => 0) ∧ SF w' g := hF 7 (by simp)
              clear hF
              obtain ⟨g, e7, p7, v7, f7⟩ := F7
              simp only [frOf, frGo, Nat.zero_add, Nat.reduceAdd, F0, F1, F2, F3, F4, F5, F6, e7]
              replace s := hm_keep s hB
              have hz := p7
              have kg : SC ((((((w'.setCell ⟨g, 0, none⟩ (.int .i64 (X 0))).setCell ⟨g, 1, none⟩ (.int .i64 (X 1))).setCell ⟨g, 2, none⟩ (.int .i64 (X 2))).setCell ⟨g, 3, none⟩ (.int .i64 (X 3))).setCell ⟨g, 4, none⟩ (.int .i64 (X 4))).setCell ⟨g, 5, none⟩ (.int .i64 (X 5))) g X := sc_all v7
              have s1 := hm_all (m' := X) s (by omega) (by omega) (by omega) (by omega) (by omega) (by omega) (by omega) (g := g)
              have KK := Lib.hid (And.intro kg s1)
              replace v7 := sc_six v7
              replace f7 := sf_six f7
              clear F0 F1 F2 F3 F4 F5 F6 e7 hB hD kg s1 s cA
              go_wp2
              clear v7 f7
              generalize (((((w'.setCell ⟨g, 0, none⟩ (.int .i64 (X 0))).setCell ⟨g, 1, none⟩ (.int .i64 (X 1))).setCell ⟨g, 2, none⟩ (.int .i64 (X 2))).setCell ⟨g, 3, none⟩ (.int .i64 (X 3))).setCell ⟨g, 4, none⟩ (.int .i64 (X 4))).setCell ⟨g, 5, none⟩ (.int .i64 (X 5)) = wz at *
              obtain ⟨kg, s⟩ := KK.out
              clear KK p7 hz
              refine region_each [67, 68, 69, 70, 71, 72, 73, 74, 75, 76, 77, 78, 79, 80, 81, 82, 83, 84, 85, 86] (fun i_ X_ U_ => match i_ with | 0 => X_ = .bool true | 1 => X_ = .bool true | 2 => X_ = .agg #[.int .i64 u0, .int .i64 u1, .int .i64 u2] | 3 => X_ = .agg #[.int .i64 (dgm u0 u1 u2 0), .int .i64 (dgm u0 u1 u2 1), .int .i64 (dgm u0 u1 u2 2), .int .i64 (dgm u0 u1 u2 3), .int .i64 (dgm u0 u1 u2 4), .int .i64 (dgm u0 u1 u2 5)] | 4 => X_ = .agg #[.int .i64 u0, .int .i64 u1, .int .i64 u2] | 5 => X_ = .bool true | 6 => X_ = .bool true | 7 => X_ = .bool true | 8 => X_ = .bool true | 9 => X_ = .bool false | 10 => X_ = .bool false | 11 => X_ = .int .i64 0 | 12 => X_ = .bool false | 13 => X_ = .bool false | 14 => X_ = .bool false | 15 => X_ = .agg #[.int .i64 (X 0), .int .i64 (X 1), .int .i64 (X 2), .int .i64 (X 3), .int .i64 (X 4), .int .i64 (X 5)] | 16 => X_ = .agg #[.int .i64 f0, .int .i64 f1, .int .i64 f2] | 17 => X_ = .bool true | 18 => X_ = .bool true | 19 => X_ = .bool true | _ => True) (fun i_ => false) (by kernel_rfl) (by kernel_rfl) (by kernel_rfl) (by kernel_rfl) (by kernel_rfl) ?_ (fun i x w hi ha h => by cases ha) ?_ ?_
              · refine swp (upS (upS (upS (upS (upS (upS (upS (upS (upS (upS (upS (upS (upS (upS (upS (upS (upS (upS (upS (upS up0 ?_) ?_) ?_) ?_) ?_) ?_) ?_) ?_) ?_) ?_) ?_) ?_) ?_) ?_) ?_) ?_) ?_) ?_) ?_) ?_)
                all_goals exact fun _ _ _ h _ => h
              · refine upS (upS (upS (upS (upS (upS (upS (upS (upS (upS (upS (upS (upS (upS (upS (upS (upS (upS (upS (upS up0 ?_) ?_) ?_) ?_) ?_) ?_) ?_) ?_) ?_) ?_) ?_) ?_) ?_) ?_) ?_) ?_) ?_) ?_) ?_) ?_
                all_goals intro v f w' hb hv hB hd
                · clear hb hv hd
                  refine wpOp_call rfl Tryd.call10 args0 (fixed_sym _ (pl_keep hB s.2.2.2.2.2.2.2.2)) ?_
                  rintro e5 w5_ ⟨rfl, hb5⟩
                  exact ⟨_, rfl, _, rfl, hb5, rfl, fun h => absurd h (by decide)⟩
                · have d0 := got (hv 0 67 rfl) (hd 0 (by kernel_rfl))
                  clear hb hv hd
                  refine wpOp_step rfl fun K hK => ?_
                  go_simp
                  exact hK _ _ ⟨_, rfl, Below.refl _ _, rfl, fun h => absurd h (by decide)⟩
                · have b8 : f.tmps[8]? = some (.pointer (some ⟨w.heap.size + 1 + 1 + 1 + 1, 0, none⟩)) := (hb 8 (by decide)).trans rfl
                  have d1 := got (hv 1 68 rfl) (hd 1 (by kernel_rfl))
                  clear hb hv hd
                  have c := tc_keep hB s.2.2.2.2.2.2.1
                  refine wpOp_step rfl fun K hK => ?_
                  go_simp
                  exact hK _ _ ⟨_, rfl, Below.refl _ _, rfl, fun h => absurd h (by decide)⟩
                · have d2 := got (hv 2 69 rfl) (hd 2 (by kernel_rfl))
                  have d1 := got (hv 1 68 rfl) (hd 1 (by kernel_rfl))
                  clear hb hv hd
                  refine wpOp_callg rfl (yields rfl rfl d1) Tryd.call14 (args1 (eval_tmp d2)) (diag_any u0 u1 u2 _ (pl_keep hB s.2.2.2.2.2.2.2.2)) ?_
                  rintro e5 w5_ ⟨rfl, hb5⟩
                  exact ⟨_, rfl, _, rfl, hb5, rfl, fun h => absurd h (by decide)⟩
                · have b8 : f.tmps[8]? = some (.pointer (some ⟨w.heap.size + 1 + 1 + 1 + 1, 0, none⟩)) := (hb 8 (by decide)).trans rfl
                  have d1 := got (hv 1 68 rfl) (hd 1 (by kernel_rfl))
                  clear hb hv hd
                  have c := tc_keep hB s.2.2.2.2.2.2.1
                  refine wpOp_step rfl fun K hK => ?_
                  go_simp
                  exact hK _ _ ⟨_, rfl, Below.refl _ _, rfl, fun h => absurd h (by decide)⟩
                · have d3 := got (hv 3 70 rfl) (hd 3 (by kernel_rfl))
                  have d4 := got (hv 4 71 rfl) (hd 4 (by kernel_rfl))
                  have d1 := got (hv 1 68 rfl) (hd 1 (by kernel_rfl))
                  clear hb hv hd
                  refine wpOp_callg rfl (yields rfl rfl d1) Tryd.call15 (args2 (eval_tmp d3) (eval_tmp d4)) (cU _ (pl_keep hB s.2.2.2.2.2.2.2.2)) ?_
                  rintro e5 w5_ ⟨rfl, hb5⟩
                  exact ⟨_, rfl, _, rfl, hb5, rfl, fun h => absurd h (by decide)⟩
                · have d1 := got (hv 1 68 rfl) (hd 1 (by kernel_rfl))
                  have d5 := got (hv 5 72 rfl) (hd 5 (by kernel_rfl))
                  clear hb hv hd
                  refine wpOp_step rfl fun K hK => ?_
                  go_simp
                  exact hK _ _ ⟨_, rfl, Below.refl _ _, rfl, fun h => absurd h (by decide)⟩
                · have d6 := got (hv 6 73 rfl) (hd 6 (by kernel_rfl))
                  clear hb hv hd
                  refine wpOp_step rfl fun K hK => ?_
                  go_simp
                  exact hK _ _ ⟨_, rfl, Below.refl _ _, rfl, fun h => absurd h (by decide)⟩
                · have b10 : f.tmps[10]? = some (.bool true) := (hb 10 (by decide)).trans rfl
                  have d7 := got (hv 7 74 rfl) (hd 7 (by kernel_rfl))
                  clear hb hv hd
                  refine wpOp_step rfl fun K hK => ?_
                  go_simp
                  exact hK _ _ ⟨_, rfl, Below.refl _ _, rfl, fun h => absurd h (by decide)⟩
                · have d8 := got (hv 8 75 rfl) (hd 8 (by kernel_rfl))
                  have d7 := got (hv 7 74 rfl) (hd 7 (by kernel_rfl))
                  clear hb hv hd
                  refine wpOp_step rfl fun K hK => ?_
                  go_simp
                  exact hK _ _ ⟨_, rfl, Below.refl _ _, rfl, fun h => absurd h (by decide)⟩
                · have d9 := got (hv 9 76 rfl) (hd 9 (by kernel_rfl))
                  have d7 := got (hv 7 74 rfl) (hd 7 (by kernel_rfl))
                  clear hb hv hd
                  refine wpOp_step rfl fun K hK => ?_
                  go_simp
                  exact hK _ _ ⟨_, rfl, Below.refl _ _, rfl, fun h => absurd h (by decide)⟩
                · have b12 : f.tmps[12]? = some (.int .i64 0) := (hb 12 (by decide)).trans rfl
                  have d10 := got (hv 10 77 rfl) (hd 10 (by kernel_rfl))
                  clear hb hv hd
                  refine wpOp_step rfl fun K hK => ?_
                  go_simp
                  exact hK _ _ ⟨_, rfl, Below.refl _ _, rfl, fun h => absurd h (by decide)⟩
                · have d11 := got (hv 11 78 rfl) (hd 11 (by kernel_rfl))
                  have d10 := got (hv 10 77 rfl) (hd 10 (by kernel_rfl))
                  clear hb hv hd
                  refine wpOp_step rfl fun K hK => ?_
                  go_simp
                  exact hK _ _ ⟨_, rfl, Below.refl _ _, rfl, fun h => absurd h (by decide)⟩
                · have d10 := got (hv 10 77 rfl) (hd 10 (by kernel_rfl))
                  have d12 := got (hv 12 79 rfl) (hd 12 (by kernel_rfl))
                  have d7 := got (hv 7 74 rfl) (hd 7 (by kernel_rfl))
                  clear hb hv hd
                  refine wpOp_step rfl fun K hK => ?_
                  go_simp
                  exact hK _ _ ⟨_, rfl, Below.refl _ _, rfl, fun h => absurd h (by decide)⟩
                · have d13 := got (hv 13 80 rfl) (hd 13 (by kernel_rfl))
                  have d7 := got (hv 7 74 rfl) (hd 7 (by kernel_rfl))
                  clear hb hv hd
                  refine wpOp_step rfl fun K hK => ?_
                  go_simp
                  exact hK _ _ ⟨_, rfl, Below.refl _ _, rfl, fun h => absurd h (by decide)⟩
                · have b11 : f.tmps[11]? = some (.pointer (some ⟨g, 0, none⟩)) := (hb 11 (by decide)).trans rfl
                  have d14 := got (hv 14 81 rfl) (hd 14 (by kernel_rfl))
                  clear hb hv hd
                  have c := sc_six (sc_keep hB kg)
                  refine wpOp_step rfl fun K hK => ?_
                  go_simp
                  exact hK _ _ ⟨_, rfl, Below.refl _ _, rfl, fun h => absurd h (by decide)⟩
                · have b4 : f.tmps[4]? = some (.pointer (some ⟨w.heap.size + 1, 0, none⟩)) := (hb 4 (by decide)).trans rfl
                  have d14 := got (hv 14 81 rfl) (hd 14 (by kernel_rfl))
                  clear hb hv hd
                  have c := tc_keep hB s.2.2.1
                  refine wpOp_step rfl fun K hK => ?_
                  go_simp
                  exact hK _ _ ⟨_, rfl, Below.refl _ _, rfl, fun h => absurd h (by decide)⟩
                · have d15 := got (hv 15 82 rfl) (hd 15 (by kernel_rfl))
                  have d16 := got (hv 16 83 rfl) (hd 16 (by kernel_rfl))
                  have d14 := got (hv 14 81 rfl) (hd 14 (by kernel_rfl))
                  clear hb hv hd
                  refine wpOp_callg rfl (yields rfl rfl d14) Tryd.call15 (args2 (eval_tmp d15) (eval_tmp d16)) (cX _ (pl_keep hB s.2.2.2.2.2.2.2.2)) ?_
                  rintro e5 w5_ ⟨rfl, hb5⟩
                  exact ⟨_, rfl, _, rfl, hb5, rfl, fun h => absurd h (by decide)⟩
                · have d14 := got (hv 14 81 rfl) (hd 14 (by kernel_rfl))
                  have d17 := got (hv 17 84 rfl) (hd 17 (by kernel_rfl))
                  have d7 := got (hv 7 74 rfl) (hd 7 (by kernel_rfl))
                  clear hb hv hd
                  refine wpOp_step rfl fun K hK => ?_
                  go_simp
                  exact hK _ _ ⟨_, rfl, Below.refl _ _, rfl, fun h => absurd h (by decide)⟩
                · have d7 := got (hv 7 74 rfl) (hd 7 (by kernel_rfl))
                  have d18 := got (hv 18 85 rfl) (hd 18 (by kernel_rfl))
                  clear hb hv hd
                  refine wpOp_step rfl fun K hK => ?_
                  go_simp
                  exact hK _ _ ⟨_, rfl, Below.refl _ _, rfl, fun h => absurd h (by decide)⟩
              · intro v w' hB hF hD
                have F0 : v 0 = _ := hF 0 (by simp)
                have F1 : v 1 = _ := hF 1 (by simp)
                have F2 : v 2 = _ := hF 2 (by simp)
                have F3 : v 3 = _ := hF 3 (by simp)
                have F4 : v 4 = _ := hF 4 (by simp)
                have F5 : v 5 = _ := hF 5 (by simp)
                have F6 : v 6 = _ := hF 6 (by simp)
                have F7 : v 7 = _ := hF 7 (by simp)
                have F8 : v 8 = _ := hF 8 (by simp)
                have F9 : v 9 = _ := hF 9 (by simp)
                have F10 : v 10 = _ := hF 10 (by simp)
                have F11 : v 11 = _ := hF 11 (by simp)
                have F12 : v 12 = _ := hF 12 (by simp)
                have F13 : v 13 = _ := hF 13 (by simp)
                have F14 : v 14 = _ := hF 14 (by simp)
                have F15 : v 15 = _ := hF 15 (by simp)
                have F16 : v 16 = _ := hF 16 (by simp)
                have F17 : v 17 = _ := hF 17 (by simp)
                have F18 : v 18 = _ := hF 18 (by simp)
                have F19 : v 19 = _ := hF 19 (by simp)
                clear hF
                simp only [frOf, frGo, Nat.zero_add, Nat.reduceAdd, F0, F1, F2, F3, F4, F5, F6, F7, F8, F9, F10, F11, F12, F13, F14, F15, F16, F17, F18, F19]
                replace s := hm_keep s hB
                clear F0 F1 F2 F3 F4 F5 F6 F7 F8 F9 F10 F11 F12 F13 F14 F15 F16 F17 F18 F19 hD hB kg
                have B9 := s.1
                clear s
                go_wp2
                go_ret
                exact ⟨rfl, B9⟩
            · intro v w' hB hF hD
              have F0 : v 0 = _ := hF 0 (by simp) (by decide)
              have F1 : v 1 = _ := hF 1 (by simp) (by decide)
              have F2 : v 2 = _ := hF 2 (by simp) (by decide)
              have F3 : v 3 = _ := hF 3 (by simp) (by decide)
              have F4 : v 4 = _ := hF 4 (by simp) (by decide)
              have F5 : v 5 = _ := hF 5 (by simp) (by decide)
              have F7 : ∃ g, (v 7) = .pointer (some ⟨g, 0, none⟩) ∧ w6.heap.size ≤ g ∧ SC w' g (fun _ => 0) ∧ SF w' g := hF 7 (by simp) (by decide)
              clear hF
              obtain ⟨g, e7, p7, v7, f7⟩ := F7
              simp only [frOf, frGo, Nat.zero_add, Nat.reduceAdd, F0, F1, F2, F3, F4, F5, e7]
              replace s := hm_keep s hB
              have hz := p7
              have kg : SC ((((((w'.setCell ⟨g, 0, none⟩ (.int .i64 (X 0))).setCell ⟨g, 1, none⟩ (.int .i64 (X 1))).setCell ⟨g, 2, none⟩ (.int .i64 (X 2))).setCell ⟨g, 3, none⟩ (.int .i64 (X 3))).setCell ⟨g, 4, none⟩ (.int .i64 (X 4))).setCell ⟨g, 5, none⟩ (.int .i64 (X 5))) g X := sc_all v7
              have s1 := hm_all (m' := X) s (by omega) (by omega) (by omega) (by omega) (by omega) (by omega) (by omega) (g := g)
              have KK := Lib.hid (And.intro kg s1)
              replace v7 := sc_six v7
              replace f7 := sf_six f7
              clear F0 F1 F2 F3 F4 F5 e7 hB hD kg s1 s cA
              refine wpOp_step rfl (fun K hK => ?_)
              go_simp
              refine hK _ _ ?_
              clear hK K
              refine wpOp_step rfl (fun K hK => ?_)
              go_simp
              refine hK _ _ ?_
              clear hK K
              go_wp2
              clear v7 f7
              generalize (((((w'.setCell ⟨g, 0, none⟩ (.int .i64 (X 0))).setCell ⟨g, 1, none⟩ (.int .i64 (X 1))).setCell ⟨g, 2, none⟩ (.int .i64 (X 2))).setCell ⟨g, 3, none⟩ (.int .i64 (X 3))).setCell ⟨g, 4, none⟩ (.int .i64 (X 4))).setCell ⟨g, 5, none⟩ (.int .i64 (X 5)) = wz at *
              obtain ⟨kg, s⟩ := KK.out
              clear KK p7 hz
              refine region_each [67, 68, 69, 70, 71, 72, 73, 74, 75, 76, 77, 78, 79, 80, 81, 82, 83, 84, 85, 86] (fun i_ X_ U_ => match i_ with | 0 => X_ = .bool true | 1 => X_ = .bool true | 2 => X_ = .agg #[.int .i64 u0, .int .i64 u1, .int .i64 u2] | 3 => X_ = .agg #[.int .i64 (dgm u0 u1 u2 0), .int .i64 (dgm u0 u1 u2 1), .int .i64 (dgm u0 u1 u2 2), .int .i64 (dgm u0 u1 u2 3), .int .i64 (dgm u0 u1 u2 4), .int .i64 (dgm u0 u1 u2 5)] | 4 => X_ = .agg #[.int .i64 u0, .int .i64 u1, .int .i64 u2] | 5 => X_ = .bool true | 6 => X_ = .bool true | 7 => X_ = .bool true | 8 => X_ = .bool true | 9 => X_ = .bool false | 10 => X_ = .bool false | 11 => X_ = .int .i64 0 | 12 => X_ = .bool false | 13 => X_ = .bool false | 14 => X_ = .bool false | 15 => X_ = .agg #[.int .i64 (X 0), .int .i64 (X 1), .int .i64 (X 2), .int .i64 (X 3), .int .i64 (X 4), .int .i64 (X 5)] | 16 => X_ = .agg #[.int .i64 f0, .int .i64 f1, .int .i64 f2] | 17 => X_ = .bool true | 18 => X_ = .bool true | 19 => X_ = .bool true | _ => True) (fun i_ => false) (by kernel_rfl) (by kernel_rfl) (by kernel_rfl) (by kernel_rfl) (by kernel_rfl) ?_ (fun i x w hi ha h => by cases ha) ?_ ?_
              · refine swp (upS (upS (upS (upS (upS (upS (upS (upS (upS (upS (upS (upS (upS (upS (upS (upS (upS (upS (upS (upS up0 ?_) ?_) ?_) ?_) ?_) ?_) ?_) ?_) ?_) ?_) ?_) ?_) ?_) ?_) ?_) ?_) ?_) ?_) ?_) ?_)
                all_goals exact fun _ _ _ h _ => h
              · refine upS (upS (upS (upS (upS (upS (upS (upS (upS (upS (upS (upS (upS (upS (upS (upS (upS (upS (upS (upS up0 ?_) ?_) ?_) ?_) ?_) ?_) ?_) ?_) ?_) ?_) ?_) ?_) ?_) ?_) ?_) ?_) ?_) ?_) ?_) ?_
                all_goals intro v f w' hb hv hB hd
                · clear hb hv hd
                  refine wpOp_call rfl Tryd.call10 args0 (fixed_sym _ (pl_keep hB s.2.2.2.2.2.2.2.2)) ?_
                  rintro e5 w5_ ⟨rfl, hb5⟩
                  exact ⟨_, rfl, _, rfl, hb5, rfl, fun h => absurd h (by decide)⟩
                · have d0 := got (hv 0 67 rfl) (hd 0 (by kernel_rfl))
                  clear hb hv hd
                  refine wpOp_step rfl fun K hK => ?_
                  go_simp
                  exact hK _ _ ⟨_, rfl, Below.refl _ _, rfl, fun h => absurd h (by decide)⟩
                · have b8 : f.tmps[8]? = some (.pointer (some ⟨w.heap.size + 1 + 1 + 1 + 1, 0, none⟩)) := (hb 8 (by decide)).trans rfl
                  have d1 := got (hv 1 68 rfl) (hd 1 (by kernel_rfl))
                  clear hb hv hd
                  have c := tc_keep hB s.2.2.2.2.2.2.1
                  refine wpOp_step rfl fun K hK => ?_
                  go_simp
                  exact hK _ _ ⟨_, rfl, Below.refl _ _, rfl, fun h => absurd h (by decide)⟩
                · have d2 := got (hv 2 69 rfl) (hd 2 (by kernel_rfl))
                  have d1 := got (hv 1 68 rfl) (hd 1 (by kernel_rfl))
                  clear hb hv hd
                  refine wpOp_callg rfl (yields rfl rfl d1) Tryd.call14 (args1 (eval_tmp d2)) (diag_any u0 u1 u2 _ (pl_keep hB s.2.2.2.2.2.2.2.2)) ?_
                  rintro e5 w5_ ⟨rfl, hb5⟩
                  exact ⟨_, rfl, _, rfl, hb5, rfl, fun h => absurd h (by decide)⟩
                · have b8 : f.tmps[8]? = some (.pointer (some ⟨w.heap.size + 1 + 1 + 1 + 1, 0, none⟩)) := (hb 8 (by decide)).trans rfl
                  have d1 := got (hv 1 68 rfl) (hd 1 (by kernel_rfl))
                  clear hb hv hd
                  have c := tc_keep hB s.2.2.2.2.2.2.1
                  refine wpOp_step rfl fun K hK => ?_
                  go_simp
                  exact hK _ _ ⟨_, rfl, Below.refl _ _, rfl, fun h => absurd h (by decide)⟩
                · have d3 := got (hv 3 70 rfl) (hd 3 (by kernel_rfl))
                  have d4 := got (hv 4 71 rfl) (hd 4 (by kernel_rfl))
                  have d1 := got (hv 1 68 rfl) (hd 1 (by kernel_rfl))
                  clear hb hv hd
                  refine wpOp_callg rfl (yields rfl rfl d1) Tryd.call15 (args2 (eval_tmp d3) (eval_tmp d4)) (cU _ (pl_keep hB s.2.2.2.2.2.2.2.2)) ?_
                  rintro e5 w5_ ⟨rfl, hb5⟩
                  exact ⟨_, rfl, _, rfl, hb5, rfl, fun h => absurd h (by decide)⟩
                · have d1 := got (hv 1 68 rfl) (hd 1 (by kernel_rfl))
                  have d5 := got (hv 5 72 rfl) (hd 5 (by kernel_rfl))
                  clear hb hv hd
                  refine wpOp_step rfl fun K hK => ?_
                  go_simp
                  exact hK _ _ ⟨_, rfl, Below.refl _ _, rfl, fun h => absurd h (by decide)⟩
                · have d6 := got (hv 6 73 rfl) (hd 6 (by kernel_rfl))
                  clear hb hv hd
                  refine wpOp_step rfl fun K hK => ?_
                  go_simp
                  exact hK _ _ ⟨_, rfl, Below.refl _ _, rfl, fun h => absurd h (by decide)⟩
                · have b10 : f.tmps[10]? = some (.bool true) := (hb 10 (by decide)).trans rfl
                  have d7 := got (hv 7 74 rfl) (hd 7 (by kernel_rfl))
                  clear hb hv hd
                  refine wpOp_step rfl fun K hK => ?_
                  go_simp
                  exact hK _ _ ⟨_, rfl, Below.refl _ _, rfl, fun h => absurd h (by decide)⟩
                · have d8 := got (hv 8 75 rfl) (hd 8 (by kernel_rfl))
                  have d7 := got (hv 7 74 rfl) (hd 7 (by kernel_rfl))
                  clear hb hv hd
                  refine wpOp_step rfl fun K hK => ?_
                  go_simp
                  exact hK _ _ ⟨_, rfl, Below.refl _ _, rfl, fun h => absurd h (by decide)⟩
                · have d9 := got (hv 9 76 rfl) (hd 9 (by kernel_rfl))
                  have d7 := got (hv 7 74 rfl) (hd 7 (by kernel_rfl))
                  clear hb hv hd
                  refine wpOp_step rfl fun K hK => ?_
                  go_simp
                  exact hK _ _ ⟨_, rfl, Below.refl _ _, rfl, fun h => absurd h (by decide)⟩
                · have b12 : f.tmps[12]? = some (.int .i64 0) := (hb 12 (by decide)).trans rfl
                  have d10 := got (hv 10 77 rfl) (hd 10 (by kernel_rfl))
                  clear hb hv hd
                  refine wpOp_step rfl fun K hK => ?_
                  go_simp
                  exact hK _ _ ⟨_, rfl, Below.refl _ _, rfl, fun h => absurd h (by decide)⟩
                · have d11 := got (hv 11 78 rfl) (hd 11 (by kernel_rfl))
                  have d10 := got (hv 10 77 rfl) (hd 10 (by kernel_rfl))
                  clear hb hv hd
                  refine wpOp_step rfl fun K hK => ?_
                  go_simp
                  exact hK _ _ ⟨_, rfl, Below.refl _ _, rfl, fun h => absurd h (by decide)⟩
                · have d10 := got (hv 10 77 rfl) (hd 10 (by kernel_rfl))
                  have d12 := got (hv 12 79 rfl) (hd 12 (by kernel_rfl))
                  have d7 := got (hv 7 74 rfl) (hd 7 (by kernel_rfl))
                  clear hb hv hd
                  refine wpOp_step rfl fun K hK => ?_
                  go_simp
                  exact hK _ _ ⟨_, rfl, Below.refl _ _, rfl, fun h => absurd h (by decide)⟩
                · have d13 := got (hv 13 80 rfl) (hd 13 (by kernel_rfl))
                  have d7 := got (hv 7 74 rfl) (hd 7 (by kernel_rfl))
                  clear hb hv hd
                  refine wpOp_step rfl fun K hK => ?_
                  go_simp
                  exact hK _ _ ⟨_, rfl, Below.refl _ _, rfl, fun h => absurd h (by decide)⟩
                · have b11 : f.tmps[11]? = some (.pointer (some ⟨g, 0, none⟩)) := (hb 11 (by decide)).trans rfl
                  have d14 := got (hv 14 81 rfl) (hd 14 (by kernel_rfl))
                  clear hb hv hd
                  have c := sc_six (sc_keep hB kg)
                  refine wpOp_step rfl fun K hK => ?_
                  go_simp
                  exact hK _ _ ⟨_, rfl, Below.refl _ _, rfl, fun h => absurd h (by decide)⟩
                · have b4 : f.tmps[4]? = some (.pointer (some ⟨w.heap.size + 1, 0, none⟩)) := (hb 4 (by decide)).trans rfl
                  have d14 := got (hv 14 81 rfl) (hd 14 (by kernel_rfl))
                  clear hb hv hd
                  have c := tc_keep hB s.2.2.1
                  refine wpOp_step rfl fun K hK => ?_
                  go_simp
                  exact hK _ _ ⟨_, rfl, Below.refl _ _, rfl, fun h => absurd h (by decide)⟩
                · have d15 := got (hv 15 82 rfl) (hd 15 (by kernel_rfl))
                  have d16 := got (hv 16 83 rfl) (hd 16 (by kernel_rfl))
                  have d14 := got (hv 14 81 rfl) (hd 14 (by kernel_rfl))
                  clear hb hv hd
                  refine wpOp_callg rfl (yields rfl rfl d14) Tryd.call15 (args2 (eval_tmp d15) (eval_tmp d16)) (cX _ (pl_keep hB s.2.2.2.2.2.2.2.2)) ?_
                  rintro e5 w5_ ⟨rfl, hb5⟩
                  exact ⟨_, rfl, _, rfl, hb5, rfl, fun h => absurd h (by decide)⟩
                · have d14 := got (hv 14 81 rfl) (hd 14 (by kernel_rfl))
                  have d17 := got (hv 17 84 rfl) (hd 17 (by kernel_rfl))
                  have d7 := got (hv 7 74 rfl) (hd 7 (by kernel_rfl))
                  clear hb hv hd
                  refine wpOp_step rfl fun K hK => ?_
                  go_simp
                  exact hK _ _ ⟨_, rfl, Below.refl _ _, rfl, fun h => absurd h (by decide)⟩
                · have d7 := got (hv 7 74 rfl) (hd 7 (by kernel_rfl))
                  have d18 := got (hv 18 85 rfl) (hd 18 (by kernel_rfl))
                  clear hb hv hd
                  refine wpOp_step rfl fun K hK => ?_
                  go_simp
                  exact hK _ _ ⟨_, rfl, Below.refl _ _, rfl, fun h => absurd h (by decide)⟩
              · intro v w' hB hF hD
                have F0 : v 0 = _ := hF 0 (by simp)
                have F1 : v 1 = _ := hF 1 (by simp)
                have F2 : v 2 = _ := hF 2 (by simp)
                have F3 : v 3 = _ := hF 3 (by simp)
                have F4 : v 4 = _ := hF 4 (by simp)
                have F5 : v 5 = _ := hF 5 (by simp)
                have F6 : v 6 = _ := hF 6 (by simp)
                have F7 : v 7 = _ := hF 7 (by simp)
                have F8 : v 8 = _ := hF 8 (by simp)
                have F9 : v 9 = _ := hF 9 (by simp)
                have F10 : v 10 = _ := hF 10 (by simp)
                have F11 : v 11 = _ := hF 11 (by simp)
                have F12 : v 12 = _ := hF 12 (by simp)
                have F13 : v 13 = _ := hF 13 (by simp)
                have F14 : v 14 = _ := hF 14 (by simp)
                have F15 : v 15 = _ := hF 15 (by simp)
                have F16 : v 16 = _ := hF 16 (by simp)
                have F17 : v 17 = _ := hF 17 (by simp)
                have F18 : v 18 = _ := hF 18 (by simp)
                have F19 : v 19 = _ := hF 19 (by simp)
                clear hF
                simp only [frOf, frGo, Nat.zero_add, Nat.reduceAdd, F0, F1, F2, F3, F4, F5, F6, F7, F8, F9, F10, F11, F12, F13, F14, F15, F16, F17, F18, F19]
                replace s := hm_keep s hB
                clear F0 F1 F2 F3 F4 F5 F6 F7 F8 F9 F10 F11 F12 F13 F14 F15 F16 F17 F18 F19 hD hB kg
                have B9 := s.1
                clear s
                go_wp2
                go_ret
                exact ⟨rfl, B9⟩

theorem le_prod {x a b a' b' : Int} (h : x ≤ a * b) (h1 : a ≤ a') (h2 : b ≤ b') (h3 : 0 ≤ b) (h4 : 0 ≤ a') : x ≤ a' * b' := Int.le_trans h (Int.mul_le_mul h1 h2 h3 h4)
/-- What is sound over a floor is so over each lower one. -/
theorem snd_mono {m : Nat → Int} {f0 f1 f2 n0 n1 n2 : Int} (h : Snd m f0 f1 f2) (h0 : n0 ≤ f0) (h1 : n1 ≤ f1) (h2 : n2 ≤ f2) : Snd m n0 n1 n2 := by
  obtain ⟨a, b0, b1, b2, c0, c1, c2⟩ := h
  exact ⟨a, by omega, by omega, by omega, le_prod c0 (by omega) (by omega) (by omega) (by omega), le_prod c1 (by omega) (by omega) (by omega) (by omega), le_prod c2 (by omega) (by omega) (by omega) (by omega)⟩
/-- A diagonal is sound over itself. -/
theorem snd_dgm {x y z : Int} (hx : FitP x) (hy : FitP y) (hz : FitP z) : Snd (dgm x y z) x y z := by
  obtain ⟨d0, d1, d2, d3, d4, d5⟩ := dgm_lit x y z
  refine ⟨six (P := fun i => FitP (dgm x y z i)) (by rw [d0]; exact hx) (by rw [d1]; decide) (by rw [d2]; decide) (by rw [d3]; exact hy) (by rw [d4]; decide) (by rw [d5]; exact hz), ?_, ?_, ?_, ?_, ?_, ?_⟩
  · rw [d0]; exact Int.le_refl _
  · rw [d3]; exact Int.le_refl _
  · rw [d5]; exact Int.le_refl _
  · rw [d1, d3, d0]; simp
  · rw [d2, d5, d0]; simp
  · rw [d4, d5, d3]; simp
/-- The sum of a sound matrix and a diagonal from 0 on is sound, if it fits. -/
theorem snd_sum {m X : Nat → Int} {f0 f1 f2 x y z : Int} (h : Snd m f0 f1 f2) (hx : 0 ≤ x) (hy : 0 ≤ y) (hz : 0 ≤ z) (s : ∀ i, i < 6 → X i = m i + dgm x y z i ∧ FitP (m i + dgm x y z i)) : Snd X f0 f1 f2 := by
  obtain ⟨d0, d1, d2, d3, d4, d5⟩ := dgm_lit x y z
  have e0 := (s 0 (by decide)).1; have e1 := (s 1 (by decide)).1; have e2 := (s 2 (by decide)).1; have e3 := (s 3 (by decide)).1; have e4 := (s 4 (by decide)).1; have e5 := (s 5 (by decide)).1
  rw [d0] at e0; rw [d1, Int.add_zero] at e1; rw [d2, Int.add_zero] at e2; rw [d3] at e3; rw [d4, Int.add_zero] at e4; rw [d5] at e5
  obtain ⟨_, b0, b1, b2, c0, c1, c2⟩ := h
  refine ⟨fun i hi => by rw [(s i hi).1]; exact (s i hi).2, by omega, by omega, by omega, ?_, ?_, ?_⟩
  · rw [e1]; exact le_prod c0 (by omega) (by omega) (by omega) (by omega)
  · rw [e2]; exact le_prod c1 (by omega) (by omega) (by omega) (by omega)
  · rw [e4]; exact le_prod c2 (by omega) (by omega) (by omega) (by omega)
theorem up_bd {b c u : Int} (hc : (if 1099511627776 < b then 1099511627776 else b) = c) (hu : (if c < 0 then 0 else c) = u) : 0 ≤ u ∧ u ≤ 1099511627776 := by
  by_cases h : 1099511627776 < b
  · rw [if_pos h] at hc; subst hc; simp at hu; omega
  · rw [if_neg h] at hc; subst hc
    by_cases k : b < 0
    · rw [if_pos k] at hu; omega
    · rw [if_neg k] at hu; omega
theorem lo_bd {f u g l n : Int} (hf : I64 f) (hu : 0 ≤ u ∧ u ≤ 1099511627776) (hg : (if f < -1152921504606846976 then -1152921504606846976 else f) = g) (hl : IntKind.i64.wrap (g - u) = l) (hn : (if f < l then f else l) = n) : n ≤ f ∧ I64 n := by
  rw [IntKind.wrap_i64] at hl
  obtain ⟨f0, f1⟩ := hf
  by_cases h : f < -1152921504606846976
  · rw [if_pos h] at hg
    by_cases k : f < l
    · rw [if_pos k] at hn; constructor <;> omega
    · rw [if_neg k] at hn; constructor <;> omega
  · rw [if_neg h] at hg
    by_cases k : f < l
    · rw [if_pos k] at hn; constructor <;> omega
    · rw [if_neg k] at hn; constructor <;> omega
theorem dgm_i6 {x y z : Int} (hx : I64 x) (hy : I64 y) (hz : I64 z) : I6 (dgm x y z) := by
  obtain ⟨d0, d1, d2, d3, d4, d5⟩ := dgm_lit x y z
  exact six (P := fun i => I64 (dgm x y z i)) (by rw [d0]; exact hx) (by rw [d1]; decide) (by rw [d2]; decide) (by rw [d3]; exact hy) (by rw [d4]; decide) (by rw [d5]; exact hz)
theorem symSound_any (m : Nat → Int) (f0 f1 f2 b0 b1 b2 : Int) (hm : I6 m) (h0 : I64 f0) (h1 : I64 f1) (h2 : I64 f2) (w : World) (hp : PL w) :
    Calls Tryd.prog 5 #[sv m, tv f0 f1 f2, tv b0 b1 b2] w (RetV (.bool true) w) := by
  have q0 := up_bd (b := b0) rfl rfl
  have q1 := up_bd (b := b1) rfl rfl
  have q2 := up_bd (b := b2) rfl rfl
  have r0 := lo_bd h0 q0 rfl rfl rfl
  have r1 := lo_bd h1 q1 rfl rfl rfl
  have r2 := lo_bd h2 q2 rfl rfl rfl
  have hd := dgm_i6 (x := if (if 1099511627776 < b0 then 1099511627776 else b0) < 0 then 0 else (if 1099511627776 < b0 then 1099511627776 else b0)) (y := if (if 1099511627776 < b1 then 1099511627776 else b1) < 0 then 0 else (if 1099511627776 < b1 then 1099511627776 else b1)) (z := if (if 1099511627776 < b2 then 1099511627776 else b2) < 0 then 0 else (if 1099511627776 < b2 then 1099511627776 else b2)) ⟨by omega, by omega⟩ ⟨by omega, by omega⟩ ⟨by omega, by omega⟩
  have cA := fun w => add_sym m _ hm hd w
  have cU := fun w hp => sound_sym _ _ _ _ hd (⟨by omega, by omega⟩ : I64 (if (if 1099511627776 < b0 then 1099511627776 else b0) < 0 then 0 else (if 1099511627776 < b0 then 1099511627776 else b0))) (⟨by omega, by omega⟩ : I64 (if (if 1099511627776 < b1 then 1099511627776 else b1) < 0 then 0 else (if 1099511627776 < b1 then 1099511627776 else b1))) (⟨by omega, by omega⟩ : I64 (if (if 1099511627776 < b2 then 1099511627776 else b2) < 0 then 0 else (if 1099511627776 < b2 then 1099511627776 else b2))) w hp
  rw [sndb_yes (snd_dgm ⟨by omega, by omega⟩ ⟨by omega, by omega⟩ ⟨by omega, by omega⟩)] at cU
  refine symSound_go m _ f0 f1 f2 b0 b1 b2 _ _ _ _ _ _ _ _ _ _ _ _ _ _ _ _ (sndb m f0 f1 f2) rfl rfl rfl rfl rfl rfl rfl rfl rfl rfl rfl rfl rfl rfl rfl
    (fun w hp => sound_sym m f0 f1 f2 hm h0 h1 h2 w hp) (fun hs w hp => ?_) cA cU ?_ w hp
  · have c := sound_sym m _ _ _ hm r0.2 r1.2 r2.2 w hp
    rwa [sndb_yes (snd_mono (of_decide_eq_true hs) r0.1 r1.1 r2.1)] at c
  · by_cases hs : Snd m f0 f1 f2
    · refine Or.inr ⟨sndb_yes hs, ?_⟩
      by_cases he : sume m (dgm (if (if 1099511627776 < b0 then 1099511627776 else b0) < 0 then 0 else (if 1099511627776 < b0 then 1099511627776 else b0)) (if (if 1099511627776 < b1 then 1099511627776 else b1) < 0 then 0 else (if 1099511627776 < b1 then 1099511627776 else b1)) (if (if 1099511627776 < b2 then 1099511627776 else b2) < 0 then 0 else (if 1099511627776 < b2 then 1099511627776 else b2))) = 0
      · obtain ⟨_, _, s3⟩ := sum_fits he
        have sx := snd_sum hs q0.1 q1.1 q2.1 s3
        refine Or.inr ⟨he, fun w hp => ?_⟩
        have c := sound_sym _ f0 f1 f2 (fun i hi => fit_i64 (sx.1 i hi)) h0 h1 h2 w hp
        rwa [sndb_yes sx] at c
      · exact Or.inl he
    · exact Or.inl (sndb_no hs)
end Go.Proofs.YtppkmnigongpdaaDoor
