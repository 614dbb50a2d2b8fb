/- MotionRests: what the law's call answers: true, for every row and every number of ticks. -/
import Derived.Test.YtahpiakjhdnigaaMotE
import Derived.Test.YtahpiakjhdnigaaLate
namespace Go.Proofs.Ytahpiakjhdnigaa
open Go.RowKit Go.Shelf

theorem wpList_fin {P : Program} {ops : Array Oper} {Q : Exit → Act → World → Prop} {a : Act} {w : World} (h : Q Exit.normal a w) : wpList P ops Q [] a w := h

/-- What the rounds keep: the argument A, the state at rest P, the other one R. -/
structure RS (w : World) (A P R : Nat) (x0 x1 x2 z : Int) (U : World) : Prop where
  b : Below w.heap.size w U
  ka : TC U A x0 x1 x2
  kp : TC U P x0 0 0
  fp : TF U P
  kr : TC U R z x1 x2
  fr : TF U R
theorem rs_keep {w U U' : World} {A P R : Nat} {x0 x1 x2 z : Int} (s : RS w A P R x0 x1 x2 z U) (hb : Below U.heap.size U U') : RS w A P R x0 x1 x2 z U' :=
  ⟨b_trans s.b hb, tc_keep hb s.ka, tc_keep hb s.kp, tf_keep hb s.kp s.fp, tc_keep hb s.kr, tf_keep hb s.kr s.fr⟩
/-- A variable that is written whole. -/
theorem tc_mine {w : World} {b : Nat} {x y z x' y' z' : Int} (c : TC w b x y z) : TC (((w.setCell ⟨b, 0, none⟩ (.int .i64 x')).setCell ⟨b, 1, none⟩ (.int .i64 y')).setCell ⟨b, 2, none⟩ (.int .i64 z')) b x' y' z' :=
  tc_put2 (tc_put1 (tc_put0 c))
theorem rs_put {w U : World} {A P R : Nat} {x0 x1 x2 z z' : Int} (s : RS w A P R x0 x1 x2 z U) (nPA : P ≠ A) (nRA : R ≠ A) (nPR : P ≠ R) (hP : w.heap.size ≤ P) (hR : w.heap.size ≤ R) :
    RS w A P R x0 x1 x2 z' ((((((U.setCell ⟨P, 0, none⟩ (.int .i64 x0)).setCell ⟨P, 1, none⟩ (.int .i64 0)).setCell ⟨P, 2, none⟩ (.int .i64 0)).setCell ⟨R, 0, none⟩ (.int .i64 z')).setCell ⟨R, 1, none⟩ (.int .i64 x1)).setCell ⟨R, 2, none⟩ (.int .i64 x2)) :=
  ⟨b_set (b_set (b_set (b_set (b_set (b_set s.b hP) hP) hP) hR) hR) hR,
   tc_set (tc_set (tc_set (tc_set (tc_set (tc_set s.ka nPA) nPA) nPA) nRA) nRA) nRA,
   tc_set (tc_set (tc_set (tc_mine s.kp) nPR.symm) nPR.symm) nPR.symm,
   tf_set (tf_set (tf_set (tf_set (tf_set (tf_set s.fp))))),
   tc_mine (tc_set (tc_set (tc_set s.kr nPR) nPR) nPR),
   tf_set (tf_set (tf_set (tf_set (tf_set (tf_set s.fr)))))⟩

/-- How far the altitude may have gone in k ticks. -/
def BD (x0 z : Int) (k : Nat) : Prop := x0 - k * 8796093022209 ≤ z ∧ z ≤ x0 + k * 8796093022209
theorem bd_zero (x0 : Int) : BD x0 x0 0 := ⟨by omega, by omega⟩
theorem bd_succ {x0 z x1 : Int} {k : Nat} (h : BD x0 z k) (hx : -1125899906842624 ≤ x1 ∧ x1 ≤ 1125899906842624) : BD x0 (z + mvh x1 0) (k + 1) := by
  have h2 := mvh_small hx
  unfold BD at *
  omega
theorem rest_case {x1 z z' : Int} (h : z + mvh x1 0 = z') : (64 < x1 ∧ z < z') ∨ (¬ 64 < x1 ∧ x1 < -64 ∧ ¬ z < z') ∨ (¬ 64 < x1 ∧ ¬ x1 < -64 ∧ z < z') ∨ (¬ 64 < x1 ∧ ¬ x1 < -64 ∧ ¬ z < z') := by
  by_cases a : 64 < x1
  · have := mvh_up a
    exact Or.inl ⟨a, by omega⟩
  · by_cases b : x1 < -64
    · have := mvh_down b
      exact Or.inr (Or.inl ⟨a, b, by omega⟩)
    · by_cases c : z < z'
      · exact Or.inr (Or.inr (Or.inl ⟨a, b, c⟩))
      · exact Or.inr (Or.inr (Or.inr ⟨a, b, c⟩))

set_option maxHeartbeats 4000000 in
theorem motionRests_out (x0 x1 x2 n' y0 y1 y2 : Int) (n : (x0 == y0 && (x1 == y1 && x2 == y2)) = false)
    (c3 : ∀ w, Calls Try.prog 9 #[tv x0 x1 x2, tv 72057594037927936 1125899906842624 1125899906842624] w (RetV (tv y0 y1 y2) w)) (w : World) :
    Calls Try.prog 4 #[tv x0 x1 x2, .int .u8 n'] w (RetV (.bool true) w) := by
  have kA : TC (w.alloc (Obj.cells #[.int .i64 x0, .int .i64 x1, .int .i64 x2] 23)) (w.heap.size) x0 x1 x2 := tc_new rfl
  have B0 : Below w.heap.size w (w.alloc (Obj.cells #[.int .i64 x0, .int .i64 x1, .int .i64 x2] 23)) := b_alloc (Below.refl _ _)
  go_enter Try.func4, Try.ntmps4
  go_wp2
  generalize w.alloc (Obj.cells #[.int .i64 x0, .int .i64 x1, .int .i64 x2] 23) = W1 at *
  refine region_each [11, 12, 13, 14, 15] (fun i_ X_ U_ => match i_ with | 0 => X_ = tv x0 x1 x2 | 1 => X_ = tv x0 x1 x2 | 2 => X_ = tv 72057594037927936 1125899906842624 1125899906842624 | 3 => X_ = tv y0 y1 y2 | 4 => X_ = .bool true | _ => True) (fun i_ => false) (by kernel_rfl) (by kernel_rfl) (by kernel_rfl) (by kernel_rfl) (by kernel_rfl) ?_ (fun i x w hi ha h => by cases ha) ?_ ?_
  · refine swp (upS (upS (upS (upS (upS up0 ?_) ?_) ?_) ?_) ?_)
    all_goals exact fun _ _ _ h _ => h
  · refine upS (upS (upS (upS (upS up0 ?_) ?_) ?_) ?_) ?_
    all_goals intro v f w' hb hv hB hd
    · have b2 : f.tmps[2]? = some (.pointer (some ⟨w.heap.size, 0, none⟩)) := (hb 2 (by decide)).trans rfl
      clear hb hv hd
      have c := tc_keep hB kA
      refine wpOp_step rfl fun K hK => ?_
      go_simp
      exact hK _ _ ⟨_, rfl, Below.refl _ _, rfl, fun h => absurd h (by decide)⟩
    · have b2 : f.tmps[2]? = some (.pointer (some ⟨w.heap.size, 0, none⟩)) := (hb 2 (by decide)).trans rfl
      clear hb hv hd
      have c := tc_keep hB kA
      refine wpOp_step rfl fun K hK => ?_
      go_simp
      exact hK _ _ ⟨_, rfl, Below.refl _ _, rfl, fun h => absurd h (by decide)⟩
    · clear hb hv hd
      refine wpOp_step rfl fun K hK => ?_
      go_simp
      exact hK _ _ ⟨_, rfl, Below.refl _ _, rfl, fun h => absurd h (by decide)⟩
    · have d1 := got (hv 1 12 rfl) (hd 1 (by kernel_rfl))
      have d2 := got (hv 2 13 rfl) (hd 2 (by kernel_rfl))
      clear hb hv hd
      refine wpOp_call rfl Try.call9 (args2 (eval_tmp d1) (eval_tmp d2)) (c3 _) ?_
      rintro e5 w5 ⟨rfl, hb5⟩
      exact ⟨_, rfl, _, rfl, hb5, rfl, fun h => absurd h (by decide)⟩
    · have d0 := got (hv 0 11 rfl) (hd 0 (by kernel_rfl))
      have d3 := got (hv 3 14 rfl) (hd 3 (by kernel_rfl))
      clear hb hv hd
      have hve := vec_eq
      refine wpOp_step rfl fun K hK => ?_
      go_simp
      exact hK _ _ ⟨_, rfl, Below.refl _ _, rfl, fun h => absurd h (by decide)⟩
  · intro v w' hB hF hD
    have F0 : v 0 = _ := hF 0 (by simp)
    have F1 : v 1 = _ := hF 1 (by simp)
    have F2 : v 2 = _ := hF 2 (by simp)
    have F3 : v 3 = _ := hF 3 (by simp)
    have F4 : v 4 = _ := hF 4 (by simp)
    clear hF
    simp only [frOf, frGo, Nat.zero_add, Nat.reduceAdd, F0, F1, F2, F3, F4]
    rw [List.drop_eq_nil_of_le (by simp)]
    refine wpList_fin ?_
    simp only [Act.put, List.setIfInBounds_toArray, List.set_cons_zero, List.set_cons_succ]
    replace B0 := b_trans B0 hB
    clear F0 F1 F2 F3 F4 hD hB kA c3 n
    go_wp2_with fail
    refine (fixed_mot _).mono ?_
    rintro e5 w5 ⟨rfl, hb5⟩
    replace B0 := b_trans B0 hb5
    clear hb5
    go_wp2
    go_ret
    exact ⟨rfl, B0⟩

set_option maxHeartbeats 8000000 in
set_option maxRecDepth 10000 in
theorem motionRests_in (x0 x1 x2 n : Int) (m : Nat) (n0 : 0 ≤ n) (n1 : n ≤ 255) (hm' : Hid (n.tmod 50 = (m : Int))) (hm49 : m ≤ 49)
    (c3 : ∀ w, Calls Try.prog 9 #[tv x0 x1 x2, tv 72057594037927936 1125899906842624 1125899906842624] w (RetV (tv x0 x1 x2) w))
    (cy : ∀ w, Calls Try.prog 6 #[tv x0 0 0, .int .i64 0] w (RetV (.tuple #[tv x0 0 0, .int .i64 0]) w))
    (cz : ∀ (z : Int) (k : Nat), k < m → BD x0 z k → (∀ w, Calls Try.prog 6 #[tv z x1 x2, .int .i64 x2] w (RetV (.tuple #[tv (z + mvh x1 0) x1 x2, .int .i64 0]) w)) ∧ BD x0 (z + mvh x1 0) (k + 1)) (w : World) :
    Calls Try.prog 4 #[tv x0 x1 x2, .int .u8 n] w (RetV (.bool true) w) := by
  have kA : TC (w.alloc (Obj.cells #[.int .i64 x0, .int .i64 x1, .int .i64 x2] 23)) (w.heap.size) x0 x1 x2 := tc_new rfl
  have B0 : Below w.heap.size w (w.alloc (Obj.cells #[.int .i64 x0, .int .i64 x1, .int .i64 x2] 23)) := b_alloc (Below.refl _ _)
  go_enter Try.func4, Try.ntmps4
  go_wp2
  generalize w.alloc (Obj.cells #[.int .i64 x0, .int .i64 x1, .int .i64 x2] 23) = W1 at *
  refine region_each [11, 12, 13, 14, 15] (fun i_ X_ U_ => match i_ with | 0 => X_ = tv x0 x1 x2 | 1 => X_ = tv x0 x1 x2 | 2 => X_ = tv 72057594037927936 1125899906842624 1125899906842624 | 3 => X_ = tv x0 x1 x2 | 4 => X_ = .bool false | _ => True) (fun i_ => false) (by kernel_rfl) (by kernel_rfl) (by kernel_rfl) (by kernel_rfl) (by kernel_rfl) ?_ (fun i x w hi ha h => by cases ha) ?_ ?_
  · refine swp (upS (upS (upS (upS (upS up0 ?_) ?_) ?_) ?_) ?_)
    all_goals exact fun _ _ _ h _ => h
  · refine upS (upS (upS (upS (upS up0 ?_) ?_) ?_) ?_) ?_
    all_goals intro v f w' hb hv hB hd
    · have b2 : f.tmps[2]? = some (.pointer (some ⟨w.heap.size, 0, none⟩)) := (hb 2 (by decide)).trans rfl
      clear hb hv hd
      have c := tc_keep hB kA
      refine wpOp_step rfl fun K hK => ?_
      go_simp
      exact hK _ _ ⟨_, rfl, Below.refl _ _, rfl, fun h => absurd h (by decide)⟩
    · have b2 : f.tmps[2]? = some (.pointer (some ⟨w.heap.size, 0, none⟩)) := (hb 2 (by decide)).trans rfl
      clear hb hv hd
      have c := tc_keep hB kA
      refine wpOp_step rfl fun K hK => ?_
      go_simp
      exact hK _ _ ⟨_, rfl, Below.refl _ _, rfl, fun h => absurd h (by decide)⟩
    · clear hb hv hd
      refine wpOp_step rfl fun K hK => ?_
      go_simp
      exact hK _ _ ⟨_, rfl, Below.refl _ _, rfl, fun h => absurd h (by decide)⟩
    · have d1 := got (hv 1 12 rfl) (hd 1 (by kernel_rfl))
      have d2 := got (hv 2 13 rfl) (hd 2 (by kernel_rfl))
      clear hb hv hd
      refine wpOp_call rfl Try.call9 (args2 (eval_tmp d1) (eval_tmp d2)) (c3 _) ?_
      rintro e5 w5 ⟨rfl, hb5⟩
      exact ⟨_, rfl, _, rfl, hb5, rfl, fun h => absurd h (by decide)⟩
    · have d0 := got (hv 0 11 rfl) (hd 0 (by kernel_rfl))
      have d3 := got (hv 3 14 rfl) (hd 3 (by kernel_rfl))
      clear hb hv hd
      have hve := vec_eq_self
      refine wpOp_step rfl fun K hK => ?_
      go_simp
      exact hK _ _ ⟨_, rfl, Below.refl _ _, rfl, fun h => absurd h (by decide)⟩
  · intro v w' hB hF hD
    have F0 : v 0 = _ := hF 0 (by simp)
    have F1 : v 1 = _ := hF 1 (by simp)
    have F2 : v 2 = _ := hF 2 (by simp)
    have F3 : v 3 = _ := hF 3 (by simp)
    have F4 : v 4 = _ := hF 4 (by simp)
    clear hF
    simp only [frOf, frGo, Nat.zero_add, Nat.reduceAdd, F0, F1, F2, F3, F4]
    rw [List.drop_eq_nil_of_le (by simp)]
    refine wpList_fin ?_
    simp only [Act.put, List.setIfInBounds_toArray, List.set_cons_zero, List.set_cons_succ]
    replace B0 := b_trans B0 hB
    replace kA := tc_keep hB kA
    clear F0 F1 F2 F3 F4 hD hB c3 v
    have hP : w.heap.size ≤ w'.heap.size := B0.size
    have lA := tc_lt kA
    have s0 : RS w w.heap.size w'.heap.size (w'.heap.size + 1) x0 x1 x2 x0 ((w'.alloc (Obj.cells #[.int .i64 x0, .int .i64 0, .int .i64 0] 23)).alloc (Obj.cells #[.int .i64 x0, .int .i64 x1, .int .i64 x2] 23)) := ⟨b_alloc (b_alloc B0), tc_alloc (tc_alloc kA), tc_alloc (tc_new rfl), tf_keep (b_alloc (Below.refl _ _)) (tc_new rfl) (tf_new rfl), tc_new (by simp), tf_new (by simp)⟩
    have nPA : w'.heap.size ≠ w.heap.size := by omega
    have nRA : w'.heap.size + 1 ≠ w.heap.size := by omega
    have nPR : w'.heap.size ≠ w'.heap.size + 1 := by omega
    have hR : w.heap.size ≤ w'.heap.size + 1 := by omega
    have hm := hm'.out
    clear B0
    go_wp2
    clear kA lA
    generalize ((w'.alloc (Obj.cells #[.int .i64 x0, .int .i64 0, .int .i64 0] 23)).alloc (Obj.cells #[.int .i64 x0, .int .i64 x1, .int .i64 x2] 23)) = W3 at *
    generalize w'.heap.size + 1 = R at *
    generalize w'.heap.size = P at *
    replace s0 := Lib.hid s0
    go_loopw [24] (fun iv wr => ∃ (k : Nat) (z : Int), k ≤ m ∧ iv = .int .i64 k ∧ Hid (RS w w.heap.size P R x0 x1 x2 z wr) ∧ Hid (BD x0 z k)) (fun iv _ => m - (intOf iv).toNat)
    case atStart => exact ⟨0, x0, Nat.zero_le _, rfl, s0, Lib.hid (bd_zero x0)⟩
    case round =>
      obtain ⟨k, z, hk, rfl, hs, hbd⟩ := hrel
      clear s0
      by_cases c : k = m
      · subst c
        have B0 := hs.out.b
        clear hs hbd cy cz
        go_wp2_with fail
        refine (fixed_mot _).mono ?_
        rintro e5 w5 ⟨rfl, hb5⟩
        replace B0 := b_trans B0 hb5
        clear hb5
        go_wp2
        go_ret
        exact ⟨rfl, B0⟩
      replace hk : k < m := by omega
      clear c
      have hk0 : (0 : Int) ≤ (k : Int) := by omega
      have hk1 : (k : Int) < (m : Int) := by omega
      have s0 := hs.out
      obtain ⟨hcz, hz'⟩ := cz z k hk hbd.out
      replace hz' := Lib.hid hz'
      generalize hez : z + mvh x1 0 = z' at *
      have hcs : (64 < x1 ∧ z < z') ∨ (¬ 64 < x1 ∧ x1 < -64 ∧ ¬ z < z') ∨ (¬ 64 < x1 ∧ ¬ x1 < -64 ∧ z < z') ∨ (¬ 64 < x1 ∧ ¬ x1 < -64 ∧ ¬ z < z') := rest_case hez
      clear hs hbd hez cz
      have kP := s0.kp
      go_wp2_with fail
      refine (cy _).mono ?_
      rintro e1 w1 ⟨rfl, hb9⟩
      replace s0 := rs_keep s0 hb9
      clear hb9 kP
      have k7 : TC (w1.alloc (Obj.cells #[.int .i64 x0, .int .i64 0, .int .i64 0] 23)) w1.heap.size x0 0 0 := tc_new rfl
      replace s0 := rs_keep s0 (b_alloc (o := (Obj.cells #[.int .i64 x0, .int .i64 0, .int .i64 0] 23)) (Below.refl _ _))
      have kR := s0.kr
      go_wp2_with fail
      generalize w1.alloc (Obj.cells #[.int .i64 x0, .int .i64 0, .int .i64 0] 23) = u1 at *
      generalize w1.heap.size = P7 at *
      refine (hcz _).mono ?_
      rintro e2 w2 ⟨rfl, hb9⟩
      replace s0 := rs_keep s0 hb9
      replace k7 := tc_keep hb9 k7
      have nP9 : P ≠ w2.heap.size := fun c => by have := tc_lt s0.kp; omega
      clear hb9 kR
      have k9 : TC (w2.alloc (Obj.cells #[.int .i64 z', .int .i64 x1, .int .i64 x2] 23)) w2.heap.size z' x1 x2 := tc_new rfl
      replace k7 := tc_alloc (o := (Obj.cells #[.int .i64 z', .int .i64 x1, .int .i64 x2] 23)) k7
      replace s0 := rs_keep s0 (b_alloc (o := (Obj.cells #[.int .i64 z', .int .i64 x1, .int .i64 x2] 23)) (Below.refl _ _))
      have kA := s0.ka
      have kP := s0.kp
      have kR := s0.kr
      have hve := vec_eq_self
      rcases hcs with ⟨q1, q2⟩ | ⟨q1, q3, q2⟩ | ⟨q1, q3, q2⟩ | ⟨q1, q3, q2⟩
      · go_wp2
        generalize w2.alloc (Obj.cells #[.int .i64 z', .int .i64 x1, .int .i64 x2] 23) = u2 at *
        generalize w2.heap.size = P9 at *
        refine region_late_k [84, 85] 1 (fun i_ => match i_ with | 0 => tv x0 0 0 | 1 => tv z' x1 x2 | _ => undef) (fun f => f) (fun U_ => RS w w.heap.size P R x0 x1 x2 z' U_) (fun i_ X_ U_ => match i_ with | 0 => X_ = tv x0 0 0 | 1 => X_ = tv z' x1 x2 | _ => True) (fun i_ => false) (by kernel_rfl) (by kernel_rfl) (by kernel_rfl) (by kernel_rfl) ?_ (fun i x w hi ha h => by cases ha) ?_ ?_ ?_ ?_
        · refine swp (upS (upS up0 ?_) ?_)
          all_goals exact fun _ _ _ h _ => h
        · refine upS (upS up0 ?_) ?_
          all_goals intro v f w' hb hv hB hd
          · have b7 : f.tmps[7]? = some (.pointer (some ⟨P7, 0, none⟩)) := (hb 7 (by decide)).trans rfl
            clear hb hv hd
            have c := tc_keep hB k7
            refine wpOp_step rfl fun K hK => ?_
            go_simp
            exact hK _ _ ⟨_, rfl, Below.refl _ _, rfl, fun h => absurd h (by decide)⟩
          · have b9 : f.tmps[9]? = some (.pointer (some ⟨P9, 0, none⟩)) := (hb 9 (by decide)).trans rfl
            clear hb hv hd
            have c := tc_keep hB k9
            refine wpOp_step rfl fun K hK => ?_
            go_simp
            exact hK _ _ ⟨_, rfl, Below.refl _ _, rfl, fun h => absurd h (by decide)⟩
        · intro v w' hB hF hD
          have F0 : v 0 = _ := hF 0 (by simp)
          have F1 : v 1 = _ := hF 1 (by simp)
          clear hF
          simp only [frOf, frGo, Nat.zero_add, F0, F1]
          have s1 := rs_keep s0 hB
          have qP := s1.kp
          have fP := s1.fp
          have qR := tc_set (b1 := P) (o := 2) (v := .int .i64 0) (tc_set (b1 := P) (o := 1) (v := .int .i64 0) (tc_set (b1 := P) (o := 0) (v := .int .i64 x0) s1.kr nPR) nPR) nPR
          have fR := tf_set (b1 := P) (o := 2) (v := .int .i64 0) (tf_set (b1 := P) (o := 1) (v := .int .i64 0) (tf_set (b1 := P) (o := 0) (v := .int .i64 x0) s1.fr))
          have k9 := tc_set (b1 := P) (o := 2) (v := .int .i64 0) (tc_set (b1 := P) (o := 1) (v := .int .i64 0) (tc_set (b1 := P) (o := 0) (v := .int .i64 x0) (tc_keep hB k9) nP9) nP9) nP9
          have sN := rs_put (z' := z') s1 nPA nRA nPR hP hR
          clear F0 F1 hD hB k7 k9 s0 s1
          go_wp2
        · intro v w' hB hF hD
          have F0 : v 0 = _ := hF 0 (by simp) (by decide)
          clear hF
          simp only [frOf, frGo, Nat.zero_add, F0]
          have s1 := rs_keep s0 hB
          have qP := s1.kp
          have fP := s1.fp
          have qR := tc_set (b1 := P) (o := 2) (v := .int .i64 0) (tc_set (b1 := P) (o := 1) (v := .int .i64 0) (tc_set (b1 := P) (o := 0) (v := .int .i64 x0) s1.kr nPR) nPR) nPR
          have fR := tf_set (b1 := P) (o := 2) (v := .int .i64 0) (tf_set (b1 := P) (o := 1) (v := .int .i64 0) (tf_set (b1 := P) (o := 0) (v := .int .i64 x0) s1.fr))
          have k9 := tc_set (b1 := P) (o := 2) (v := .int .i64 0) (tc_set (b1 := P) (o := 1) (v := .int .i64 0) (tc_set (b1 := P) (o := 0) (v := .int .i64 x0) (tc_keep hB k9) nP9) nP9) nP9
          have sN := rs_put (z' := z') s1 nPA nRA nPR hP hR
          clear F0 hD hB k7 s0 s1
          refine wpOp_step rfl (fun K hK => ?_)
          go_simp
          refine hK _ _ ?_
          clear hK K
          refine wpOp_step rfl (fun K hK => ?_)
          go_simp
          refine hK _ _ ?_
          clear hK K
          go_wp2
        · intro w' hst
          simp only [frOf, frGo, Nat.zero_add]
          clear k7 k9 s0
          have KK := Lib.hid hst
          clear hst
          go_wp2
          go_roundw
          case rel => exact ⟨k + 1, z', hk, by go_num, KK, hz'⟩
          case measure => simp [intOf]; omega
      · go_wp2
        generalize w2.alloc (Obj.cells #[.int .i64 z', .int .i64 x1, .int .i64 x2] 23) = u2 at *
        generalize w2.heap.size = P9 at *
        refine region_late_k [84, 85] 1 (fun i_ => match i_ with | 0 => tv x0 0 0 | 1 => tv z' x1 x2 | _ => undef) (fun f => f) (fun U_ => RS w w.heap.size P R x0 x1 x2 z' U_) (fun i_ X_ U_ => match i_ with | 0 => X_ = tv x0 0 0 | 1 => X_ = tv z' x1 x2 | _ => True) (fun i_ => false) (by kernel_rfl) (by kernel_rfl) (by kernel_rfl) (by kernel_rfl) ?_ (fun i x w hi ha h => by cases ha) ?_ ?_ ?_ ?_
        · refine swp (upS (upS up0 ?_) ?_)
          all_goals exact fun _ _ _ h _ => h
        · refine upS (upS up0 ?_) ?_
          all_goals intro v f w' hb hv hB hd
          · have b7 : f.tmps[7]? = some (.pointer (some ⟨P7, 0, none⟩)) := (hb 7 (by decide)).trans rfl
            clear hb hv hd
            have c := tc_keep hB k7
            refine wpOp_step rfl fun K hK => ?_
            go_simp
            exact hK _ _ ⟨_, rfl, Below.refl _ _, rfl, fun h => absurd h (by decide)⟩
          · have b9 : f.tmps[9]? = some (.pointer (some ⟨P9, 0, none⟩)) := (hb 9 (by decide)).trans rfl
            clear hb hv hd
            have c := tc_keep hB k9
            refine wpOp_step rfl fun K hK => ?_
            go_simp
            exact hK _ _ ⟨_, rfl, Below.refl _ _, rfl, fun h => absurd h (by decide)⟩
        · intro v w' hB hF hD
          have F0 : v 0 = _ := hF 0 (by simp)
          have F1 : v 1 = _ := hF 1 (by simp)
          clear hF
          simp only [frOf, frGo, Nat.zero_add, F0, F1]
          have s1 := rs_keep s0 hB
          have qP := s1.kp
          have fP := s1.fp
          have qR := tc_set (b1 := P) (o := 2) (v := .int .i64 0) (tc_set (b1 := P) (o := 1) (v := .int .i64 0) (tc_set (b1 := P) (o := 0) (v := .int .i64 x0) s1.kr nPR) nPR) nPR
          have fR := tf_set (b1 := P) (o := 2) (v := .int .i64 0) (tf_set (b1 := P) (o := 1) (v := .int .i64 0) (tf_set (b1 := P) (o := 0) (v := .int .i64 x0) s1.fr))
          have k9 := tc_set (b1 := P) (o := 2) (v := .int .i64 0) (tc_set (b1 := P) (o := 1) (v := .int .i64 0) (tc_set (b1 := P) (o := 0) (v := .int .i64 x0) (tc_keep hB k9) nP9) nP9) nP9
          have sN := rs_put (z' := z') s1 nPA nRA nPR hP hR
          clear F0 F1 hD hB k7 k9 s0 s1
          go_wp2
        · intro v w' hB hF hD
          have F0 : v 0 = _ := hF 0 (by simp) (by decide)
          clear hF
          simp only [frOf, frGo, Nat.zero_add, F0]
          have s1 := rs_keep s0 hB
          have qP := s1.kp
          have fP := s1.fp
          have qR := tc_set (b1 := P) (o := 2) (v := .int .i64 0) (tc_set (b1 := P) (o := 1) (v := .int .i64 0) (tc_set (b1 := P) (o := 0) (v := .int .i64 x0) s1.kr nPR) nPR) nPR
          have fR := tf_set (b1 := P) (o := 2) (v := .int .i64 0) (tf_set (b1 := P) (o := 1) (v := .int .i64 0) (tf_set (b1 := P) (o := 0) (v := .int .i64 x0) s1.fr))
          have k9 := tc_set (b1 := P) (o := 2) (v := .int .i64 0) (tc_set (b1 := P) (o := 1) (v := .int .i64 0) (tc_set (b1 := P) (o := 0) (v := .int .i64 x0) (tc_keep hB k9) nP9) nP9) nP9
          have sN := rs_put (z' := z') s1 nPA nRA nPR hP hR
          clear F0 hD hB k7 s0 s1
          refine wpOp_step rfl (fun K hK => ?_)
          go_simp
          refine hK _ _ ?_
          clear hK K
          refine wpOp_step rfl (fun K hK => ?_)
          go_simp
          refine hK _ _ ?_
          clear hK K
          go_wp2
        · intro w' hst
          simp only [frOf, frGo, Nat.zero_add]
          clear k7 k9 s0
          have KK := Lib.hid hst
          clear hst
          go_wp2
          go_roundw
          case rel => exact ⟨k + 1, z', hk, by go_num, KK, hz'⟩
          case measure => simp [intOf]; omega
      · go_wp2
        generalize w2.alloc (Obj.cells #[.int .i64 z', .int .i64 x1, .int .i64 x2] 23) = u2 at *
        generalize w2.heap.size = P9 at *
        refine region_late_k [84, 85] 1 (fun i_ => match i_ with | 0 => tv x0 0 0 | 1 => tv z' x1 x2 | _ => undef) (fun f => f) (fun U_ => RS w w.heap.size P R x0 x1 x2 z' U_) (fun i_ X_ U_ => match i_ with | 0 => X_ = tv x0 0 0 | 1 => X_ = tv z' x1 x2 | _ => True) (fun i_ => false) (by kernel_rfl) (by kernel_rfl) (by kernel_rfl) (by kernel_rfl) ?_ (fun i x w hi ha h => by cases ha) ?_ ?_ ?_ ?_
        · refine swp (upS (upS up0 ?_) ?_)
          all_goals exact fun _ _ _ h _ => h
        · refine upS (upS up0 ?_) ?_
          all_goals intro v f w' hb hv hB hd
          · have b7 : f.tmps[7]? = some (.pointer (some ⟨P7, 0, none⟩)) := (hb 7 (by decide)).trans rfl
            clear hb hv hd
            have c := tc_keep hB k7
            refine wpOp_step rfl fun K hK => ?_
            go_simp
            exact hK _ _ ⟨_, rfl, Below.refl _ _, rfl, fun h => absurd h (by decide)⟩
          · have b9 : f.tmps[9]? = some (.pointer (some ⟨P9, 0, none⟩)) := (hb 9 (by decide)).trans rfl
            clear hb hv hd
            have c := tc_keep hB k9
            refine wpOp_step rfl fun K hK => ?_
            go_simp
            exact hK _ _ ⟨_, rfl, Below.refl _ _, rfl, fun h => absurd h (by decide)⟩
        · intro v w' hB hF hD
          have F0 : v 0 = _ := hF 0 (by simp)
          have F1 : v 1 = _ := hF 1 (by simp)
          clear hF
          simp only [frOf, frGo, Nat.zero_add, F0, F1]
          have s1 := rs_keep s0 hB
          have qP := s1.kp
          have fP := s1.fp
          have qR := tc_set (b1 := P) (o := 2) (v := .int .i64 0) (tc_set (b1 := P) (o := 1) (v := .int .i64 0) (tc_set (b1 := P) (o := 0) (v := .int .i64 x0) s1.kr nPR) nPR) nPR
          have fR := tf_set (b1 := P) (o := 2) (v := .int .i64 0) (tf_set (b1 := P) (o := 1) (v := .int .i64 0) (tf_set (b1 := P) (o := 0) (v := .int .i64 x0) s1.fr))
          have k9 := tc_set (b1 := P) (o := 2) (v := .int .i64 0) (tc_set (b1 := P) (o := 1) (v := .int .i64 0) (tc_set (b1 := P) (o := 0) (v := .int .i64 x0) (tc_keep hB k9) nP9) nP9) nP9
          have sN := rs_put (z' := z') s1 nPA nRA nPR hP hR
          clear F0 F1 hD hB k7 k9 s0 s1
          go_wp2
        · intro v w' hB hF hD
          have F0 : v 0 = _ := hF 0 (by simp) (by decide)
          clear hF
          simp only [frOf, frGo, Nat.zero_add, F0]
          have s1 := rs_keep s0 hB
          have qP := s1.kp
          have fP := s1.fp
          have qR := tc_set (b1 := P) (o := 2) (v := .int .i64 0) (tc_set (b1 := P) (o := 1) (v := .int .i64 0) (tc_set (b1 := P) (o := 0) (v := .int .i64 x0) s1.kr nPR) nPR) nPR
          have fR := tf_set (b1 := P) (o := 2) (v := .int .i64 0) (tf_set (b1 := P) (o := 1) (v := .int .i64 0) (tf_set (b1 := P) (o := 0) (v := .int .i64 x0) s1.fr))
          have k9 := tc_set (b1 := P) (o := 2) (v := .int .i64 0) (tc_set (b1 := P) (o := 1) (v := .int .i64 0) (tc_set (b1 := P) (o := 0) (v := .int .i64 x0) (tc_keep hB k9) nP9) nP9) nP9
          have sN := rs_put (z' := z') s1 nPA nRA nPR hP hR
          clear F0 hD hB k7 s0 s1
          refine wpOp_step rfl (fun K hK => ?_)
          go_simp
          refine hK _ _ ?_
          clear hK K
          refine wpOp_step rfl (fun K hK => ?_)
          go_simp
          refine hK _ _ ?_
          clear hK K
          go_wp2
        · intro w' hst
          simp only [frOf, frGo, Nat.zero_add]
          clear k7 k9 s0
          have KK := Lib.hid hst
          clear hst
          go_wp2
          go_roundw
          case rel => exact ⟨k + 1, z', hk, by go_num, KK, hz'⟩
          case measure => simp [intOf]; omega
      · go_wp2
        generalize w2.alloc (Obj.cells #[.int .i64 z', .int .i64 x1, .int .i64 x2] 23) = u2 at *
        generalize w2.heap.size = P9 at *
        refine region_late_k [84, 85] 1 (fun i_ => match i_ with | 0 => tv x0 0 0 | 1 => tv z' x1 x2 | _ => undef) (fun f => f) (fun U_ => RS w w.heap.size P R x0 x1 x2 z' U_) (fun i_ X_ U_ => match i_ with | 0 => X_ = tv x0 0 0 | 1 => X_ = tv z' x1 x2 | _ => True) (fun i_ => false) (by kernel_rfl) (by kernel_rfl) (by kernel_rfl) (by kernel_rfl) ?_ (fun i x w hi ha h => by cases ha) ?_ ?_ ?_ ?_
        · refine swp (upS (upS up0 ?_) ?_)
          all_goals exact fun _ _ _ h _ => h
        · refine upS (upS up0 ?_) ?_
          all_goals intro v f w' hb hv hB hd
          · have b7 : f.tmps[7]? = some (.pointer (some ⟨P7, 0, none⟩)) := (hb 7 (by decide)).trans rfl
            clear hb hv hd
            have c := tc_keep hB k7
            refine wpOp_step rfl fun K hK => ?_
            go_simp
            exact hK _ _ ⟨_, rfl, Below.refl _ _, rfl, fun h => absurd h (by decide)⟩
          · have b9 : f.tmps[9]? = some (.pointer (some ⟨P9, 0, none⟩)) := (hb 9 (by decide)).trans rfl
            clear hb hv hd
            have c := tc_keep hB k9
            refine wpOp_step rfl fun K hK => ?_
            go_simp
            exact hK _ _ ⟨_, rfl, Below.refl _ _, rfl, fun h => absurd h (by decide)⟩
        · intro v w' hB hF hD
          have F0 : v 0 = _ := hF 0 (by simp)
          have F1 : v 1 = _ := hF 1 (by simp)
          clear hF
          simp only [frOf, frGo, Nat.zero_add, F0, F1]
          have s1 := rs_keep s0 hB
          have qP := s1.kp
          have fP := s1.fp
          have qR := tc_set (b1 := P) (o := 2) (v := .int .i64 0) (tc_set (b1 := P) (o := 1) (v := .int .i64 0) (tc_set (b1 := P) (o := 0) (v := .int .i64 x0) s1.kr nPR) nPR) nPR
          have fR := tf_set (b1 := P) (o := 2) (v := .int .i64 0) (tf_set (b1 := P) (o := 1) (v := .int .i64 0) (tf_set (b1 := P) (o := 0) (v := .int .i64 x0) s1.fr))
          have k9 := tc_set (b1 := P) (o := 2) (v := .int .i64 0) (tc_set (b1 := P) (o := 1) (v := .int .i64 0) (tc_set (b1 := P) (o := 0) (v := .int .i64 x0) (tc_keep hB k9) nP9) nP9) nP9
          have sN := rs_put (z' := z') s1 nPA nRA nPR hP hR
          clear F0 F1 hD hB k7 k9 s0 s1
          go_wp2
        · intro v w' hB hF hD
          have F0 : v 0 = _ := hF 0 (by simp) (by decide)
          clear hF
          simp only [frOf, frGo, Nat.zero_add, F0]
          have s1 := rs_keep s0 hB
          have qP := s1.kp
          have fP := s1.fp
          have qR := tc_set (b1 := P) (o := 2) (v := .int .i64 0) (tc_set (b1 := P) (o := 1) (v := .int .i64 0) (tc_set (b1 := P) (o := 0) (v := .int .i64 x0) s1.kr nPR) nPR) nPR
          have fR := tf_set (b1 := P) (o := 2) (v := .int .i64 0) (tf_set (b1 := P) (o := 1) (v := .int .i64 0) (tf_set (b1 := P) (o := 0) (v := .int .i64 x0) s1.fr))
          have k9 := tc_set (b1 := P) (o := 2) (v := .int .i64 0) (tc_set (b1 := P) (o := 1) (v := .int .i64 0) (tc_set (b1 := P) (o := 0) (v := .int .i64 x0) (tc_keep hB k9) nP9) nP9) nP9
          have sN := rs_put (z' := z') s1 nPA nRA nPR hP hR
          clear F0 hD hB k7 s0 s1
          refine wpOp_step rfl (fun K hK => ?_)
          go_simp
          refine hK _ _ ?_
          clear hK K
          refine wpOp_step rfl (fun K hK => ?_)
          go_simp
          refine hK _ _ ?_
          clear hK K
          go_wp2
        · intro w' hst
          simp only [frOf, frGo, Nat.zero_add]
          clear k7 k9 s0
          have KK := Lib.hid hst
          clear hst
          go_wp2
          go_roundw
          case rel => exact ⟨k + 1, z', hk, by go_num, KK, hz'⟩
          case measure => simp [intOf]; omega

theorem clz_in {x m : Int} (h : -m ≤ x) (k : x ≤ m) : clz x m = x := by
  unfold clz
  rw [if_neg (by omega), if_neg (by omega), if_neg (by omega)]
theorem clz_range {x m : Int} (h : x = clz x m) (hm : 0 ≤ m) : -m ≤ x ∧ x ≤ m := by
  unfold clz at h
  rw [if_neg (by omega)] at h
  split at h
  · omega
  · split at h <;> omega
theorem motionRests_any (x0 x1 x2 n : Int) (hx0 : I64 x0) (hx1 : I64 x1) (hx2 : I64 x2) (n0 : 0 ≤ n) (n1 : n ≤ 255) (w : World) :
    Calls Try.prog 4 #[tv x0 x1 x2, .int .u8 n] w (RetV (.bool true) w) := by
  have c3 := kept_mot x0 x1 x2 72057594037927936 1125899906842624 1125899906842624 hx0 hx1 hx2 (by decide) (by decide) (by decide)
  cases hc : (x0 == clz x0 72057594037927936 && (x1 == clz x1 1125899906842624 && x2 == clz x2 1125899906842624))
  · exact motionRests_out x0 x1 x2 n _ _ _ hc c3 w
  · simp only [Bool.and_eq_true, beq_iff_eq] at hc
    obtain ⟨e0, e1, e2⟩ := hc
    rw [← e0, ← e1, ← e2] at c3
    have r0 := clz_range e0 (by decide)
    have r1 := clz_range e1 (by decide)
    have r2 := clz_range e2 (by decide)
    clear e0 e1 e2
    have tm : n.tmod 50 = n % 50 := Int.tmod_eq_emod_of_nonneg n0
    refine motionRests_in x0 x1 x2 n (n % 50).toNat n0 n1 (Lib.hid (by rw [tm]; omega)) (by omega) c3 ?_ ?_ w
    · exact on_fit x0 0 0 0 0 x0 0 ⟨⟨by omega, by omega⟩, by decide, by decide⟩ (by decide) (by decide) (by decide) (by rw [mvh_zero]; omega) ⟨by omega, by omega⟩ (by rw [mvs_zero]; rfl) (by decide)
    · intro z k hk hb
      have hb' := bd_succ hb r1
      refine ⟨?_, hb'⟩
      have h1 := hb.1
      have h2 := hb.2
      have h3 := hb'.1
      have h4 := hb'.2
      exact on_fit z x1 x2 x2 0 _ x1 ⟨⟨by omega, by omega⟩, ⟨by omega, by omega⟩, ⟨by omega, by omega⟩⟩ ⟨by omega, by omega⟩ (by omega) (by decide) rfl ⟨by omega, by omega⟩ (by rw [mvs_zero]; omega) ⟨by omega, by omega⟩

end Go.Proofs.Ytahpiakjhdnigaa
