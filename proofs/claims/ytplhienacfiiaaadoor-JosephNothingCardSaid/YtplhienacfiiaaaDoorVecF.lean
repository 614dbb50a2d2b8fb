/- Rows: Add and Scale of the document. -/
import Derived.Test.YtplhienacfiiaaaDoorVecE
import Derived.Test.YtplhienacfiiaaaDoorLate
namespace Go.Proofs.YtplhienacfiiaaaDoor
open Go.RowKit Go.Shelf

theorem es_of {w w' : World} {q r : Nat} (b : Below w.heap.size w w') (qc : TC w' q 0 0 0) (qf : TF w' q) (rc : TC w' r 0 0 0) (rf : TF w' r) : ES w q r 0 0 0 w' := ⟨b, qc, qf, rc, rf⟩
set_option maxHeartbeats 1000000 in
set_option maxRecDepth 10000 in
theorem add3_ref_bad (a0 a1 a2 b0 b1 b2 : Int) (ha0 : I64 a0) (ha1 : I64 a1) (ha2 : I64 a2) (hb0 : I64 b0) (hb1 : I64 b1) (hb2 : I64 b2) (c : ¬ (F3 a0 a1 a2 ∧ F3 b0 b1 b2)) (w : World) :
    Calls Tryd.prog 22 #[tv a0 a1 a2, tv b0 b1 b2] w (RetV (.tuple #[tv 0 0 0, .int .i64 1]) w) := by
  by_cases ca : F3 a0 a1 a2
  · have ea := Lib.hid (f3b_yes ca)
    have eb := Lib.hid (f3b_no (fun h => c ⟨ca, h⟩))
    clear ca c
    have kA : TC ((((w.alloc (Obj.cells #[.int .i64 a0, .int .i64 a1, .int .i64 a2] 23)).alloc (Obj.cells #[.int .i64 b0, .int .i64 b1, .int .i64 b2] 23)).alloc (Obj.cells #[.int .i64 0, .int .i64 0, .int .i64 0] 23)).alloc (Obj.cells #[.int .i64 0, .int .i64 0, .int .i64 0] 23)) (w.heap.size) a0 a1 a2 := tc_alloc (tc_alloc (tc_alloc (tc_new rfl)))
    have kB : TC ((((w.alloc (Obj.cells #[.int .i64 a0, .int .i64 a1, .int .i64 a2] 23)).alloc (Obj.cells #[.int .i64 b0, .int .i64 b1, .int .i64 b2] 23)).alloc (Obj.cells #[.int .i64 0, .int .i64 0, .int .i64 0] 23)).alloc (Obj.cells #[.int .i64 0, .int .i64 0, .int .i64 0] 23)) (w.heap.size + 1) b0 b1 b2 := tc_alloc (tc_alloc (tc_new (by simp)))
    have s0 : ES w (w.heap.size + 1 + 1) (w.heap.size + 1 + 1 + 1) 0 0 0 ((((w.alloc (Obj.cells #[.int .i64 a0, .int .i64 a1, .int .i64 a2] 23)).alloc (Obj.cells #[.int .i64 b0, .int .i64 b1, .int .i64 b2] 23)).alloc (Obj.cells #[.int .i64 0, .int .i64 0, .int .i64 0] 23)).alloc (Obj.cells #[.int .i64 0, .int .i64 0, .int .i64 0] 23)) := es_of (b_alloc (b_alloc (b_alloc (b_alloc (Below.refl _ _))))) (tc_alloc (tc_new (by simp))) (tf_keep (b_alloc (Below.refl _ _)) (tc_new (by simp)) (tf_new (by simp))) (tc_new (by simp)) (tf_new (by simp))
    go_enter Tryd.func22, Tryd.ntmps22
    go_wp2_with fail
    refine (fits3_ref a0 a1 a2 ha0 ha1 ha2 _).mono ?_
    rintro e1 w1 ⟨rfl, hb9⟩
    rw [ea.out]
    replace kA := tc_keep hb9 kA
    replace kB := tc_keep hb9 kB
    replace s0 := es_keep s0 hb9
    clear hb9
    go_wp2_with fail
    refine (fits3_ref b0 b1 b2 hb0 hb1 hb2 _).mono ?_
    rintro e2 w2 ⟨rfl, hb9⟩
    rw [eb.out]
    replace kA := tc_keep hb9 kA
    replace kB := tc_keep hb9 kB
    replace s0 := es_keep s0 hb9
    clear hb9
    have B9 := es_done (a := 0) (b := 0) (c := 0) s0 (by omega)
    obtain ⟨_, qc, qf, rc, rf⟩ := s0
    go_wp2
    exact bodyPost_ret (v := .tuple #[tv 0 0 0, .int .i64 1]) (by simp [results, Tryd.results22, go_sem, qc]) rfl ⟨rfl, B9⟩
  · have ea := Lib.hid (f3b_no ca)
    clear ca c
    have kA : TC ((((w.alloc (Obj.cells #[.int .i64 a0, .int .i64 a1, .int .i64 a2] 23)).alloc (Obj.cells #[.int .i64 b0, .int .i64 b1, .int .i64 b2] 23)).alloc (Obj.cells #[.int .i64 0, .int .i64 0, .int .i64 0] 23)).alloc (Obj.cells #[.int .i64 0, .int .i64 0, .int .i64 0] 23)) (w.heap.size) a0 a1 a2 := tc_alloc (tc_alloc (tc_alloc (tc_new rfl)))
    have kB : TC ((((w.alloc (Obj.cells #[.int .i64 a0, .int .i64 a1, .int .i64 a2] 23)).alloc (Obj.cells #[.int .i64 b0, .int .i64 b1, .int .i64 b2] 23)).alloc (Obj.cells #[.int .i64 0, .int .i64 0, .int .i64 0] 23)).alloc (Obj.cells #[.int .i64 0, .int .i64 0, .int .i64 0] 23)) (w.heap.size + 1) b0 b1 b2 := tc_alloc (tc_alloc (tc_new (by simp)))
    have s0 : ES w (w.heap.size + 1 + 1) (w.heap.size + 1 + 1 + 1) 0 0 0 ((((w.alloc (Obj.cells #[.int .i64 a0, .int .i64 a1, .int .i64 a2] 23)).alloc (Obj.cells #[.int .i64 b0, .int .i64 b1, .int .i64 b2] 23)).alloc (Obj.cells #[.int .i64 0, .int .i64 0, .int .i64 0] 23)).alloc (Obj.cells #[.int .i64 0, .int .i64 0, .int .i64 0] 23)) := es_of (b_alloc (b_alloc (b_alloc (b_alloc (Below.refl _ _))))) (tc_alloc (tc_new (by simp))) (tf_keep (b_alloc (Below.refl _ _)) (tc_new (by simp)) (tf_new (by simp))) (tc_new (by simp)) (tf_new (by simp))
    go_enter Tryd.func22, Tryd.ntmps22
    go_wp2_with fail
    refine (fits3_ref a0 a1 a2 ha0 ha1 ha2 _).mono ?_
    rintro e1 w1 ⟨rfl, hb9⟩
    rw [ea.out]
    replace kA := tc_keep hb9 kA
    replace kB := tc_keep hb9 kB
    replace s0 := es_keep s0 hb9
    clear hb9
    have B9 := es_done (a := 0) (b := 0) (c := 0) s0 (by omega)
    obtain ⟨_, qc, qf, rc, rf⟩ := s0
    go_wp2
    exact bodyPost_ret (v := .tuple #[tv 0 0 0, .int .i64 1]) (by simp [results, Tryd.results22, go_sem, qc]) rfl ⟨rfl, B9⟩
set_option maxHeartbeats 4000000 in
set_option maxRecDepth 10000 in
theorem add3_ref_ok (a0 a1 a2 b0 b1 b2 x0 x1 x2 e0 e1 e2 : Int) (ha0 : I64 a0) (ha1 : I64 a1) (ha2 : I64 a2) (hb0 : I64 b0) (hb1 : I64 b1) (hb2 : I64 b2) (ca : F3 a0 a1 a2) (cb : F3 b0 b1 b2)
    (c0 : ∀ w, Calls Tryd.prog 36 #[.int .i64 a0, .int .i64 b0] w (RetV (.tuple #[.int .i64 x0, .int .i64 e0]) w))
    (c1 : ∀ w, Calls Tryd.prog 36 #[.int .i64 a1, .int .i64 b1] w (RetV (.tuple #[.int .i64 x1, .int .i64 e1]) w))
    (c2 : ∀ w, Calls Tryd.prog 36 #[.int .i64 a2, .int .i64 b2] w (RetV (.tuple #[.int .i64 x2, .int .i64 e2]) w)) (w : World) :
    Calls Tryd.prog 22 #[tv a0 a1 a2, tv b0 b1 b2] w (RetV (.tuple #[tv (tz x0 e0 e1 e2) (tz x1 e0 e1 e2) (tz x2 e0 e1 e2), .int .i64 (te e0 e1 e2)]) w) := by
  have ea := Lib.hid (f3b_yes ca)
  have eb := Lib.hid (f3b_yes cb)
  clear ca cb
  have kA : TC ((((w.alloc (Obj.cells #[.int .i64 a0, .int .i64 a1, .int .i64 a2] 23)).alloc (Obj.cells #[.int .i64 b0, .int .i64 b1, .int .i64 b2] 23)).alloc (Obj.cells #[.int .i64 0, .int .i64 0, .int .i64 0] 23)).alloc (Obj.cells #[.int .i64 0, .int .i64 0, .int .i64 0] 23)) (w.heap.size) a0 a1 a2 := tc_alloc (tc_alloc (tc_alloc (tc_new rfl)))
  have kB : TC ((((w.alloc (Obj.cells #[.int .i64 a0, .int .i64 a1, .int .i64 a2] 23)).alloc (Obj.cells #[.int .i64 b0, .int .i64 b1, .int .i64 b2] 23)).alloc (Obj.cells #[.int .i64 0, .int .i64 0, .int .i64 0] 23)).alloc (Obj.cells #[.int .i64 0, .int .i64 0, .int .i64 0] 23)) (w.heap.size + 1) b0 b1 b2 := tc_alloc (tc_alloc (tc_new (by simp)))
  have s0 : ES w (w.heap.size + 1 + 1) (w.heap.size + 1 + 1 + 1) 0 0 0 ((((w.alloc (Obj.cells #[.int .i64 a0, .int .i64 a1, .int .i64 a2] 23)).alloc (Obj.cells #[.int .i64 b0, .int .i64 b1, .int .i64 b2] 23)).alloc (Obj.cells #[.int .i64 0, .int .i64 0, .int .i64 0] 23)).alloc (Obj.cells #[.int .i64 0, .int .i64 0, .int .i64 0] 23)) := es_of (b_alloc (b_alloc (b_alloc (b_alloc (Below.refl _ _))))) (tc_alloc (tc_new (by simp))) (tf_keep (b_alloc (Below.refl _ _)) (tc_new (by simp)) (tf_new (by simp))) (tc_new (by simp)) (tf_new (by simp))
  go_enter Tryd.func22, Tryd.ntmps22
  go_wp2_with fail
  refine (fits3_ref a0 a1 a2 ha0 ha1 ha2 _).mono ?_
  rintro e1 w1 ⟨rfl, hb9⟩
  rw [ea.out]
  replace kA := tc_keep hb9 kA
  replace kB := tc_keep hb9 kB
  replace s0 := es_keep s0 hb9
  clear hb9
  go_wp2_with fail
  refine (fits3_ref b0 b1 b2 hb0 hb1 hb2 _).mono ?_
  rintro e2 w2 ⟨rfl, hb9⟩
  rw [eb.out]
  replace kA := tc_keep hb9 kA
  replace kB := tc_keep hb9 kB
  replace s0 := es_keep s0 hb9
  clear hb9
  clear ha0 ha1 ha2 hb0 hb1 hb2
  go_wp2
  refine wp_loop_rounds 4 ?_
  rw [rounds_succ]
  go_wp2
  refine region_late_k [25, 26, 27, 28, 29, 30, 31, 24, 32, 33] 9 (fun i => match i with | 0 => .int .i64 0 | 1 => .pointer (some ⟨w.heap.size, 0, none⟩) | 2 => .int .i64 a0 | 3 => .int .i64 0 | 4 => .pointer (some ⟨w.heap.size + 1, 0, none⟩) | 5 => .int .i64 b0 | 6 => .tuple #[.int .i64 x0, .int .i64 e0] | 7 => .tuple #[.int .i64 x0, .int .i64 e0] | 8 => .int .i64 x0 | 9 => .int .i64 e0 | _ => undef) (fun f => (f.put (some 8) (.int .i64 x0)).put (some 9) (.int .i64 e0)) (fun U_ => Below w2.heap.size w2 U_) (fun i X_ U_ => match i with | 0 => X_ = .int .i64 0 | 1 => X_ = .pointer (some ⟨w.heap.size, 0, none⟩) | 2 => X_ = .int .i64 a0 | 3 => X_ = .int .i64 0 | 4 => X_ = .pointer (some ⟨w.heap.size + 1, 0, none⟩) | 5 => X_ = .int .i64 b0 | 6 => X_ = .tuple #[.int .i64 x0, .int .i64 e0] | 7 => X_ = .tuple #[.int .i64 x0, .int .i64 e0] | 8 => X_ = .int .i64 x0 | 9 => X_ = .int .i64 e0 | _ => True) (fun i => false) (by kernel_rfl) (by kernel_rfl) (by kernel_rfl) (by kernel_rfl) ?_ (fun i x w hi ha h => by cases ha) ?_ ?_ ?_ ?_
  · refine swp (upS (upS (upS (upS (upS (upS (upS (upS (upS (upS up0 ?_) ?_) ?_) ?_) ?_) ?_) ?_) ?_) ?_) ?_)
    all_goals exact fun _ _ _ h _ => h
  · refine upS (upS (upS (upS (upS (upS (upS (upS (upS (upS up0 ?_) ?_) ?_) ?_) ?_) ?_) ?_) ?_) ?_) ?_
    all_goals intro v f w' hb hv hB hd
    · have b7 : f.tmps[7]? = some (.int .i64 0) := (hb 7 (by decide)).trans rfl
      clear hb hv hd
      refine wpOp_step rfl fun K hK => ?_
      go_simp
      exact hK _ _ ⟨_, rfl, Below.refl _ _, rfl, fun h => absurd h (by decide)⟩
    · have b2 : f.tmps[2]? = some (.pointer (some ⟨w.heap.size, 0, none⟩)) := (hb 2 (by decide)).trans rfl
      have d0 := got (hv 0 25 rfl) (hd 0 (by kernel_rfl))
      clear hb hv hd
      refine wpOp_step rfl fun K hK => ?_
      go_simp
      exact hK _ _ ⟨_, rfl, Below.refl _ _, rfl, fun h => absurd h (by decide)⟩
    · have d1 := got (hv 1 26 rfl) (hd 1 (by kernel_rfl))
      clear hb hv hd
      have c := tc_keep hB kA
      refine wpOp_step rfl fun K hK => ?_
      go_simp
      exact hK _ _ ⟨_, rfl, Below.refl _ _, rfl, fun h => absurd h (by decide)⟩
    · have b7 : f.tmps[7]? = some (.int .i64 0) := (hb 7 (by decide)).trans rfl
      clear hb hv hd
      refine wpOp_step rfl fun K hK => ?_
      go_simp
      exact hK _ _ ⟨_, rfl, Below.refl _ _, rfl, fun h => absurd h (by decide)⟩
    · have b3 : f.tmps[3]? = some (.pointer (some ⟨w.heap.size + 1, 0, none⟩)) := (hb 3 (by decide)).trans rfl
      have d3 := got (hv 3 28 rfl) (hd 3 (by kernel_rfl))
      clear hb hv hd
      refine wpOp_step rfl fun K hK => ?_
      go_simp
      exact hK _ _ ⟨_, rfl, Below.refl _ _, rfl, fun h => absurd h (by decide)⟩
    · have d4 := got (hv 4 29 rfl) (hd 4 (by kernel_rfl))
      clear hb hv hd
      have c := tc_keep hB kB
      refine wpOp_step rfl fun K hK => ?_
      go_simp
      exact hK _ _ ⟨_, rfl, Below.refl _ _, rfl, fun h => absurd h (by decide)⟩
    · have d2 := got (hv 2 27 rfl) (hd 2 (by kernel_rfl))
      have d5 := got (hv 5 30 rfl) (hd 5 (by kernel_rfl))
      clear hb hv hd
      refine wpOp_call rfl Tryd.call36 (args2 (eval_tmp d2) (eval_tmp d5)) (c0 _) ?_
      rintro e5 w5 ⟨rfl, hb5⟩
      exact ⟨_, rfl, _, rfl, hb5, rfl, fun h => absurd h (by decide)⟩
    · have d6 := got (hv 6 31 rfl) (hd 6 (by kernel_rfl))
      clear hb hv hd
      refine wpOp_step rfl fun K hK => ?_
      go_simp
      exact hK _ _ ⟨_, rfl, Below.refl _ _, rfl, fun h => absurd h (by decide)⟩
    · have d7 := got (hv 7 24 rfl) (hd 7 (by kernel_rfl))
      clear hb hv hd
      refine wpOp_step rfl fun K hK => ?_
      go_simp
      exact hK _ _ ⟨_, rfl, Below.refl _ _, rfl, fun h => absurd h (by decide)⟩
    · have d7 := got (hv 7 24 rfl) (hd 7 (by kernel_rfl))
      clear hb hv hd
      refine wpOp_step rfl fun K hK => ?_
      go_simp
      exact hK _ _ ⟨_, rfl, Below.refl _ _, rfl, fun h => absurd h (by decide)⟩
  · intro v w' hB hF hD
    have F0 : v 0 = _ := hF 0 (by simp)
    have F1 : v 1 = _ := hF 1 (by simp)
    have F2 : v 2 = _ := hF 2 (by simp)
    have F3 : v 3 = _ := hF 3 (by simp)
    have F4 : v 4 = _ := hF 4 (by simp)
    have F5 : v 5 = _ := hF 5 (by simp)
    have F6 : v 6 = _ := hF 6 (by simp)
    have F7 : v 7 = _ := hF 7 (by simp)
    have F8 : v 8 = _ := hF 8 (by simp)
    have F9 : v 9 = _ := hF 9 (by simp)
    clear hF
    simp only [frOf, frGo, Nat.zero_add, Nat.reduceAdd, F0, F1, F2, F3, F4, F5, F6, F7, F8, F9]
    clear F0 F1 F2 F3 F4 F5 F6 F7 F8 F9 hD c0 s0 kA kB
    go_wp2
  · intro v w' hB hF hD
    have F0 : v 0 = _ := hF 0 (by simp) (by decide)
    have F1 : v 1 = _ := hF 1 (by simp) (by decide)
    have F2 : v 2 = _ := hF 2 (by simp) (by decide)
    have F3 : v 3 = _ := hF 3 (by simp) (by decide)
    have F4 : v 4 = _ := hF 4 (by simp) (by decide)
    have F5 : v 5 = _ := hF 5 (by simp) (by decide)
    have F6 : v 6 = _ := hF 6 (by simp) (by decide)
    have F7 : v 7 = _ := hF 7 (by simp) (by decide)
    have F8 : v 8 = _ := hF 8 (by simp) (by decide)
    clear hF
    simp only [frOf, frGo, Nat.zero_add, Nat.reduceAdd, F0, F1, F2, F3, F4, F5, F6, F7, F8]
    clear F0 F1 F2 F3 F4 F5 F6 F7 F8 hD c0 s0 kA kB
    refine wpOp_step rfl (fun K hK => ?_)
    go_simp
    refine hK _ _ ?_
    clear hK K
    refine wpOp_step rfl (fun K hK => ?_)
    go_simp
    refine hK _ _ ?_
    clear hK K
    go_wp2
  · intro w' hst
    have hB := hst
    clear hst
    simp only [frOf, frGo, Nat.zero_add, Nat.reduceAdd]
    clear c0
    replace kA := tc_keep hB kA
    replace kB := tc_keep hB kB
    replace s0 := es_keep s0 hB
    clear hB
    by_cases h0 : e0 = 0
    · subst h0
      have s1 := es_put0 (v := x0) s0 (by omega) (by omega)
      obtain ⟨_, qc, qf, rc, rf⟩ := s0
      clear qc qf
      replace kA := tc_set (b1 := w.heap.size + 1 + 1 + 1) (o := 0) (v := .int .i64 x0) kA (by omega)
      replace kB := tc_set (b1 := w.heap.size + 1 + 1 + 1) (o := 0) (v := .int .i64 x0) kB (by omega)
      have KK := Lib.hid (And.intro s1 (And.intro kA kB))
      clear s1 kA kB
      go_wp2
      clear rc rf
      generalize w'.setCell ⟨w.heap.size + 1 + 1 + 1, 0, none⟩ (.int .i64 x0) = u0 at *
      obtain ⟨s0, kA, kB⟩ := KK.out
      clear KK
      rw [rounds_succ]
      go_wp2
      refine region_late_k [25, 26, 27, 28, 29, 30, 31, 24, 32, 33] 9 (fun i => match i with | 0 => .int .i64 1 | 1 => .pointer (some ⟨w.heap.size, 1, none⟩) | 2 => .int .i64 a1 | 3 => .int .i64 1 | 4 => .pointer (some ⟨w.heap.size + 1, 1, none⟩) | 5 => .int .i64 b1 | 6 => .tuple #[.int .i64 x1, .int .i64 e1] | 7 => .tuple #[.int .i64 x1, .int .i64 e1] | 8 => .int .i64 x1 | 9 => .int .i64 e1 | _ => undef) (fun f => (f.put (some 8) (.int .i64 x1)).put (some 9) (.int .i64 e1)) (fun U_ => Below u0.heap.size u0 U_) (fun i X_ U_ => match i with | 0 => X_ = .int .i64 1 | 1 => X_ = .pointer (some ⟨w.heap.size, 1, none⟩) | 2 => X_ = .int .i64 a1 | 3 => X_ = .int .i64 1 | 4 => X_ = .pointer (some ⟨w.heap.size + 1, 1, none⟩) | 5 => X_ = .int .i64 b1 | 6 => X_ = .tuple #[.int .i64 x1, .int .i64 e1] | 7 => X_ = .tuple #[.int .i64 x1, .int .i64 e1] | 8 => X_ = .int .i64 x1 | 9 => X_ = .int .i64 e1 | _ => True) (fun i => false) (by kernel_rfl) (by kernel_rfl) (by kernel_rfl) (by kernel_rfl) ?_ (fun i x w hi ha h => by cases ha) ?_ ?_ ?_ ?_
      · refine swp (upS (upS (upS (upS (upS (upS (upS (upS (upS (upS up0 ?_) ?_) ?_) ?_) ?_) ?_) ?_) ?_) ?_) ?_)
        all_goals exact fun _ _ _ h _ => h
      · refine upS (upS (upS (upS (upS (upS (upS (upS (upS (upS up0 ?_) ?_) ?_) ?_) ?_) ?_) ?_) ?_) ?_) ?_
        all_goals intro v f w' hb hv hB hd
        · have b7 : f.tmps[7]? = some (.int .i64 1) := (hb 7 (by decide)).trans rfl
          clear hb hv hd
          refine wpOp_step rfl fun K hK => ?_
          go_simp
          exact hK _ _ ⟨_, rfl, Below.refl _ _, rfl, fun h => absurd h (by decide)⟩
        · have b2 : f.tmps[2]? = some (.pointer (some ⟨w.heap.size, 0, none⟩)) := (hb 2 (by decide)).trans rfl
          have d0 := got (hv 0 25 rfl) (hd 0 (by kernel_rfl))
          clear hb hv hd
          refine wpOp_step rfl fun K hK => ?_
          go_simp
          exact hK _ _ ⟨_, rfl, Below.refl _ _, rfl, fun h => absurd h (by decide)⟩
        · have d1 := got (hv 1 26 rfl) (hd 1 (by kernel_rfl))
          clear hb hv hd
          have c := tc_keep hB kA
          refine wpOp_step rfl fun K hK => ?_
          go_simp
          exact hK _ _ ⟨_, rfl, Below.refl _ _, rfl, fun h => absurd h (by decide)⟩
        · have b7 : f.tmps[7]? = some (.int .i64 1) := (hb 7 (by decide)).trans rfl
          clear hb hv hd
          refine wpOp_step rfl fun K hK => ?_
          go_simp
          exact hK _ _ ⟨_, rfl, Below.refl _ _, rfl, fun h => absurd h (by decide)⟩
        · have b3 : f.tmps[3]? = some (.pointer (some ⟨w.heap.size + 1, 0, none⟩)) := (hb 3 (by decide)).trans rfl
          have d3 := got (hv 3 28 rfl) (hd 3 (by kernel_rfl))
          clear hb hv hd
          refine wpOp_step rfl fun K hK => ?_
          go_simp
          exact hK _ _ ⟨_, rfl, Below.refl _ _, rfl, fun h => absurd h (by decide)⟩
        · have d4 := got (hv 4 29 rfl) (hd 4 (by kernel_rfl))
          clear hb hv hd
          have c := tc_keep hB kB
          refine wpOp_step rfl fun K hK => ?_
          go_simp
          exact hK _ _ ⟨_, rfl, Below.refl _ _, rfl, fun h => absurd h (by decide)⟩
        · have d2 := got (hv 2 27 rfl) (hd 2 (by kernel_rfl))
          have d5 := got (hv 5 30 rfl) (hd 5 (by kernel_rfl))
          clear hb hv hd
          refine wpOp_call rfl Tryd.call36 (args2 (eval_tmp d2) (eval_tmp d5)) (c1 _) ?_
          rintro e5 w5 ⟨rfl, hb5⟩
          exact ⟨_, rfl, _, rfl, hb5, rfl, fun h => absurd h (by decide)⟩
        · have d6 := got (hv 6 31 rfl) (hd 6 (by kernel_rfl))
          clear hb hv hd
          refine wpOp_step rfl fun K hK => ?_
          go_simp
          exact hK _ _ ⟨_, rfl, Below.refl _ _, rfl, fun h => absurd h (by decide)⟩
        · have d7 := got (hv 7 24 rfl) (hd 7 (by kernel_rfl))
          clear hb hv hd
          refine wpOp_step rfl fun K hK => ?_
          go_simp
          exact hK _ _ ⟨_, rfl, Below.refl _ _, rfl, fun h => absurd h (by decide)⟩
        · have d7 := got (hv 7 24 rfl) (hd 7 (by kernel_rfl))
          clear hb hv hd
          refine wpOp_step rfl fun K hK => ?_
          go_simp
          exact hK _ _ ⟨_, rfl, Below.refl _ _, rfl, fun h => absurd h (by decide)⟩
      · intro v w' hB hF hD
        have F0 : v 0 = _ := hF 0 (by simp)
        have F1 : v 1 = _ := hF 1 (by simp)
        have F2 : v 2 = _ := hF 2 (by simp)
        have F3 : v 3 = _ := hF 3 (by simp)
        have F4 : v 4 = _ := hF 4 (by simp)
        have F5 : v 5 = _ := hF 5 (by simp)
        have F6 : v 6 = _ := hF 6 (by simp)
        have F7 : v 7 = _ := hF 7 (by simp)
        have F8 : v 8 = _ := hF 8 (by simp)
        have F9 : v 9 = _ := hF 9 (by simp)
        clear hF
        simp only [frOf, frGo, Nat.zero_add, Nat.reduceAdd, F0, F1, F2, F3, F4, F5, F6, F7, F8, F9]
        clear F0 F1 F2 F3 F4 F5 F6 F7 F8 F9 hD c1 s0 kA kB
        go_wp2
      · intro v w' hB hF hD
        have F0 : v 0 = _ := hF 0 (by simp) (by decide)
        have F1 : v 1 = _ := hF 1 (by simp) (by decide)
        have F2 : v 2 = _ := hF 2 (by simp) (by decide)
        have F3 : v 3 = _ := hF 3 (by simp) (by decide)
        have F4 : v 4 = _ := hF 4 (by simp) (by decide)
        have F5 : v 5 = _ := hF 5 (by simp) (by decide)
        have F6 : v 6 = _ := hF 6 (by simp) (by decide)
        have F7 : v 7 = _ := hF 7 (by simp) (by decide)
        have F8 : v 8 = _ := hF 8 (by simp) (by decide)
        clear hF
        simp only [frOf, frGo, Nat.zero_add, Nat.reduceAdd, F0, F1, F2, F3, F4, F5, F6, F7, F8]
        clear F0 F1 F2 F3 F4 F5 F6 F7 F8 hD c1 s0 kA kB
        refine wpOp_step rfl (fun K hK => ?_)
        go_simp
        refine hK _ _ ?_
        clear hK K
        refine wpOp_step rfl (fun K hK => ?_)
        go_simp
        refine hK _ _ ?_
        clear hK K
        go_wp2
      · intro w' hst
        have hB := hst
        clear hst
        simp only [frOf, frGo, Nat.zero_add, Nat.reduceAdd]
        clear c1
        replace kA := tc_keep hB kA
        replace kB := tc_keep hB kB
        replace s0 := es_keep s0 hB
        clear hB
        by_cases h1 : e1 = 0
        · subst h1
          have s1 := es_put1 (v := x1) s0 (by omega) (by omega)
          obtain ⟨_, qc, qf, rc, rf⟩ := s0
          clear qc qf
          replace kA := tc_set (b1 := w.heap.size + 1 + 1 + 1) (o := 1) (v := .int .i64 x1) kA (by omega)
          replace kB := tc_set (b1 := w.heap.size + 1 + 1 + 1) (o := 1) (v := .int .i64 x1) kB (by omega)
          have KK := Lib.hid (And.intro s1 (And.intro kA kB))
          clear s1 kA kB
          go_wp2
          clear rc rf
          generalize w'.setCell ⟨w.heap.size + 1 + 1 + 1, 1, none⟩ (.int .i64 x1) = u1 at *
          obtain ⟨s0, kA, kB⟩ := KK.out
          clear KK
          rw [rounds_succ]
          go_wp2
          refine region_late_k [25, 26, 27, 28, 29, 30, 31, 24, 32, 33] 9 (fun i => match i with | 0 => .int .i64 2 | 1 => .pointer (some ⟨w.heap.size, 2, none⟩) | 2 => .int .i64 a2 | 3 => .int .i64 2 | 4 => .pointer (some ⟨w.heap.size + 1, 2, none⟩) | 5 => .int .i64 b2 | 6 => .tuple #[.int .i64 x2, .int .i64 e2] | 7 => .tuple #[.int .i64 x2, .int .i64 e2] | 8 => .int .i64 x2 | 9 => .int .i64 e2 | _ => undef) (fun f => (f.put (some 8) (.int .i64 x2)).put (some 9) (.int .i64 e2)) (fun U_ => Below u1.heap.size u1 U_) (fun i X_ U_ => match i with | 0 => X_ = .int .i64 2 | 1 => X_ = .pointer (some ⟨w.heap.size, 2, none⟩) | 2 => X_ = .int .i64 a2 | 3 => X_ = .int .i64 2 | 4 => X_ = .pointer (some ⟨w.heap.size + 1, 2, none⟩) | 5 => X_ = .int .i64 b2 | 6 => X_ = .tuple #[.int .i64 x2, .int .i64 e2] | 7 => X_ = .tuple #[.int .i64 x2, .int .i64 e2] | 8 => X_ = .int .i64 x2 | 9 => X_ = .int .i64 e2 | _ => True) (fun i => false) (by kernel_rfl) (by kernel_rfl) (by kernel_rfl) (by kernel_rfl) ?_ (fun i x w hi ha h => by cases ha) ?_ ?_ ?_ ?_
          · refine swp (upS (upS (upS (upS (upS (upS (upS (upS (upS (upS up0 ?_) ?_) ?_) ?_) ?_) ?_) ?_) ?_) ?_) ?_)
            all_goals exact fun _ _ _ h _ => h
          · refine upS (upS (upS (upS (upS (upS (upS (upS (upS (upS up0 ?_) ?_) ?_) ?_) ?_) ?_) ?_) ?_) ?_) ?_
            all_goals intro v f w' hb hv hB hd
            · have b7 : f.tmps[7]? = some (.int .i64 2) := (hb 7 (by decide)).trans rfl
              clear hb hv hd
              refine wpOp_step rfl fun K hK => ?_
              go_simp
              exact hK _ _ ⟨_, rfl, Below.refl _ _, rfl, fun h => absurd h (by decide)⟩
            · have b2 : f.tmps[2]? = some (.pointer (some ⟨w.heap.size, 0, none⟩)) := (hb 2 (by decide)).trans rfl
              have d0 := got (hv 0 25 rfl) (hd 0 (by kernel_rfl))
              clear hb hv hd
              refine wpOp_step rfl fun K hK => ?_
              go_simp
              exact hK _ _ ⟨_, rfl, Below.refl _ _, rfl, fun h => absurd h (by decide)⟩
            · have d1 := got (hv 1 26 rfl) (hd 1 (by kernel_rfl))
              clear hb hv hd
              have c := tc_keep hB kA
              refine wpOp_step rfl fun K hK => ?_
              go_simp
              exact hK _ _ ⟨_, rfl, Below.refl _ _, rfl, fun h => absurd h (by decide)⟩
            · have b7 : f.tmps[7]? = some (.int .i64 2) := (hb 7 (by decide)).trans rfl
              clear hb hv hd
              refine wpOp_step rfl fun K hK => ?_
              go_simp
              exact hK _ _ ⟨_, rfl, Below.refl _ _, rfl, fun h => absurd h (by decide)⟩
            · have b3 : f.tmps[3]? = some (.pointer (some ⟨w.heap.size + 1, 0, none⟩)) := (hb 3 (by decide)).trans rfl
              have d3 := got (hv 3 28 rfl) (hd 3 (by kernel_rfl))
              clear hb hv hd
              refine wpOp_step rfl fun K hK => ?_
              go_simp
              exact hK _ _ ⟨_, rfl, Below.refl _ _, rfl, fun h => absurd h (by decide)⟩
            · have d4 := got (hv 4 29 rfl) (hd 4 (by kernel_rfl))
              clear hb hv hd
              have c := tc_keep hB kB
              refine wpOp_step rfl fun K hK => ?_
              go_simp
              exact hK _ _ ⟨_, rfl, Below.refl _ _, rfl, fun h => absurd h (by decide)⟩
            · have d2 := got (hv 2 27 rfl) (hd 2 (by kernel_rfl))
              have d5 := got (hv 5 30 rfl) (hd 5 (by kernel_rfl))
              clear hb hv hd
              refine wpOp_call rfl Tryd.call36 (args2 (eval_tmp d2) (eval_tmp d5)) (c2 _) ?_
              rintro e5 w5 ⟨rfl, hb5⟩
              exact ⟨_, rfl, _, rfl, hb5, rfl, fun h => absurd h (by decide)⟩
            · have d6 := got (hv 6 31 rfl) (hd 6 (by kernel_rfl))
              clear hb hv hd
              refine wpOp_step rfl fun K hK => ?_
              go_simp
              exact hK _ _ ⟨_, rfl, Below.refl _ _, rfl, fun h => absurd h (by decide)⟩
            · have d7 := got (hv 7 24 rfl) (hd 7 (by kernel_rfl))
              clear hb hv hd
              refine wpOp_step rfl fun K hK => ?_
              go_simp
              exact hK _ _ ⟨_, rfl, Below.refl _ _, rfl, fun h => absurd h (by decide)⟩
            · have d7 := got (hv 7 24 rfl) (hd 7 (by kernel_rfl))
              clear hb hv hd
              refine wpOp_step rfl fun K hK => ?_
              go_simp
              exact hK _ _ ⟨_, rfl, Below.refl _ _, rfl, fun h => absurd h (by decide)⟩
          · intro v w' hB hF hD
            have F0 : v 0 = _ := hF 0 (by simp)
            have F1 : v 1 = _ := hF 1 (by simp)
            have F2 : v 2 = _ := hF 2 (by simp)
            have F3 : v 3 = _ := hF 3 (by simp)
            have F4 : v 4 = _ := hF 4 (by simp)
            have F5 : v 5 = _ := hF 5 (by simp)
            have F6 : v 6 = _ := hF 6 (by simp)
            have F7 : v 7 = _ := hF 7 (by simp)
            have F8 : v 8 = _ := hF 8 (by simp)
            have F9 : v 9 = _ := hF 9 (by simp)
            clear hF
            simp only [frOf, frGo, Nat.zero_add, Nat.reduceAdd, F0, F1, F2, F3, F4, F5, F6, F7, F8, F9]
            clear F0 F1 F2 F3 F4 F5 F6 F7 F8 F9 hD c2 s0 kA kB
            go_wp2
          · intro v w' hB hF hD
            have F0 : v 0 = _ := hF 0 (by simp) (by decide)
            have F1 : v 1 = _ := hF 1 (by simp) (by decide)
            have F2 : v 2 = _ := hF 2 (by simp) (by decide)
            have F3 : v 3 = _ := hF 3 (by simp) (by decide)
            have F4 : v 4 = _ := hF 4 (by simp) (by decide)
            have F5 : v 5 = _ := hF 5 (by simp) (by decide)
            have F6 : v 6 = _ := hF 6 (by simp) (by decide)
            have F7 : v 7 = _ := hF 7 (by simp) (by decide)
            have F8 : v 8 = _ := hF 8 (by simp) (by decide)
            clear hF
            simp only [frOf, frGo, Nat.zero_add, Nat.reduceAdd, F0, F1, F2, F3, F4, F5, F6, F7, F8]
            clear F0 F1 F2 F3 F4 F5 F6 F7 F8 hD c2 s0 kA kB
            refine wpOp_step rfl (fun K hK => ?_)
            go_simp
            refine hK _ _ ?_
            clear hK K
            refine wpOp_step rfl (fun K hK => ?_)
            go_simp
            refine hK _ _ ?_
            clear hK K
            go_wp2
          · intro w' hst
            have hB := hst
            clear hst
            simp only [frOf, frGo, Nat.zero_add, Nat.reduceAdd]
            clear c2
            replace kA := tc_keep hB kA
            replace kB := tc_keep hB kB
            replace s0 := es_keep s0 hB
            clear hB
            by_cases h2 : e2 = 0
            · subst h2
              have s1 := es_put2 (v := x2) s0 (by omega) (by omega)
              obtain ⟨_, qc, qf, rc, rf⟩ := s0
              clear qc qf
              replace kA := tc_set (b1 := w.heap.size + 1 + 1 + 1) (o := 2) (v := .int .i64 x2) kA (by omega)
              replace kB := tc_set (b1 := w.heap.size + 1 + 1 + 1) (o := 2) (v := .int .i64 x2) kB (by omega)
              have KK := Lib.hid (And.intro s1 (And.intro kA kB))
              clear s1 kA kB
              go_wp2
              clear rc rf
              generalize w'.setCell ⟨w.heap.size + 1 + 1 + 1, 2, none⟩ (.int .i64 x2) = u2 at *
              obtain ⟨s0, kA, kB⟩ := KK.out
              clear KK
              have B9 := es_done (a := x0) (b := x1) (c := x2) s0 (by omega)
              obtain ⟨_, qc, qf, rc, rf⟩ := s0
              have T := Lib.hid (And.intro (tz_3 x0).1 (And.intro (tz_3 x1).1 (And.intro (tz_3 x2).1 (tz_3 x0).2)))
              rw [rounds_succ]
              go_wp2
              exact bodyPost_ret (v := .tuple #[tv x0 x1 x2, .int .i64 0]) (by simp [results, Tryd.results22, go_sem, qc]) rfl ⟨by rw [T.out.1, T.out.2.1, T.out.2.2.1, T.out.2.2.2], B9⟩
            · have hn := neq_of h2
              have T := Lib.hid (And.intro (tz_2 h2 x0).1 (And.intro (tz_2 h2 x1).1 (And.intro (tz_2 h2 x2).1 (tz_2 h2 x0).2)))
              have B9 := es_done (a := 0) (b := 0) (c := 0) s0 (by omega)
              obtain ⟨_, qc, qf, rc, rf⟩ := s0
              clear rc rf kA h2 kB
              go_wp2
              exact bodyPost_ret (v := .tuple #[tv 0 0 0, .int .i64 e2]) (by simp [results, Tryd.results22, go_sem, qc]) rfl ⟨by rw [T.out.1, T.out.2.1, T.out.2.2.1, T.out.2.2.2], B9⟩
        · have hn := neq_of h1
          have T := Lib.hid (And.intro (tz_1 h1 x0 e2).1 (And.intro (tz_1 h1 x1 e2).1 (And.intro (tz_1 h1 x2 e2).1 (tz_1 h1 x0 e2).2)))
          have B9 := es_done (a := 0) (b := 0) (c := 0) s0 (by omega)
          obtain ⟨_, qc, qf, rc, rf⟩ := s0
          clear rc rf kA h1 kB
          go_wp2
          exact bodyPost_ret (v := .tuple #[tv 0 0 0, .int .i64 e1]) (by simp [results, Tryd.results22, go_sem, qc]) rfl ⟨by rw [T.out.1, T.out.2.1, T.out.2.2.1, T.out.2.2.2], B9⟩
    · have hn := neq_of h0
      have T := Lib.hid (And.intro (tz_0 h0 x0 e1 e2).1 (And.intro (tz_0 h0 x1 e1 e2).1 (And.intro (tz_0 h0 x2 e1 e2).1 (tz_0 h0 x0 e1 e2).2)))
      have B9 := es_done (a := 0) (b := 0) (c := 0) s0 (by omega)
      obtain ⟨_, qc, qf, rc, rf⟩ := s0
      clear rc rf kA h0 kB
      go_wp2
      exact bodyPost_ret (v := .tuple #[tv 0 0 0, .int .i64 e0]) (by simp [results, Tryd.results22, go_sem, qc]) rfl ⟨by rw [T.out.1, T.out.2.1, T.out.2.2.1, T.out.2.2.2], B9⟩

set_option maxHeartbeats 1000000 in
set_option maxRecDepth 10000 in
theorem scale3_ref_bad (a0 a1 a2 k : Int) (ha0 : I64 a0) (ha1 : I64 a1) (ha2 : I64 a2) (hk : I64 k) (c : ¬ (F3 a0 a1 a2 ∧ FitP k)) (w : World) :
    Calls Tryd.prog 21 #[tv a0 a1 a2, .int .i64 k] w (RetV (.tuple #[tv 0 0 0, .int .i64 1]) w) := by
  by_cases ca : F3 a0 a1 a2
  · have ea := Lib.hid (f3b_yes ca)
    have eb := Lib.hid (fitb_no (fun h => c ⟨ca, h⟩))
    clear ca c
    have kA : TC (((w.alloc (Obj.cells #[.int .i64 a0, .int .i64 a1, .int .i64 a2] 23)).alloc (Obj.cells #[.int .i64 0, .int .i64 0, .int .i64 0] 23)).alloc (Obj.cells #[.int .i64 0, .int .i64 0, .int .i64 0] 23)) (w.heap.size) a0 a1 a2 := tc_alloc (tc_alloc (tc_new rfl))
    have s0 : ES w (w.heap.size + 1) (w.heap.size + 1 + 1) 0 0 0 (((w.alloc (Obj.cells #[.int .i64 a0, .int .i64 a1, .int .i64 a2] 23)).alloc (Obj.cells #[.int .i64 0, .int .i64 0, .int .i64 0] 23)).alloc (Obj.cells #[.int .i64 0, .int .i64 0, .int .i64 0] 23)) := es_of (b_alloc (b_alloc (b_alloc (Below.refl _ _)))) (tc_alloc (tc_new (by simp))) (tf_keep (b_alloc (Below.refl _ _)) (tc_new (by simp)) (tf_new (by simp))) (tc_new (by simp)) (tf_new (by simp))
    go_enter Tryd.func21, Tryd.ntmps21
    go_wp2_with fail
    refine (fits3_ref a0 a1 a2 ha0 ha1 ha2 _).mono ?_
    rintro e1 w1 ⟨rfl, hb9⟩
    rw [ea.out]
    replace kA := tc_keep hb9 kA
    replace s0 := es_keep s0 hb9
    clear hb9
    go_wp2_with fail
    refine (fits_ref k hk.1 hk.2 _).mono ?_
    rintro e2 w2 ⟨rfl, rfl⟩
    rw [eb.out]
    have B9 := es_done (a := 0) (b := 0) (c := 0) s0 (by omega)
    obtain ⟨_, qc, qf, rc, rf⟩ := s0
    go_wp2
    exact bodyPost_ret (v := .tuple #[tv 0 0 0, .int .i64 1]) (by simp [results, Tryd.results21, go_sem, qc]) rfl ⟨rfl, B9⟩
  · have ea := Lib.hid (f3b_no ca)
    clear ca c
    have kA : TC (((w.alloc (Obj.cells #[.int .i64 a0, .int .i64 a1, .int .i64 a2] 23)).alloc (Obj.cells #[.int .i64 0, .int .i64 0, .int .i64 0] 23)).alloc (Obj.cells #[.int .i64 0, .int .i64 0, .int .i64 0] 23)) (w.heap.size) a0 a1 a2 := tc_alloc (tc_alloc (tc_new rfl))
    have s0 : ES w (w.heap.size + 1) (w.heap.size + 1 + 1) 0 0 0 (((w.alloc (Obj.cells #[.int .i64 a0, .int .i64 a1, .int .i64 a2] 23)).alloc (Obj.cells #[.int .i64 0, .int .i64 0, .int .i64 0] 23)).alloc (Obj.cells #[.int .i64 0, .int .i64 0, .int .i64 0] 23)) := es_of (b_alloc (b_alloc (b_alloc (Below.refl _ _)))) (tc_alloc (tc_new (by simp))) (tf_keep (b_alloc (Below.refl _ _)) (tc_new (by simp)) (tf_new (by simp))) (tc_new (by simp)) (tf_new (by simp))
    go_enter Tryd.func21, Tryd.ntmps21
    go_wp2_with fail
    refine (fits3_ref a0 a1 a2 ha0 ha1 ha2 _).mono ?_
    rintro e1 w1 ⟨rfl, hb9⟩
    rw [ea.out]
    replace kA := tc_keep hb9 kA
    replace s0 := es_keep s0 hb9
    clear hb9
    have B9 := es_done (a := 0) (b := 0) (c := 0) s0 (by omega)
    obtain ⟨_, qc, qf, rc, rf⟩ := s0
    go_wp2
    exact bodyPost_ret (v := .tuple #[tv 0 0 0, .int .i64 1]) (by simp [results, Tryd.results21, go_sem, qc]) rfl ⟨rfl, B9⟩
set_option maxHeartbeats 4000000 in
set_option maxRecDepth 10000 in
theorem scale3_ref_ok (a0 a1 a2 k x0 x1 x2 e0 e1 e2 : Int) (ha0 : I64 a0) (ha1 : I64 a1) (ha2 : I64 a2) (hk : I64 k) (ca : F3 a0 a1 a2) (cb : FitP k)
    (c0 : ∀ w, Calls Tryd.prog 35 #[.int .i64 a0, .int .i64 k] w (RetV (.tuple #[.int .i64 x0, .int .i64 e0]) w))
    (c1 : ∀ w, Calls Tryd.prog 35 #[.int .i64 a1, .int .i64 k] w (RetV (.tuple #[.int .i64 x1, .int .i64 e1]) w))
    (c2 : ∀ w, Calls Tryd.prog 35 #[.int .i64 a2, .int .i64 k] w (RetV (.tuple #[.int .i64 x2, .int .i64 e2]) w)) (w : World) :
    Calls Tryd.prog 21 #[tv a0 a1 a2, .int .i64 k] w (RetV (.tuple #[tv (tz x0 e0 e1 e2) (tz x1 e0 e1 e2) (tz x2 e0 e1 e2), .int .i64 (te e0 e1 e2)]) w) := by
  have ea := Lib.hid (f3b_yes ca)
  have eb := Lib.hid (fitb_yes cb)
  clear ca cb
  have kA : TC (((w.alloc (Obj.cells #[.int .i64 a0, .int .i64 a1, .int .i64 a2] 23)).alloc (Obj.cells #[.int .i64 0, .int .i64 0, .int .i64 0] 23)).alloc (Obj.cells #[.int .i64 0, .int .i64 0, .int .i64 0] 23)) (w.heap.size) a0 a1 a2 := tc_alloc (tc_alloc (tc_new rfl))
  have s0 : ES w (w.heap.size + 1) (w.heap.size + 1 + 1) 0 0 0 (((w.alloc (Obj.cells #[.int .i64 a0, .int .i64 a1, .int .i64 a2] 23)).alloc (Obj.cells #[.int .i64 0, .int .i64 0, .int .i64 0] 23)).alloc (Obj.cells #[.int .i64 0, .int .i64 0, .int .i64 0] 23)) := es_of (b_alloc (b_alloc (b_alloc (Below.refl _ _)))) (tc_alloc (tc_new (by simp))) (tf_keep (b_alloc (Below.refl _ _)) (tc_new (by simp)) (tf_new (by simp))) (tc_new (by simp)) (tf_new (by simp))
  go_enter Tryd.func21, Tryd.ntmps21
  go_wp2_with fail
  refine (fits3_ref a0 a1 a2 ha0 ha1 ha2 _).mono ?_
  rintro e1 w1 ⟨rfl, hb9⟩
  rw [ea.out]
  replace kA := tc_keep hb9 kA
  replace s0 := es_keep s0 hb9
  clear hb9
  go_wp2_with fail
  refine (fits_ref k hk.1 hk.2 _).mono ?_
  rintro e2 w2 ⟨rfl, rfl⟩
  rw [eb.out]
  clear ha0 ha1 ha2 hk
  go_wp2
  refine wp_loop_rounds 4 ?_
  rw [rounds_succ]
  have c := kA
  go_wp2_with fail
  refine (c0 _).mono ?_
  rintro e5 w' ⟨rfl, hB⟩
  clear c
  replace kA := tc_keep hB kA
  replace s0 := es_keep s0 hB
  clear hB
  by_cases h0 : e0 = 0
  · subst h0
    have s1 := es_put0 (v := x0) s0 (by omega) (by omega)
    obtain ⟨_, qc, qf, rc, rf⟩ := s0
    clear qc qf
    replace kA := tc_set (b1 := w.heap.size + 1 + 1) (o := 0) (v := .int .i64 x0) kA (by omega)
    have KK := Lib.hid (And.intro s1 kA)
    clear s1 kA
    go_wp2
    clear rc rf
    generalize w'.setCell ⟨w.heap.size + 1 + 1, 0, none⟩ (.int .i64 x0) = u0 at *
    obtain ⟨s0, kA⟩ := KK.out
    clear KK
    rw [rounds_succ]
    have c := kA
    go_wp2_with fail
    refine (c1 _).mono ?_
    rintro e5 w' ⟨rfl, hB⟩
    clear c
    replace kA := tc_keep hB kA
    replace s0 := es_keep s0 hB
    clear hB
    by_cases h1 : e1 = 0
    · subst h1
      have s1 := es_put1 (v := x1) s0 (by omega) (by omega)
      obtain ⟨_, qc, qf, rc, rf⟩ := s0
      clear qc qf
      replace kA := tc_set (b1 := w.heap.size + 1 + 1) (o := 1) (v := .int .i64 x1) kA (by omega)
      have KK := Lib.hid (And.intro s1 kA)
      clear s1 kA
      go_wp2
      clear rc rf
      generalize w'.setCell ⟨w.heap.size + 1 + 1, 1, none⟩ (.int .i64 x1) = u1 at *
      obtain ⟨s0, kA⟩ := KK.out
      clear KK
      rw [rounds_succ]
      have c := kA
      go_wp2_with fail
      refine (c2 _).mono ?_
      rintro e5 w' ⟨rfl, hB⟩
      clear c
      replace kA := tc_keep hB kA
      replace s0 := es_keep s0 hB
      clear hB
      by_cases h2 : e2 = 0
      · subst h2
        have s1 := es_put2 (v := x2) s0 (by omega) (by omega)
        obtain ⟨_, qc, qf, rc, rf⟩ := s0
        clear qc qf
        replace kA := tc_set (b1 := w.heap.size + 1 + 1) (o := 2) (v := .int .i64 x2) kA (by omega)
        have KK := Lib.hid (And.intro s1 kA)
        clear s1 kA
        go_wp2
        clear rc rf
        generalize w'.setCell ⟨w.heap.size + 1 + 1, 2, none⟩ (.int .i64 x2) = u2 at *
        obtain ⟨s0, kA⟩ := KK.out
        clear KK
        have B9 := es_done (a := x0) (b := x1) (c := x2) s0 (by omega)
        obtain ⟨_, qc, qf, rc, rf⟩ := s0
        have T := Lib.hid (And.intro (tz_3 x0).1 (And.intro (tz_3 x1).1 (And.intro (tz_3 x2).1 (tz_3 x0).2)))
        rw [rounds_succ]
        go_wp2
        exact bodyPost_ret (v := .tuple #[tv x0 x1 x2, .int .i64 0]) (by simp [results, Tryd.results21, go_sem, qc]) rfl ⟨by rw [T.out.1, T.out.2.1, T.out.2.2.1, T.out.2.2.2], B9⟩
      · have hn := neq_of h2
        have T := Lib.hid (And.intro (tz_2 h2 x0).1 (And.intro (tz_2 h2 x1).1 (And.intro (tz_2 h2 x2).1 (tz_2 h2 x0).2)))
        have B9 := es_done (a := 0) (b := 0) (c := 0) s0 (by omega)
        obtain ⟨_, qc, qf, rc, rf⟩ := s0
        clear rc rf kA h2
        go_wp2
        exact bodyPost_ret (v := .tuple #[tv 0 0 0, .int .i64 e2]) (by simp [results, Tryd.results21, go_sem, qc]) rfl ⟨by rw [T.out.1, T.out.2.1, T.out.2.2.1, T.out.2.2.2], B9⟩
    · have hn := neq_of h1
      have T := Lib.hid (And.intro (tz_1 h1 x0 e2).1 (And.intro (tz_1 h1 x1 e2).1 (And.intro (tz_1 h1 x2 e2).1 (tz_1 h1 x0 e2).2)))
      have B9 := es_done (a := 0) (b := 0) (c := 0) s0 (by omega)
      obtain ⟨_, qc, qf, rc, rf⟩ := s0
      clear rc rf kA h1
      go_wp2
      exact bodyPost_ret (v := .tuple #[tv 0 0 0, .int .i64 e1]) (by simp [results, Tryd.results21, go_sem, qc]) rfl ⟨by rw [T.out.1, T.out.2.1, T.out.2.2.1, T.out.2.2.2], B9⟩
  · have hn := neq_of h0
    have T := Lib.hid (And.intro (tz_0 h0 x0 e1 e2).1 (And.intro (tz_0 h0 x1 e1 e2).1 (And.intro (tz_0 h0 x2 e1 e2).1 (tz_0 h0 x0 e1 e2).2)))
    have B9 := es_done (a := 0) (b := 0) (c := 0) s0 (by omega)
    obtain ⟨_, qc, qf, rc, rf⟩ := s0
    clear rc rf kA h0
    go_wp2
    exact bodyPost_ret (v := .tuple #[tv 0 0 0, .int .i64 e0]) (by simp [results, Tryd.results21, go_sem, qc]) rfl ⟨by rw [T.out.1, T.out.2.1, T.out.2.2.1, T.out.2.2.2], B9⟩

end Go.Proofs.YtplhienacfiiaaaDoor
