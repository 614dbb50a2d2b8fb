/- Rows: Fits of the program; Clamp, Add, Scale of the document. -/
import Derived.Test.YtahpiakjhdnigaaVecD
namespace Go.Proofs.Ytahpiakjhdnigaa
open Go.RowKit Go.Shelf

theorem clz_most (x : Int) : clz x 288230376151711744 = x ↔ FitP x := by
  unfold clz
  rw [if_neg (by decide)]
  by_cases a : x < -288230376151711744
  · rw [if_pos a]; omega
  · rw [if_neg a]
    by_cases b : 288230376151711744 < x
    · rw [if_pos b]; omega
    · rw [if_neg b]; omega
theorem f3b_clz (x y z : Int) : f3b x y z = (clz x 288230376151711744 == x && (clz y 288230376151711744 == y && clz z 288230376151711744 == z)) := by
  have e : ∀ t, fitb t = (clz t 288230376151711744 == t) := fun t => by
    rw [Bool.eq_iff_iff, beq_iff_eq, clz_most, fitb, decide_eq_true_eq]
  unfold f3b
  rw [e, e, e]

set_option maxHeartbeats 1000000 in
theorem fits3_vec (x y z : Int) (hx : I64 x) (hy : I64 y) (hz : I64 z) (w : World) :
    Calls Try.prog 12 #[tv x y z] w (RetV (.bool (f3b x y z)) w) := by
  have cC := clamp_vec x y z 288230376151711744 288230376151711744 288230376151711744 hx hy hz (by decide) (by decide) (by decide)
  have E := Lib.hid (f3b_clz x y z)
  have kA : TC (w.alloc (Obj.cells #[.int .i64 x, .int .i64 y, .int .i64 z] 23)) w.heap.size x y z := tc_new rfl
  have B0 : Below w.heap.size w (w.alloc (Obj.cells #[.int .i64 x, .int .i64 y, .int .i64 z] 23)) := b_alloc (Below.refl _ _)
  generalize clz x 288230376151711744 = X at *
  generalize clz y 288230376151711744 = Y at *
  generalize clz z 288230376151711744 = Z at *
  clear hx hy hz
  go_enter Try.func12, Try.ntmps12
  go_wp2
  generalize w.alloc (Obj.cells #[.int .i64 x, .int .i64 y, .int .i64 z] 23) = W1 at *
  refine region_each [3, 4, 5, 6, 7] (fun i X_ U_ => match i with | 0 => X_ = tv x y z | 1 => X_ = tv 288230376151711744 288230376151711744 288230376151711744 | 2 => X_ = tv X Y Z | 3 => X_ = tv x y z | 4 => X_ = .bool (X == x && (Y == y && Z == z)) | _ => True) (fun i => false) (by kernel_rfl) (by kernel_rfl) (by kernel_rfl) (by kernel_rfl) (by kernel_rfl) ?_ (fun i x w hi ha h => by cases ha) ?_ ?_
  · refine swp (upS (upS (upS (upS (upS up0 ?_) ?_) ?_) ?_) ?_)
    all_goals exact fun _ _ _ h _ => h
  · refine upS (upS (upS (upS (upS up0 ?_) ?_) ?_) ?_) ?_
    all_goals intro v f w' hb hv hB hd
    · have b1 : f.tmps[1]? = some (.pointer (some ⟨w.heap.size, 0, none⟩)) := (hb 1 (by decide)).trans rfl
      clear hb hv hd
      have c := tc_keep hB kA
      refine wpOp_step rfl fun K hK => ?_
      go_simp
      exact hK _ _ ⟨_, rfl, Below.refl _ _, rfl, fun h => absurd h (by decide)⟩
    · clear hb hv hd
      refine wpOp_step rfl fun K hK => ?_
      go_simp
      exact hK _ _ ⟨_, rfl, Below.refl _ _, rfl, fun h => absurd h (by decide)⟩
    · have d0 := got (hv 0 3 rfl) (hd 0 (by kernel_rfl))
      have d1 := got (hv 1 4 rfl) (hd 1 (by kernel_rfl))
      clear hb hv hd
      refine wpOp_call rfl Try.call27 (args2 (eval_tmp d0) (eval_tmp d1)) (cC _) ?_
      rintro e5 w5 ⟨rfl, hb5⟩
      exact ⟨_, rfl, _, rfl, hb5, rfl, fun h => absurd h (by decide)⟩
    · have b1 : f.tmps[1]? = some (.pointer (some ⟨w.heap.size, 0, none⟩)) := (hb 1 (by decide)).trans rfl
      clear hb hv hd
      have c := tc_keep hB kA
      refine wpOp_step rfl fun K hK => ?_
      go_simp
      exact hK _ _ ⟨_, rfl, Below.refl _ _, rfl, fun h => absurd h (by decide)⟩
    · have d2 := got (hv 2 5 rfl) (hd 2 (by kernel_rfl))
      have d3 := got (hv 3 6 rfl) (hd 3 (by kernel_rfl))
      clear hb hv hd
      have hve := vec_eq
      refine wpOp_step rfl fun K hK => ?_
      go_simp
      exact hK _ _ ⟨_, rfl, Below.refl _ _, rfl, fun h => absurd h (by decide)⟩
  · intro v w' hB hF hD
    have F0 : v 0 = _ := hF 0 (by simp)
    have F1 : v 1 = _ := hF 1 (by simp)
    have F2 : v 2 = _ := hF 2 (by simp)
    have F3 : v 3 = _ := hF 3 (by simp)
    have F4 : v 4 = _ := hF 4 (by simp)
    clear hF
    simp only [frOf, frGo, Nat.zero_add, Nat.reduceAdd, F0, F1, F2, F3, F4]
    clear F0 F1 F2 F3 F4 hD cC
    have B9 := b_trans B0 hB
    clear B0 hB
    go_wp2
    go_ret
    exact ⟨by rw [E.out]; rfl, B9⟩

set_option maxHeartbeats 1000000 in
theorem clamp3_ref (a0 a1 a2 b0 b1 b2 : Int) (ha0 : I64 a0) (ha1 : I64 a1) (ha2 : I64 a2) (hb0 : I64 b0) (hb1 : I64 b1) (hb2 : I64 b2) (w : World) :
    Calls Try.prog 10 #[tv a0 a1 a2, tv b0 b1 b2] w (RetV (tv (clz a0 b0) (clz a1 b1) (clz a2 b2)) w) := by
  have c0 := clamp_ref a0 b0 ha0.1 ha0.2 hb0.1 hb0.2
  have c1 := clamp_ref a1 b1 ha1.1 ha1.2 hb1.1 hb1.2
  have c2 := clamp_ref a2 b2 ha2.1 ha2.2 hb2.1 hb2.2
  clear ha0 ha1 ha2 hb0 hb1 hb2
  generalize clz a0 b0 = x0 at *
  generalize clz a1 b1 = x1 at *
  generalize clz a2 b2 = x2 at *
  have kA : TC (((w.alloc (Obj.cells #[.int .i64 a0, .int .i64 a1, .int .i64 a2] 23)).alloc (Obj.cells #[.int .i64 b0, .int .i64 b1, .int .i64 b2] 23)).alloc (Obj.cells #[.int .i64 0, .int .i64 0, .int .i64 0] 23)) w.heap.size a0 a1 a2 := tc_alloc (tc_alloc (tc_new rfl))
  have kB : TC (((w.alloc (Obj.cells #[.int .i64 a0, .int .i64 a1, .int .i64 a2] 23)).alloc (Obj.cells #[.int .i64 b0, .int .i64 b1, .int .i64 b2] 23)).alloc (Obj.cells #[.int .i64 0, .int .i64 0, .int .i64 0] 23)) (w.heap.size + 1) b0 b1 b2 := tc_alloc (tc_new (by simp))
  have q0 : TC (((w.alloc (Obj.cells #[.int .i64 a0, .int .i64 a1, .int .i64 a2] 23)).alloc (Obj.cells #[.int .i64 b0, .int .i64 b1, .int .i64 b2] 23)).alloc (Obj.cells #[.int .i64 0, .int .i64 0, .int .i64 0] 23)) (w.heap.size + 1 + 1) 0 0 0 := tc_new (by simp)
  have f0 : TF (((w.alloc (Obj.cells #[.int .i64 a0, .int .i64 a1, .int .i64 a2] 23)).alloc (Obj.cells #[.int .i64 b0, .int .i64 b1, .int .i64 b2] 23)).alloc (Obj.cells #[.int .i64 0, .int .i64 0, .int .i64 0] 23)) (w.heap.size + 1 + 1) := tf_new (by simp)
  have B0 : Below w.heap.size w (((w.alloc (Obj.cells #[.int .i64 a0, .int .i64 a1, .int .i64 a2] 23)).alloc (Obj.cells #[.int .i64 b0, .int .i64 b1, .int .i64 b2] 23)).alloc (Obj.cells #[.int .i64 0, .int .i64 0, .int .i64 0] 23)) := b_alloc (b_alloc (b_alloc (Below.refl _ _)))
  have hP : w.heap.size ≤ w.heap.size + 1 + 1 := by omega
  go_enter Try.func10, Try.ntmps10
  go_wp2
  generalize (((w.alloc (Obj.cells #[.int .i64 a0, .int .i64 a1, .int .i64 a2] 23)).alloc (Obj.cells #[.int .i64 b0, .int .i64 b1, .int .i64 b2] 23)).alloc (Obj.cells #[.int .i64 0, .int .i64 0, .int .i64 0] 23)) = W1 at *
  refine region_each [5, 6, 7, 8, 9, 10, 11, 12, 13, 14, 15, 16, 17, 18, 19, 20] (fun i X_ U_ => match i with | 0 => X_ = .pointer (some ⟨w.heap.size, 0, none⟩) | 1 => X_ = .int .i64 a0 | 2 => X_ = .pointer (some ⟨w.heap.size + 1, 0, none⟩) | 3 => X_ = .int .i64 b0 | 4 => X_ = .int .i64 x0 | 5 => X_ = .pointer (some ⟨w.heap.size, 1, none⟩) | 6 => X_ = .int .i64 a1 | 7 => X_ = .pointer (some ⟨w.heap.size + 1, 1, none⟩) | 8 => X_ = .int .i64 b1 | 9 => X_ = .int .i64 x1 | 10 => X_ = .pointer (some ⟨w.heap.size, 2, none⟩) | 11 => X_ = .int .i64 a2 | 12 => X_ = .pointer (some ⟨w.heap.size + 1, 2, none⟩) | 13 => X_ = .int .i64 b2 | 14 => X_ = .int .i64 x2 | 15 => X_ = tv x0 x1 x2 | _ => True) (fun i => false) (by kernel_rfl) (by kernel_rfl) (by kernel_rfl) (by kernel_rfl) (by kernel_rfl) ?_ (fun i x w hi ha h => by cases ha) ?_ ?_
  · refine swp (upS (upS (upS (upS (upS (upS (upS (upS (upS (upS (upS (upS (upS (upS (upS (upS up0 ?_) ?_) ?_) ?_) ?_) ?_) ?_) ?_) ?_) ?_) ?_) ?_) ?_) ?_) ?_) ?_)
    all_goals exact fun _ _ _ h _ => h
  · refine upS (upS (upS (upS (upS (upS (upS (upS (upS (upS (upS (upS (upS (upS (upS (upS up0 ?_) ?_) ?_) ?_) ?_) ?_) ?_) ?_) ?_) ?_) ?_) ?_) ?_) ?_) ?_) ?_
    all_goals intro v f w' hb hv hB hd
    · have b2 : f.tmps[2]? = some (.pointer (some ⟨w.heap.size, 0, none⟩)) := (hb 2 (by decide)).trans rfl
      clear hb hv hd
      refine wpOp_step rfl fun K hK => ?_
      go_simp
      exact hK _ _ ⟨_, rfl, Below.refl _ _, rfl, fun h => absurd h (by decide)⟩
    · have d0 := got (hv 0 5 rfl) (hd 0 (by kernel_rfl))
      clear hb hv hd
      have c := tc_keep hB kA
      refine wpOp_step rfl fun K hK => ?_
      go_simp
      exact hK _ _ ⟨_, rfl, Below.refl _ _, rfl, fun h => absurd h (by decide)⟩
    · have b3 : f.tmps[3]? = some (.pointer (some ⟨w.heap.size + 1, 0, none⟩)) := (hb 3 (by decide)).trans rfl
      clear hb hv hd
      refine wpOp_step rfl fun K hK => ?_
      go_simp
      exact hK _ _ ⟨_, rfl, Below.refl _ _, rfl, fun h => absurd h (by decide)⟩
    · have d2 := got (hv 2 7 rfl) (hd 2 (by kernel_rfl))
      clear hb hv hd
      have c := tc_keep hB kB
      refine wpOp_step rfl fun K hK => ?_
      go_simp
      exact hK _ _ ⟨_, rfl, Below.refl _ _, rfl, fun h => absurd h (by decide)⟩
    · have d1 := got (hv 1 6 rfl) (hd 1 (by kernel_rfl))
      have d3 := got (hv 3 8 rfl) (hd 3 (by kernel_rfl))
      clear hb hv hd
      refine wpOp_call rfl Try.call28 (args2 (eval_tmp d1) (eval_tmp d3)) (c0 _) ?_
      rintro e5 w5 ⟨rfl, rfl⟩
      exact ⟨_, rfl, _, rfl, Below.refl _ _, rfl, fun h => absurd h (by decide)⟩
    · have b2 : f.tmps[2]? = some (.pointer (some ⟨w.heap.size, 0, none⟩)) := (hb 2 (by decide)).trans rfl
      clear hb hv hd
      refine wpOp_step rfl fun K hK => ?_
      go_simp
      exact hK _ _ ⟨_, rfl, Below.refl _ _, rfl, fun h => absurd h (by decide)⟩
    · have d5 := got (hv 5 10 rfl) (hd 5 (by kernel_rfl))
      clear hb hv hd
      have c := tc_keep hB kA
      refine wpOp_step rfl fun K hK => ?_
      go_simp
      exact hK _ _ ⟨_, rfl, Below.refl _ _, rfl, fun h => absurd h (by decide)⟩
    · have b3 : f.tmps[3]? = some (.pointer (some ⟨w.heap.size + 1, 0, none⟩)) := (hb 3 (by decide)).trans rfl
      clear hb hv hd
      refine wpOp_step rfl fun K hK => ?_
      go_simp
      exact hK _ _ ⟨_, rfl, Below.refl _ _, rfl, fun h => absurd h (by decide)⟩
    · have d7 := got (hv 7 12 rfl) (hd 7 (by kernel_rfl))
      clear hb hv hd
      have c := tc_keep hB kB
      refine wpOp_step rfl fun K hK => ?_
      go_simp
      exact hK _ _ ⟨_, rfl, Below.refl _ _, rfl, fun h => absurd h (by decide)⟩
    · have d6 := got (hv 6 11 rfl) (hd 6 (by kernel_rfl))
      have d8 := got (hv 8 13 rfl) (hd 8 (by kernel_rfl))
      clear hb hv hd
      refine wpOp_call rfl Try.call28 (args2 (eval_tmp d6) (eval_tmp d8)) (c1 _) ?_
      rintro e5 w5 ⟨rfl, rfl⟩
      exact ⟨_, rfl, _, rfl, Below.refl _ _, rfl, fun h => absurd h (by decide)⟩
    · have b2 : f.tmps[2]? = some (.pointer (some ⟨w.heap.size, 0, none⟩)) := (hb 2 (by decide)).trans rfl
      clear hb hv hd
      refine wpOp_step rfl fun K hK => ?_
      go_simp
      exact hK _ _ ⟨_, rfl, Below.refl _ _, rfl, fun h => absurd h (by decide)⟩
    · have d10 := got (hv 10 15 rfl) (hd 10 (by kernel_rfl))
      clear hb hv hd
      have c := tc_keep hB kA
      refine wpOp_step rfl fun K hK => ?_
      go_simp
      exact hK _ _ ⟨_, rfl, Below.refl _ _, rfl, fun h => absurd h (by decide)⟩
    · have b3 : f.tmps[3]? = some (.pointer (some ⟨w.heap.size + 1, 0, none⟩)) := (hb 3 (by decide)).trans rfl
      clear hb hv hd
      refine wpOp_step rfl fun K hK => ?_
      go_simp
      exact hK _ _ ⟨_, rfl, Below.refl _ _, rfl, fun h => absurd h (by decide)⟩
    · have d12 := got (hv 12 17 rfl) (hd 12 (by kernel_rfl))
      clear hb hv hd
      have c := tc_keep hB kB
      refine wpOp_step rfl fun K hK => ?_
      go_simp
      exact hK _ _ ⟨_, rfl, Below.refl _ _, rfl, fun h => absurd h (by decide)⟩
    · have d11 := got (hv 11 16 rfl) (hd 11 (by kernel_rfl))
      have d13 := got (hv 13 18 rfl) (hd 13 (by kernel_rfl))
      clear hb hv hd
      refine wpOp_call rfl Try.call28 (args2 (eval_tmp d11) (eval_tmp d13)) (c2 _) ?_
      rintro e5 w5 ⟨rfl, rfl⟩
      exact ⟨_, rfl, _, rfl, Below.refl _ _, rfl, fun h => absurd h (by decide)⟩
    · have d4 := got (hv 4 9 rfl) (hd 4 (by kernel_rfl))
      have d9 := got (hv 9 14 rfl) (hd 9 (by kernel_rfl))
      have d14 := got (hv 14 19 rfl) (hd 14 (by kernel_rfl))
      clear hb hv hd
      refine wpOp_step rfl fun K hK => ?_
      go_simp
      exact hK _ _ ⟨_, rfl, Below.refl _ _, rfl, fun h => absurd h (by decide)⟩
  · intro v w' hB hF hD
    have F0 : v 0 = _ := hF 0 (by simp)
    have F1 : v 1 = _ := hF 1 (by simp)
    have F2 : v 2 = _ := hF 2 (by simp)
    have F3 : v 3 = _ := hF 3 (by simp)
    have F4 : v 4 = _ := hF 4 (by simp)
    have F5 : v 5 = _ := hF 5 (by simp)
    have F6 : v 6 = _ := hF 6 (by simp)
    have F7 : v 7 = _ := hF 7 (by simp)
    have F8 : v 8 = _ := hF 8 (by simp)
    have F9 : v 9 = _ := hF 9 (by simp)
    have F10 : v 10 = _ := hF 10 (by simp)
    have F11 : v 11 = _ := hF 11 (by simp)
    have F12 : v 12 = _ := hF 12 (by simp)
    have F13 : v 13 = _ := hF 13 (by simp)
    have F14 : v 14 = _ := hF 14 (by simp)
    have F15 : v 15 = _ := hF 15 (by simp)
    clear hF
    simp only [frOf, frGo, Nat.zero_add, Nat.reduceAdd, F0, F1, F2, F3, F4, F5, F6, F7, F8, F9, F10, F11, F12, F13, F14, F15]
    clear F0 F1 F2 F3 F4 F5 F6 F7 F8 F9 F10 F11 F12 F13 F14 F15 hD c0 c1 c2
    have q1 := tc_keep hB q0
    have f1 := tf_keep hB q0 f0
    have B2 := b_set (p := ⟨w.heap.size + 1 + 1, 2, none⟩) (v := .int .i64 x2) (b_set (p := ⟨w.heap.size + 1 + 1, 1, none⟩) (v := .int .i64 x1) (b_set (p := ⟨w.heap.size + 1 + 1, 0, none⟩) (v := .int .i64 x0) (b_trans B0 hB) hP) hP) hP
    clear hB q0 f0 B0 kA kB hP
    go_wp2
    exact bodyPost_ret (v := tv x0 x1 x2) (by simp [results, Try.results10, go_sem, q1]) rfl ⟨rfl, B2⟩

end Go.Proofs.Ytahpiakjhdnigaa
