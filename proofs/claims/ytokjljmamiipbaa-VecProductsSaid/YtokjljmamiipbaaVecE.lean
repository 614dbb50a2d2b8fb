/- Rows: Fits of the program; Clamp, Add, Scale of the document. -/
import Derived.Test.YtokjljmamiipbaaVecD
namespace Go.Proofs.Ytokjljmamiipbaa
open Go.RowKit Go.Shelf

theorem clz_most (x : Int) : clz x 288230376151711744 = x ↔ FitP x := by
  unfold clz
  rw [if_neg (by decide)]
  by_cases a : x < -288230376151711744
  · rw [if_pos a]; omega
  · rw [if_neg a]
    by_cases b : 288230376151711744 < x
    · rw [if_pos b]; omega
    · rw [if_neg b]; omega
theorem f3b_clz (x y z : Int) : f3b x y z = (clz x 288230376151711744 == x && (clz y 288230376151711744 == y && clz z 288230376151711744 == z)) := by
  have e : ∀ t, fitb t = (clz t 288230376151711744 == t) := fun t => by
    rw [Bool.eq_iff_iff, beq_iff_eq, clz_most, fitb, decide_eq_true_eq]
  unfold f3b
  rw [e, e, e]

set_option maxHeartbeats 1000000 in
theorem fits3_vec (x y z : Int) (hx : I64 x) (hy : I64 y) (hz : I64 z) (w : World) :
    Calls Try.prog 11 #[tv x y z] w (RetV (.bool (f3b x y z)) w) := by
  have cC := clamp_vec x y z 288230376151711744 288230376151711744 288230376151711744 hx hy hz (by decide) (by decide) (by decide)
  have E := Lib.hid (f3b_clz x y z)
  have kA : TC (w.alloc (Obj.cells #[.int .i64 x, .int .i64 y, .int .i64 z] 23)) w.heap.size x y z := tc_new rfl
  have B0 : Below w.heap.size w (w.alloc (Obj.cells #[.int .i64 x, .int .i64 y, .int .i64 z] 23)) := b_alloc (Below.refl _ _)
  generalize clz x 288230376151711744 = X at *
  generalize clz y 288230376151711744 = Y at *
  generalize clz z 288230376151711744 = Z at *
  clear hx hy hz
  go_enter Try.func11, Try.ntmps11
  go_wp2
  generalize w.alloc (Obj.cells #[.int .i64 x, .int .i64 y, .int .i64 z] 23) = W1 at *
  refine region_each [3, 4, 5, 6, 7] (fun i X_ U_ => match i with | 0 => X_ = tv x y z | 1 => X_ = tv 288230376151711744 288230376151711744 288230376151711744 | 2 => X_ = tv X Y Z | 3 => X_ = tv x y z | 4 => X_ = .bool (X == x && (Y == y && Z == z)) | _ => True) (fun i => false) (by kernel_rfl) (by kernel_rfl) (by kernel_rfl) (by kernel_rfl) (by kernel_rfl) ?_ ?_ ?_ ?_
  · intro i x w w' hi h hb
    match i, hi with
    | 0, _ => exact h
    | 1, _ => exact h
    | 2, _ => exact h
    | 3, _ => exact h
    | 4, _ => exact h
    | k + 5, hk => exact absurd hk (by simp)
  · intro i x w hi ha h
    cases ha
  · intro i hi v f w' hb hv hB hd
    match i, hi with
    | 0, _ =>
      have b1 : f.tmps[1]? = some (.pointer (some ⟨w.heap.size, 0, none⟩)) := (hb 1 (by decide)).trans rfl
      clear hb hv hd
      have c := tc_keep hB kA
      refine wpOp_step rfl (fun K hK => ?_)
      go_simp
      exact hK _ _ ⟨_, rfl, Below.refl _ _, rfl, fun h => absurd h (by decide)⟩
    | 1, _ =>
      clear hb hv hd
      refine wpOp_step rfl (fun K hK => ?_)
      go_simp
      exact hK _ _ ⟨_, rfl, Below.refl _ _, rfl, fun h => absurd h (by decide)⟩
    | 2, _ =>
      have h0 : (v 0) = tv x y z := hd 0 (by kernel_rfl)
      have d0 : f.tmps[3]? = some (tv x y z) := (hv 0 3 rfl).trans (congrArg some h0)
      clear h0
      have h1 : (v 1) = tv 288230376151711744 288230376151711744 288230376151711744 := hd 1 (by kernel_rfl)
      have d1 : f.tmps[4]? = some (tv 288230376151711744 288230376151711744 288230376151711744) := (hv 1 4 rfl).trans (congrArg some h1)
      clear h1
      clear hb hv hd
      refine wpOp_step rfl (fun K hK => ?_)
      go_simp
      refine (cC _).mono ?_
      rintro e5 w5 ⟨rfl, hb5⟩
      exact hK _ _ ⟨_, rfl, hb5, rfl, fun h => absurd h (by decide)⟩
    | 3, _ =>
      have b1 : f.tmps[1]? = some (.pointer (some ⟨w.heap.size, 0, none⟩)) := (hb 1 (by decide)).trans rfl
      clear hb hv hd
      have c := tc_keep hB kA
      refine wpOp_step rfl (fun K hK => ?_)
      go_simp
      exact hK _ _ ⟨_, rfl, Below.refl _ _, rfl, fun h => absurd h (by decide)⟩
    | 4, _ =>
      have h2 : (v 2) = tv X Y Z := hd 2 (by kernel_rfl)
      have d2 : f.tmps[5]? = some (tv X Y Z) := (hv 2 5 rfl).trans (congrArg some h2)
      clear h2
      have h3 : (v 3) = tv x y z := hd 3 (by kernel_rfl)
      have d3 : f.tmps[6]? = some (tv x y z) := (hv 3 6 rfl).trans (congrArg some h3)
      clear h3
      clear hb hv hd
      have hve := vec_eq
      refine wpOp_step rfl (fun K hK => ?_)
      go_simp
      exact hK _ _ ⟨_, rfl, Below.refl _ _, rfl, fun h => absurd h (by decide)⟩
    | k + 5, hk => exact absurd hk (by simp)
  · intro v w' hB hF hD
    have F0 : (v 0) = tv x y z := hF 0 (by simp)
    have F1 : (v 1) = tv 288230376151711744 288230376151711744 288230376151711744 := hF 1 (by simp)
    have F2 : (v 2) = tv X Y Z := hF 2 (by simp)
    have F3 : (v 3) = tv x y z := hF 3 (by simp)
    have F4 : (v 4) = .bool (X == x && (Y == y && Z == z)) := hF 4 (by simp)
    clear hF
    simp only [frOf, frGo, Nat.zero_add, Nat.reduceAdd, F0, F1, F2, F3, F4]
    clear F0 F1 F2 F3 F4 hD cC
    have B9 := b_trans B0 hB
    clear B0 hB
    go_wp2
    go_ret
    exact ⟨by rw [E.out]; rfl, B9⟩

set_option maxHeartbeats 1000000 in
theorem clamp3_ref (a0 a1 a2 b0 b1 b2 : Int) (ha0 : I64 a0) (ha1 : I64 a1) (ha2 : I64 a2) (hb0 : I64 b0) (hb1 : I64 b1) (hb2 : I64 b2) (w : World) :
    Calls Try.prog 10 #[tv a0 a1 a2, tv b0 b1 b2] w (RetV (tv (clz a0 b0) (clz a1 b1) (clz a2 b2)) w) := by
  have c0 := clamp_ref a0 b0 ha0.1 ha0.2 hb0.1 hb0.2
  have c1 := clamp_ref a1 b1 ha1.1 ha1.2 hb1.1 hb1.2
  have c2 := clamp_ref a2 b2 ha2.1 ha2.2 hb2.1 hb2.2
  clear ha0 ha1 ha2 hb0 hb1 hb2
  generalize clz a0 b0 = x0 at *
  generalize clz a1 b1 = x1 at *
  generalize clz a2 b2 = x2 at *
  have kA : TC (((w.alloc (Obj.cells #[.int .i64 a0, .int .i64 a1, .int .i64 a2] 23)).alloc (Obj.cells #[.int .i64 b0, .int .i64 b1, .int .i64 b2] 23)).alloc (Obj.cells #[.int .i64 0, .int .i64 0, .int .i64 0] 23)) w.heap.size a0 a1 a2 := tc_alloc (tc_alloc (tc_new rfl))
  have kB : TC (((w.alloc (Obj.cells #[.int .i64 a0, .int .i64 a1, .int .i64 a2] 23)).alloc (Obj.cells #[.int .i64 b0, .int .i64 b1, .int .i64 b2] 23)).alloc (Obj.cells #[.int .i64 0, .int .i64 0, .int .i64 0] 23)) (w.heap.size + 1) b0 b1 b2 := tc_alloc (tc_new (by simp))
  have q0 : TC (((w.alloc (Obj.cells #[.int .i64 a0, .int .i64 a1, .int .i64 a2] 23)).alloc (Obj.cells #[.int .i64 b0, .int .i64 b1, .int .i64 b2] 23)).alloc (Obj.cells #[.int .i64 0, .int .i64 0, .int .i64 0] 23)) (w.heap.size + 1 + 1) 0 0 0 := tc_new (by simp)
  have f0 : TF (((w.alloc (Obj.cells #[.int .i64 a0, .int .i64 a1, .int .i64 a2] 23)).alloc (Obj.cells #[.int .i64 b0, .int .i64 b1, .int .i64 b2] 23)).alloc (Obj.cells #[.int .i64 0, .int .i64 0, .int .i64 0] 23)) (w.heap.size + 1 + 1) := tf_new (by simp)
  have B0 : Below w.heap.size w (((w.alloc (Obj.cells #[.int .i64 a0, .int .i64 a1, .int .i64 a2] 23)).alloc (Obj.cells #[.int .i64 b0, .int .i64 b1, .int .i64 b2] 23)).alloc (Obj.cells #[.int .i64 0, .int .i64 0, .int .i64 0] 23)) := b_alloc (b_alloc (b_alloc (Below.refl _ _)))
  have hP : w.heap.size ≤ w.heap.size + 1 + 1 := by omega
  go_enter Try.func10, Try.ntmps10
  go_wp2
  generalize (((w.alloc (Obj.cells #[.int .i64 a0, .int .i64 a1, .int .i64 a2] 23)).alloc (Obj.cells #[.int .i64 b0, .int .i64 b1, .int .i64 b2] 23)).alloc (Obj.cells #[.int .i64 0, .int .i64 0, .int .i64 0] 23)) = W1 at *
  refine region_each [5, 6, 7, 8, 9, 10, 11, 12, 13, 14, 15, 16, 17, 18, 19, 20] (fun i X_ U_ => match i with | 0 => X_ = .pointer (some ⟨w.heap.size, 0, none⟩) | 1 => X_ = .int .i64 a0 | 2 => X_ = .pointer (some ⟨w.heap.size + 1, 0, none⟩) | 3 => X_ = .int .i64 b0 | 4 => X_ = .int .i64 x0 | 5 => X_ = .pointer (some ⟨w.heap.size, 1, none⟩) | 6 => X_ = .int .i64 a1 | 7 => X_ = .pointer (some ⟨w.heap.size + 1, 1, none⟩) | 8 => X_ = .int .i64 b1 | 9 => X_ = .int .i64 x1 | 10 => X_ = .pointer (some ⟨w.heap.size, 2, none⟩) | 11 => X_ = .int .i64 a2 | 12 => X_ = .pointer (some ⟨w.heap.size + 1, 2, none⟩) | 13 => X_ = .int .i64 b2 | 14 => X_ = .int .i64 x2 | 15 => X_ = tv x0 x1 x2 | _ => True) (fun i => false) (by kernel_rfl) (by kernel_rfl) (by kernel_rfl) (by kernel_rfl) (by kernel_rfl) ?_ ?_ ?_ ?_
  · intro i x w w' hi h hb
    match i, hi with
    | 0, _ => exact h
    | 1, _ => exact h
    | 2, _ => exact h
    | 3, _ => exact h
    | 4, _ => exact h
    | 5, _ => exact h
    | 6, _ => exact h
    | 7, _ => exact h
    | 8, _ => exact h
    | 9, _ => exact h
    | 10, _ => exact h
    | 11, _ => exact h
    | 12, _ => exact h
    | 13, _ => exact h
    | 14, _ => exact h
    | 15, _ => exact h
    | k + 16, hk => exact absurd hk (by simp)
  · intro i x w hi ha h
    cases ha
  · intro i hi v f w' hb hv hB hd
    match i, hi with
    | 0, _ =>
      have b2 : f.tmps[2]? = some (.pointer (some ⟨w.heap.size, 0, none⟩)) := (hb 2 (by decide)).trans rfl
      clear hb hv hd
      refine wpOp_step rfl (fun K hK => ?_)
      go_simp
      exact hK _ _ ⟨_, rfl, Below.refl _ _, rfl, fun h => absurd h (by decide)⟩
    | 1, _ =>
      have h0 : (v 0) = .pointer (some ⟨w.heap.size, 0, none⟩) := hd 0 (by kernel_rfl)
      have d0 : f.tmps[5]? = some (.pointer (some ⟨w.heap.size, 0, none⟩)) := (hv 0 5 rfl).trans (congrArg some h0)
      clear h0
      clear hb hv hd
      have c := tc_keep hB kA
      refine wpOp_step rfl (fun K hK => ?_)
      go_simp
      exact hK _ _ ⟨_, rfl, Below.refl _ _, rfl, fun h => absurd h (by decide)⟩
    | 2, _ =>
      have b3 : f.tmps[3]? = some (.pointer (some ⟨w.heap.size + 1, 0, none⟩)) := (hb 3 (by decide)).trans rfl
      clear hb hv hd
      refine wpOp_step rfl (fun K hK => ?_)
      go_simp
      exact hK _ _ ⟨_, rfl, Below.refl _ _, rfl, fun h => absurd h (by decide)⟩
    | 3, _ =>
      have h2 : (v 2) = .pointer (some ⟨w.heap.size + 1, 0, none⟩) := hd 2 (by kernel_rfl)
      have d2 : f.tmps[7]? = some (.pointer (some ⟨w.heap.size + 1, 0, none⟩)) := (hv 2 7 rfl).trans (congrArg some h2)
      clear h2
      clear hb hv hd
      have c := tc_keep hB kB
      refine wpOp_step rfl (fun K hK => ?_)
      go_simp
      exact hK _ _ ⟨_, rfl, Below.refl _ _, rfl, fun h => absurd h (by decide)⟩
    | 4, _ =>
      have h1 : (v 1) = .int .i64 a0 := hd 1 (by kernel_rfl)
      have d1 : f.tmps[6]? = some (.int .i64 a0) := (hv 1 6 rfl).trans (congrArg some h1)
      clear h1
      have h3 : (v 3) = .int .i64 b0 := hd 3 (by kernel_rfl)
      have d3 : f.tmps[8]? = some (.int .i64 b0) := (hv 3 8 rfl).trans (congrArg some h3)
      clear h3
      clear hb hv hd
      refine wpOp_step rfl (fun K hK => ?_)
      go_simp
      refine (c0 _).mono ?_
      rintro e5 w5 ⟨rfl, rfl⟩
      exact hK _ _ ⟨_, rfl, Below.refl _ _, rfl, fun h => absurd h (by decide)⟩
    | 5, _ =>
      have b2 : f.tmps[2]? = some (.pointer (some ⟨w.heap.size, 0, none⟩)) := (hb 2 (by decide)).trans rfl
      clear hb hv hd
      refine wpOp_step rfl (fun K hK => ?_)
      go_simp
      exact hK _ _ ⟨_, rfl, Below.refl _ _, rfl, fun h => absurd h (by decide)⟩
    | 6, _ =>
      have h5 : (v 5) = .pointer (some ⟨w.heap.size, 1, none⟩) := hd 5 (by kernel_rfl)
      have d5 : f.tmps[10]? = some (.pointer (some ⟨w.heap.size, 1, none⟩)) := (hv 5 10 rfl).trans (congrArg some h5)
      clear h5
      clear hb hv hd
      have c := tc_keep hB kA
      refine wpOp_step rfl (fun K hK => ?_)
      go_simp
      exact hK _ _ ⟨_, rfl, Below.refl _ _, rfl, fun h => absurd h (by decide)⟩
    | 7, _ =>
      have b3 : f.tmps[3]? = some (.pointer (some ⟨w.heap.size + 1, 0, none⟩)) := (hb 3 (by decide)).trans rfl
      clear hb hv hd
      refine wpOp_step rfl (fun K hK => ?_)
      go_simp
      exact hK _ _ ⟨_, rfl, Below.refl _ _, rfl, fun h => absurd h (by decide)⟩
    | 8, _ =>
      have h7 : (v 7) = .pointer (some ⟨w.heap.size + 1, 1, none⟩) := hd 7 (by kernel_rfl)
      have d7 : f.tmps[12]? = some (.pointer (some ⟨w.heap.size + 1, 1, none⟩)) := (hv 7 12 rfl).trans (congrArg some h7)
      clear h7
      clear hb hv hd
      have c := tc_keep hB kB
      refine wpOp_step rfl (fun K hK => ?_)
      go_simp
      exact hK _ _ ⟨_, rfl, Below.refl _ _, rfl, fun h => absurd h (by decide)⟩
    | 9, _ =>
      have h6 : (v 6) = .int .i64 a1 := hd 6 (by kernel_rfl)
      have d6 : f.tmps[11]? = some (.int .i64 a1) := (hv 6 11 rfl).trans (congrArg some h6)
      clear h6
      have h8 : (v 8) = .int .i64 b1 := hd 8 (by kernel_rfl)
      have d8 : f.tmps[13]? = some (.int .i64 b1) := (hv 8 13 rfl).trans (congrArg some h8)
      clear h8
      clear hb hv hd
      refine wpOp_step rfl (fun K hK => ?_)
      go_simp
      refine (c1 _).mono ?_
      rintro e5 w5 ⟨rfl, rfl⟩
      exact hK _ _ ⟨_, rfl, Below.refl _ _, rfl, fun h => absurd h (by decide)⟩
    | 10, _ =>
      have b2 : f.tmps[2]? = some (.pointer (some ⟨w.heap.size, 0, none⟩)) := (hb 2 (by decide)).trans rfl
      clear hb hv hd
      refine wpOp_step rfl (fun K hK => ?_)
      go_simp
      exact hK _ _ ⟨_, rfl, Below.refl _ _, rfl, fun h => absurd h (by decide)⟩
    | 11, _ =>
      have h10 : (v 10) = .pointer (some ⟨w.heap.size, 2, none⟩) := hd 10 (by kernel_rfl)
      have d10 : f.tmps[15]? = some (.pointer (some ⟨w.heap.size, 2, none⟩)) := (hv 10 15 rfl).trans (congrArg some h10)
      clear h10
      clear hb hv hd
      have c := tc_keep hB kA
      refine wpOp_step rfl (fun K hK => ?_)
      go_simp
      exact hK _ _ ⟨_, rfl, Below.refl _ _, rfl, fun h => absurd h (by decide)⟩
    | 12, _ =>
      have b3 : f.tmps[3]? = some (.pointer (some ⟨w.heap.size + 1, 0, none⟩)) := (hb 3 (by decide)).trans rfl
      clear hb hv hd
      refine wpOp_step rfl (fun K hK => ?_)
      go_simp
      exact hK _ _ ⟨_, rfl, Below.refl _ _, rfl, fun h => absurd h (by decide)⟩
    | 13, _ =>
      have h12 : (v 12) = .pointer (some ⟨w.heap.size + 1, 2, none⟩) := hd 12 (by kernel_rfl)
      have d12 : f.tmps[17]? = some (.pointer (some ⟨w.heap.size + 1, 2, none⟩)) := (hv 12 17 rfl).trans (congrArg some h12)
      clear h12
      clear hb hv hd
      have c := tc_keep hB kB
      refine wpOp_step rfl (fun K hK => ?_)
      go_simp
      exact hK _ _ ⟨_, rfl, Below.refl _ _, rfl, fun h => absurd h (by decide)⟩
    | 14, _ =>
      have h11 : (v 11) = .int .i64 a2 := hd 11 (by kernel_rfl)
      have d11 : f.tmps[16]? = some (.int .i64 a2) := (hv 11 16 rfl).trans (congrArg some h11)
      clear h11
      have h13 : (v 13) = .int .i64 b2 := hd 13 (by kernel_rfl)
      have d13 : f.tmps[18]? = some (.int .i64 b2) := (hv 13 18 rfl).trans (congrArg some h13)
      clear h13
      clear hb hv hd
      refine wpOp_step rfl (fun K hK => ?_)
      go_simp
      refine (c2 _).mono ?_
      rintro e5 w5 ⟨rfl, rfl⟩
      exact hK _ _ ⟨_, rfl, Below.refl _ _, rfl, fun h => absurd h (by decide)⟩
    | 15, _ =>
      have h4 : (v 4) = .int .i64 x0 := hd 4 (by kernel_rfl)
      have d4 : f.tmps[9]? = some (.int .i64 x0) := (hv 4 9 rfl).trans (congrArg some h4)
      clear h4
      have h9 : (v 9) = .int .i64 x1 := hd 9 (by kernel_rfl)
      have d9 : f.tmps[14]? = some (.int .i64 x1) := (hv 9 14 rfl).trans (congrArg some h9)
      clear h9
      have h14 : (v 14) = .int .i64 x2 := hd 14 (by kernel_rfl)
      have d14 : f.tmps[19]? = some (.int .i64 x2) := (hv 14 19 rfl).trans (congrArg some h14)
      clear h14
      clear hb hv hd
      refine wpOp_step rfl (fun K hK => ?_)
      go_simp
      exact hK _ _ ⟨_, rfl, Below.refl _ _, rfl, fun h => absurd h (by decide)⟩
    | k + 16, hk => exact absurd hk (by simp)
  · intro v w' hB hF hD
    have F0 : (v 0) = .pointer (some ⟨w.heap.size, 0, none⟩) := hF 0 (by simp)
    have F1 : (v 1) = .int .i64 a0 := hF 1 (by simp)
    have F2 : (v 2) = .pointer (some ⟨w.heap.size + 1, 0, none⟩) := hF 2 (by simp)
    have F3 : (v 3) = .int .i64 b0 := hF 3 (by simp)
    have F4 : (v 4) = .int .i64 x0 := hF 4 (by simp)
    have F5 : (v 5) = .pointer (some ⟨w.heap.size, 1, none⟩) := hF 5 (by simp)
    have F6 : (v 6) = .int .i64 a1 := hF 6 (by simp)
    have F7 : (v 7) = .pointer (some ⟨w.heap.size + 1, 1, none⟩) := hF 7 (by simp)
    have F8 : (v 8) = .int .i64 b1 := hF 8 (by simp)
    have F9 : (v 9) = .int .i64 x1 := hF 9 (by simp)
    have F10 : (v 10) = .pointer (some ⟨w.heap.size, 2, none⟩) := hF 10 (by simp)
    have F11 : (v 11) = .int .i64 a2 := hF 11 (by simp)
    have F12 : (v 12) = .pointer (some ⟨w.heap.size + 1, 2, none⟩) := hF 12 (by simp)
    have F13 : (v 13) = .int .i64 b2 := hF 13 (by simp)
    have F14 : (v 14) = .int .i64 x2 := hF 14 (by simp)
    have F15 : (v 15) = tv x0 x1 x2 := hF 15 (by simp)
    clear hF
    simp only [frOf, frGo, Nat.zero_add, Nat.reduceAdd, F0, F1, F2, F3, F4, F5, F6, F7, F8, F9, F10, F11, F12, F13, F14, F15]
    clear F0 F1 F2 F3 F4 F5 F6 F7 F8 F9 F10 F11 F12 F13 F14 F15 hD c0 c1 c2
    have q1 := tc_keep hB q0
    have f1 := tf_keep hB q0 f0
    have B2 := b_set (p := ⟨w.heap.size + 1 + 1, 2, none⟩) (v := .int .i64 x2) (b_set (p := ⟨w.heap.size + 1 + 1, 1, none⟩) (v := .int .i64 x1) (b_set (p := ⟨w.heap.size + 1 + 1, 0, none⟩) (v := .int .i64 x0) (b_trans B0 hB) hP) hP) hP
    clear hB q0 f0 B0 kA kB hP
    go_wp2
    exact bodyPost_ret (v := tv x0 x1 x2) (by simp [results, Try.results10, go_sem, q1]) rfl ⟨rfl, B2⟩

end Go.Proofs.Ytokjljmamiipbaa
