/- VecSums: what the law's call answers: true, for every two rows. -/
import Derived.Test.YtokjljmamiipbaaVecJ
namespace Go.Proofs.Ytokjljmamiipbaa
open Go.RowKit Go.Shelf

set_option maxHeartbeats 8000000 in
set_option maxRecDepth 10000 in
theorem vecSums_0 (a0 a1 a2 b0 b1 b2 x0 x1 x2 xe y0 y1 y2 m : Int) (fb : Bool)
    (c1 : ∀ w, Calls Try.prog 6 #[tv a0 a1 a2, tv b0 b1 b2] w (RetV (.tuple #[tv x0 x1 x2, .int .i64 xe]) w))
    (c2 : ∀ w, Calls Try.prog 7 #[tv a0 a1 a2, tv b0 b1 b2] w (RetV (.tuple #[tv x0 x1 x2, .int .i64 xe]) w))
    (c3 : ∀ w, Calls Try.prog 9 #[tv a0 a1 a2, tv b0 b1 b2] w (RetV (tv y0 y1 y2) w)) (c4 : ∀ w, Calls Try.prog 10 #[tv a0 a1 a2, tv b0 b1 b2] w (RetV (tv y0 y1 y2) w))
    (c5 : ∀ w, Calls Try.prog 11 #[tv a0 a1 a2] w (RetV (.bool fb) w)) (c6 : ∀ w, Calls Try.prog 12 #[tv a0 a1 a2] w (RetV (.bool fb) w))
    (c7 : ∀ w, Calls Try.prog 13 #[tv a0 a1 a2] w (RetV (.int .i64 m) w)) (l0 : m ≤ a0) (l1 : m ≤ a1) (l2 : m ≤ a2) (n1 : (m == a0) = true) (w : World) :
    Calls Try.prog 3 #[tv a0 a1 a2, tv b0 b1 b2] w (RetV (.bool true) w) := by
  have kA : TC ((w.alloc (Obj.cells #[.int .i64 a0, .int .i64 a1, .int .i64 a2] 23)).alloc (Obj.cells #[.int .i64 b0, .int .i64 b1, .int .i64 b2] 23)) (w.heap.size) a0 a1 a2 := tc_alloc (tc_new rfl)
  have kB : TC ((w.alloc (Obj.cells #[.int .i64 a0, .int .i64 a1, .int .i64 a2] 23)).alloc (Obj.cells #[.int .i64 b0, .int .i64 b1, .int .i64 b2] 23)) (w.heap.size + 1) b0 b1 b2 := tc_new (by simp)
  have B0 : Below w.heap.size w ((w.alloc (Obj.cells #[.int .i64 a0, .int .i64 a1, .int .i64 a2] 23)).alloc (Obj.cells #[.int .i64 b0, .int .i64 b1, .int .i64 b2] 23)) := b_alloc (b_alloc (Below.refl _ _))
  go_enter Try.func3, Try.ntmps3
  go_wp2_with fail
  refine (c1 _).mono ?_
  rintro ew1 w1 ⟨rfl, hb9⟩
  replace kA := tc_keep hb9 kA
  replace kB := tc_keep hb9 kB
  replace B0 := b_trans B0 hb9
  clear hb9
  have kx : TC (w1.alloc (Obj.cells #[.int .i64 x0, .int .i64 x1, .int .i64 x2] 23)) w1.heap.size x0 x1 x2 := tc_new rfl
  replace kA := tc_alloc (o := (Obj.cells #[.int .i64 x0, .int .i64 x1, .int .i64 x2] 23)) kA
  replace kB := tc_alloc (o := (Obj.cells #[.int .i64 x0, .int .i64 x1, .int .i64 x2] 23)) kB
  replace B0 := b_alloc (o := (Obj.cells #[.int .i64 x0, .int .i64 x1, .int .i64 x2] 23)) B0
  go_wp2_with fail
  refine (c2 _).mono ?_
  rintro ew2 w2 ⟨rfl, hb9⟩
  replace kA := tc_keep hb9 kA
  replace kB := tc_keep hb9 kB
  replace kx := tc_keep hb9 kx
  replace B0 := b_trans B0 hb9
  clear hb9
  have ky : TC (w2.alloc (Obj.cells #[.int .i64 x0, .int .i64 x1, .int .i64 x2] 23)) w2.heap.size x0 x1 x2 := tc_new rfl
  replace kA := tc_alloc (o := (Obj.cells #[.int .i64 x0, .int .i64 x1, .int .i64 x2] 23)) kA
  replace kB := tc_alloc (o := (Obj.cells #[.int .i64 x0, .int .i64 x1, .int .i64 x2] 23)) kB
  replace kx := tc_alloc (o := (Obj.cells #[.int .i64 x0, .int .i64 x1, .int .i64 x2] 23)) kx
  replace B0 := b_alloc (o := (Obj.cells #[.int .i64 x0, .int .i64 x1, .int .i64 x2] 23)) B0
  clear c1 c2
  go_wp2
  generalize w2.alloc (Obj.cells #[.int .i64 x0, .int .i64 x1, .int .i64 x2] 23) = W1 at *
  refine region_each [21, 22, 23, 24, 25, 26, 27, 28, 29, 30, 31, 32, 33, 34, 35, 36, 37, 38, 39, 40, 41, 42, 43, 44, 45, 46, 47, 48, 49, 50, 51, 52, 53, 54, 55, 56, 57, 58, 59, 60, 61, 62, 63, 64, 65, 66, 67, 68, 69, 70, 71, 72, 73, 74, 75, 76, 77, 78, 79, 80, 81, 82, 83, 84, 85, 86, 87, 88, 89] (fun i X_ U_ => match i with | 0 => X_ = .bool true | 1 => X_ = .bool true | 2 => X_ = tv x0 x1 x2 | 3 => X_ = tv x0 x1 x2 | 4 => X_ = .bool true | 5 => X_ = .bool true | 6 => X_ = .bool true | 7 => X_ = .int .i64 xe | 8 => X_ = .int .i64 xe | 9 => X_ = .bool true | 10 => X_ = .bool true | 11 => X_ = .bool true | 12 => X_ = tv a0 a1 a2 | 13 => X_ = tv b0 b1 b2 | 14 => X_ = tv y0 y1 y2 | 15 => X_ = tv a0 a1 a2 | 16 => X_ = tv b0 b1 b2 | 17 => X_ = tv y0 y1 y2 | 18 => X_ = .bool true | 19 => X_ = .bool true | 20 => X_ = .bool true | 21 => X_ = tv a0 a1 a2 | 22 => X_ = .bool fb | 23 => X_ = tv a0 a1 a2 | 24 => X_ = .bool fb | 25 => X_ = .bool true | 26 => X_ = .bool true | 27 => X_ = .bool true | 28 => X_ = tv a0 a1 a2 | 29 => X_ = .int .i64 m | 30 => X_ = .pointer (some ⟨w.heap.size, 0, none⟩) | 31 => X_ = .int .i64 a0 | 32 => X_ = .bool true | 33 => X_ = .bool true | 34 => X_ = .bool true | 35 => X_ = tv a0 a1 a2 | 36 => X_ = .int .i64 m | 37 => X_ = .pointer (some ⟨w.heap.size, 1, none⟩) | 38 => X_ = .int .i64 a1 | 39 => X_ = .bool true | 40 => X_ = .bool true | 41 => X_ = .bool true | 42 => X_ = tv a0 a1 a2 | 43 => X_ = .int .i64 m | 44 => X_ = .pointer (some ⟨w.heap.size, 2, none⟩) | 45 => X_ = .int .i64 a2 | 46 => X_ = .bool true | 47 => X_ = .bool true | 48 => X_ = .bool true | 49 => X_ = tv a0 a1 a2 | 50 => X_ = .int .i64 m | 51 => X_ = .pointer (some ⟨w.heap.size, 0, none⟩) | 52 => X_ = .int .i64 a0 | 53 => X_ = .bool true | 54 => X_ = .bool true | 55 => X_ = undef | 56 => X_ = undef | 57 => X_ = undef | 58 => X_ = undef | 59 => X_ = undef | 60 => X_ = .bool true | 61 => X_ = .bool true | 62 => X_ = undef | 63 => X_ = undef | 64 => X_ = undef | 65 => X_ = undef | 66 => X_ = undef | 67 => X_ = .bool true | 68 => X_ = .bool true | _ => True) (fun i => false) (by kernel_rfl) (by kernel_rfl) (by kernel_rfl) (by kernel_rfl) (by kernel_rfl) ?_ ?_ ?_ ?_
  · intro i x w w' hi h hb
    match i, hi with
    | 0, _ => exact h
    | 1, _ => exact h
    | 2, _ => exact h
    | 3, _ => exact h
    | 4, _ => exact h
    | 5, _ => exact h
    | 6, _ => exact h
    | 7, _ => exact h
    | 8, _ => exact h
    | 9, _ => exact h
    | 10, _ => exact h
    | 11, _ => exact h
    | 12, _ => exact h
    | 13, _ => exact h
    | 14, _ => exact h
    | 15, _ => exact h
    | 16, _ => exact h
    | 17, _ => exact h
    | 18, _ => exact h
    | 19, _ => exact h
    | 20, _ => exact h
    | 21, _ => exact h
    | 22, _ => exact h
    | 23, _ => exact h
    | 24, _ => exact h
    | 25, _ => exact h
    | 26, _ => exact h
    | 27, _ => exact h
    | 28, _ => exact h
    | 29, _ => exact h
    | 30, _ => exact h
    | 31, _ => exact h
    | 32, _ => exact h
    | 33, _ => exact h
    | 34, _ => exact h
    | 35, _ => exact h
    | 36, _ => exact h
    | 37, _ => exact h
    | 38, _ => exact h
    | 39, _ => exact h
    | 40, _ => exact h
    | 41, _ => exact h
    | 42, _ => exact h
    | 43, _ => exact h
    | 44, _ => exact h
    | 45, _ => exact h
    | 46, _ => exact h
    | 47, _ => exact h
    | 48, _ => exact h
    | 49, _ => exact h
    | 50, _ => exact h
    | 51, _ => exact h
    | 52, _ => exact h
    | 53, _ => exact h
    | 54, _ => exact h
    | 55, _ => exact h
    | 56, _ => exact h
    | 57, _ => exact h
    | 58, _ => exact h
    | 59, _ => exact h
    | 60, _ => exact h
    | 61, _ => exact h
    | 62, _ => exact h
    | 63, _ => exact h
    | 64, _ => exact h
    | 65, _ => exact h
    | 66, _ => exact h
    | 67, _ => exact h
    | 68, _ => exact h
    | k + 69, hk => exact absurd hk (by simp)
  · intro i x w hi ha h
    cases ha
  · intro i hi v f w' hb hv hB hd
    match i, hi with
    | 0, _ =>
      clear hb hv hd
      refine wpOp_step rfl (fun K hK => ?_)
      go_simp
      refine (fixed_vec _).mono ?_
      rintro e5 w5 ⟨rfl, hb5⟩
      exact hK _ _ ⟨_, rfl, hb5, rfl, fun h => absurd h (by decide)⟩
    | 1, _ =>
      have h0 : (v 0) = .bool true := hd 0 (by kernel_rfl)
      have d0 : f.tmps[21]? = some (.bool true) := (hv 0 21 rfl).trans (congrArg some h0)
      clear h0
      clear hb hv hd
      refine wpOp_step rfl (fun K hK => ?_)
      go_simp
      exact hK _ _ ⟨_, rfl, Below.refl _ _, rfl, fun h => absurd h (by decide)⟩
    | 2, _ =>
      have b5 : f.tmps[5]? = some (.pointer (some ⟨w1.heap.size, 0, none⟩)) := (hb 5 (by decide)).trans rfl
      have h1 : (v 1) = .bool true := hd 1 (by kernel_rfl)
      have d1 : f.tmps[22]? = some (.bool true) := (hv 1 22 rfl).trans (congrArg some h1)
      clear h1
      clear hb hv hd
      have c := tc_keep hB kx
      refine wpOp_step rfl (fun K hK => ?_)
      go_simp
      exact hK _ _ ⟨_, rfl, Below.refl _ _, rfl, fun h => absurd h (by decide)⟩
    | 3, _ =>
      have b7 : f.tmps[7]? = some (.pointer (some ⟨w2.heap.size, 0, none⟩)) := (hb 7 (by decide)).trans rfl
      have h1 : (v 1) = .bool true := hd 1 (by kernel_rfl)
      have d1 : f.tmps[22]? = some (.bool true) := (hv 1 22 rfl).trans (congrArg some h1)
      clear h1
      clear hb hv hd
      have c := tc_keep hB ky
      refine wpOp_step rfl (fun K hK => ?_)
      go_simp
      exact hK _ _ ⟨_, rfl, Below.refl _ _, rfl, fun h => absurd h (by decide)⟩
    | 4, _ =>
      have h2 : (v 2) = tv x0 x1 x2 := hd 2 (by kernel_rfl)
      have d2 : f.tmps[23]? = some (tv x0 x1 x2) := (hv 2 23 rfl).trans (congrArg some h2)
      clear h2
      have h3 : (v 3) = tv x0 x1 x2 := hd 3 (by kernel_rfl)
      have d3 : f.tmps[24]? = some (tv x0 x1 x2) := (hv 3 24 rfl).trans (congrArg some h3)
      clear h3
      have h1 : (v 1) = .bool true := hd 1 (by kernel_rfl)
      have d1 : f.tmps[22]? = some (.bool true) := (hv 1 22 rfl).trans (congrArg some h1)
      clear h1
      clear hb hv hd
      have hve := vec_eq_self
      refine wpOp_step rfl (fun K hK => ?_)
      go_simp
      exact hK _ _ ⟨_, rfl, Below.refl _ _, rfl, fun h => absurd h (by decide)⟩
    | 5, _ =>
      have h1 : (v 1) = .bool true := hd 1 (by kernel_rfl)
      have d1 : f.tmps[22]? = some (.bool true) := (hv 1 22 rfl).trans (congrArg some h1)
      clear h1
      have h4 : (v 4) = .bool true := hd 4 (by kernel_rfl)
      have d4 : f.tmps[25]? = some (.bool true) := (hv 4 25 rfl).trans (congrArg some h4)
      clear h4
      clear hb hv hd
      refine wpOp_step rfl (fun K hK => ?_)
      go_simp
      exact hK _ _ ⟨_, rfl, Below.refl _ _, rfl, fun h => absurd h (by decide)⟩
    | 6, _ =>
      have h5 : (v 5) = .bool true := hd 5 (by kernel_rfl)
      have d5 : f.tmps[26]? = some (.bool true) := (hv 5 26 rfl).trans (congrArg some h5)
      clear h5
      clear hb hv hd
      refine wpOp_step rfl (fun K hK => ?_)
      go_simp
      exact hK _ _ ⟨_, rfl, Below.refl _ _, rfl, fun h => absurd h (by decide)⟩
    | 7, _ =>
      have b6 : f.tmps[6]? = some (.int .i64 xe) := (hb 6 (by decide)).trans rfl
      have h6 : (v 6) = .bool true := hd 6 (by kernel_rfl)
      have d6 : f.tmps[27]? = some (.bool true) := (hv 6 27 rfl).trans (congrArg some h6)
      clear h6
      clear hb hv hd
      refine wpOp_step rfl (fun K hK => ?_)
      go_simp
      exact hK _ _ ⟨_, rfl, Below.refl _ _, rfl, fun h => absurd h (by decide)⟩
    | 8, _ =>
      have b8 : f.tmps[8]? = some (.int .i64 xe) := (hb 8 (by decide)).trans rfl
      have h6 : (v 6) = .bool true := hd 6 (by kernel_rfl)
      have d6 : f.tmps[27]? = some (.bool true) := (hv 6 27 rfl).trans (congrArg some h6)
      clear h6
      clear hb hv hd
      refine wpOp_step rfl (fun K hK => ?_)
      go_simp
      exact hK _ _ ⟨_, rfl, Below.refl _ _, rfl, fun h => absurd h (by decide)⟩
    | 9, _ =>
      have h7 : (v 7) = .int .i64 xe := hd 7 (by kernel_rfl)
      have d7 : f.tmps[28]? = some (.int .i64 xe) := (hv 7 28 rfl).trans (congrArg some h7)
      clear h7
      have h8 : (v 8) = .int .i64 xe := hd 8 (by kernel_rfl)
      have d8 : f.tmps[29]? = some (.int .i64 xe) := (hv 8 29 rfl).trans (congrArg some h8)
      clear h8
      have h6 : (v 6) = .bool true := hd 6 (by kernel_rfl)
      have d6 : f.tmps[27]? = some (.bool true) := (hv 6 27 rfl).trans (congrArg some h6)
      clear h6
      clear hb hv hd
      refine wpOp_step rfl (fun K hK => ?_)
      go_simp
      exact hK _ _ ⟨_, rfl, Below.refl _ _, rfl, fun h => absurd h (by decide)⟩
    | 10, _ =>
      have h6 : (v 6) = .bool true := hd 6 (by kernel_rfl)
      have d6 : f.tmps[27]? = some (.bool true) := (hv 6 27 rfl).trans (congrArg some h6)
      clear h6
      have h9 : (v 9) = .bool true := hd 9 (by kernel_rfl)
      have d9 : f.tmps[30]? = some (.bool true) := (hv 9 30 rfl).trans (congrArg some h9)
      clear h9
      clear hb hv hd
      refine wpOp_step rfl (fun K hK => ?_)
      go_simp
      exact hK _ _ ⟨_, rfl, Below.refl _ _, rfl, fun h => absurd h (by decide)⟩
    | 11, _ =>
      have h10 : (v 10) = .bool true := hd 10 (by kernel_rfl)
      have d10 : f.tmps[31]? = some (.bool true) := (hv 10 31 rfl).trans (congrArg some h10)
      clear h10
      clear hb hv hd
      refine wpOp_step rfl (fun K hK => ?_)
      go_simp
      exact hK _ _ ⟨_, rfl, Below.refl _ _, rfl, fun h => absurd h (by decide)⟩
    | 12, _ =>
      have b2 : f.tmps[2]? = some (.pointer (some ⟨w.heap.size, 0, none⟩)) := (hb 2 (by decide)).trans rfl
      have h11 : (v 11) = .bool true := hd 11 (by kernel_rfl)
      have d11 : f.tmps[32]? = some (.bool true) := (hv 11 32 rfl).trans (congrArg some h11)
      clear h11
      clear hb hv hd
      have c := tc_keep hB kA
      refine wpOp_step rfl (fun K hK => ?_)
      go_simp
      exact hK _ _ ⟨_, rfl, Below.refl _ _, rfl, fun h => absurd h (by decide)⟩
    | 13, _ =>
      have b3 : f.tmps[3]? = some (.pointer (some ⟨w.heap.size + 1, 0, none⟩)) := (hb 3 (by decide)).trans rfl
      have h11 : (v 11) = .bool true := hd 11 (by kernel_rfl)
      have d11 : f.tmps[32]? = some (.bool true) := (hv 11 32 rfl).trans (congrArg some h11)
      clear h11
      clear hb hv hd
      have c := tc_keep hB kB
      refine wpOp_step rfl (fun K hK => ?_)
      go_simp
      exact hK _ _ ⟨_, rfl, Below.refl _ _, rfl, fun h => absurd h (by decide)⟩
    | 14, _ =>
      have h12 : (v 12) = tv a0 a1 a2 := hd 12 (by kernel_rfl)
      have d12 : f.tmps[33]? = some (tv a0 a1 a2) := (hv 12 33 rfl).trans (congrArg some h12)
      clear h12
      have h13 : (v 13) = tv b0 b1 b2 := hd 13 (by kernel_rfl)
      have d13 : f.tmps[34]? = some (tv b0 b1 b2) := (hv 13 34 rfl).trans (congrArg some h13)
      clear h13
      have h11 : (v 11) = .bool true := hd 11 (by kernel_rfl)
      have d11 : f.tmps[32]? = some (.bool true) := (hv 11 32 rfl).trans (congrArg some h11)
      clear h11
      clear hb hv hd
      refine wpOp_step rfl (fun K hK => ?_)
      go_simp
      refine (c3 _).mono ?_
      rintro e5 w5 ⟨rfl, hb5⟩
      exact hK _ _ ⟨_, rfl, hb5, rfl, fun h => absurd h (by decide)⟩
    | 15, _ =>
      have b2 : f.tmps[2]? = some (.pointer (some ⟨w.heap.size, 0, none⟩)) := (hb 2 (by decide)).trans rfl
      have h11 : (v 11) = .bool true := hd 11 (by kernel_rfl)
      have d11 : f.tmps[32]? = some (.bool true) := (hv 11 32 rfl).trans (congrArg some h11)
      clear h11
      clear hb hv hd
      have c := tc_keep hB kA
      refine wpOp_step rfl (fun K hK => ?_)
      go_simp
      exact hK _ _ ⟨_, rfl, Below.refl _ _, rfl, fun h => absurd h (by decide)⟩
    | 16, _ =>
      have b3 : f.tmps[3]? = some (.pointer (some ⟨w.heap.size + 1, 0, none⟩)) := (hb 3 (by decide)).trans rfl
      have h11 : (v 11) = .bool true := hd 11 (by kernel_rfl)
      have d11 : f.tmps[32]? = some (.bool true) := (hv 11 32 rfl).trans (congrArg some h11)
      clear h11
      clear hb hv hd
      have c := tc_keep hB kB
      refine wpOp_step rfl (fun K hK => ?_)
      go_simp
      exact hK _ _ ⟨_, rfl, Below.refl _ _, rfl, fun h => absurd h (by decide)⟩
    | 17, _ =>
      have h15 : (v 15) = tv a0 a1 a2 := hd 15 (by kernel_rfl)
      have d15 : f.tmps[36]? = some (tv a0 a1 a2) := (hv 15 36 rfl).trans (congrArg some h15)
      clear h15
      have h16 : (v 16) = tv b0 b1 b2 := hd 16 (by kernel_rfl)
      have d16 : f.tmps[37]? = some (tv b0 b1 b2) := (hv 16 37 rfl).trans (congrArg some h16)
      clear h16
      have h11 : (v 11) = .bool true := hd 11 (by kernel_rfl)
      have d11 : f.tmps[32]? = some (.bool true) := (hv 11 32 rfl).trans (congrArg some h11)
      clear h11
      clear hb hv hd
      refine wpOp_step rfl (fun K hK => ?_)
      go_simp
      refine (c4 _).mono ?_
      rintro e5 w5 ⟨rfl, hb5⟩
      exact hK _ _ ⟨_, rfl, hb5, rfl, fun h => absurd h (by decide)⟩
    | 18, _ =>
      have h14 : (v 14) = tv y0 y1 y2 := hd 14 (by kernel_rfl)
      have d14 : f.tmps[35]? = some (tv y0 y1 y2) := (hv 14 35 rfl).trans (congrArg some h14)
      clear h14
      have h17 : (v 17) = tv y0 y1 y2 := hd 17 (by kernel_rfl)
      have d17 : f.tmps[38]? = some (tv y0 y1 y2) := (hv 17 38 rfl).trans (congrArg some h17)
      clear h17
      have h11 : (v 11) = .bool true := hd 11 (by kernel_rfl)
      have d11 : f.tmps[32]? = some (.bool true) := (hv 11 32 rfl).trans (congrArg some h11)
      clear h11
      clear hb hv hd
      have hve := vec_eq_self
      refine wpOp_step rfl (fun K hK => ?_)
      go_simp
      exact hK _ _ ⟨_, rfl, Below.refl _ _, rfl, fun h => absurd h (by decide)⟩
    | 19, _ =>
      have h11 : (v 11) = .bool true := hd 11 (by kernel_rfl)
      have d11 : f.tmps[32]? = some (.bool true) := (hv 11 32 rfl).trans (congrArg some h11)
      clear h11
      have h18 : (v 18) = .bool true := hd 18 (by kernel_rfl)
      have d18 : f.tmps[39]? = some (.bool true) := (hv 18 39 rfl).trans (congrArg some h18)
      clear h18
      clear hb hv hd
      refine wpOp_step rfl (fun K hK => ?_)
      go_simp
      exact hK _ _ ⟨_, rfl, Below.refl _ _, rfl, fun h => absurd h (by decide)⟩
    | 20, _ =>
      have h19 : (v 19) = .bool true := hd 19 (by kernel_rfl)
      have d19 : f.tmps[40]? = some (.bool true) := (hv 19 40 rfl).trans (congrArg some h19)
      clear h19
      clear hb hv hd
      refine wpOp_step rfl (fun K hK => ?_)
      go_simp
      exact hK _ _ ⟨_, rfl, Below.refl _ _, rfl, fun h => absurd h (by decide)⟩
    | 21, _ =>
      have b2 : f.tmps[2]? = some (.pointer (some ⟨w.heap.size, 0, none⟩)) := (hb 2 (by decide)).trans rfl
      have h20 : (v 20) = .bool true := hd 20 (by kernel_rfl)
      have d20 : f.tmps[41]? = some (.bool true) := (hv 20 41 rfl).trans (congrArg some h20)
      clear h20
      clear hb hv hd
      have c := tc_keep hB kA
      refine wpOp_step rfl (fun K hK => ?_)
      go_simp
      exact hK _ _ ⟨_, rfl, Below.refl _ _, rfl, fun h => absurd h (by decide)⟩
    | 22, _ =>
      have h21 : (v 21) = tv a0 a1 a2 := hd 21 (by kernel_rfl)
      have d21 : f.tmps[42]? = some (tv a0 a1 a2) := (hv 21 42 rfl).trans (congrArg some h21)
      clear h21
      have h20 : (v 20) = .bool true := hd 20 (by kernel_rfl)
      have d20 : f.tmps[41]? = some (.bool true) := (hv 20 41 rfl).trans (congrArg some h20)
      clear h20
      clear hb hv hd
      refine wpOp_step rfl (fun K hK => ?_)
      go_simp
      refine (c5 _).mono ?_
      rintro e5 w5 ⟨rfl, hb5⟩
      exact hK _ _ ⟨_, rfl, hb5, rfl, fun h => absurd h (by decide)⟩
    | 23, _ =>
      have b2 : f.tmps[2]? = some (.pointer (some ⟨w.heap.size, 0, none⟩)) := (hb 2 (by decide)).trans rfl
      have h20 : (v 20) = .bool true := hd 20 (by kernel_rfl)
      have d20 : f.tmps[41]? = some (.bool true) := (hv 20 41 rfl).trans (congrArg some h20)
      clear h20
      clear hb hv hd
      have c := tc_keep hB kA
      refine wpOp_step rfl (fun K hK => ?_)
      go_simp
      exact hK _ _ ⟨_, rfl, Below.refl _ _, rfl, fun h => absurd h (by decide)⟩
    | 24, _ =>
      have h23 : (v 23) = tv a0 a1 a2 := hd 23 (by kernel_rfl)
      have d23 : f.tmps[44]? = some (tv a0 a1 a2) := (hv 23 44 rfl).trans (congrArg some h23)
      clear h23
      have h20 : (v 20) = .bool true := hd 20 (by kernel_rfl)
      have d20 : f.tmps[41]? = some (.bool true) := (hv 20 41 rfl).trans (congrArg some h20)
      clear h20
      clear hb hv hd
      refine wpOp_step rfl (fun K hK => ?_)
      go_simp
      refine (c6 _).mono ?_
      rintro e5 w5 ⟨rfl, hb5⟩
      exact hK _ _ ⟨_, rfl, hb5, rfl, fun h => absurd h (by decide)⟩
    | 25, _ =>
      have h22 : (v 22) = .bool fb := hd 22 (by kernel_rfl)
      have d22 : f.tmps[43]? = some (.bool fb) := (hv 22 43 rfl).trans (congrArg some h22)
      clear h22
      have h24 : (v 24) = .bool fb := hd 24 (by kernel_rfl)
      have d24 : f.tmps[45]? = some (.bool fb) := (hv 24 45 rfl).trans (congrArg some h24)
      clear h24
      have h20 : (v 20) = .bool true := hd 20 (by kernel_rfl)
      have d20 : f.tmps[41]? = some (.bool true) := (hv 20 41 rfl).trans (congrArg some h20)
      clear h20
      clear hb hv hd
      refine wpOp_step rfl (fun K hK => ?_)
      go_simp
      exact hK _ _ ⟨_, rfl, Below.refl _ _, rfl, fun h => absurd h (by decide)⟩
    | 26, _ =>
      have h20 : (v 20) = .bool true := hd 20 (by kernel_rfl)
      have d20 : f.tmps[41]? = some (.bool true) := (hv 20 41 rfl).trans (congrArg some h20)
      clear h20
      have h25 : (v 25) = .bool true := hd 25 (by kernel_rfl)
      have d25 : f.tmps[46]? = some (.bool true) := (hv 25 46 rfl).trans (congrArg some h25)
      clear h25
      clear hb hv hd
      refine wpOp_step rfl (fun K hK => ?_)
      go_simp
      exact hK _ _ ⟨_, rfl, Below.refl _ _, rfl, fun h => absurd h (by decide)⟩
    | 27, _ =>
      have h26 : (v 26) = .bool true := hd 26 (by kernel_rfl)
      have d26 : f.tmps[47]? = some (.bool true) := (hv 26 47 rfl).trans (congrArg some h26)
      clear h26
      clear hb hv hd
      refine wpOp_step rfl (fun K hK => ?_)
      go_simp
      exact hK _ _ ⟨_, rfl, Below.refl _ _, rfl, fun h => absurd h (by decide)⟩
    | 28, _ =>
      have b2 : f.tmps[2]? = some (.pointer (some ⟨w.heap.size, 0, none⟩)) := (hb 2 (by decide)).trans rfl
      have h27 : (v 27) = .bool true := hd 27 (by kernel_rfl)
      have d27 : f.tmps[48]? = some (.bool true) := (hv 27 48 rfl).trans (congrArg some h27)
      clear h27
      clear hb hv hd
      have c := tc_keep hB kA
      refine wpOp_step rfl (fun K hK => ?_)
      go_simp
      exact hK _ _ ⟨_, rfl, Below.refl _ _, rfl, fun h => absurd h (by decide)⟩
    | 29, _ =>
      have h28 : (v 28) = tv a0 a1 a2 := hd 28 (by kernel_rfl)
      have d28 : f.tmps[49]? = some (tv a0 a1 a2) := (hv 28 49 rfl).trans (congrArg some h28)
      clear h28
      have h27 : (v 27) = .bool true := hd 27 (by kernel_rfl)
      have d27 : f.tmps[48]? = some (.bool true) := (hv 27 48 rfl).trans (congrArg some h27)
      clear h27
      clear hb hv hd
      refine wpOp_step rfl (fun K hK => ?_)
      go_simp
      refine (c7 _).mono ?_
      rintro e5 w5 ⟨rfl, hb5⟩
      exact hK _ _ ⟨_, rfl, hb5, rfl, fun h => absurd h (by decide)⟩
    | 30, _ =>
      have b2 : f.tmps[2]? = some (.pointer (some ⟨w.heap.size, 0, none⟩)) := (hb 2 (by decide)).trans rfl
      have h27 : (v 27) = .bool true := hd 27 (by kernel_rfl)
      have d27 : f.tmps[48]? = some (.bool true) := (hv 27 48 rfl).trans (congrArg some h27)
      clear h27
      clear hb hv hd
      refine wpOp_step rfl (fun K hK => ?_)
      go_simp
      exact hK _ _ ⟨_, rfl, Below.refl _ _, rfl, fun h => absurd h (by decide)⟩
    | 31, _ =>
      have h30 : (v 30) = .pointer (some ⟨w.heap.size, 0, none⟩) := hd 30 (by kernel_rfl)
      have d30 : f.tmps[51]? = some (.pointer (some ⟨w.heap.size, 0, none⟩)) := (hv 30 51 rfl).trans (congrArg some h30)
      clear h30
      have h27 : (v 27) = .bool true := hd 27 (by kernel_rfl)
      have d27 : f.tmps[48]? = some (.bool true) := (hv 27 48 rfl).trans (congrArg some h27)
      clear h27
      clear hb hv hd
      have c := tc_keep hB kA
      refine wpOp_step rfl (fun K hK => ?_)
      go_simp
      exact hK _ _ ⟨_, rfl, Below.refl _ _, rfl, fun h => absurd h (by decide)⟩
    | 32, _ =>
      have h29 : (v 29) = .int .i64 m := hd 29 (by kernel_rfl)
      have d29 : f.tmps[50]? = some (.int .i64 m) := (hv 29 50 rfl).trans (congrArg some h29)
      clear h29
      have h31 : (v 31) = .int .i64 a0 := hd 31 (by kernel_rfl)
      have d31 : f.tmps[52]? = some (.int .i64 a0) := (hv 31 52 rfl).trans (congrArg some h31)
      clear h31
      have h27 : (v 27) = .bool true := hd 27 (by kernel_rfl)
      have d27 : f.tmps[48]? = some (.bool true) := (hv 27 48 rfl).trans (congrArg some h27)
      clear h27
      clear hb hv hd
      refine wpOp_step rfl (fun K hK => ?_)
      go_simp
      exact hK _ _ ⟨_, rfl, Below.refl _ _, rfl, fun h => absurd h (by decide)⟩
    | 33, _ =>
      have h27 : (v 27) = .bool true := hd 27 (by kernel_rfl)
      have d27 : f.tmps[48]? = some (.bool true) := (hv 27 48 rfl).trans (congrArg some h27)
      clear h27
      have h32 : (v 32) = .bool true := hd 32 (by kernel_rfl)
      have d32 : f.tmps[53]? = some (.bool true) := (hv 32 53 rfl).trans (congrArg some h32)
      clear h32
      clear hb hv hd
      refine wpOp_step rfl (fun K hK => ?_)
      go_simp
      exact hK _ _ ⟨_, rfl, Below.refl _ _, rfl, fun h => absurd h (by decide)⟩
    | 34, _ =>
      have h33 : (v 33) = .bool true := hd 33 (by kernel_rfl)
      have d33 : f.tmps[54]? = some (.bool true) := (hv 33 54 rfl).trans (congrArg some h33)
      clear h33
      clear hb hv hd
      refine wpOp_step rfl (fun K hK => ?_)
      go_simp
      exact hK _ _ ⟨_, rfl, Below.refl _ _, rfl, fun h => absurd h (by decide)⟩
    | 35, _ =>
      have b2 : f.tmps[2]? = some (.pointer (some ⟨w.heap.size, 0, none⟩)) := (hb 2 (by decide)).trans rfl
      have h34 : (v 34) = .bool true := hd 34 (by kernel_rfl)
      have d34 : f.tmps[55]? = some (.bool true) := (hv 34 55 rfl).trans (congrArg some h34)
      clear h34
      clear hb hv hd
      have c := tc_keep hB kA
      refine wpOp_step rfl (fun K hK => ?_)
      go_simp
      exact hK _ _ ⟨_, rfl, Below.refl _ _, rfl, fun h => absurd h (by decide)⟩
    | 36, _ =>
      have h35 : (v 35) = tv a0 a1 a2 := hd 35 (by kernel_rfl)
      have d35 : f.tmps[56]? = some (tv a0 a1 a2) := (hv 35 56 rfl).trans (congrArg some h35)
      clear h35
      have h34 : (v 34) = .bool true := hd 34 (by kernel_rfl)
      have d34 : f.tmps[55]? = some (.bool true) := (hv 34 55 rfl).trans (congrArg some h34)
      clear h34
      clear hb hv hd
      refine wpOp_step rfl (fun K hK => ?_)
      go_simp
      refine (c7 _).mono ?_
      rintro e5 w5 ⟨rfl, hb5⟩
      exact hK _ _ ⟨_, rfl, hb5, rfl, fun h => absurd h (by decide)⟩
    | 37, _ =>
      have b2 : f.tmps[2]? = some (.pointer (some ⟨w.heap.size, 0, none⟩)) := (hb 2 (by decide)).trans rfl
      have h34 : (v 34) = .bool true := hd 34 (by kernel_rfl)
      have d34 : f.tmps[55]? = some (.bool true) := (hv 34 55 rfl).trans (congrArg some h34)
      clear h34
      clear hb hv hd
      refine wpOp_step rfl (fun K hK => ?_)
      go_simp
      exact hK _ _ ⟨_, rfl, Below.refl _ _, rfl, fun h => absurd h (by decide)⟩
    | 38, _ =>
      have h37 : (v 37) = .pointer (some ⟨w.heap.size, 1, none⟩) := hd 37 (by kernel_rfl)
      have d37 : f.tmps[58]? = some (.pointer (some ⟨w.heap.size, 1, none⟩)) := (hv 37 58 rfl).trans (congrArg some h37)
      clear h37
      have h34 : (v 34) = .bool true := hd 34 (by kernel_rfl)
      have d34 : f.tmps[55]? = some (.bool true) := (hv 34 55 rfl).trans (congrArg some h34)
      clear h34
      clear hb hv hd
      have c := tc_keep hB kA
      refine wpOp_step rfl (fun K hK => ?_)
      go_simp
      exact hK _ _ ⟨_, rfl, Below.refl _ _, rfl, fun h => absurd h (by decide)⟩
    | 39, _ =>
      have h36 : (v 36) = .int .i64 m := hd 36 (by kernel_rfl)
      have d36 : f.tmps[57]? = some (.int .i64 m) := (hv 36 57 rfl).trans (congrArg some h36)
      clear h36
      have h38 : (v 38) = .int .i64 a1 := hd 38 (by kernel_rfl)
      have d38 : f.tmps[59]? = some (.int .i64 a1) := (hv 38 59 rfl).trans (congrArg some h38)
      clear h38
      have h34 : (v 34) = .bool true := hd 34 (by kernel_rfl)
      have d34 : f.tmps[55]? = some (.bool true) := (hv 34 55 rfl).trans (congrArg some h34)
      clear h34
      clear hb hv hd
      refine wpOp_step rfl (fun K hK => ?_)
      go_simp
      exact hK _ _ ⟨_, rfl, Below.refl _ _, rfl, fun h => absurd h (by decide)⟩
    | 40, _ =>
      have h34 : (v 34) = .bool true := hd 34 (by kernel_rfl)
      have d34 : f.tmps[55]? = some (.bool true) := (hv 34 55 rfl).trans (congrArg some h34)
      clear h34
      have h39 : (v 39) = .bool true := hd 39 (by kernel_rfl)
      have d39 : f.tmps[60]? = some (.bool true) := (hv 39 60 rfl).trans (congrArg some h39)
      clear h39
      clear hb hv hd
      refine wpOp_step rfl (fun K hK => ?_)
      go_simp
      exact hK _ _ ⟨_, rfl, Below.refl _ _, rfl, fun h => absurd h (by decide)⟩
    | 41, _ =>
      have h40 : (v 40) = .bool true := hd 40 (by kernel_rfl)
      have d40 : f.tmps[61]? = some (.bool true) := (hv 40 61 rfl).trans (congrArg some h40)
      clear h40
      clear hb hv hd
      refine wpOp_step rfl (fun K hK => ?_)
      go_simp
      exact hK _ _ ⟨_, rfl, Below.refl _ _, rfl, fun h => absurd h (by decide)⟩
    | 42, _ =>
      have b2 : f.tmps[2]? = some (.pointer (some ⟨w.heap.size, 0, none⟩)) := (hb 2 (by decide)).trans rfl
      have h41 : (v 41) = .bool true := hd 41 (by kernel_rfl)
      have d41 : f.tmps[62]? = some (.bool true) := (hv 41 62 rfl).trans (congrArg some h41)
      clear h41
      clear hb hv hd
      have c := tc_keep hB kA
      refine wpOp_step rfl (fun K hK => ?_)
      go_simp
      exact hK _ _ ⟨_, rfl, Below.refl _ _, rfl, fun h => absurd h (by decide)⟩
    | 43, _ =>
      have h42 : (v 42) = tv a0 a1 a2 := hd 42 (by kernel_rfl)
      have d42 : f.tmps[63]? = some (tv a0 a1 a2) := (hv 42 63 rfl).trans (congrArg some h42)
      clear h42
      have h41 : (v 41) = .bool true := hd 41 (by kernel_rfl)
      have d41 : f.tmps[62]? = some (.bool true) := (hv 41 62 rfl).trans (congrArg some h41)
      clear h41
      clear hb hv hd
      refine wpOp_step rfl (fun K hK => ?_)
      go_simp
      refine (c7 _).mono ?_
      rintro e5 w5 ⟨rfl, hb5⟩
      exact hK _ _ ⟨_, rfl, hb5, rfl, fun h => absurd h (by decide)⟩
    | 44, _ =>
      have b2 : f.tmps[2]? = some (.pointer (some ⟨w.heap.size, 0, none⟩)) := (hb 2 (by decide)).trans rfl
      have h41 : (v 41) = .bool true := hd 41 (by kernel_rfl)
      have d41 : f.tmps[62]? = some (.bool true) := (hv 41 62 rfl).trans (congrArg some h41)
      clear h41
      clear hb hv hd
      refine wpOp_step rfl (fun K hK => ?_)
      go_simp
      exact hK _ _ ⟨_, rfl, Below.refl _ _, rfl, fun h => absurd h (by decide)⟩
    | 45, _ =>
      have h44 : (v 44) = .pointer (some ⟨w.heap.size, 2, none⟩) := hd 44 (by kernel_rfl)
      have d44 : f.tmps[65]? = some (.pointer (some ⟨w.heap.size, 2, none⟩)) := (hv 44 65 rfl).trans (congrArg some h44)
      clear h44
      have h41 : (v 41) = .bool true := hd 41 (by kernel_rfl)
      have d41 : f.tmps[62]? = some (.bool true) := (hv 41 62 rfl).trans (congrArg some h41)
      clear h41
      clear hb hv hd
      have c := tc_keep hB kA
      refine wpOp_step rfl (fun K hK => ?_)
      go_simp
      exact hK _ _ ⟨_, rfl, Below.refl _ _, rfl, fun h => absurd h (by decide)⟩
    | 46, _ =>
      have h43 : (v 43) = .int .i64 m := hd 43 (by kernel_rfl)
      have d43 : f.tmps[64]? = some (.int .i64 m) := (hv 43 64 rfl).trans (congrArg some h43)
      clear h43
      have h45 : (v 45) = .int .i64 a2 := hd 45 (by kernel_rfl)
      have d45 : f.tmps[66]? = some (.int .i64 a2) := (hv 45 66 rfl).trans (congrArg some h45)
      clear h45
      have h41 : (v 41) = .bool true := hd 41 (by kernel_rfl)
      have d41 : f.tmps[62]? = some (.bool true) := (hv 41 62 rfl).trans (congrArg some h41)
      clear h41
      clear hb hv hd
      refine wpOp_step rfl (fun K hK => ?_)
      go_simp
      exact hK _ _ ⟨_, rfl, Below.refl _ _, rfl, fun h => absurd h (by decide)⟩
    | 47, _ =>
      have h41 : (v 41) = .bool true := hd 41 (by kernel_rfl)
      have d41 : f.tmps[62]? = some (.bool true) := (hv 41 62 rfl).trans (congrArg some h41)
      clear h41
      have h46 : (v 46) = .bool true := hd 46 (by kernel_rfl)
      have d46 : f.tmps[67]? = some (.bool true) := (hv 46 67 rfl).trans (congrArg some h46)
      clear h46
      clear hb hv hd
      refine wpOp_step rfl (fun K hK => ?_)
      go_simp
      exact hK _ _ ⟨_, rfl, Below.refl _ _, rfl, fun h => absurd h (by decide)⟩
    | 48, _ =>
      have h47 : (v 47) = .bool true := hd 47 (by kernel_rfl)
      have d47 : f.tmps[68]? = some (.bool true) := (hv 47 68 rfl).trans (congrArg some h47)
      clear h47
      clear hb hv hd
      refine wpOp_step rfl (fun K hK => ?_)
      go_simp
      exact hK _ _ ⟨_, rfl, Below.refl _ _, rfl, fun h => absurd h (by decide)⟩
    | 49, _ =>
      have b2 : f.tmps[2]? = some (.pointer (some ⟨w.heap.size, 0, none⟩)) := (hb 2 (by decide)).trans rfl
      have h48 : (v 48) = .bool true := hd 48 (by kernel_rfl)
      have d48 : f.tmps[69]? = some (.bool true) := (hv 48 69 rfl).trans (congrArg some h48)
      clear h48
      clear hb hv hd
      have c := tc_keep hB kA
      refine wpOp_step rfl (fun K hK => ?_)
      go_simp
      exact hK _ _ ⟨_, rfl, Below.refl _ _, rfl, fun h => absurd h (by decide)⟩
    | 50, _ =>
      have h49 : (v 49) = tv a0 a1 a2 := hd 49 (by kernel_rfl)
      have d49 : f.tmps[70]? = some (tv a0 a1 a2) := (hv 49 70 rfl).trans (congrArg some h49)
      clear h49
      have h48 : (v 48) = .bool true := hd 48 (by kernel_rfl)
      have d48 : f.tmps[69]? = some (.bool true) := (hv 48 69 rfl).trans (congrArg some h48)
      clear h48
      clear hb hv hd
      refine wpOp_step rfl (fun K hK => ?_)
      go_simp
      refine (c7 _).mono ?_
      rintro e5 w5 ⟨rfl, hb5⟩
      exact hK _ _ ⟨_, rfl, hb5, rfl, fun h => absurd h (by decide)⟩
    | 51, _ =>
      have b2 : f.tmps[2]? = some (.pointer (some ⟨w.heap.size, 0, none⟩)) := (hb 2 (by decide)).trans rfl
      have h48 : (v 48) = .bool true := hd 48 (by kernel_rfl)
      have d48 : f.tmps[69]? = some (.bool true) := (hv 48 69 rfl).trans (congrArg some h48)
      clear h48
      clear hb hv hd
      refine wpOp_step rfl (fun K hK => ?_)
      go_simp
      exact hK _ _ ⟨_, rfl, Below.refl _ _, rfl, fun h => absurd h (by decide)⟩
    | 52, _ =>
      have h51 : (v 51) = .pointer (some ⟨w.heap.size, 0, none⟩) := hd 51 (by kernel_rfl)
      have d51 : f.tmps[72]? = some (.pointer (some ⟨w.heap.size, 0, none⟩)) := (hv 51 72 rfl).trans (congrArg some h51)
      clear h51
      have h48 : (v 48) = .bool true := hd 48 (by kernel_rfl)
      have d48 : f.tmps[69]? = some (.bool true) := (hv 48 69 rfl).trans (congrArg some h48)
      clear h48
      clear hb hv hd
      have c := tc_keep hB kA
      refine wpOp_step rfl (fun K hK => ?_)
      go_simp
      exact hK _ _ ⟨_, rfl, Below.refl _ _, rfl, fun h => absurd h (by decide)⟩
    | 53, _ =>
      have h50 : (v 50) = .int .i64 m := hd 50 (by kernel_rfl)
      have d50 : f.tmps[71]? = some (.int .i64 m) := (hv 50 71 rfl).trans (congrArg some h50)
      clear h50
      have h52 : (v 52) = .int .i64 a0 := hd 52 (by kernel_rfl)
      have d52 : f.tmps[73]? = some (.int .i64 a0) := (hv 52 73 rfl).trans (congrArg some h52)
      clear h52
      have h48 : (v 48) = .bool true := hd 48 (by kernel_rfl)
      have d48 : f.tmps[69]? = some (.bool true) := (hv 48 69 rfl).trans (congrArg some h48)
      clear h48
      clear hb hv hd
      refine wpOp_step rfl (fun K hK => ?_)
      go_simp
      exact hK _ _ ⟨_, rfl, Below.refl _ _, rfl, fun h => absurd h (by decide)⟩
    | 54, _ =>
      have h53 : (v 53) = .bool true := hd 53 (by kernel_rfl)
      have d53 : f.tmps[74]? = some (.bool true) := (hv 53 74 rfl).trans (congrArg some h53)
      clear h53
      have h48 : (v 48) = .bool true := hd 48 (by kernel_rfl)
      have d48 : f.tmps[69]? = some (.bool true) := (hv 48 69 rfl).trans (congrArg some h48)
      clear h48
      clear hb hv hd
      refine wpOp_step rfl (fun K hK => ?_)
      go_simp
      exact hK _ _ ⟨_, rfl, Below.refl _ _, rfl, fun h => absurd h (by decide)⟩
    | 55, _ =>
      have b2 : f.tmps[2]? = some (.pointer (some ⟨w.heap.size, 0, none⟩)) := (hb 2 (by decide)).trans rfl
      have h54 : (v 54) = .bool true := hd 54 (by kernel_rfl)
      have d54 : f.tmps[75]? = some (.bool true) := (hv 54 75 rfl).trans (congrArg some h54)
      clear h54
      clear hb hv hd
      refine wpOp_step rfl (fun K hK => ?_)
      go_simp
      exact hK _ _ ⟨_, rfl, Below.refl _ _, rfl, fun h => absurd h (by decide)⟩
    | 56, _ =>
      have h55 : (v 55) = undef := hd 55 (by kernel_rfl)
      have d55 : f.tmps[76]? = some (undef) := (hv 55 76 rfl).trans (congrArg some h55)
      clear h55
      have h54 : (v 54) = .bool true := hd 54 (by kernel_rfl)
      have d54 : f.tmps[75]? = some (.bool true) := (hv 54 75 rfl).trans (congrArg some h54)
      clear h54
      clear hb hv hd
      refine wpOp_step rfl (fun K hK => ?_)
      go_simp
      exact hK _ _ ⟨_, rfl, Below.refl _ _, rfl, fun h => absurd h (by decide)⟩
    | 57, _ =>
      have b2 : f.tmps[2]? = some (.pointer (some ⟨w.heap.size, 0, none⟩)) := (hb 2 (by decide)).trans rfl
      have h54 : (v 54) = .bool true := hd 54 (by kernel_rfl)
      have d54 : f.tmps[75]? = some (.bool true) := (hv 54 75 rfl).trans (congrArg some h54)
      clear h54
      clear hb hv hd
      refine wpOp_step rfl (fun K hK => ?_)
      go_simp
      exact hK _ _ ⟨_, rfl, Below.refl _ _, rfl, fun h => absurd h (by decide)⟩
    | 58, _ =>
      have h57 : (v 57) = undef := hd 57 (by kernel_rfl)
      have d57 : f.tmps[78]? = some (undef) := (hv 57 78 rfl).trans (congrArg some h57)
      clear h57
      have h54 : (v 54) = .bool true := hd 54 (by kernel_rfl)
      have d54 : f.tmps[75]? = some (.bool true) := (hv 54 75 rfl).trans (congrArg some h54)
      clear h54
      clear hb hv hd
      refine wpOp_step rfl (fun K hK => ?_)
      go_simp
      exact hK _ _ ⟨_, rfl, Below.refl _ _, rfl, fun h => absurd h (by decide)⟩
    | 59, _ =>
      have h56 : (v 56) = undef := hd 56 (by kernel_rfl)
      have d56 : f.tmps[77]? = some (undef) := (hv 56 77 rfl).trans (congrArg some h56)
      clear h56
      have h58 : (v 58) = undef := hd 58 (by kernel_rfl)
      have d58 : f.tmps[79]? = some (undef) := (hv 58 79 rfl).trans (congrArg some h58)
      clear h58
      have h54 : (v 54) = .bool true := hd 54 (by kernel_rfl)
      have d54 : f.tmps[75]? = some (.bool true) := (hv 54 75 rfl).trans (congrArg some h54)
      clear h54
      clear hb hv hd
      refine wpOp_step rfl (fun K hK => ?_)
      go_simp
      exact hK _ _ ⟨_, rfl, Below.refl _ _, rfl, fun h => absurd h (by decide)⟩
    | 60, _ =>
      have h54 : (v 54) = .bool true := hd 54 (by kernel_rfl)
      have d54 : f.tmps[75]? = some (.bool true) := (hv 54 75 rfl).trans (congrArg some h54)
      clear h54
      have h59 : (v 59) = undef := hd 59 (by kernel_rfl)
      have d59 : f.tmps[80]? = some (undef) := (hv 59 80 rfl).trans (congrArg some h59)
      clear h59
      have h48 : (v 48) = .bool true := hd 48 (by kernel_rfl)
      have d48 : f.tmps[69]? = some (.bool true) := (hv 48 69 rfl).trans (congrArg some h48)
      clear h48
      clear hb hv hd
      refine wpOp_step rfl (fun K hK => ?_)
      go_simp
      exact hK _ _ ⟨_, rfl, Below.refl _ _, rfl, fun h => absurd h (by decide)⟩
    | 61, _ =>
      have h60 : (v 60) = .bool true := hd 60 (by kernel_rfl)
      have d60 : f.tmps[81]? = some (.bool true) := (hv 60 81 rfl).trans (congrArg some h60)
      clear h60
      have h48 : (v 48) = .bool true := hd 48 (by kernel_rfl)
      have d48 : f.tmps[69]? = some (.bool true) := (hv 48 69 rfl).trans (congrArg some h48)
      clear h48
      clear hb hv hd
      refine wpOp_step rfl (fun K hK => ?_)
      go_simp
      exact hK _ _ ⟨_, rfl, Below.refl _ _, rfl, fun h => absurd h (by decide)⟩
    | 62, _ =>
      have b2 : f.tmps[2]? = some (.pointer (some ⟨w.heap.size, 0, none⟩)) := (hb 2 (by decide)).trans rfl
      have h61 : (v 61) = .bool true := hd 61 (by kernel_rfl)
      have d61 : f.tmps[82]? = some (.bool true) := (hv 61 82 rfl).trans (congrArg some h61)
      clear h61
      clear hb hv hd
      refine wpOp_step rfl (fun K hK => ?_)
      go_simp
      exact hK _ _ ⟨_, rfl, Below.refl _ _, rfl, fun h => absurd h (by decide)⟩
    | 63, _ =>
      have h62 : (v 62) = undef := hd 62 (by kernel_rfl)
      have d62 : f.tmps[83]? = some (undef) := (hv 62 83 rfl).trans (congrArg some h62)
      clear h62
      have h61 : (v 61) = .bool true := hd 61 (by kernel_rfl)
      have d61 : f.tmps[82]? = some (.bool true) := (hv 61 82 rfl).trans (congrArg some h61)
      clear h61
      clear hb hv hd
      refine wpOp_step rfl (fun K hK => ?_)
      go_simp
      exact hK _ _ ⟨_, rfl, Below.refl _ _, rfl, fun h => absurd h (by decide)⟩
    | 64, _ =>
      have b2 : f.tmps[2]? = some (.pointer (some ⟨w.heap.size, 0, none⟩)) := (hb 2 (by decide)).trans rfl
      have h61 : (v 61) = .bool true := hd 61 (by kernel_rfl)
      have d61 : f.tmps[82]? = some (.bool true) := (hv 61 82 rfl).trans (congrArg some h61)
      clear h61
      clear hb hv hd
      refine wpOp_step rfl (fun K hK => ?_)
      go_simp
      exact hK _ _ ⟨_, rfl, Below.refl _ _, rfl, fun h => absurd h (by decide)⟩
    | 65, _ =>
      have h64 : (v 64) = undef := hd 64 (by kernel_rfl)
      have d64 : f.tmps[85]? = some (undef) := (hv 64 85 rfl).trans (congrArg some h64)
      clear h64
      have h61 : (v 61) = .bool true := hd 61 (by kernel_rfl)
      have d61 : f.tmps[82]? = some (.bool true) := (hv 61 82 rfl).trans (congrArg some h61)
      clear h61
      clear hb hv hd
      refine wpOp_step rfl (fun K hK => ?_)
      go_simp
      exact hK _ _ ⟨_, rfl, Below.refl _ _, rfl, fun h => absurd h (by decide)⟩
    | 66, _ =>
      have h63 : (v 63) = undef := hd 63 (by kernel_rfl)
      have d63 : f.tmps[84]? = some (undef) := (hv 63 84 rfl).trans (congrArg some h63)
      clear h63
      have h65 : (v 65) = undef := hd 65 (by kernel_rfl)
      have d65 : f.tmps[86]? = some (undef) := (hv 65 86 rfl).trans (congrArg some h65)
      clear h65
      have h61 : (v 61) = .bool true := hd 61 (by kernel_rfl)
      have d61 : f.tmps[82]? = some (.bool true) := (hv 61 82 rfl).trans (congrArg some h61)
      clear h61
      clear hb hv hd
      refine wpOp_step rfl (fun K hK => ?_)
      go_simp
      exact hK _ _ ⟨_, rfl, Below.refl _ _, rfl, fun h => absurd h (by decide)⟩
    | 67, _ =>
      have h61 : (v 61) = .bool true := hd 61 (by kernel_rfl)
      have d61 : f.tmps[82]? = some (.bool true) := (hv 61 82 rfl).trans (congrArg some h61)
      clear h61
      have h66 : (v 66) = undef := hd 66 (by kernel_rfl)
      have d66 : f.tmps[87]? = some (undef) := (hv 66 87 rfl).trans (congrArg some h66)
      clear h66
      have h48 : (v 48) = .bool true := hd 48 (by kernel_rfl)
      have d48 : f.tmps[69]? = some (.bool true) := (hv 48 69 rfl).trans (congrArg some h48)
      clear h48
      clear hb hv hd
      refine wpOp_step rfl (fun K hK => ?_)
      go_simp
      exact hK _ _ ⟨_, rfl, Below.refl _ _, rfl, fun h => absurd h (by decide)⟩
    | 68, _ =>
      have h48 : (v 48) = .bool true := hd 48 (by kernel_rfl)
      have d48 : f.tmps[69]? = some (.bool true) := (hv 48 69 rfl).trans (congrArg some h48)
      clear h48
      have h67 : (v 67) = .bool true := hd 67 (by kernel_rfl)
      have d67 : f.tmps[88]? = some (.bool true) := (hv 67 88 rfl).trans (congrArg some h67)
      clear h67
      clear hb hv hd
      refine wpOp_step rfl (fun K hK => ?_)
      go_simp
      exact hK _ _ ⟨_, rfl, Below.refl _ _, rfl, fun h => absurd h (by decide)⟩
    | k + 69, hk => exact absurd hk (by simp)
  · intro v w' hB hF hD
    have F0 : (v 0) = .bool true := hF 0 (by simp)
    have F1 : (v 1) = .bool true := hF 1 (by simp)
    have F2 : (v 2) = tv x0 x1 x2 := hF 2 (by simp)
    have F3 : (v 3) = tv x0 x1 x2 := hF 3 (by simp)
    have F4 : (v 4) = .bool true := hF 4 (by simp)
    have F5 : (v 5) = .bool true := hF 5 (by simp)
    have F6 : (v 6) = .bool true := hF 6 (by simp)
    have F7 : (v 7) = .int .i64 xe := hF 7 (by simp)
    have F8 : (v 8) = .int .i64 xe := hF 8 (by simp)
    have F9 : (v 9) = .bool true := hF 9 (by simp)
    have F10 : (v 10) = .bool true := hF 10 (by simp)
    have F11 : (v 11) = .bool true := hF 11 (by simp)
    have F12 : (v 12) = tv a0 a1 a2 := hF 12 (by simp)
    have F13 : (v 13) = tv b0 b1 b2 := hF 13 (by simp)
    have F14 : (v 14) = tv y0 y1 y2 := hF 14 (by simp)
    have F15 : (v 15) = tv a0 a1 a2 := hF 15 (by simp)
    have F16 : (v 16) = tv b0 b1 b2 := hF 16 (by simp)
    have F17 : (v 17) = tv y0 y1 y2 := hF 17 (by simp)
    have F18 : (v 18) = .bool true := hF 18 (by simp)
    have F19 : (v 19) = .bool true := hF 19 (by simp)
    have F20 : (v 20) = .bool true := hF 20 (by simp)
    have F21 : (v 21) = tv a0 a1 a2 := hF 21 (by simp)
    have F22 : (v 22) = .bool fb := hF 22 (by simp)
    have F23 : (v 23) = tv a0 a1 a2 := hF 23 (by simp)
    have F24 : (v 24) = .bool fb := hF 24 (by simp)
    have F25 : (v 25) = .bool true := hF 25 (by simp)
    have F26 : (v 26) = .bool true := hF 26 (by simp)
    have F27 : (v 27) = .bool true := hF 27 (by simp)
    have F28 : (v 28) = tv a0 a1 a2 := hF 28 (by simp)
    have F29 : (v 29) = .int .i64 m := hF 29 (by simp)
    have F30 : (v 30) = .pointer (some ⟨w.heap.size, 0, none⟩) := hF 30 (by simp)
    have F31 : (v 31) = .int .i64 a0 := hF 31 (by simp)
    have F32 : (v 32) = .bool true := hF 32 (by simp)
    have F33 : (v 33) = .bool true := hF 33 (by simp)
    have F34 : (v 34) = .bool true := hF 34 (by simp)
    have F35 : (v 35) = tv a0 a1 a2 := hF 35 (by simp)
    have F36 : (v 36) = .int .i64 m := hF 36 (by simp)
    have F37 : (v 37) = .pointer (some ⟨w.heap.size, 1, none⟩) := hF 37 (by simp)
    have F38 : (v 38) = .int .i64 a1 := hF 38 (by simp)
    have F39 : (v 39) = .bool true := hF 39 (by simp)
    have F40 : (v 40) = .bool true := hF 40 (by simp)
    have F41 : (v 41) = .bool true := hF 41 (by simp)
    have F42 : (v 42) = tv a0 a1 a2 := hF 42 (by simp)
    have F43 : (v 43) = .int .i64 m := hF 43 (by simp)
    have F44 : (v 44) = .pointer (some ⟨w.heap.size, 2, none⟩) := hF 44 (by simp)
    have F45 : (v 45) = .int .i64 a2 := hF 45 (by simp)
    have F46 : (v 46) = .bool true := hF 46 (by simp)
    have F47 : (v 47) = .bool true := hF 47 (by simp)
    have F48 : (v 48) = .bool true := hF 48 (by simp)
    have F49 : (v 49) = tv a0 a1 a2 := hF 49 (by simp)
    have F50 : (v 50) = .int .i64 m := hF 50 (by simp)
    have F51 : (v 51) = .pointer (some ⟨w.heap.size, 0, none⟩) := hF 51 (by simp)
    have F52 : (v 52) = .int .i64 a0 := hF 52 (by simp)
    have F53 : (v 53) = .bool true := hF 53 (by simp)
    have F54 : (v 54) = .bool true := hF 54 (by simp)
    have F55 : (v 55) = undef := hF 55 (by simp)
    have F56 : (v 56) = undef := hF 56 (by simp)
    have F57 : (v 57) = undef := hF 57 (by simp)
    have F58 : (v 58) = undef := hF 58 (by simp)
    have F59 : (v 59) = undef := hF 59 (by simp)
    have F60 : (v 60) = .bool true := hF 60 (by simp)
    have F61 : (v 61) = .bool true := hF 61 (by simp)
    have F62 : (v 62) = undef := hF 62 (by simp)
    have F63 : (v 63) = undef := hF 63 (by simp)
    have F64 : (v 64) = undef := hF 64 (by simp)
    have F65 : (v 65) = undef := hF 65 (by simp)
    have F66 : (v 66) = undef := hF 66 (by simp)
    have F67 : (v 67) = .bool true := hF 67 (by simp)
    have F68 : (v 68) = .bool true := hF 68 (by simp)
    clear hF
    simp only [frOf, frGo, Nat.zero_add, Nat.reduceAdd, F0, F1, F2, F3, F4, F5, F6, F7, F8, F9, F10, F11, F12, F13, F14, F15, F16, F17, F18, F19, F20, F21, F22, F23, F24, F25, F26, F27, F28, F29, F30, F31, F32, F33, F34, F35, F36, F37, F38, F39, F40, F41, F42, F43, F44, F45, F46, F47, F48, F49, F50, F51, F52, F53, F54, F55, F56, F57, F58, F59, F60, F61, F62, F63, F64, F65, F66, F67, F68]
    replace B0 := b_trans B0 hB
    clear F0 F1 F2 F3 F4 F5 F6 F7 F8 F9 F10 F11 F12 F13 F14 F15 F16 F17 F18 F19 F20 F21 F22 F23 F24 F25 F26 F27 F28 F29 F30 F31 F32 F33 F34 F35 F36 F37 F38 F39 F40 F41 F42 F43 F44 F45 F46 F47 F48 F49 F50 F51 F52 F53 F54 F55 F56 F57 F58 F59 F60 F61 F62 F63 F64 F65 F66 F67 F68 hD hB kA kB kx ky c3 c4 c5 c6 c7
    go_wp2
    go_ret
    exact ⟨rfl, B0⟩

set_option maxHeartbeats 8000000 in
set_option maxRecDepth 10000 in
theorem vecSums_1 (a0 a1 a2 b0 b1 b2 x0 x1 x2 xe y0 y1 y2 m : Int) (fb : Bool)
    (c1 : ∀ w, Calls Try.prog 6 #[tv a0 a1 a2, tv b0 b1 b2] w (RetV (.tuple #[tv x0 x1 x2, .int .i64 xe]) w))
    (c2 : ∀ w, Calls Try.prog 7 #[tv a0 a1 a2, tv b0 b1 b2] w (RetV (.tuple #[tv x0 x1 x2, .int .i64 xe]) w))
    (c3 : ∀ w, Calls Try.prog 9 #[tv a0 a1 a2, tv b0 b1 b2] w (RetV (tv y0 y1 y2) w)) (c4 : ∀ w, Calls Try.prog 10 #[tv a0 a1 a2, tv b0 b1 b2] w (RetV (tv y0 y1 y2) w))
    (c5 : ∀ w, Calls Try.prog 11 #[tv a0 a1 a2] w (RetV (.bool fb) w)) (c6 : ∀ w, Calls Try.prog 12 #[tv a0 a1 a2] w (RetV (.bool fb) w))
    (c7 : ∀ w, Calls Try.prog 13 #[tv a0 a1 a2] w (RetV (.int .i64 m) w)) (l0 : m ≤ a0) (l1 : m ≤ a1) (l2 : m ≤ a2) (n1 : (m == a0) = false) (n2 : (m == a1) = true) (w : World) :
    Calls Try.prog 3 #[tv a0 a1 a2, tv b0 b1 b2] w (RetV (.bool true) w) := by
  have kA : TC ((w.alloc (Obj.cells #[.int .i64 a0, .int .i64 a1, .int .i64 a2] 23)).alloc (Obj.cells #[.int .i64 b0, .int .i64 b1, .int .i64 b2] 23)) (w.heap.size) a0 a1 a2 := tc_alloc (tc_new rfl)
  have kB : TC ((w.alloc (Obj.cells #[.int .i64 a0, .int .i64 a1, .int .i64 a2] 23)).alloc (Obj.cells #[.int .i64 b0, .int .i64 b1, .int .i64 b2] 23)) (w.heap.size + 1) b0 b1 b2 := tc_new (by simp)
  have B0 : Below w.heap.size w ((w.alloc (Obj.cells #[.int .i64 a0, .int .i64 a1, .int .i64 a2] 23)).alloc (Obj.cells #[.int .i64 b0, .int .i64 b1, .int .i64 b2] 23)) := b_alloc (b_alloc (Below.refl _ _))
  go_enter Try.func3, Try.ntmps3
  go_wp2_with fail
  refine (c1 _).mono ?_
  rintro ew1 w1 ⟨rfl, hb9⟩
  replace kA := tc_keep hb9 kA
  replace kB := tc_keep hb9 kB
  replace B0 := b_trans B0 hb9
  clear hb9
  have kx : TC (w1.alloc (Obj.cells #[.int .i64 x0, .int .i64 x1, .int .i64 x2] 23)) w1.heap.size x0 x1 x2 := tc_new rfl
  replace kA := tc_alloc (o := (Obj.cells #[.int .i64 x0, .int .i64 x1, .int .i64 x2] 23)) kA
  replace kB := tc_alloc (o := (Obj.cells #[.int .i64 x0, .int .i64 x1, .int .i64 x2] 23)) kB
  replace B0 := b_alloc (o := (Obj.cells #[.int .i64 x0, .int .i64 x1, .int .i64 x2] 23)) B0
  go_wp2_with fail
  refine (c2 _).mono ?_
  rintro ew2 w2 ⟨rfl, hb9⟩
  replace kA := tc_keep hb9 kA
  replace kB := tc_keep hb9 kB
  replace kx := tc_keep hb9 kx
  replace B0 := b_trans B0 hb9
  clear hb9
  have ky : TC (w2.alloc (Obj.cells #[.int .i64 x0, .int .i64 x1, .int .i64 x2] 23)) w2.heap.size x0 x1 x2 := tc_new rfl
  replace kA := tc_alloc (o := (Obj.cells #[.int .i64 x0, .int .i64 x1, .int .i64 x2] 23)) kA
  replace kB := tc_alloc (o := (Obj.cells #[.int .i64 x0, .int .i64 x1, .int .i64 x2] 23)) kB
  replace kx := tc_alloc (o := (Obj.cells #[.int .i64 x0, .int .i64 x1, .int .i64 x2] 23)) kx
  replace B0 := b_alloc (o := (Obj.cells #[.int .i64 x0, .int .i64 x1, .int .i64 x2] 23)) B0
  clear c1 c2
  go_wp2
  generalize w2.alloc (Obj.cells #[.int .i64 x0, .int .i64 x1, .int .i64 x2] 23) = W1 at *
  refine region_each [21, 22, 23, 24, 25, 26, 27, 28, 29, 30, 31, 32, 33, 34, 35, 36, 37, 38, 39, 40, 41, 42, 43, 44, 45, 46, 47, 48, 49, 50, 51, 52, 53, 54, 55, 56, 57, 58, 59, 60, 61, 62, 63, 64, 65, 66, 67, 68, 69, 70, 71, 72, 73, 74, 75, 76, 77, 78, 79, 80, 81, 82, 83, 84, 85, 86, 87, 88, 89] (fun i X_ U_ => match i with | 0 => X_ = .bool true | 1 => X_ = .bool true | 2 => X_ = tv x0 x1 x2 | 3 => X_ = tv x0 x1 x2 | 4 => X_ = .bool true | 5 => X_ = .bool true | 6 => X_ = .bool true | 7 => X_ = .int .i64 xe | 8 => X_ = .int .i64 xe | 9 => X_ = .bool true | 10 => X_ = .bool true | 11 => X_ = .bool true | 12 => X_ = tv a0 a1 a2 | 13 => X_ = tv b0 b1 b2 | 14 => X_ = tv y0 y1 y2 | 15 => X_ = tv a0 a1 a2 | 16 => X_ = tv b0 b1 b2 | 17 => X_ = tv y0 y1 y2 | 18 => X_ = .bool true | 19 => X_ = .bool true | 20 => X_ = .bool true | 21 => X_ = tv a0 a1 a2 | 22 => X_ = .bool fb | 23 => X_ = tv a0 a1 a2 | 24 => X_ = .bool fb | 25 => X_ = .bool true | 26 => X_ = .bool true | 27 => X_ = .bool true | 28 => X_ = tv a0 a1 a2 | 29 => X_ = .int .i64 m | 30 => X_ = .pointer (some ⟨w.heap.size, 0, none⟩) | 31 => X_ = .int .i64 a0 | 32 => X_ = .bool true | 33 => X_ = .bool true | 34 => X_ = .bool true | 35 => X_ = tv a0 a1 a2 | 36 => X_ = .int .i64 m | 37 => X_ = .pointer (some ⟨w.heap.size, 1, none⟩) | 38 => X_ = .int .i64 a1 | 39 => X_ = .bool true | 40 => X_ = .bool true | 41 => X_ = .bool true | 42 => X_ = tv a0 a1 a2 | 43 => X_ = .int .i64 m | 44 => X_ = .pointer (some ⟨w.heap.size, 2, none⟩) | 45 => X_ = .int .i64 a2 | 46 => X_ = .bool true | 47 => X_ = .bool true | 48 => X_ = .bool true | 49 => X_ = tv a0 a1 a2 | 50 => X_ = .int .i64 m | 51 => X_ = .pointer (some ⟨w.heap.size, 0, none⟩) | 52 => X_ = .int .i64 a0 | 53 => X_ = .bool false | 54 => X_ = .bool false | 55 => X_ = tv a0 a1 a2 | 56 => X_ = .int .i64 m | 57 => X_ = .pointer (some ⟨w.heap.size, 1, none⟩) | 58 => X_ = .int .i64 a1 | 59 => X_ = .bool true | 60 => X_ = .bool true | 61 => X_ = .bool true | 62 => X_ = undef | 63 => X_ = undef | 64 => X_ = undef | 65 => X_ = undef | 66 => X_ = undef | 67 => X_ = .bool true | 68 => X_ = .bool true | _ => True) (fun i => false) (by kernel_rfl) (by kernel_rfl) (by kernel_rfl) (by kernel_rfl) (by kernel_rfl) ?_ ?_ ?_ ?_
  · intro i x w w' hi h hb
    match i, hi with
    | 0, _ => exact h
    | 1, _ => exact h
    | 2, _ => exact h
    | 3, _ => exact h
    | 4, _ => exact h
    | 5, _ => exact h
    | 6, _ => exact h
    | 7, _ => exact h
    | 8, _ => exact h
    | 9, _ => exact h
    | 10, _ => exact h
    | 11, _ => exact h
    | 12, _ => exact h
    | 13, _ => exact h
    | 14, _ => exact h
    | 15, _ => exact h
    | 16, _ => exact h
    | 17, _ => exact h
    | 18, _ => exact h
    | 19, _ => exact h
    | 20, _ => exact h
    | 21, _ => exact h
    | 22, _ => exact h
    | 23, _ => exact h
    | 24, _ => exact h
    | 25, _ => exact h
    | 26, _ => exact h
    | 27, _ => exact h
    | 28, _ => exact h
    | 29, _ => exact h
    | 30, _ => exact h
    | 31, _ => exact h
    | 32, _ => exact h
    | 33, _ => exact h
    | 34, _ => exact h
    | 35, _ => exact h
    | 36, _ => exact h
    | 37, _ => exact h
    | 38, _ => exact h
    | 39, _ => exact h
    | 40, _ => exact h
    | 41, _ => exact h
    | 42, _ => exact h
    | 43, _ => exact h
    | 44, _ => exact h
    | 45, _ => exact h
    | 46, _ => exact h
    | 47, _ => exact h
    | 48, _ => exact h
    | 49, _ => exact h
    | 50, _ => exact h
    | 51, _ => exact h
    | 52, _ => exact h
    | 53, _ => exact h
    | 54, _ => exact h
    | 55, _ => exact h
    | 56, _ => exact h
    | 57, _ => exact h
    | 58, _ => exact h
    | 59, _ => exact h
    | 60, _ => exact h
    | 61, _ => exact h
    | 62, _ => exact h
    | 63, _ => exact h
    | 64, _ => exact h
    | 65, _ => exact h
    | 66, _ => exact h
    | 67, _ => exact h
    | 68, _ => exact h
    | k + 69, hk => exact absurd hk (by simp)
  · intro i x w hi ha h
    cases ha
  · intro i hi v f w' hb hv hB hd
    match i, hi with
    | 0, _ =>
      clear hb hv hd
      refine wpOp_step rfl (fun K hK => ?_)
      go_simp
      refine (fixed_vec _).mono ?_
      rintro e5 w5 ⟨rfl, hb5⟩
      exact hK _ _ ⟨_, rfl, hb5, rfl, fun h => absurd h (by decide)⟩
    | 1, _ =>
      have h0 : (v 0) = .bool true := hd 0 (by kernel_rfl)
      have d0 : f.tmps[21]? = some (.bool true) := (hv 0 21 rfl).trans (congrArg some h0)
      clear h0
      clear hb hv hd
      refine wpOp_step rfl (fun K hK => ?_)
      go_simp
      exact hK _ _ ⟨_, rfl, Below.refl _ _, rfl, fun h => absurd h (by decide)⟩
    | 2, _ =>
      have b5 : f.tmps[5]? = some (.pointer (some ⟨w1.heap.size, 0, none⟩)) := (hb 5 (by decide)).trans rfl
      have h1 : (v 1) = .bool true := hd 1 (by kernel_rfl)
      have d1 : f.tmps[22]? = some (.bool true) := (hv 1 22 rfl).trans (congrArg some h1)
      clear h1
      clear hb hv hd
      have c := tc_keep hB kx
      refine wpOp_step rfl (fun K hK => ?_)
      go_simp
      exact hK _ _ ⟨_, rfl, Below.refl _ _, rfl, fun h => absurd h (by decide)⟩
    | 3, _ =>
      have b7 : f.tmps[7]? = some (.pointer (some ⟨w2.heap.size, 0, none⟩)) := (hb 7 (by decide)).trans rfl
      have h1 : (v 1) = .bool true := hd 1 (by kernel_rfl)
      have d1 : f.tmps[22]? = some (.bool true) := (hv 1 22 rfl).trans (congrArg some h1)
      clear h1
      clear hb hv hd
      have c := tc_keep hB ky
      refine wpOp_step rfl (fun K hK => ?_)
      go_simp
      exact hK _ _ ⟨_, rfl, Below.refl _ _, rfl, fun h => absurd h (by decide)⟩
    | 4, _ =>
      have h2 : (v 2) = tv x0 x1 x2 := hd 2 (by kernel_rfl)
      have d2 : f.tmps[23]? = some (tv x0 x1 x2) := (hv 2 23 rfl).trans (congrArg some h2)
      clear h2
      have h3 : (v 3) = tv x0 x1 x2 := hd 3 (by kernel_rfl)
      have d3 : f.tmps[24]? = some (tv x0 x1 x2) := (hv 3 24 rfl).trans (congrArg some h3)
      clear h3
      have h1 : (v 1) = .bool true := hd 1 (by kernel_rfl)
      have d1 : f.tmps[22]? = some (.bool true) := (hv 1 22 rfl).trans (congrArg some h1)
      clear h1
      clear hb hv hd
      have hve := vec_eq_self
      refine wpOp_step rfl (fun K hK => ?_)
      go_simp
      exact hK _ _ ⟨_, rfl, Below.refl _ _, rfl, fun h => absurd h (by decide)⟩
    | 5, _ =>
      have h1 : (v 1) = .bool true := hd 1 (by kernel_rfl)
      have d1 : f.tmps[22]? = some (.bool true) := (hv 1 22 rfl).trans (congrArg some h1)
      clear h1
      have h4 : (v 4) = .bool true := hd 4 (by kernel_rfl)
      have d4 : f.tmps[25]? = some (.bool true) := (hv 4 25 rfl).trans (congrArg some h4)
      clear h4
      clear hb hv hd
      refine wpOp_step rfl (fun K hK => ?_)
      go_simp
      exact hK _ _ ⟨_, rfl, Below.refl _ _, rfl, fun h => absurd h (by decide)⟩
    | 6, _ =>
      have h5 : (v 5) = .bool true := hd 5 (by kernel_rfl)
      have d5 : f.tmps[26]? = some (.bool true) := (hv 5 26 rfl).trans (congrArg some h5)
      clear h5
      clear hb hv hd
      refine wpOp_step rfl (fun K hK => ?_)
      go_simp
      exact hK _ _ ⟨_, rfl, Below.refl _ _, rfl, fun h => absurd h (by decide)⟩
    | 7, _ =>
      have b6 : f.tmps[6]? = some (.int .i64 xe) := (hb 6 (by decide)).trans rfl
      have h6 : (v 6) = .bool true := hd 6 (by kernel_rfl)
      have d6 : f.tmps[27]? = some (.bool true) := (hv 6 27 rfl).trans (congrArg some h6)
      clear h6
      clear hb hv hd
      refine wpOp_step rfl (fun K hK => ?_)
      go_simp
      exact hK _ _ ⟨_, rfl, Below.refl _ _, rfl, fun h => absurd h (by decide)⟩
    | 8, _ =>
      have b8 : f.tmps[8]? = some (.int .i64 xe) := (hb 8 (by decide)).trans rfl
      have h6 : (v 6) = .bool true := hd 6 (by kernel_rfl)
      have d6 : f.tmps[27]? = some (.bool true) := (hv 6 27 rfl).trans (congrArg some h6)
      clear h6
      clear hb hv hd
      refine wpOp_step rfl (fun K hK => ?_)
      go_simp
      exact hK _ _ ⟨_, rfl, Below.refl _ _, rfl, fun h => absurd h (by decide)⟩
    | 9, _ =>
      have h7 : (v 7) = .int .i64 xe := hd 7 (by kernel_rfl)
      have d7 : f.tmps[28]? = some (.int .i64 xe) := (hv 7 28 rfl).trans (congrArg some h7)
      clear h7
      have h8 : (v 8) = .int .i64 xe := hd 8 (by kernel_rfl)
      have d8 : f.tmps[29]? = some (.int .i64 xe) := (hv 8 29 rfl).trans (congrArg some h8)
      clear h8
      have h6 : (v 6) = .bool true := hd 6 (by kernel_rfl)
      have d6 : f.tmps[27]? = some (.bool true) := (hv 6 27 rfl).trans (congrArg some h6)
      clear h6
      clear hb hv hd
      refine wpOp_step rfl (fun K hK => ?_)
      go_simp
      exact hK _ _ ⟨_, rfl, Below.refl _ _, rfl, fun h => absurd h (by decide)⟩
    | 10, _ =>
      have h6 : (v 6) = .bool true := hd 6 (by kernel_rfl)
      have d6 : f.tmps[27]? = some (.bool true) := (hv 6 27 rfl).trans (congrArg some h6)
      clear h6
      have h9 : (v 9) = .bool true := hd 9 (by kernel_rfl)
      have d9 : f.tmps[30]? = some (.bool true) := (hv 9 30 rfl).trans (congrArg some h9)
      clear h9
      clear hb hv hd
      refine wpOp_step rfl (fun K hK => ?_)
      go_simp
      exact hK _ _ ⟨_, rfl, Below.refl _ _, rfl, fun h => absurd h (by decide)⟩
    | 11, _ =>
      have h10 : (v 10) = .bool true := hd 10 (by kernel_rfl)
      have d10 : f.tmps[31]? = some (.bool true) := (hv 10 31 rfl).trans (congrArg some h10)
      clear h10
      clear hb hv hd
      refine wpOp_step rfl (fun K hK => ?_)
      go_simp
      exact hK _ _ ⟨_, rfl, Below.refl _ _, rfl, fun h => absurd h (by decide)⟩
    | 12, _ =>
      have b2 : f.tmps[2]? = some (.pointer (some ⟨w.heap.size, 0, none⟩)) := (hb 2 (by decide)).trans rfl
      have h11 : (v 11) = .bool true := hd 11 (by kernel_rfl)
      have d11 : f.tmps[32]? = some (.bool true) := (hv 11 32 rfl).trans (congrArg some h11)
      clear h11
      clear hb hv hd
      have c := tc_keep hB kA
      refine wpOp_step rfl (fun K hK => ?_)
      go_simp
      exact hK _ _ ⟨_, rfl, Below.refl _ _, rfl, fun h => absurd h (by decide)⟩
    | 13, _ =>
      have b3 : f.tmps[3]? = some (.pointer (some ⟨w.heap.size + 1, 0, none⟩)) := (hb 3 (by decide)).trans rfl
      have h11 : (v 11) = .bool true := hd 11 (by kernel_rfl)
      have d11 : f.tmps[32]? = some (.bool true) := (hv 11 32 rfl).trans (congrArg some h11)
      clear h11
      clear hb hv hd
      have c := tc_keep hB kB
      refine wpOp_step rfl (fun K hK => ?_)
      go_simp
      exact hK _ _ ⟨_, rfl, Below.refl _ _, rfl, fun h => absurd h (by decide)⟩
    | 14, _ =>
      have h12 : (v 12) = tv a0 a1 a2 := hd 12 (by kernel_rfl)
      have d12 : f.tmps[33]? = some (tv a0 a1 a2) := (hv 12 33 rfl).trans (congrArg some h12)
      clear h12
      have h13 : (v 13) = tv b0 b1 b2 := hd 13 (by kernel_rfl)
      have d13 : f.tmps[34]? = some (tv b0 b1 b2) := (hv 13 34 rfl).trans (congrArg some h13)
      clear h13
      have h11 : (v 11) = .bool true := hd 11 (by kernel_rfl)
      have d11 : f.tmps[32]? = some (.bool true) := (hv 11 32 rfl).trans (congrArg some h11)
      clear h11
      clear hb hv hd
      refine wpOp_step rfl (fun K hK => ?_)
      go_simp
      refine (c3 _).mono ?_
      rintro e5 w5 ⟨rfl, hb5⟩
      exact hK _ _ ⟨_, rfl, hb5, rfl, fun h => absurd h (by decide)⟩
    | 15, _ =>
      have b2 : f.tmps[2]? = some (.pointer (some ⟨w.heap.size, 0, none⟩)) := (hb 2 (by decide)).trans rfl
      have h11 : (v 11) = .bool true := hd 11 (by kernel_rfl)
      have d11 : f.tmps[32]? = some (.bool true) := (hv 11 32 rfl).trans (congrArg some h11)
      clear h11
      clear hb hv hd
      have c := tc_keep hB kA
      refine wpOp_step rfl (fun K hK => ?_)
      go_simp
      exact hK _ _ ⟨_, rfl, Below.refl _ _, rfl, fun h => absurd h (by decide)⟩
    | 16, _ =>
      have b3 : f.tmps[3]? = some (.pointer (some ⟨w.heap.size + 1, 0, none⟩)) := (hb 3 (by decide)).trans rfl
      have h11 : (v 11) = .bool true := hd 11 (by kernel_rfl)
      have d11 : f.tmps[32]? = some (.bool true) := (hv 11 32 rfl).trans (congrArg some h11)
      clear h11
      clear hb hv hd
      have c := tc_keep hB kB
      refine wpOp_step rfl (fun K hK => ?_)
      go_simp
      exact hK _ _ ⟨_, rfl, Below.refl _ _, rfl, fun h => absurd h (by decide)⟩
    | 17, _ =>
      have h15 : (v 15) = tv a0 a1 a2 := hd 15 (by kernel_rfl)
      have d15 : f.tmps[36]? = some (tv a0 a1 a2) := (hv 15 36 rfl).trans (congrArg some h15)
      clear h15
      have h16 : (v 16) = tv b0 b1 b2 := hd 16 (by kernel_rfl)
      have d16 : f.tmps[37]? = some (tv b0 b1 b2) := (hv 16 37 rfl).trans (congrArg some h16)
      clear h16
      have h11 : (v 11) = .bool true := hd 11 (by kernel_rfl)
      have d11 : f.tmps[32]? = some (.bool true) := (hv 11 32 rfl).trans (congrArg some h11)
      clear h11
      clear hb hv hd
      refine wpOp_step rfl (fun K hK => ?_)
      go_simp
      refine (c4 _).mono ?_
      rintro e5 w5 ⟨rfl, hb5⟩
      exact hK _ _ ⟨_, rfl, hb5, rfl, fun h => absurd h (by decide)⟩
    | 18, _ =>
      have h14 : (v 14) = tv y0 y1 y2 := hd 14 (by kernel_rfl)
      have d14 : f.tmps[35]? = some (tv y0 y1 y2) := (hv 14 35 rfl).trans (congrArg some h14)
      clear h14
      have h17 : (v 17) = tv y0 y1 y2 := hd 17 (by kernel_rfl)
      have d17 : f.tmps[38]? = some (tv y0 y1 y2) := (hv 17 38 rfl).trans (congrArg some h17)
      clear h17
      have h11 : (v 11) = .bool true := hd 11 (by kernel_rfl)
      have d11 : f.tmps[32]? = some (.bool true) := (hv 11 32 rfl).trans (congrArg some h11)
      clear h11
      clear hb hv hd
      have hve := vec_eq_self
      refine wpOp_step rfl (fun K hK => ?_)
      go_simp
      exact hK _ _ ⟨_, rfl, Below.refl _ _, rfl, fun h => absurd h (by decide)⟩
    | 19, _ =>
      have h11 : (v 11) = .bool true := hd 11 (by kernel_rfl)
      have d11 : f.tmps[32]? = some (.bool true) := (hv 11 32 rfl).trans (congrArg some h11)
      clear h11
      have h18 : (v 18) = .bool true := hd 18 (by kernel_rfl)
      have d18 : f.tmps[39]? = some (.bool true) := (hv 18 39 rfl).trans (congrArg some h18)
      clear h18
      clear hb hv hd
      refine wpOp_step rfl (fun K hK => ?_)
      go_simp
      exact hK _ _ ⟨_, rfl, Below.refl _ _, rfl, fun h => absurd h (by decide)⟩
    | 20, _ =>
      have h19 : (v 19) = .bool true := hd 19 (by kernel_rfl)
      have d19 : f.tmps[40]? = some (.bool true) := (hv 19 40 rfl).trans (congrArg some h19)
      clear h19
      clear hb hv hd
      refine wpOp_step rfl (fun K hK => ?_)
      go_simp
      exact hK _ _ ⟨_, rfl, Below.refl _ _, rfl, fun h => absurd h (by decide)⟩
    | 21, _ =>
      have b2 : f.tmps[2]? = some (.pointer (some ⟨w.heap.size, 0, none⟩)) := (hb 2 (by decide)).trans rfl
      have h20 : (v 20) = .bool true := hd 20 (by kernel_rfl)
      have d20 : f.tmps[41]? = some (.bool true) := (hv 20 41 rfl).trans (congrArg some h20)
      clear h20
      clear hb hv hd
      have c := tc_keep hB kA
      refine wpOp_step rfl (fun K hK => ?_)
      go_simp
      exact hK _ _ ⟨_, rfl, Below.refl _ _, rfl, fun h => absurd h (by decide)⟩
    | 22, _ =>
      have h21 : (v 21) = tv a0 a1 a2 := hd 21 (by kernel_rfl)
      have d21 : f.tmps[42]? = some (tv a0 a1 a2) := (hv 21 42 rfl).trans (congrArg some h21)
      clear h21
      have h20 : (v 20) = .bool true := hd 20 (by kernel_rfl)
      have d20 : f.tmps[41]? = some (.bool true) := (hv 20 41 rfl).trans (congrArg some h20)
      clear h20
      clear hb hv hd
      refine wpOp_step rfl (fun K hK => ?_)
      go_simp
      refine (c5 _).mono ?_
      rintro e5 w5 ⟨rfl, hb5⟩
      exact hK _ _ ⟨_, rfl, hb5, rfl, fun h => absurd h (by decide)⟩
    | 23, _ =>
      have b2 : f.tmps[2]? = some (.pointer (some ⟨w.heap.size, 0, none⟩)) := (hb 2 (by decide)).trans rfl
      have h20 : (v 20) = .bool true := hd 20 (by kernel_rfl)
      have d20 : f.tmps[41]? = some (.bool true) := (hv 20 41 rfl).trans (congrArg some h20)
      clear h20
      clear hb hv hd
      have c := tc_keep hB kA
      refine wpOp_step rfl (fun K hK => ?_)
      go_simp
      exact hK _ _ ⟨_, rfl, Below.refl _ _, rfl, fun h => absurd h (by decide)⟩
    | 24, _ =>
      have h23 : (v 23) = tv a0 a1 a2 := hd 23 (by kernel_rfl)
      have d23 : f.tmps[44]? = some (tv a0 a1 a2) := (hv 23 44 rfl).trans (congrArg some h23)
      clear h23
      have h20 : (v 20) = .bool true := hd 20 (by kernel_rfl)
      have d20 : f.tmps[41]? = some (.bool true) := (hv 20 41 rfl).trans (congrArg some h20)
      clear h20
      clear hb hv hd
      refine wpOp_step rfl (fun K hK => ?_)
      go_simp
      refine (c6 _).mono ?_
      rintro e5 w5 ⟨rfl, hb5⟩
      exact hK _ _ ⟨_, rfl, hb5, rfl, fun h => absurd h (by decide)⟩
    | 25, _ =>
      have h22 : (v 22) = .bool fb := hd 22 (by kernel_rfl)
      have d22 : f.tmps[43]? = some (.bool fb) := (hv 22 43 rfl).trans (congrArg some h22)
      clear h22
      have h24 : (v 24) = .bool fb := hd 24 (by kernel_rfl)
      have d24 : f.tmps[45]? = some (.bool fb) := (hv 24 45 rfl).trans (congrArg some h24)
      clear h24
      have h20 : (v 20) = .bool true := hd 20 (by kernel_rfl)
      have d20 : f.tmps[41]? = some (.bool true) := (hv 20 41 rfl).trans (congrArg some h20)
      clear h20
      clear hb hv hd
      refine wpOp_step rfl (fun K hK => ?_)
      go_simp
      exact hK _ _ ⟨_, rfl, Below.refl _ _, rfl, fun h => absurd h (by decide)⟩
    | 26, _ =>
      have h20 : (v 20) = .bool true := hd 20 (by kernel_rfl)
      have d20 : f.tmps[41]? = some (.bool true) := (hv 20 41 rfl).trans (congrArg some h20)
      clear h20
      have h25 : (v 25) = .bool true := hd 25 (by kernel_rfl)
      have d25 : f.tmps[46]? = some (.bool true) := (hv 25 46 rfl).trans (congrArg some h25)
      clear h25
      clear hb hv hd
      refine wpOp_step rfl (fun K hK => ?_)
      go_simp
      exact hK _ _ ⟨_, rfl, Below.refl _ _, rfl, fun h => absurd h (by decide)⟩
    | 27, _ =>
      have h26 : (v 26) = .bool true := hd 26 (by kernel_rfl)
      have d26 : f.tmps[47]? = some (.bool true) := (hv 26 47 rfl).trans (congrArg some h26)
      clear h26
      clear hb hv hd
      refine wpOp_step rfl (fun K hK => ?_)
      go_simp
      exact hK _ _ ⟨_, rfl, Below.refl _ _, rfl, fun h => absurd h (by decide)⟩
    | 28, _ =>
      have b2 : f.tmps[2]? = some (.pointer (some ⟨w.heap.size, 0, none⟩)) := (hb 2 (by decide)).trans rfl
      have h27 : (v 27) = .bool true := hd 27 (by kernel_rfl)
      have d27 : f.tmps[48]? = some (.bool true) := (hv 27 48 rfl).trans (congrArg some h27)
      clear h27
      clear hb hv hd
      have c := tc_keep hB kA
      refine wpOp_step rfl (fun K hK => ?_)
      go_simp
      exact hK _ _ ⟨_, rfl, Below.refl _ _, rfl, fun h => absurd h (by decide)⟩
    | 29, _ =>
      have h28 : (v 28) = tv a0 a1 a2 := hd 28 (by kernel_rfl)
      have d28 : f.tmps[49]? = some (tv a0 a1 a2) := (hv 28 49 rfl).trans (congrArg some h28)
      clear h28
      have h27 : (v 27) = .bool true := hd 27 (by kernel_rfl)
      have d27 : f.tmps[48]? = some (.bool true) := (hv 27 48 rfl).trans (congrArg some h27)
      clear h27
      clear hb hv hd
      refine wpOp_step rfl (fun K hK => ?_)
      go_simp
      refine (c7 _).mono ?_
      rintro e5 w5 ⟨rfl, hb5⟩
      exact hK _ _ ⟨_, rfl, hb5, rfl, fun h => absurd h (by decide)⟩
    | 30, _ =>
      have b2 : f.tmps[2]? = some (.pointer (some ⟨w.heap.size, 0, none⟩)) := (hb 2 (by decide)).trans rfl
      have h27 : (v 27) = .bool true := hd 27 (by kernel_rfl)
      have d27 : f.tmps[48]? = some (.bool true) := (hv 27 48 rfl).trans (congrArg some h27)
      clear h27
      clear hb hv hd
      refine wpOp_step rfl (fun K hK => ?_)
      go_simp
      exact hK _ _ ⟨_, rfl, Below.refl _ _, rfl, fun h => absurd h (by decide)⟩
    | 31, _ =>
      have h30 : (v 30) = .pointer (some ⟨w.heap.size, 0, none⟩) := hd 30 (by kernel_rfl)
      have d30 : f.tmps[51]? = some (.pointer (some ⟨w.heap.size, 0, none⟩)) := (hv 30 51 rfl).trans (congrArg some h30)
      clear h30
      have h27 : (v 27) = .bool true := hd 27 (by kernel_rfl)
      have d27 : f.tmps[48]? = some (.bool true) := (hv 27 48 rfl).trans (congrArg some h27)
      clear h27
      clear hb hv hd
      have c := tc_keep hB kA
      refine wpOp_step rfl (fun K hK => ?_)
      go_simp
      exact hK _ _ ⟨_, rfl, Below.refl _ _, rfl, fun h => absurd h (by decide)⟩
    | 32, _ =>
      have h29 : (v 29) = .int .i64 m := hd 29 (by kernel_rfl)
      have d29 : f.tmps[50]? = some (.int .i64 m) := (hv 29 50 rfl).trans (congrArg some h29)
      clear h29
      have h31 : (v 31) = .int .i64 a0 := hd 31 (by kernel_rfl)
      have d31 : f.tmps[52]? = some (.int .i64 a0) := (hv 31 52 rfl).trans (congrArg some h31)
      clear h31
      have h27 : (v 27) = .bool true := hd 27 (by kernel_rfl)
      have d27 : f.tmps[48]? = some (.bool true) := (hv 27 48 rfl).trans (congrArg some h27)
      clear h27
      clear hb hv hd
      refine wpOp_step rfl (fun K hK => ?_)
      go_simp
      exact hK _ _ ⟨_, rfl, Below.refl _ _, rfl, fun h => absurd h (by decide)⟩
    | 33, _ =>
      have h27 : (v 27) = .bool true := hd 27 (by kernel_rfl)
      have d27 : f.tmps[48]? = some (.bool true) := (hv 27 48 rfl).trans (congrArg some h27)
      clear h27
      have h32 : (v 32) = .bool true := hd 32 (by kernel_rfl)
      have d32 : f.tmps[53]? = some (.bool true) := (hv 32 53 rfl).trans (congrArg some h32)
      clear h32
      clear hb hv hd
      refine wpOp_step rfl (fun K hK => ?_)
      go_simp
      exact hK _ _ ⟨_, rfl, Below.refl _ _, rfl, fun h => absurd h (by decide)⟩
    | 34, _ =>
      have h33 : (v 33) = .bool true := hd 33 (by kernel_rfl)
      have d33 : f.tmps[54]? = some (.bool true) := (hv 33 54 rfl).trans (congrArg some h33)
      clear h33
      clear hb hv hd
      refine wpOp_step rfl (fun K hK => ?_)
      go_simp
      exact hK _ _ ⟨_, rfl, Below.refl _ _, rfl, fun h => absurd h (by decide)⟩
    | 35, _ =>
      have b2 : f.tmps[2]? = some (.pointer (some ⟨w.heap.size, 0, none⟩)) := (hb 2 (by decide)).trans rfl
      have h34 : (v 34) = .bool true := hd 34 (by kernel_rfl)
      have d34 : f.tmps[55]? = some (.bool true) := (hv 34 55 rfl).trans (congrArg some h34)
      clear h34
      clear hb hv hd
      have c := tc_keep hB kA
      refine wpOp_step rfl (fun K hK => ?_)
      go_simp
      exact hK _ _ ⟨_, rfl, Below.refl _ _, rfl, fun h => absurd h (by decide)⟩
    | 36, _ =>
      have h35 : (v 35) = tv a0 a1 a2 := hd 35 (by kernel_rfl)
      have d35 : f.tmps[56]? = some (tv a0 a1 a2) := (hv 35 56 rfl).trans (congrArg some h35)
      clear h35
      have h34 : (v 34) = .bool true := hd 34 (by kernel_rfl)
      have d34 : f.tmps[55]? = some (.bool true) := (hv 34 55 rfl).trans (congrArg some h34)
      clear h34
      clear hb hv hd
      refine wpOp_step rfl (fun K hK => ?_)
      go_simp
      refine (c7 _).mono ?_
      rintro e5 w5 ⟨rfl, hb5⟩
      exact hK _ _ ⟨_, rfl, hb5, rfl, fun h => absurd h (by decide)⟩
    | 37, _ =>
      have b2 : f.tmps[2]? = some (.pointer (some ⟨w.heap.size, 0, none⟩)) := (hb 2 (by decide)).trans rfl
      have h34 : (v 34) = .bool true := hd 34 (by kernel_rfl)
      have d34 : f.tmps[55]? = some (.bool true) := (hv 34 55 rfl).trans (congrArg some h34)
      clear h34
      clear hb hv hd
      refine wpOp_step rfl (fun K hK => ?_)
      go_simp
      exact hK _ _ ⟨_, rfl, Below.refl _ _, rfl, fun h => absurd h (by decide)⟩
    | 38, _ =>
      have h37 : (v 37) = .pointer (some ⟨w.heap.size, 1, none⟩) := hd 37 (by kernel_rfl)
      have d37 : f.tmps[58]? = some (.pointer (some ⟨w.heap.size, 1, none⟩)) := (hv 37 58 rfl).trans (congrArg some h37)
      clear h37
      have h34 : (v 34) = .bool true := hd 34 (by kernel_rfl)
      have d34 : f.tmps[55]? = some (.bool true) := (hv 34 55 rfl).trans (congrArg some h34)
      clear h34
      clear hb hv hd
      have c := tc_keep hB kA
      refine wpOp_step rfl (fun K hK => ?_)
      go_simp
      exact hK _ _ ⟨_, rfl, Below.refl _ _, rfl, fun h => absurd h (by decide)⟩
    | 39, _ =>
      have h36 : (v 36) = .int .i64 m := hd 36 (by kernel_rfl)
      have d36 : f.tmps[57]? = some (.int .i64 m) := (hv 36 57 rfl).trans (congrArg some h36)
      clear h36
      have h38 : (v 38) = .int .i64 a1 := hd 38 (by kernel_rfl)
      have d38 : f.tmps[59]? = some (.int .i64 a1) := (hv 38 59 rfl).trans (congrArg some h38)
      clear h38
      have h34 : (v 34) = .bool true := hd 34 (by kernel_rfl)
      have d34 : f.tmps[55]? = some (.bool true) := (hv 34 55 rfl).trans (congrArg some h34)
      clear h34
      clear hb hv hd
      refine wpOp_step rfl (fun K hK => ?_)
      go_simp
      exact hK _ _ ⟨_, rfl, Below.refl _ _, rfl, fun h => absurd h (by decide)⟩
    | 40, _ =>
      have h34 : (v 34) = .bool true := hd 34 (by kernel_rfl)
      have d34 : f.tmps[55]? = some (.bool true) := (hv 34 55 rfl).trans (congrArg some h34)
      clear h34
      have h39 : (v 39) = .bool true := hd 39 (by kernel_rfl)
      have d39 : f.tmps[60]? = some (.bool true) := (hv 39 60 rfl).trans (congrArg some h39)
      clear h39
      clear hb hv hd
      refine wpOp_step rfl (fun K hK => ?_)
      go_simp
      exact hK _ _ ⟨_, rfl, Below.refl _ _, rfl, fun h => absurd h (by decide)⟩
    | 41, _ =>
      have h40 : (v 40) = .bool true := hd 40 (by kernel_rfl)
      have d40 : f.tmps[61]? = some (.bool true) := (hv 40 61 rfl).trans (congrArg some h40)
      clear h40
      clear hb hv hd
      refine wpOp_step rfl (fun K hK => ?_)
      go_simp
      exact hK _ _ ⟨_, rfl, Below.refl _ _, rfl, fun h => absurd h (by decide)⟩
    | 42, _ =>
      have b2 : f.tmps[2]? = some (.pointer (some ⟨w.heap.size, 0, none⟩)) := (hb 2 (by decide)).trans rfl
      have h41 : (v 41) = .bool true := hd 41 (by kernel_rfl)
      have d41 : f.tmps[62]? = some (.bool true) := (hv 41 62 rfl).trans (congrArg some h41)
      clear h41
      clear hb hv hd
      have c := tc_keep hB kA
      refine wpOp_step rfl (fun K hK => ?_)
      go_simp
      exact hK _ _ ⟨_, rfl, Below.refl _ _, rfl, fun h => absurd h (by decide)⟩
    | 43, _ =>
      have h42 : (v 42) = tv a0 a1 a2 := hd 42 (by kernel_rfl)
      have d42 : f.tmps[63]? = some (tv a0 a1 a2) := (hv 42 63 rfl).trans (congrArg some h42)
      clear h42
      have h41 : (v 41) = .bool true := hd 41 (by kernel_rfl)
      have d41 : f.tmps[62]? = some (.bool true) := (hv 41 62 rfl).trans (congrArg some h41)
      clear h41
      clear hb hv hd
      refine wpOp_step rfl (fun K hK => ?_)
      go_simp
      refine (c7 _).mono ?_
      rintro e5 w5 ⟨rfl, hb5⟩
      exact hK _ _ ⟨_, rfl, hb5, rfl, fun h => absurd h (by decide)⟩
    | 44, _ =>
      have b2 : f.tmps[2]? = some (.pointer (some ⟨w.heap.size, 0, none⟩)) := (hb 2 (by decide)).trans rfl
      have h41 : (v 41) = .bool true := hd 41 (by kernel_rfl)
      have d41 : f.tmps[62]? = some (.bool true) := (hv 41 62 rfl).trans (congrArg some h41)
      clear h41
      clear hb hv hd
      refine wpOp_step rfl (fun K hK => ?_)
      go_simp
      exact hK _ _ ⟨_, rfl, Below.refl _ _, rfl, fun h => absurd h (by decide)⟩
    | 45, _ =>
      have h44 : (v 44) = .pointer (some ⟨w.heap.size, 2, none⟩) := hd 44 (by kernel_rfl)
      have d44 : f.tmps[65]? = some (.pointer (some ⟨w.heap.size, 2, none⟩)) := (hv 44 65 rfl).trans (congrArg some h44)
      clear h44
      have h41 : (v 41) = .bool true := hd 41 (by kernel_rfl)
      have d41 : f.tmps[62]? = some (.bool true) := (hv 41 62 rfl).trans (congrArg some h41)
      clear h41
      clear hb hv hd
      have c := tc_keep hB kA
      refine wpOp_step rfl (fun K hK => ?_)
      go_simp
      exact hK _ _ ⟨_, rfl, Below.refl _ _, rfl, fun h => absurd h (by decide)⟩
    | 46, _ =>
      have h43 : (v 43) = .int .i64 m := hd 43 (by kernel_rfl)
      have d43 : f.tmps[64]? = some (.int .i64 m) := (hv 43 64 rfl).trans (congrArg some h43)
      clear h43
      have h45 : (v 45) = .int .i64 a2 := hd 45 (by kernel_rfl)
      have d45 : f.tmps[66]? = some (.int .i64 a2) := (hv 45 66 rfl).trans (congrArg some h45)
      clear h45
      have h41 : (v 41) = .bool true := hd 41 (by kernel_rfl)
      have d41 : f.tmps[62]? = some (.bool true) := (hv 41 62 rfl).trans (congrArg some h41)
      clear h41
      clear hb hv hd
      refine wpOp_step rfl (fun K hK => ?_)
      go_simp
      exact hK _ _ ⟨_, rfl, Below.refl _ _, rfl, fun h => absurd h (by decide)⟩
    | 47, _ =>
      have h41 : (v 41) = .bool true := hd 41 (by kernel_rfl)
      have d41 : f.tmps[62]? = some (.bool true) := (hv 41 62 rfl).trans (congrArg some h41)
      clear h41
      have h46 : (v 46) = .bool true := hd 46 (by kernel_rfl)
      have d46 : f.tmps[67]? = some (.bool true) := (hv 46 67 rfl).trans (congrArg some h46)
      clear h46
      clear hb hv hd
      refine wpOp_step rfl (fun K hK => ?_)
      go_simp
      exact hK _ _ ⟨_, rfl, Below.refl _ _, rfl, fun h => absurd h (by decide)⟩
    | 48, _ =>
      have h47 : (v 47) = .bool true := hd 47 (by kernel_rfl)
      have d47 : f.tmps[68]? = some (.bool true) := (hv 47 68 rfl).trans (congrArg some h47)
      clear h47
      clear hb hv hd
      refine wpOp_step rfl (fun K hK => ?_)
      go_simp
      exact hK _ _ ⟨_, rfl, Below.refl _ _, rfl, fun h => absurd h (by decide)⟩
    | 49, _ =>
      have b2 : f.tmps[2]? = some (.pointer (some ⟨w.heap.size, 0, none⟩)) := (hb 2 (by decide)).trans rfl
      have h48 : (v 48) = .bool true := hd 48 (by kernel_rfl)
      have d48 : f.tmps[69]? = some (.bool true) := (hv 48 69 rfl).trans (congrArg some h48)
      clear h48
      clear hb hv hd
      have c := tc_keep hB kA
      refine wpOp_step rfl (fun K hK => ?_)
      go_simp
      exact hK _ _ ⟨_, rfl, Below.refl _ _, rfl, fun h => absurd h (by decide)⟩
    | 50, _ =>
      have h49 : (v 49) = tv a0 a1 a2 := hd 49 (by kernel_rfl)
      have d49 : f.tmps[70]? = some (tv a0 a1 a2) := (hv 49 70 rfl).trans (congrArg some h49)
      clear h49
      have h48 : (v 48) = .bool true := hd 48 (by kernel_rfl)
      have d48 : f.tmps[69]? = some (.bool true) := (hv 48 69 rfl).trans (congrArg some h48)
      clear h48
      clear hb hv hd
      refine wpOp_step rfl (fun K hK => ?_)
      go_simp
      refine (c7 _).mono ?_
      rintro e5 w5 ⟨rfl, hb5⟩
      exact hK _ _ ⟨_, rfl, hb5, rfl, fun h => absurd h (by decide)⟩
    | 51, _ =>
      have b2 : f.tmps[2]? = some (.pointer (some ⟨w.heap.size, 0, none⟩)) := (hb 2 (by decide)).trans rfl
      have h48 : (v 48) = .bool true := hd 48 (by kernel_rfl)
      have d48 : f.tmps[69]? = some (.bool true) := (hv 48 69 rfl).trans (congrArg some h48)
      clear h48
      clear hb hv hd
      refine wpOp_step rfl (fun K hK => ?_)
      go_simp
      exact hK _ _ ⟨_, rfl, Below.refl _ _, rfl, fun h => absurd h (by decide)⟩
    | 52, _ =>
      have h51 : (v 51) = .pointer (some ⟨w.heap.size, 0, none⟩) := hd 51 (by kernel_rfl)
      have d51 : f.tmps[72]? = some (.pointer (some ⟨w.heap.size, 0, none⟩)) := (hv 51 72 rfl).trans (congrArg some h51)
      clear h51
      have h48 : (v 48) = .bool true := hd 48 (by kernel_rfl)
      have d48 : f.tmps[69]? = some (.bool true) := (hv 48 69 rfl).trans (congrArg some h48)
      clear h48
      clear hb hv hd
      have c := tc_keep hB kA
      refine wpOp_step rfl (fun K hK => ?_)
      go_simp
      exact hK _ _ ⟨_, rfl, Below.refl _ _, rfl, fun h => absurd h (by decide)⟩
    | 53, _ =>
      have h50 : (v 50) = .int .i64 m := hd 50 (by kernel_rfl)
      have d50 : f.tmps[71]? = some (.int .i64 m) := (hv 50 71 rfl).trans (congrArg some h50)
      clear h50
      have h52 : (v 52) = .int .i64 a0 := hd 52 (by kernel_rfl)
      have d52 : f.tmps[73]? = some (.int .i64 a0) := (hv 52 73 rfl).trans (congrArg some h52)
      clear h52
      have h48 : (v 48) = .bool true := hd 48 (by kernel_rfl)
      have d48 : f.tmps[69]? = some (.bool true) := (hv 48 69 rfl).trans (congrArg some h48)
      clear h48
      clear hb hv hd
      refine wpOp_step rfl (fun K hK => ?_)
      go_simp
      exact hK _ _ ⟨_, rfl, Below.refl _ _, rfl, fun h => absurd h (by decide)⟩
    | 54, _ =>
      have h53 : (v 53) = .bool false := hd 53 (by kernel_rfl)
      have d53 : f.tmps[74]? = some (.bool false) := (hv 53 74 rfl).trans (congrArg some h53)
      clear h53
      have h48 : (v 48) = .bool true := hd 48 (by kernel_rfl)
      have d48 : f.tmps[69]? = some (.bool true) := (hv 48 69 rfl).trans (congrArg some h48)
      clear h48
      clear hb hv hd
      refine wpOp_step rfl (fun K hK => ?_)
      go_simp
      exact hK _ _ ⟨_, rfl, Below.refl _ _, rfl, fun h => absurd h (by decide)⟩
    | 55, _ =>
      have b2 : f.tmps[2]? = some (.pointer (some ⟨w.heap.size, 0, none⟩)) := (hb 2 (by decide)).trans rfl
      have h54 : (v 54) = .bool false := hd 54 (by kernel_rfl)
      have d54 : f.tmps[75]? = some (.bool false) := (hv 54 75 rfl).trans (congrArg some h54)
      clear h54
      clear hb hv hd
      have c := tc_keep hB kA
      refine wpOp_step rfl (fun K hK => ?_)
      go_simp
      exact hK _ _ ⟨_, rfl, Below.refl _ _, rfl, fun h => absurd h (by decide)⟩
    | 56, _ =>
      have h55 : (v 55) = tv a0 a1 a2 := hd 55 (by kernel_rfl)
      have d55 : f.tmps[76]? = some (tv a0 a1 a2) := (hv 55 76 rfl).trans (congrArg some h55)
      clear h55
      have h54 : (v 54) = .bool false := hd 54 (by kernel_rfl)
      have d54 : f.tmps[75]? = some (.bool false) := (hv 54 75 rfl).trans (congrArg some h54)
      clear h54
      clear hb hv hd
      refine wpOp_step rfl (fun K hK => ?_)
      go_simp
      refine (c7 _).mono ?_
      rintro e5 w5 ⟨rfl, hb5⟩
      exact hK _ _ ⟨_, rfl, hb5, rfl, fun h => absurd h (by decide)⟩
    | 57, _ =>
      have b2 : f.tmps[2]? = some (.pointer (some ⟨w.heap.size, 0, none⟩)) := (hb 2 (by decide)).trans rfl
      have h54 : (v 54) = .bool false := hd 54 (by kernel_rfl)
      have d54 : f.tmps[75]? = some (.bool false) := (hv 54 75 rfl).trans (congrArg some h54)
      clear h54
      clear hb hv hd
      refine wpOp_step rfl (fun K hK => ?_)
      go_simp
      exact hK _ _ ⟨_, rfl, Below.refl _ _, rfl, fun h => absurd h (by decide)⟩
    | 58, _ =>
      have h57 : (v 57) = .pointer (some ⟨w.heap.size, 1, none⟩) := hd 57 (by kernel_rfl)
      have d57 : f.tmps[78]? = some (.pointer (some ⟨w.heap.size, 1, none⟩)) := (hv 57 78 rfl).trans (congrArg some h57)
      clear h57
      have h54 : (v 54) = .bool false := hd 54 (by kernel_rfl)
      have d54 : f.tmps[75]? = some (.bool false) := (hv 54 75 rfl).trans (congrArg some h54)
      clear h54
      clear hb hv hd
      have c := tc_keep hB kA
      refine wpOp_step rfl (fun K hK => ?_)
      go_simp
      exact hK _ _ ⟨_, rfl, Below.refl _ _, rfl, fun h => absurd h (by decide)⟩
    | 59, _ =>
      have h56 : (v 56) = .int .i64 m := hd 56 (by kernel_rfl)
      have d56 : f.tmps[77]? = some (.int .i64 m) := (hv 56 77 rfl).trans (congrArg some h56)
      clear h56
      have h58 : (v 58) = .int .i64 a1 := hd 58 (by kernel_rfl)
      have d58 : f.tmps[79]? = some (.int .i64 a1) := (hv 58 79 rfl).trans (congrArg some h58)
      clear h58
      have h54 : (v 54) = .bool false := hd 54 (by kernel_rfl)
      have d54 : f.tmps[75]? = some (.bool false) := (hv 54 75 rfl).trans (congrArg some h54)
      clear h54
      clear hb hv hd
      refine wpOp_step rfl (fun K hK => ?_)
      go_simp
      exact hK _ _ ⟨_, rfl, Below.refl _ _, rfl, fun h => absurd h (by decide)⟩
    | 60, _ =>
      have h54 : (v 54) = .bool false := hd 54 (by kernel_rfl)
      have d54 : f.tmps[75]? = some (.bool false) := (hv 54 75 rfl).trans (congrArg some h54)
      clear h54
      have h59 : (v 59) = .bool true := hd 59 (by kernel_rfl)
      have d59 : f.tmps[80]? = some (.bool true) := (hv 59 80 rfl).trans (congrArg some h59)
      clear h59
      have h48 : (v 48) = .bool true := hd 48 (by kernel_rfl)
      have d48 : f.tmps[69]? = some (.bool true) := (hv 48 69 rfl).trans (congrArg some h48)
      clear h48
      clear hb hv hd
      refine wpOp_step rfl (fun K hK => ?_)
      go_simp
      exact hK _ _ ⟨_, rfl, Below.refl _ _, rfl, fun h => absurd h (by decide)⟩
    | 61, _ =>
      have h60 : (v 60) = .bool true := hd 60 (by kernel_rfl)
      have d60 : f.tmps[81]? = some (.bool true) := (hv 60 81 rfl).trans (congrArg some h60)
      clear h60
      have h48 : (v 48) = .bool true := hd 48 (by kernel_rfl)
      have d48 : f.tmps[69]? = some (.bool true) := (hv 48 69 rfl).trans (congrArg some h48)
      clear h48
      clear hb hv hd
      refine wpOp_step rfl (fun K hK => ?_)
      go_simp
      exact hK _ _ ⟨_, rfl, Below.refl _ _, rfl, fun h => absurd h (by decide)⟩
    | 62, _ =>
      have b2 : f.tmps[2]? = some (.pointer (some ⟨w.heap.size, 0, none⟩)) := (hb 2 (by decide)).trans rfl
      have h61 : (v 61) = .bool true := hd 61 (by kernel_rfl)
      have d61 : f.tmps[82]? = some (.bool true) := (hv 61 82 rfl).trans (congrArg some h61)
      clear h61
      clear hb hv hd
      refine wpOp_step rfl (fun K hK => ?_)
      go_simp
      exact hK _ _ ⟨_, rfl, Below.refl _ _, rfl, fun h => absurd h (by decide)⟩
    | 63, _ =>
      have h62 : (v 62) = undef := hd 62 (by kernel_rfl)
      have d62 : f.tmps[83]? = some (undef) := (hv 62 83 rfl).trans (congrArg some h62)
      clear h62
      have h61 : (v 61) = .bool true := hd 61 (by kernel_rfl)
      have d61 : f.tmps[82]? = some (.bool true) := (hv 61 82 rfl).trans (congrArg some h61)
      clear h61
      clear hb hv hd
      refine wpOp_step rfl (fun K hK => ?_)
      go_simp
      exact hK _ _ ⟨_, rfl, Below.refl _ _, rfl, fun h => absurd h (by decide)⟩
    | 64, _ =>
      have b2 : f.tmps[2]? = some (.pointer (some ⟨w.heap.size, 0, none⟩)) := (hb 2 (by decide)).trans rfl
      have h61 : (v 61) = .bool true := hd 61 (by kernel_rfl)
      have d61 : f.tmps[82]? = some (.bool true) := (hv 61 82 rfl).trans (congrArg some h61)
      clear h61
      clear hb hv hd
      refine wpOp_step rfl (fun K hK => ?_)
      go_simp
      exact hK _ _ ⟨_, rfl, Below.refl _ _, rfl, fun h => absurd h (by decide)⟩
    | 65, _ =>
      have h64 : (v 64) = undef := hd 64 (by kernel_rfl)
      have d64 : f.tmps[85]? = some (undef) := (hv 64 85 rfl).trans (congrArg some h64)
      clear h64
      have h61 : (v 61) = .bool true := hd 61 (by kernel_rfl)
      have d61 : f.tmps[82]? = some (.bool true) := (hv 61 82 rfl).trans (congrArg some h61)
      clear h61
      clear hb hv hd
      refine wpOp_step rfl (fun K hK => ?_)
      go_simp
      exact hK _ _ ⟨_, rfl, Below.refl _ _, rfl, fun h => absurd h (by decide)⟩
    | 66, _ =>
      have h63 : (v 63) = undef := hd 63 (by kernel_rfl)
      have d63 : f.tmps[84]? = some (undef) := (hv 63 84 rfl).trans (congrArg some h63)
      clear h63
      have h65 : (v 65) = undef := hd 65 (by kernel_rfl)
      have d65 : f.tmps[86]? = some (undef) := (hv 65 86 rfl).trans (congrArg some h65)
      clear h65
      have h61 : (v 61) = .bool true := hd 61 (by kernel_rfl)
      have d61 : f.tmps[82]? = some (.bool true) := (hv 61 82 rfl).trans (congrArg some h61)
      clear h61
      clear hb hv hd
      refine wpOp_step rfl (fun K hK => ?_)
      go_simp
      exact hK _ _ ⟨_, rfl, Below.refl _ _, rfl, fun h => absurd h (by decide)⟩
    | 67, _ =>
      have h61 : (v 61) = .bool true := hd 61 (by kernel_rfl)
      have d61 : f.tmps[82]? = some (.bool true) := (hv 61 82 rfl).trans (congrArg some h61)
      clear h61
      have h66 : (v 66) = undef := hd 66 (by kernel_rfl)
      have d66 : f.tmps[87]? = some (undef) := (hv 66 87 rfl).trans (congrArg some h66)
      clear h66
      have h48 : (v 48) = .bool true := hd 48 (by kernel_rfl)
      have d48 : f.tmps[69]? = some (.bool true) := (hv 48 69 rfl).trans (congrArg some h48)
      clear h48
      clear hb hv hd
      refine wpOp_step rfl (fun K hK => ?_)
      go_simp
      exact hK _ _ ⟨_, rfl, Below.refl _ _, rfl, fun h => absurd h (by decide)⟩
    | 68, _ =>
      have h48 : (v 48) = .bool true := hd 48 (by kernel_rfl)
      have d48 : f.tmps[69]? = some (.bool true) := (hv 48 69 rfl).trans (congrArg some h48)
      clear h48
      have h67 : (v 67) = .bool true := hd 67 (by kernel_rfl)
      have d67 : f.tmps[88]? = some (.bool true) := (hv 67 88 rfl).trans (congrArg some h67)
      clear h67
      clear hb hv hd
      refine wpOp_step rfl (fun K hK => ?_)
      go_simp
      exact hK _ _ ⟨_, rfl, Below.refl _ _, rfl, fun h => absurd h (by decide)⟩
    | k + 69, hk => exact absurd hk (by simp)
  · intro v w' hB hF hD
    have F0 : (v 0) = .bool true := hF 0 (by simp)
    have F1 : (v 1) = .bool true := hF 1 (by simp)
    have F2 : (v 2) = tv x0 x1 x2 := hF 2 (by simp)
    have F3 : (v 3) = tv x0 x1 x2 := hF 3 (by simp)
    have F4 : (v 4) = .bool true := hF 4 (by simp)
    have F5 : (v 5) = .bool true := hF 5 (by simp)
    have F6 : (v 6) = .bool true := hF 6 (by simp)
    have F7 : (v 7) = .int .i64 xe := hF 7 (by simp)
    have F8 : (v 8) = .int .i64 xe := hF 8 (by simp)
    have F9 : (v 9) = .bool true := hF 9 (by simp)
    have F10 : (v 10) = .bool true := hF 10 (by simp)
    have F11 : (v 11) = .bool true := hF 11 (by simp)
    have F12 : (v 12) = tv a0 a1 a2 := hF 12 (by simp)
    have F13 : (v 13) = tv b0 b1 b2 := hF 13 (by simp)
    have F14 : (v 14) = tv y0 y1 y2 := hF 14 (by simp)
    have F15 : (v 15) = tv a0 a1 a2 := hF 15 (by simp)
    have F16 : (v 16) = tv b0 b1 b2 := hF 16 (by simp)
    have F17 : (v 17) = tv y0 y1 y2 := hF 17 (by simp)
    have F18 : (v 18) = .bool true := hF 18 (by simp)
    have F19 : (v 19) = .bool true := hF 19 (by simp)
    have F20 : (v 20) = .bool true := hF 20 (by simp)
    have F21 : (v 21) = tv a0 a1 a2 := hF 21 (by simp)
    have F22 : (v 22) = .bool fb := hF 22 (by simp)
    have F23 : (v 23) = tv a0 a1 a2 := hF 23 (by simp)
    have F24 : (v 24) = .bool fb := hF 24 (by simp)
    have F25 : (v 25) = .bool true := hF 25 (by simp)
    have F26 : (v 26) = .bool true := hF 26 (by simp)
    have F27 : (v 27) = .bool true := hF 27 (by simp)
    have F28 : (v 28) = tv a0 a1 a2 := hF 28 (by simp)
    have F29 : (v 29) = .int .i64 m := hF 29 (by simp)
    have F30 : (v 30) = .pointer (some ⟨w.heap.size, 0, none⟩) := hF 30 (by simp)
    have F31 : (v 31) = .int .i64 a0 := hF 31 (by simp)
    have F32 : (v 32) = .bool true := hF 32 (by simp)
    have F33 : (v 33) = .bool true := hF 33 (by simp)
    have F34 : (v 34) = .bool true := hF 34 (by simp)
    have F35 : (v 35) = tv a0 a1 a2 := hF 35 (by simp)
    have F36 : (v 36) = .int .i64 m := hF 36 (by simp)
    have F37 : (v 37) = .pointer (some ⟨w.heap.size, 1, none⟩) := hF 37 (by simp)
    have F38 : (v 38) = .int .i64 a1 := hF 38 (by simp)
    have F39 : (v 39) = .bool true := hF 39 (by simp)
    have F40 : (v 40) = .bool true := hF 40 (by simp)
    have F41 : (v 41) = .bool true := hF 41 (by simp)
    have F42 : (v 42) = tv a0 a1 a2 := hF 42 (by simp)
    have F43 : (v 43) = .int .i64 m := hF 43 (by simp)
    have F44 : (v 44) = .pointer (some ⟨w.heap.size, 2, none⟩) := hF 44 (by simp)
    have F45 : (v 45) = .int .i64 a2 := hF 45 (by simp)
    have F46 : (v 46) = .bool true := hF 46 (by simp)
    have F47 : (v 47) = .bool true := hF 47 (by simp)
    have F48 : (v 48) = .bool true := hF 48 (by simp)
    have F49 : (v 49) = tv a0 a1 a2 := hF 49 (by simp)
    have F50 : (v 50) = .int .i64 m := hF 50 (by simp)
    have F51 : (v 51) = .pointer (some ⟨w.heap.size, 0, none⟩) := hF 51 (by simp)
    have F52 : (v 52) = .int .i64 a0 := hF 52 (by simp)
    have F53 : (v 53) = .bool false := hF 53 (by simp)
    have F54 : (v 54) = .bool false := hF 54 (by simp)
    have F55 : (v 55) = tv a0 a1 a2 := hF 55 (by simp)
    have F56 : (v 56) = .int .i64 m := hF 56 (by simp)
    have F57 : (v 57) = .pointer (some ⟨w.heap.size, 1, none⟩) := hF 57 (by simp)
    have F58 : (v 58) = .int .i64 a1 := hF 58 (by simp)
    have F59 : (v 59) = .bool true := hF 59 (by simp)
    have F60 : (v 60) = .bool true := hF 60 (by simp)
    have F61 : (v 61) = .bool true := hF 61 (by simp)
    have F62 : (v 62) = undef := hF 62 (by simp)
    have F63 : (v 63) = undef := hF 63 (by simp)
    have F64 : (v 64) = undef := hF 64 (by simp)
    have F65 : (v 65) = undef := hF 65 (by simp)
    have F66 : (v 66) = undef := hF 66 (by simp)
    have F67 : (v 67) = .bool true := hF 67 (by simp)
    have F68 : (v 68) = .bool true := hF 68 (by simp)
    clear hF
    simp only [frOf, frGo, Nat.zero_add, Nat.reduceAdd, F0, F1, F2, F3, F4, F5, F6, F7, F8, F9, F10, F11, F12, F13, F14, F15, F16, F17, F18, F19, F20, F21, F22, F23, F24, F25, F26, F27, F28, F29, F30, F31, F32, F33, F34, F35, F36, F37, F38, F39, F40, F41, F42, F43, F44, F45, F46, F47, F48, F49, F50, F51, F52, F53, F54, F55, F56, F57, F58, F59, F60, F61, F62, F63, F64, F65, F66, F67, F68]
    replace B0 := b_trans B0 hB
    clear F0 F1 F2 F3 F4 F5 F6 F7 F8 F9 F10 F11 F12 F13 F14 F15 F16 F17 F18 F19 F20 F21 F22 F23 F24 F25 F26 F27 F28 F29 F30 F31 F32 F33 F34 F35 F36 F37 F38 F39 F40 F41 F42 F43 F44 F45 F46 F47 F48 F49 F50 F51 F52 F53 F54 F55 F56 F57 F58 F59 F60 F61 F62 F63 F64 F65 F66 F67 F68 hD hB kA kB kx ky c3 c4 c5 c6 c7
    go_wp2
    go_ret
    exact ⟨rfl, B0⟩

set_option maxHeartbeats 8000000 in
set_option maxRecDepth 10000 in
theorem vecSums_2 (a0 a1 a2 b0 b1 b2 x0 x1 x2 xe y0 y1 y2 m : Int) (fb : Bool)
    (c1 : ∀ w, Calls Try.prog 6 #[tv a0 a1 a2, tv b0 b1 b2] w (RetV (.tuple #[tv x0 x1 x2, .int .i64 xe]) w))
    (c2 : ∀ w, Calls Try.prog 7 #[tv a0 a1 a2, tv b0 b1 b2] w (RetV (.tuple #[tv x0 x1 x2, .int .i64 xe]) w))
    (c3 : ∀ w, Calls Try.prog 9 #[tv a0 a1 a2, tv b0 b1 b2] w (RetV (tv y0 y1 y2) w)) (c4 : ∀ w, Calls Try.prog 10 #[tv a0 a1 a2, tv b0 b1 b2] w (RetV (tv y0 y1 y2) w))
    (c5 : ∀ w, Calls Try.prog 11 #[tv a0 a1 a2] w (RetV (.bool fb) w)) (c6 : ∀ w, Calls Try.prog 12 #[tv a0 a1 a2] w (RetV (.bool fb) w))
    (c7 : ∀ w, Calls Try.prog 13 #[tv a0 a1 a2] w (RetV (.int .i64 m) w)) (l0 : m ≤ a0) (l1 : m ≤ a1) (l2 : m ≤ a2) (n1 : (m == a0) = false) (n2 : (m == a1) = false) (n3 : (m == a2) = true) (w : World) :
    Calls Try.prog 3 #[tv a0 a1 a2, tv b0 b1 b2] w (RetV (.bool true) w) := by
  have kA : TC ((w.alloc (Obj.cells #[.int .i64 a0, .int .i64 a1, .int .i64 a2] 23)).alloc (Obj.cells #[.int .i64 b0, .int .i64 b1, .int .i64 b2] 23)) (w.heap.size) a0 a1 a2 := tc_alloc (tc_new rfl)
  have kB : TC ((w.alloc (Obj.cells #[.int .i64 a0, .int .i64 a1, .int .i64 a2] 23)).alloc (Obj.cells #[.int .i64 b0, .int .i64 b1, .int .i64 b2] 23)) (w.heap.size + 1) b0 b1 b2 := tc_new (by simp)
  have B0 : Below w.heap.size w ((w.alloc (Obj.cells #[.int .i64 a0, .int .i64 a1, .int .i64 a2] 23)).alloc (Obj.cells #[.int .i64 b0, .int .i64 b1, .int .i64 b2] 23)) := b_alloc (b_alloc (Below.refl _ _))
  go_enter Try.func3, Try.ntmps3
  go_wp2_with fail
  refine (c1 _).mono ?_
  rintro ew1 w1 ⟨rfl, hb9⟩
  replace kA := tc_keep hb9 kA
  replace kB := tc_keep hb9 kB
  replace B0 := b_trans B0 hb9
  clear hb9
  have kx : TC (w1.alloc (Obj.cells #[.int .i64 x0, .int .i64 x1, .int .i64 x2] 23)) w1.heap.size x0 x1 x2 := tc_new rfl
  replace kA := tc_alloc (o := (Obj.cells #[.int .i64 x0, .int .i64 x1, .int .i64 x2] 23)) kA
  replace kB := tc_alloc (o := (Obj.cells #[.int .i64 x0, .int .i64 x1, .int .i64 x2] 23)) kB
  replace B0 := b_alloc (o := (Obj.cells #[.int .i64 x0, .int .i64 x1, .int .i64 x2] 23)) B0
  go_wp2_with fail
  refine (c2 _).mono ?_
  rintro ew2 w2 ⟨rfl, hb9⟩
  replace kA := tc_keep hb9 kA
  replace kB := tc_keep hb9 kB
  replace kx := tc_keep hb9 kx
  replace B0 := b_trans B0 hb9
  clear hb9
  have ky : TC (w2.alloc (Obj.cells #[.int .i64 x0, .int .i64 x1, .int .i64 x2] 23)) w2.heap.size x0 x1 x2 := tc_new rfl
  replace kA := tc_alloc (o := (Obj.cells #[.int .i64 x0, .int .i64 x1, .int .i64 x2] 23)) kA
  replace kB := tc_alloc (o := (Obj.cells #[.int .i64 x0, .int .i64 x1, .int .i64 x2] 23)) kB
  replace kx := tc_alloc (o := (Obj.cells #[.int .i64 x0, .int .i64 x1, .int .i64 x2] 23)) kx
  replace B0 := b_alloc (o := (Obj.cells #[.int .i64 x0, .int .i64 x1, .int .i64 x2] 23)) B0
  clear c1 c2
  go_wp2
  generalize w2.alloc (Obj.cells #[.int .i64 x0, .int .i64 x1, .int .i64 x2] 23) = W1 at *
  refine region_each [21, 22, 23, 24, 25, 26, 27, 28, 29, 30, 31, 32, 33, 34, 35, 36, 37, 38, 39, 40, 41, 42, 43, 44, 45, 46, 47, 48, 49, 50, 51, 52, 53, 54, 55, 56, 57, 58, 59, 60, 61, 62, 63, 64, 65, 66, 67, 68, 69, 70, 71, 72, 73, 74, 75, 76, 77, 78, 79, 80, 81, 82, 83, 84, 85, 86, 87, 88, 89] (fun i X_ U_ => match i with | 0 => X_ = .bool true | 1 => X_ = .bool true | 2 => X_ = tv x0 x1 x2 | 3 => X_ = tv x0 x1 x2 | 4 => X_ = .bool true | 5 => X_ = .bool true | 6 => X_ = .bool true | 7 => X_ = .int .i64 xe | 8 => X_ = .int .i64 xe | 9 => X_ = .bool true | 10 => X_ = .bool true | 11 => X_ = .bool true | 12 => X_ = tv a0 a1 a2 | 13 => X_ = tv b0 b1 b2 | 14 => X_ = tv y0 y1 y2 | 15 => X_ = tv a0 a1 a2 | 16 => X_ = tv b0 b1 b2 | 17 => X_ = tv y0 y1 y2 | 18 => X_ = .bool true | 19 => X_ = .bool true | 20 => X_ = .bool true | 21 => X_ = tv a0 a1 a2 | 22 => X_ = .bool fb | 23 => X_ = tv a0 a1 a2 | 24 => X_ = .bool fb | 25 => X_ = .bool true | 26 => X_ = .bool true | 27 => X_ = .bool true | 28 => X_ = tv a0 a1 a2 | 29 => X_ = .int .i64 m | 30 => X_ = .pointer (some ⟨w.heap.size, 0, none⟩) | 31 => X_ = .int .i64 a0 | 32 => X_ = .bool true | 33 => X_ = .bool true | 34 => X_ = .bool true | 35 => X_ = tv a0 a1 a2 | 36 => X_ = .int .i64 m | 37 => X_ = .pointer (some ⟨w.heap.size, 1, none⟩) | 38 => X_ = .int .i64 a1 | 39 => X_ = .bool true | 40 => X_ = .bool true | 41 => X_ = .bool true | 42 => X_ = tv a0 a1 a2 | 43 => X_ = .int .i64 m | 44 => X_ = .pointer (some ⟨w.heap.size, 2, none⟩) | 45 => X_ = .int .i64 a2 | 46 => X_ = .bool true | 47 => X_ = .bool true | 48 => X_ = .bool true | 49 => X_ = tv a0 a1 a2 | 50 => X_ = .int .i64 m | 51 => X_ = .pointer (some ⟨w.heap.size, 0, none⟩) | 52 => X_ = .int .i64 a0 | 53 => X_ = .bool false | 54 => X_ = .bool false | 55 => X_ = tv a0 a1 a2 | 56 => X_ = .int .i64 m | 57 => X_ = .pointer (some ⟨w.heap.size, 1, none⟩) | 58 => X_ = .int .i64 a1 | 59 => X_ = .bool false | 60 => X_ = .bool false | 61 => X_ = .bool false | 62 => X_ = tv a0 a1 a2 | 63 => X_ = .int .i64 m | 64 => X_ = .pointer (some ⟨w.heap.size, 2, none⟩) | 65 => X_ = .int .i64 a2 | 66 => X_ = .bool true | 67 => X_ = .bool true | 68 => X_ = .bool true | _ => True) (fun i => false) (by kernel_rfl) (by kernel_rfl) (by kernel_rfl) (by kernel_rfl) (by kernel_rfl) ?_ ?_ ?_ ?_
  · intro i x w w' hi h hb
    match i, hi with
    | 0, _ => exact h
    | 1, _ => exact h
    | 2, _ => exact h
    | 3, _ => exact h
    | 4, _ => exact h
    | 5, _ => exact h
    | 6, _ => exact h
    | 7, _ => exact h
    | 8, _ => exact h
    | 9, _ => exact h
    | 10, _ => exact h
    | 11, _ => exact h
    | 12, _ => exact h
    | 13, _ => exact h
    | 14, _ => exact h
    | 15, _ => exact h
    | 16, _ => exact h
    | 17, _ => exact h
    | 18, _ => exact h
    | 19, _ => exact h
    | 20, _ => exact h
    | 21, _ => exact h
    | 22, _ => exact h
    | 23, _ => exact h
    | 24, _ => exact h
    | 25, _ => exact h
    | 26, _ => exact h
    | 27, _ => exact h
    | 28, _ => exact h
    | 29, _ => exact h
    | 30, _ => exact h
    | 31, _ => exact h
    | 32, _ => exact h
    | 33, _ => exact h
    | 34, _ => exact h
    | 35, _ => exact h
    | 36, _ => exact h
    | 37, _ => exact h
    | 38, _ => exact h
    | 39, _ => exact h
    | 40, _ => exact h
    | 41, _ => exact h
    | 42, _ => exact h
    | 43, _ => exact h
    | 44, _ => exact h
    | 45, _ => exact h
    | 46, _ => exact h
    | 47, _ => exact h
    | 48, _ => exact h
    | 49, _ => exact h
    | 50, _ => exact h
    | 51, _ => exact h
    | 52, _ => exact h
    | 53, _ => exact h
    | 54, _ => exact h
    | 55, _ => exact h
    | 56, _ => exact h
    | 57, _ => exact h
    | 58, _ => exact h
    | 59, _ => exact h
    | 60, _ => exact h
    | 61, _ => exact h
    | 62, _ => exact h
    | 63, _ => exact h
    | 64, _ => exact h
    | 65, _ => exact h
    | 66, _ => exact h
    | 67, _ => exact h
    | 68, _ => exact h
    | k + 69, hk => exact absurd hk (by simp)
  · intro i x w hi ha h
    cases ha
  · intro i hi v f w' hb hv hB hd
    match i, hi with
    | 0, _ =>
      clear hb hv hd
      refine wpOp_step rfl (fun K hK => ?_)
      go_simp
      refine (fixed_vec _).mono ?_
      rintro e5 w5 ⟨rfl, hb5⟩
      exact hK _ _ ⟨_, rfl, hb5, rfl, fun h => absurd h (by decide)⟩
    | 1, _ =>
      have h0 : (v 0) = .bool true := hd 0 (by kernel_rfl)
      have d0 : f.tmps[21]? = some (.bool true) := (hv 0 21 rfl).trans (congrArg some h0)
      clear h0
      clear hb hv hd
      refine wpOp_step rfl (fun K hK => ?_)
      go_simp
      exact hK _ _ ⟨_, rfl, Below.refl _ _, rfl, fun h => absurd h (by decide)⟩
    | 2, _ =>
      have b5 : f.tmps[5]? = some (.pointer (some ⟨w1.heap.size, 0, none⟩)) := (hb 5 (by decide)).trans rfl
      have h1 : (v 1) = .bool true := hd 1 (by kernel_rfl)
      have d1 : f.tmps[22]? = some (.bool true) := (hv 1 22 rfl).trans (congrArg some h1)
      clear h1
      clear hb hv hd
      have c := tc_keep hB kx
      refine wpOp_step rfl (fun K hK => ?_)
      go_simp
      exact hK _ _ ⟨_, rfl, Below.refl _ _, rfl, fun h => absurd h (by decide)⟩
    | 3, _ =>
      have b7 : f.tmps[7]? = some (.pointer (some ⟨w2.heap.size, 0, none⟩)) := (hb 7 (by decide)).trans rfl
      have h1 : (v 1) = .bool true := hd 1 (by kernel_rfl)
      have d1 : f.tmps[22]? = some (.bool true) := (hv 1 22 rfl).trans (congrArg some h1)
      clear h1
      clear hb hv hd
      have c := tc_keep hB ky
      refine wpOp_step rfl (fun K hK => ?_)
      go_simp
      exact hK _ _ ⟨_, rfl, Below.refl _ _, rfl, fun h => absurd h (by decide)⟩
    | 4, _ =>
      have h2 : (v 2) = tv x0 x1 x2 := hd 2 (by kernel_rfl)
      have d2 : f.tmps[23]? = some (tv x0 x1 x2) := (hv 2 23 rfl).trans (congrArg some h2)
      clear h2
      have h3 : (v 3) = tv x0 x1 x2 := hd 3 (by kernel_rfl)
      have d3 : f.tmps[24]? = some (tv x0 x1 x2) := (hv 3 24 rfl).trans (congrArg some h3)
      clear h3
      have h1 : (v 1) = .bool true := hd 1 (by kernel_rfl)
      have d1 : f.tmps[22]? = some (.bool true) := (hv 1 22 rfl).trans (congrArg some h1)
      clear h1
      clear hb hv hd
      have hve := vec_eq_self
      refine wpOp_step rfl (fun K hK => ?_)
      go_simp
      exact hK _ _ ⟨_, rfl, Below.refl _ _, rfl, fun h => absurd h (by decide)⟩
    | 5, _ =>
      have h1 : (v 1) = .bool true := hd 1 (by kernel_rfl)
      have d1 : f.tmps[22]? = some (.bool true) := (hv 1 22 rfl).trans (congrArg some h1)
      clear h1
      have h4 : (v 4) = .bool true := hd 4 (by kernel_rfl)
      have d4 : f.tmps[25]? = some (.bool true) := (hv 4 25 rfl).trans (congrArg some h4)
      clear h4
      clear hb hv hd
      refine wpOp_step rfl (fun K hK => ?_)
      go_simp
      exact hK _ _ ⟨_, rfl, Below.refl _ _, rfl, fun h => absurd h (by decide)⟩
    | 6, _ =>
      have h5 : (v 5) = .bool true := hd 5 (by kernel_rfl)
      have d5 : f.tmps[26]? = some (.bool true) := (hv 5 26 rfl).trans (congrArg some h5)
      clear h5
      clear hb hv hd
      refine wpOp_step rfl (fun K hK => ?_)
      go_simp
      exact hK _ _ ⟨_, rfl, Below.refl _ _, rfl, fun h => absurd h (by decide)⟩
    | 7, _ =>
      have b6 : f.tmps[6]? = some (.int .i64 xe) := (hb 6 (by decide)).trans rfl
      have h6 : (v 6) = .bool true := hd 6 (by kernel_rfl)
      have d6 : f.tmps[27]? = some (.bool true) := (hv 6 27 rfl).trans (congrArg some h6)
      clear h6
      clear hb hv hd
      refine wpOp_step rfl (fun K hK => ?_)
      go_simp
      exact hK _ _ ⟨_, rfl, Below.refl _ _, rfl, fun h => absurd h (by decide)⟩
    | 8, _ =>
      have b8 : f.tmps[8]? = some (.int .i64 xe) := (hb 8 (by decide)).trans rfl
      have h6 : (v 6) = .bool true := hd 6 (by kernel_rfl)
      have d6 : f.tmps[27]? = some (.bool true) := (hv 6 27 rfl).trans (congrArg some h6)
      clear h6
      clear hb hv hd
      refine wpOp_step rfl (fun K hK => ?_)
      go_simp
      exact hK _ _ ⟨_, rfl, Below.refl _ _, rfl, fun h => absurd h (by decide)⟩
    | 9, _ =>
      have h7 : (v 7) = .int .i64 xe := hd 7 (by kernel_rfl)
      have d7 : f.tmps[28]? = some (.int .i64 xe) := (hv 7 28 rfl).trans (congrArg some h7)
      clear h7
      have h8 : (v 8) = .int .i64 xe := hd 8 (by kernel_rfl)
      have d8 : f.tmps[29]? = some (.int .i64 xe) := (hv 8 29 rfl).trans (congrArg some h8)
      clear h8
      have h6 : (v 6) = .bool true := hd 6 (by kernel_rfl)
      have d6 : f.tmps[27]? = some (.bool true) := (hv 6 27 rfl).trans (congrArg some h6)
      clear h6
      clear hb hv hd
      refine wpOp_step rfl (fun K hK => ?_)
      go_simp
      exact hK _ _ ⟨_, rfl, Below.refl _ _, rfl, fun h => absurd h (by decide)⟩
    | 10, _ =>
      have h6 : (v 6) = .bool true := hd 6 (by kernel_rfl)
      have d6 : f.tmps[27]? = some (.bool true) := (hv 6 27 rfl).trans (congrArg some h6)
      clear h6
      have h9 : (v 9) = .bool true := hd 9 (by kernel_rfl)
      have d9 : f.tmps[30]? = some (.bool true) := (hv 9 30 rfl).trans (congrArg some h9)
      clear h9
      clear hb hv hd
      refine wpOp_step rfl (fun K hK => ?_)
      go_simp
      exact hK _ _ ⟨_, rfl, Below.refl _ _, rfl, fun h => absurd h (by decide)⟩
    | 11, _ =>
      have h10 : (v 10) = .bool true := hd 10 (by kernel_rfl)
      have d10 : f.tmps[31]? = some (.bool true) := (hv 10 31 rfl).trans (congrArg some h10)
      clear h10
      clear hb hv hd
      refine wpOp_step rfl (fun K hK => ?_)
      go_simp
      exact hK _ _ ⟨_, rfl, Below.refl _ _, rfl, fun h => absurd h (by decide)⟩
    | 12, _ =>
      have b2 : f.tmps[2]? = some (.pointer (some ⟨w.heap.size, 0, none⟩)) := (hb 2 (by decide)).trans rfl
      have h11 : (v 11) = .bool true := hd 11 (by kernel_rfl)
      have d11 : f.tmps[32]? = some (.bool true) := (hv 11 32 rfl).trans (congrArg some h11)
      clear h11
      clear hb hv hd
      have c := tc_keep hB kA
      refine wpOp_step rfl (fun K hK => ?_)
      go_simp
      exact hK _ _ ⟨_, rfl, Below.refl _ _, rfl, fun h => absurd h (by decide)⟩
    | 13, _ =>
      have b3 : f.tmps[3]? = some (.pointer (some ⟨w.heap.size + 1, 0, none⟩)) := (hb 3 (by decide)).trans rfl
      have h11 : (v 11) = .bool true := hd 11 (by kernel_rfl)
      have d11 : f.tmps[32]? = some (.bool true) := (hv 11 32 rfl).trans (congrArg some h11)
      clear h11
      clear hb hv hd
      have c := tc_keep hB kB
      refine wpOp_step rfl (fun K hK => ?_)
      go_simp
      exact hK _ _ ⟨_, rfl, Below.refl _ _, rfl, fun h => absurd h (by decide)⟩
    | 14, _ =>
      have h12 : (v 12) = tv a0 a1 a2 := hd 12 (by kernel_rfl)
      have d12 : f.tmps[33]? = some (tv a0 a1 a2) := (hv 12 33 rfl).trans (congrArg some h12)
      clear h12
      have h13 : (v 13) = tv b0 b1 b2 := hd 13 (by kernel_rfl)
      have d13 : f.tmps[34]? = some (tv b0 b1 b2) := (hv 13 34 rfl).trans (congrArg some h13)
      clear h13
      have h11 : (v 11) = .bool true := hd 11 (by kernel_rfl)
      have d11 : f.tmps[32]? = some (.bool true) := (hv 11 32 rfl).trans (congrArg some h11)
      clear h11
      clear hb hv hd
      refine wpOp_step rfl (fun K hK => ?_)
      go_simp
      refine (c3 _).mono ?_
      rintro e5 w5 ⟨rfl, hb5⟩
      exact hK _ _ ⟨_, rfl, hb5, rfl, fun h => absurd h (by decide)⟩
    | 15, _ =>
      have b2 : f.tmps[2]? = some (.pointer (some ⟨w.heap.size, 0, none⟩)) := (hb 2 (by decide)).trans rfl
      have h11 : (v 11) = .bool true := hd 11 (by kernel_rfl)
      have d11 : f.tmps[32]? = some (.bool true) := (hv 11 32 rfl).trans (congrArg some h11)
      clear h11
      clear hb hv hd
      have c := tc_keep hB kA
      refine wpOp_step rfl (fun K hK => ?_)
      go_simp
      exact hK _ _ ⟨_, rfl, Below.refl _ _, rfl, fun h => absurd h (by decide)⟩
    | 16, _ =>
      have b3 : f.tmps[3]? = some (.pointer (some ⟨w.heap.size + 1, 0, none⟩)) := (hb 3 (by decide)).trans rfl
      have h11 : (v 11) = .bool true := hd 11 (by kernel_rfl)
      have d11 : f.tmps[32]? = some (.bool true) := (hv 11 32 rfl).trans (congrArg some h11)
      clear h11
      clear hb hv hd
      have c := tc_keep hB kB
      refine wpOp_step rfl (fun K hK => ?_)
      go_simp
      exact hK _ _ ⟨_, rfl, Below.refl _ _, rfl, fun h => absurd h (by decide)⟩
    | 17, _ =>
      have h15 : (v 15) = tv a0 a1 a2 := hd 15 (by kernel_rfl)
      have d15 : f.tmps[36]? = some (tv a0 a1 a2) := (hv 15 36 rfl).trans (congrArg some h15)
      clear h15
      have h16 : (v 16) = tv b0 b1 b2 := hd 16 (by kernel_rfl)
      have d16 : f.tmps[37]? = some (tv b0 b1 b2) := (hv 16 37 rfl).trans (congrArg some h16)
      clear h16
      have h11 : (v 11) = .bool true := hd 11 (by kernel_rfl)
      have d11 : f.tmps[32]? = some (.bool true) := (hv 11 32 rfl).trans (congrArg some h11)
      clear h11
      clear hb hv hd
      refine wpOp_step rfl (fun K hK => ?_)
      go_simp
      refine (c4 _).mono ?_
      rintro e5 w5 ⟨rfl, hb5⟩
      exact hK _ _ ⟨_, rfl, hb5, rfl, fun h => absurd h (by decide)⟩
    | 18, _ =>
      have h14 : (v 14) = tv y0 y1 y2 := hd 14 (by kernel_rfl)
      have d14 : f.tmps[35]? = some (tv y0 y1 y2) := (hv 14 35 rfl).trans (congrArg some h14)
      clear h14
      have h17 : (v 17) = tv y0 y1 y2 := hd 17 (by kernel_rfl)
      have d17 : f.tmps[38]? = some (tv y0 y1 y2) := (hv 17 38 rfl).trans (congrArg some h17)
      clear h17
      have h11 : (v 11) = .bool true := hd 11 (by kernel_rfl)
      have d11 : f.tmps[32]? = some (.bool true) := (hv 11 32 rfl).trans (congrArg some h11)
      clear h11
      clear hb hv hd
      have hve := vec_eq_self
      refine wpOp_step rfl (fun K hK => ?_)
      go_simp
      exact hK _ _ ⟨_, rfl, Below.refl _ _, rfl, fun h => absurd h (by decide)⟩
    | 19, _ =>
      have h11 : (v 11) = .bool true := hd 11 (by kernel_rfl)
      have d11 : f.tmps[32]? = some (.bool true) := (hv 11 32 rfl).trans (congrArg some h11)
      clear h11
      have h18 : (v 18) = .bool true := hd 18 (by kernel_rfl)
      have d18 : f.tmps[39]? = some (.bool true) := (hv 18 39 rfl).trans (congrArg some h18)
      clear h18
      clear hb hv hd
      refine wpOp_step rfl (fun K hK => ?_)
      go_simp
      exact hK _ _ ⟨_, rfl, Below.refl _ _, rfl, fun h => absurd h (by decide)⟩
    | 20, _ =>
      have h19 : (v 19) = .bool true := hd 19 (by kernel_rfl)
      have d19 : f.tmps[40]? = some (.bool true) := (hv 19 40 rfl).trans (congrArg some h19)
      clear h19
      clear hb hv hd
      refine wpOp_step rfl (fun K hK => ?_)
      go_simp
      exact hK _ _ ⟨_, rfl, Below.refl _ _, rfl, fun h => absurd h (by decide)⟩
    | 21, _ =>
      have b2 : f.tmps[2]? = some (.pointer (some ⟨w.heap.size, 0, none⟩)) := (hb 2 (by decide)).trans rfl
      have h20 : (v 20) = .bool true := hd 20 (by kernel_rfl)
      have d20 : f.tmps[41]? = some (.bool true) := (hv 20 41 rfl).trans (congrArg some h20)
      clear h20
      clear hb hv hd
      have c := tc_keep hB kA
      refine wpOp_step rfl (fun K hK => ?_)
      go_simp
      exact hK _ _ ⟨_, rfl, Below.refl _ _, rfl, fun h => absurd h (by decide)⟩
    | 22, _ =>
      have h21 : (v 21) = tv a0 a1 a2 := hd 21 (by kernel_rfl)
      have d21 : f.tmps[42]? = some (tv a0 a1 a2) := (hv 21 42 rfl).trans (congrArg some h21)
      clear h21
      have h20 : (v 20) = .bool true := hd 20 (by kernel_rfl)
      have d20 : f.tmps[41]? = some (.bool true) := (hv 20 41 rfl).trans (congrArg some h20)
      clear h20
      clear hb hv hd
      refine wpOp_step rfl (fun K hK => ?_)
      go_simp
      refine (c5 _).mono ?_
      rintro e5 w5 ⟨rfl, hb5⟩
      exact hK _ _ ⟨_, rfl, hb5, rfl, fun h => absurd h (by decide)⟩
    | 23, _ =>
      have b2 : f.tmps[2]? = some (.pointer (some ⟨w.heap.size, 0, none⟩)) := (hb 2 (by decide)).trans rfl
      have h20 : (v 20) = .bool true := hd 20 (by kernel_rfl)
      have d20 : f.tmps[41]? = some (.bool true) := (hv 20 41 rfl).trans (congrArg some h20)
      clear h20
      clear hb hv hd
      have c := tc_keep hB kA
      refine wpOp_step rfl (fun K hK => ?_)
      go_simp
      exact hK _ _ ⟨_, rfl, Below.refl _ _, rfl, fun h => absurd h (by decide)⟩
    | 24, _ =>
      have h23 : (v 23) = tv a0 a1 a2 := hd 23 (by kernel_rfl)
      have d23 : f.tmps[44]? = some (tv a0 a1 a2) := (hv 23 44 rfl).trans (congrArg some h23)
      clear h23
      have h20 : (v 20) = .bool true := hd 20 (by kernel_rfl)
      have d20 : f.tmps[41]? = some (.bool true) := (hv 20 41 rfl).trans (congrArg some h20)
      clear h20
      clear hb hv hd
      refine wpOp_step rfl (fun K hK => ?_)
      go_simp
      refine (c6 _).mono ?_
      rintro e5 w5 ⟨rfl, hb5⟩
      exact hK _ _ ⟨_, rfl, hb5, rfl, fun h => absurd h (by decide)⟩
    | 25, _ =>
      have h22 : (v 22) = .bool fb := hd 22 (by kernel_rfl)
      have d22 : f.tmps[43]? = some (.bool fb) := (hv 22 43 rfl).trans (congrArg some h22)
      clear h22
      have h24 : (v 24) = .bool fb := hd 24 (by kernel_rfl)
      have d24 : f.tmps[45]? = some (.bool fb) := (hv 24 45 rfl).trans (congrArg some h24)
      clear h24
      have h20 : (v 20) = .bool true := hd 20 (by kernel_rfl)
      have d20 : f.tmps[41]? = some (.bool true) := (hv 20 41 rfl).trans (congrArg some h20)
      clear h20
      clear hb hv hd
      refine wpOp_step rfl (fun K hK => ?_)
      go_simp
      exact hK _ _ ⟨_, rfl, Below.refl _ _, rfl, fun h => absurd h (by decide)⟩
    | 26, _ =>
      have h20 : (v 20) = .bool true := hd 20 (by kernel_rfl)
      have d20 : f.tmps[41]? = some (.bool true) := (hv 20 41 rfl).trans (congrArg some h20)
      clear h20
      have h25 : (v 25) = .bool true := hd 25 (by kernel_rfl)
      have d25 : f.tmps[46]? = some (.bool true) := (hv 25 46 rfl).trans (congrArg some h25)
      clear h25
      clear hb hv hd
      refine wpOp_step rfl (fun K hK => ?_)
      go_simp
      exact hK _ _ ⟨_, rfl, Below.refl _ _, rfl, fun h => absurd h (by decide)⟩
    | 27, _ =>
      have h26 : (v 26) = .bool true := hd 26 (by kernel_rfl)
      have d26 : f.tmps[47]? = some (.bool true) := (hv 26 47 rfl).trans (congrArg some h26)
      clear h26
      clear hb hv hd
      refine wpOp_step rfl (fun K hK => ?_)
      go_simp
      exact hK _ _ ⟨_, rfl, Below.refl _ _, rfl, fun h => absurd h (by decide)⟩
    | 28, _ =>
      have b2 : f.tmps[2]? = some (.pointer (some ⟨w.heap.size, 0, none⟩)) := (hb 2 (by decide)).trans rfl
      have h27 : (v 27) = .bool true := hd 27 (by kernel_rfl)
      have d27 : f.tmps[48]? = some (.bool true) := (hv 27 48 rfl).trans (congrArg some h27)
      clear h27
      clear hb hv hd
      have c := tc_keep hB kA
      refine wpOp_step rfl (fun K hK => ?_)
      go_simp
      exact hK _ _ ⟨_, rfl, Below.refl _ _, rfl, fun h => absurd h (by decide)⟩
    | 29, _ =>
      have h28 : (v 28) = tv a0 a1 a2 := hd 28 (by kernel_rfl)
      have d28 : f.tmps[49]? = some (tv a0 a1 a2) := (hv 28 49 rfl).trans (congrArg some h28)
      clear h28
      have h27 : (v 27) = .bool true := hd 27 (by kernel_rfl)
      have d27 : f.tmps[48]? = some (.bool true) := (hv 27 48 rfl).trans (congrArg some h27)
      clear h27
      clear hb hv hd
      refine wpOp_step rfl (fun K hK => ?_)
      go_simp
      refine (c7 _).mono ?_
      rintro e5 w5 ⟨rfl, hb5⟩
      exact hK _ _ ⟨_, rfl, hb5, rfl, fun h => absurd h (by decide)⟩
    | 30, _ =>
      have b2 : f.tmps[2]? = some (.pointer (some ⟨w.heap.size, 0, none⟩)) := (hb 2 (by decide)).trans rfl
      have h27 : (v 27) = .bool true := hd 27 (by kernel_rfl)
      have d27 : f.tmps[48]? = some (.bool true) := (hv 27 48 rfl).trans (congrArg some h27)
      clear h27
      clear hb hv hd
      refine wpOp_step rfl (fun K hK => ?_)
      go_simp
      exact hK _ _ ⟨_, rfl, Below.refl _ _, rfl, fun h => absurd h (by decide)⟩
    | 31, _ =>
      have h30 : (v 30) = .pointer (some ⟨w.heap.size, 0, none⟩) := hd 30 (by kernel_rfl)
      have d30 : f.tmps[51]? = some (.pointer (some ⟨w.heap.size, 0, none⟩)) := (hv 30 51 rfl).trans (congrArg some h30)
      clear h30
      have h27 : (v 27) = .bool true := hd 27 (by kernel_rfl)
      have d27 : f.tmps[48]? = some (.bool true) := (hv 27 48 rfl).trans (congrArg some h27)
      clear h27
      clear hb hv hd
      have c := tc_keep hB kA
      refine wpOp_step rfl (fun K hK => ?_)
      go_simp
      exact hK _ _ ⟨_, rfl, Below.refl _ _, rfl, fun h => absurd h (by decide)⟩
    | 32, _ =>
      have h29 : (v 29) = .int .i64 m := hd 29 (by kernel_rfl)
      have d29 : f.tmps[50]? = some (.int .i64 m) := (hv 29 50 rfl).trans (congrArg some h29)
      clear h29
      have h31 : (v 31) = .int .i64 a0 := hd 31 (by kernel_rfl)
      have d31 : f.tmps[52]? = some (.int .i64 a0) := (hv 31 52 rfl).trans (congrArg some h31)
      clear h31
      have h27 : (v 27) = .bool true := hd 27 (by kernel_rfl)
      have d27 : f.tmps[48]? = some (.bool true) := (hv 27 48 rfl).trans (congrArg some h27)
      clear h27
      clear hb hv hd
      refine wpOp_step rfl (fun K hK => ?_)
      go_simp
      exact hK _ _ ⟨_, rfl, Below.refl _ _, rfl, fun h => absurd h (by decide)⟩
    | 33, _ =>
      have h27 : (v 27) = .bool true := hd 27 (by kernel_rfl)
      have d27 : f.tmps[48]? = some (.bool true) := (hv 27 48 rfl).trans (congrArg some h27)
      clear h27
      have h32 : (v 32) = .bool true := hd 32 (by kernel_rfl)
      have d32 : f.tmps[53]? = some (.bool true) := (hv 32 53 rfl).trans (congrArg some h32)
      clear h32
      clear hb hv hd
      refine wpOp_step rfl (fun K hK => ?_)
      go_simp
      exact hK _ _ ⟨_, rfl, Below.refl _ _, rfl, fun h => absurd h (by decide)⟩
    | 34, _ =>
      have h33 : (v 33) = .bool true := hd 33 (by kernel_rfl)
      have d33 : f.tmps[54]? = some (.bool true) := (hv 33 54 rfl).trans (congrArg some h33)
      clear h33
      clear hb hv hd
      refine wpOp_step rfl (fun K hK => ?_)
      go_simp
      exact hK _ _ ⟨_, rfl, Below.refl _ _, rfl, fun h => absurd h (by decide)⟩
    | 35, _ =>
      have b2 : f.tmps[2]? = some (.pointer (some ⟨w.heap.size, 0, none⟩)) := (hb 2 (by decide)).trans rfl
      have h34 : (v 34) = .bool true := hd 34 (by kernel_rfl)
      have d34 : f.tmps[55]? = some (.bool true) := (hv 34 55 rfl).trans (congrArg some h34)
      clear h34
      clear hb hv hd
      have c := tc_keep hB kA
      refine wpOp_step rfl (fun K hK => ?_)
      go_simp
      exact hK _ _ ⟨_, rfl, Below.refl _ _, rfl, fun h => absurd h (by decide)⟩
    | 36, _ =>
      have h35 : (v 35) = tv a0 a1 a2 := hd 35 (by kernel_rfl)
      have d35 : f.tmps[56]? = some (tv a0 a1 a2) := (hv 35 56 rfl).trans (congrArg some h35)
      clear h35
      have h34 : (v 34) = .bool true := hd 34 (by kernel_rfl)
      have d34 : f.tmps[55]? = some (.bool true) := (hv 34 55 rfl).trans (congrArg some h34)
      clear h34
      clear hb hv hd
      refine wpOp_step rfl (fun K hK => ?_)
      go_simp
      refine (c7 _).mono ?_
      rintro e5 w5 ⟨rfl, hb5⟩
      exact hK _ _ ⟨_, rfl, hb5, rfl, fun h => absurd h (by decide)⟩
    | 37, _ =>
      have b2 : f.tmps[2]? = some (.pointer (some ⟨w.heap.size, 0, none⟩)) := (hb 2 (by decide)).trans rfl
      have h34 : (v 34) = .bool true := hd 34 (by kernel_rfl)
      have d34 : f.tmps[55]? = some (.bool true) := (hv 34 55 rfl).trans (congrArg some h34)
      clear h34
      clear hb hv hd
      refine wpOp_step rfl (fun K hK => ?_)
      go_simp
      exact hK _ _ ⟨_, rfl, Below.refl _ _, rfl, fun h => absurd h (by decide)⟩
    | 38, _ =>
      have h37 : (v 37) = .pointer (some ⟨w.heap.size, 1, none⟩) := hd 37 (by kernel_rfl)
      have d37 : f.tmps[58]? = some (.pointer (some ⟨w.heap.size, 1, none⟩)) := (hv 37 58 rfl).trans (congrArg some h37)
      clear h37
      have h34 : (v 34) = .bool true := hd 34 (by kernel_rfl)
      have d34 : f.tmps[55]? = some (.bool true) := (hv 34 55 rfl).trans (congrArg some h34)
      clear h34
      clear hb hv hd
      have c := tc_keep hB kA
      refine wpOp_step rfl (fun K hK => ?_)
      go_simp
      exact hK _ _ ⟨_, rfl, Below.refl _ _, rfl, fun h => absurd h (by decide)⟩
    | 39, _ =>
      have h36 : (v 36) = .int .i64 m := hd 36 (by kernel_rfl)
      have d36 : f.tmps[57]? = some (.int .i64 m) := (hv 36 57 rfl).trans (congrArg some h36)
      clear h36
      have h38 : (v 38) = .int .i64 a1 := hd 38 (by kernel_rfl)
      have d38 : f.tmps[59]? = some (.int .i64 a1) := (hv 38 59 rfl).trans (congrArg some h38)
      clear h38
      have h34 : (v 34) = .bool true := hd 34 (by kernel_rfl)
      have d34 : f.tmps[55]? = some (.bool true) := (hv 34 55 rfl).trans (congrArg some h34)
      clear h34
      clear hb hv hd
      refine wpOp_step rfl (fun K hK => ?_)
      go_simp
      exact hK _ _ ⟨_, rfl, Below.refl _ _, rfl, fun h => absurd h (by decide)⟩
    | 40, _ =>
      have h34 : (v 34) = .bool true := hd 34 (by kernel_rfl)
      have d34 : f.tmps[55]? = some (.bool true) := (hv 34 55 rfl).trans (congrArg some h34)
      clear h34
      have h39 : (v 39) = .bool true := hd 39 (by kernel_rfl)
      have d39 : f.tmps[60]? = some (.bool true) := (hv 39 60 rfl).trans (congrArg some h39)
      clear h39
      clear hb hv hd
      refine wpOp_step rfl (fun K hK => ?_)
      go_simp
      exact hK _ _ ⟨_, rfl, Below.refl _ _, rfl, fun h => absurd h (by decide)⟩
    | 41, _ =>
      have h40 : (v 40) = .bool true := hd 40 (by kernel_rfl)
      have d40 : f.tmps[61]? = some (.bool true) := (hv 40 61 rfl).trans (congrArg some h40)
      clear h40
      clear hb hv hd
      refine wpOp_step rfl (fun K hK => ?_)
      go_simp
      exact hK _ _ ⟨_, rfl, Below.refl _ _, rfl, fun h => absurd h (by decide)⟩
    | 42, _ =>
      have b2 : f.tmps[2]? = some (.pointer (some ⟨w.heap.size, 0, none⟩)) := (hb 2 (by decide)).trans rfl
      have h41 : (v 41) = .bool true := hd 41 (by kernel_rfl)
      have d41 : f.tmps[62]? = some (.bool true) := (hv 41 62 rfl).trans (congrArg some h41)
      clear h41
      clear hb hv hd
      have c := tc_keep hB kA
      refine wpOp_step rfl (fun K hK => ?_)
      go_simp
      exact hK _ _ ⟨_, rfl, Below.refl _ _, rfl, fun h => absurd h (by decide)⟩
    | 43, _ =>
      have h42 : (v 42) = tv a0 a1 a2 := hd 42 (by kernel_rfl)
      have d42 : f.tmps[63]? = some (tv a0 a1 a2) := (hv 42 63 rfl).trans (congrArg some h42)
      clear h42
      have h41 : (v 41) = .bool true := hd 41 (by kernel_rfl)
      have d41 : f.tmps[62]? = some (.bool true) := (hv 41 62 rfl).trans (congrArg some h41)
      clear h41
      clear hb hv hd
      refine wpOp_step rfl (fun K hK => ?_)
      go_simp
      refine (c7 _).mono ?_
      rintro e5 w5 ⟨rfl, hb5⟩
      exact hK _ _ ⟨_, rfl, hb5, rfl, fun h => absurd h (by decide)⟩
    | 44, _ =>
      have b2 : f.tmps[2]? = some (.pointer (some ⟨w.heap.size, 0, none⟩)) := (hb 2 (by decide)).trans rfl
      have h41 : (v 41) = .bool true := hd 41 (by kernel_rfl)
      have d41 : f.tmps[62]? = some (.bool true) := (hv 41 62 rfl).trans (congrArg some h41)
      clear h41
      clear hb hv hd
      refine wpOp_step rfl (fun K hK => ?_)
      go_simp
      exact hK _ _ ⟨_, rfl, Below.refl _ _, rfl, fun h => absurd h (by decide)⟩
    | 45, _ =>
      have h44 : (v 44) = .pointer (some ⟨w.heap.size, 2, none⟩) := hd 44 (by kernel_rfl)
      have d44 : f.tmps[65]? = some (.pointer (some ⟨w.heap.size, 2, none⟩)) := (hv 44 65 rfl).trans (congrArg some h44)
      clear h44
      have h41 : (v 41) = .bool true := hd 41 (by kernel_rfl)
      have d41 : f.tmps[62]? = some (.bool true) := (hv 41 62 rfl).trans (congrArg some h41)
      clear h41
      clear hb hv hd
      have c := tc_keep hB kA
      refine wpOp_step rfl (fun K hK => ?_)
      go_simp
      exact hK _ _ ⟨_, rfl, Below.refl _ _, rfl, fun h => absurd h (by decide)⟩
    | 46, _ =>
      have h43 : (v 43) = .int .i64 m := hd 43 (by kernel_rfl)
      have d43 : f.tmps[64]? = some (.int .i64 m) := (hv 43 64 rfl).trans (congrArg some h43)
      clear h43
      have h45 : (v 45) = .int .i64 a2 := hd 45 (by kernel_rfl)
      have d45 : f.tmps[66]? = some (.int .i64 a2) := (hv 45 66 rfl).trans (congrArg some h45)
      clear h45
      have h41 : (v 41) = .bool true := hd 41 (by kernel_rfl)
      have d41 : f.tmps[62]? = some (.bool true) := (hv 41 62 rfl).trans (congrArg some h41)
      clear h41
      clear hb hv hd
      refine wpOp_step rfl (fun K hK => ?_)
      go_simp
      exact hK _ _ ⟨_, rfl, Below.refl _ _, rfl, fun h => absurd h (by decide)⟩
    | 47, _ =>
      have h41 : (v 41) = .bool true := hd 41 (by kernel_rfl)
      have d41 : f.tmps[62]? = some (.bool true) := (hv 41 62 rfl).trans (congrArg some h41)
      clear h41
      have h46 : (v 46) = .bool true := hd 46 (by kernel_rfl)
      have d46 : f.tmps[67]? = some (.bool true) := (hv 46 67 rfl).trans (congrArg some h46)
      clear h46
      clear hb hv hd
      refine wpOp_step rfl (fun K hK => ?_)
      go_simp
      exact hK _ _ ⟨_, rfl, Below.refl _ _, rfl, fun h => absurd h (by decide)⟩
    | 48, _ =>
      have h47 : (v 47) = .bool true := hd 47 (by kernel_rfl)
      have d47 : f.tmps[68]? = some (.bool true) := (hv 47 68 rfl).trans (congrArg some h47)
      clear h47
      clear hb hv hd
      refine wpOp_step rfl (fun K hK => ?_)
      go_simp
      exact hK _ _ ⟨_, rfl, Below.refl _ _, rfl, fun h => absurd h (by decide)⟩
    | 49, _ =>
      have b2 : f.tmps[2]? = some (.pointer (some ⟨w.heap.size, 0, none⟩)) := (hb 2 (by decide)).trans rfl
      have h48 : (v 48) = .bool true := hd 48 (by kernel_rfl)
      have d48 : f.tmps[69]? = some (.bool true) := (hv 48 69 rfl).trans (congrArg some h48)
      clear h48
      clear hb hv hd
      have c := tc_keep hB kA
      refine wpOp_step rfl (fun K hK => ?_)
      go_simp
      exact hK _ _ ⟨_, rfl, Below.refl _ _, rfl, fun h => absurd h (by decide)⟩
    | 50, _ =>
      have h49 : (v 49) = tv a0 a1 a2 := hd 49 (by kernel_rfl)
      have d49 : f.tmps[70]? = some (tv a0 a1 a2) := (hv 49 70 rfl).trans (congrArg some h49)
      clear h49
      have h48 : (v 48) = .bool true := hd 48 (by kernel_rfl)
      have d48 : f.tmps[69]? = some (.bool true) := (hv 48 69 rfl).trans (congrArg some h48)
      clear h48
      clear hb hv hd
      refine wpOp_step rfl (fun K hK => ?_)
      go_simp
      refine (c7 _).mono ?_
      rintro e5 w5 ⟨rfl, hb5⟩
      exact hK _ _ ⟨_, rfl, hb5, rfl, fun h => absurd h (by decide)⟩
    | 51, _ =>
      have b2 : f.tmps[2]? = some (.pointer (some ⟨w.heap.size, 0, none⟩)) := (hb 2 (by decide)).trans rfl
      have h48 : (v 48) = .bool true := hd 48 (by kernel_rfl)
      have d48 : f.tmps[69]? = some (.bool true) := (hv 48 69 rfl).trans (congrArg some h48)
      clear h48
      clear hb hv hd
      refine wpOp_step rfl (fun K hK => ?_)
      go_simp
      exact hK _ _ ⟨_, rfl, Below.refl _ _, rfl, fun h => absurd h (by decide)⟩
    | 52, _ =>
      have h51 : (v 51) = .pointer (some ⟨w.heap.size, 0, none⟩) := hd 51 (by kernel_rfl)
      have d51 : f.tmps[72]? = some (.pointer (some ⟨w.heap.size, 0, none⟩)) := (hv 51 72 rfl).trans (congrArg some h51)
      clear h51
      have h48 : (v 48) = .bool true := hd 48 (by kernel_rfl)
      have d48 : f.tmps[69]? = some (.bool true) := (hv 48 69 rfl).trans (congrArg some h48)
      clear h48
      clear hb hv hd
      have c := tc_keep hB kA
      refine wpOp_step rfl (fun K hK => ?_)
      go_simp
      exact hK _ _ ⟨_, rfl, Below.refl _ _, rfl, fun h => absurd h (by decide)⟩
    | 53, _ =>
      have h50 : (v 50) = .int .i64 m := hd 50 (by kernel_rfl)
      have d50 : f.tmps[71]? = some (.int .i64 m) := (hv 50 71 rfl).trans (congrArg some h50)
      clear h50
      have h52 : (v 52) = .int .i64 a0 := hd 52 (by kernel_rfl)
      have d52 : f.tmps[73]? = some (.int .i64 a0) := (hv 52 73 rfl).trans (congrArg some h52)
      clear h52
      have h48 : (v 48) = .bool true := hd 48 (by kernel_rfl)
      have d48 : f.tmps[69]? = some (.bool true) := (hv 48 69 rfl).trans (congrArg some h48)
      clear h48
      clear hb hv hd
      refine wpOp_step rfl (fun K hK => ?_)
      go_simp
      exact hK _ _ ⟨_, rfl, Below.refl _ _, rfl, fun h => absurd h (by decide)⟩
    | 54, _ =>
      have h53 : (v 53) = .bool false := hd 53 (by kernel_rfl)
      have d53 : f.tmps[74]? = some (.bool false) := (hv 53 74 rfl).trans (congrArg some h53)
      clear h53
      have h48 : (v 48) = .bool true := hd 48 (by kernel_rfl)
      have d48 : f.tmps[69]? = some (.bool true) := (hv 48 69 rfl).trans (congrArg some h48)
      clear h48
      clear hb hv hd
      refine wpOp_step rfl (fun K hK => ?_)
      go_simp
      exact hK _ _ ⟨_, rfl, Below.refl _ _, rfl, fun h => absurd h (by decide)⟩
    | 55, _ =>
      have b2 : f.tmps[2]? = some (.pointer (some ⟨w.heap.size, 0, none⟩)) := (hb 2 (by decide)).trans rfl
      have h54 : (v 54) = .bool false := hd 54 (by kernel_rfl)
      have d54 : f.tmps[75]? = some (.bool false) := (hv 54 75 rfl).trans (congrArg some h54)
      clear h54
      clear hb hv hd
      have c := tc_keep hB kA
      refine wpOp_step rfl (fun K hK => ?_)
      go_simp
      exact hK _ _ ⟨_, rfl, Below.refl _ _, rfl, fun h => absurd h (by decide)⟩
    | 56, _ =>
      have h55 : (v 55) = tv a0 a1 a2 := hd 55 (by kernel_rfl)
      have d55 : f.tmps[76]? = some (tv a0 a1 a2) := (hv 55 76 rfl).trans (congrArg some h55)
      clear h55
      have h54 : (v 54) = .bool false := hd 54 (by kernel_rfl)
      have d54 : f.tmps[75]? = some (.bool false) := (hv 54 75 rfl).trans (congrArg some h54)
      clear h54
      clear hb hv hd
      refine wpOp_step rfl (fun K hK => ?_)
      go_simp
      refine (c7 _).mono ?_
      rintro e5 w5 ⟨rfl, hb5⟩
      exact hK _ _ ⟨_, rfl, hb5, rfl, fun h => absurd h (by decide)⟩
    | 57, _ =>
      have b2 : f.tmps[2]? = some (.pointer (some ⟨w.heap.size, 0, none⟩)) := (hb 2 (by decide)).trans rfl
      have h54 : (v 54) = .bool false := hd 54 (by kernel_rfl)
      have d54 : f.tmps[75]? = some (.bool false) := (hv 54 75 rfl).trans (congrArg some h54)
      clear h54
      clear hb hv hd
      refine wpOp_step rfl (fun K hK => ?_)
      go_simp
      exact hK _ _ ⟨_, rfl, Below.refl _ _, rfl, fun h => absurd h (by decide)⟩
    | 58, _ =>
      have h57 : (v 57) = .pointer (some ⟨w.heap.size, 1, none⟩) := hd 57 (by kernel_rfl)
      have d57 : f.tmps[78]? = some (.pointer (some ⟨w.heap.size, 1, none⟩)) := (hv 57 78 rfl).trans (congrArg some h57)
      clear h57
      have h54 : (v 54) = .bool false := hd 54 (by kernel_rfl)
      have d54 : f.tmps[75]? = some (.bool false) := (hv 54 75 rfl).trans (congrArg some h54)
      clear h54
      clear hb hv hd
      have c := tc_keep hB kA
      refine wpOp_step rfl (fun K hK => ?_)
      go_simp
      exact hK _ _ ⟨_, rfl, Below.refl _ _, rfl, fun h => absurd h (by decide)⟩
    | 59, _ =>
      have h56 : (v 56) = .int .i64 m := hd 56 (by kernel_rfl)
      have d56 : f.tmps[77]? = some (.int .i64 m) := (hv 56 77 rfl).trans (congrArg some h56)
      clear h56
      have h58 : (v 58) = .int .i64 a1 := hd 58 (by kernel_rfl)
      have d58 : f.tmps[79]? = some (.int .i64 a1) := (hv 58 79 rfl).trans (congrArg some h58)
      clear h58
      have h54 : (v 54) = .bool false := hd 54 (by kernel_rfl)
      have d54 : f.tmps[75]? = some (.bool false) := (hv 54 75 rfl).trans (congrArg some h54)
      clear h54
      clear hb hv hd
      refine wpOp_step rfl (fun K hK => ?_)
      go_simp
      exact hK _ _ ⟨_, rfl, Below.refl _ _, rfl, fun h => absurd h (by decide)⟩
    | 60, _ =>
      have h54 : (v 54) = .bool false := hd 54 (by kernel_rfl)
      have d54 : f.tmps[75]? = some (.bool false) := (hv 54 75 rfl).trans (congrArg some h54)
      clear h54
      have h59 : (v 59) = .bool false := hd 59 (by kernel_rfl)
      have d59 : f.tmps[80]? = some (.bool false) := (hv 59 80 rfl).trans (congrArg some h59)
      clear h59
      have h48 : (v 48) = .bool true := hd 48 (by kernel_rfl)
      have d48 : f.tmps[69]? = some (.bool true) := (hv 48 69 rfl).trans (congrArg some h48)
      clear h48
      clear hb hv hd
      refine wpOp_step rfl (fun K hK => ?_)
      go_simp
      exact hK _ _ ⟨_, rfl, Below.refl _ _, rfl, fun h => absurd h (by decide)⟩
    | 61, _ =>
      have h60 : (v 60) = .bool false := hd 60 (by kernel_rfl)
      have d60 : f.tmps[81]? = some (.bool false) := (hv 60 81 rfl).trans (congrArg some h60)
      clear h60
      have h48 : (v 48) = .bool true := hd 48 (by kernel_rfl)
      have d48 : f.tmps[69]? = some (.bool true) := (hv 48 69 rfl).trans (congrArg some h48)
      clear h48
      clear hb hv hd
      refine wpOp_step rfl (fun K hK => ?_)
      go_simp
      exact hK _ _ ⟨_, rfl, Below.refl _ _, rfl, fun h => absurd h (by decide)⟩
    | 62, _ =>
      have b2 : f.tmps[2]? = some (.pointer (some ⟨w.heap.size, 0, none⟩)) := (hb 2 (by decide)).trans rfl
      have h61 : (v 61) = .bool false := hd 61 (by kernel_rfl)
      have d61 : f.tmps[82]? = some (.bool false) := (hv 61 82 rfl).trans (congrArg some h61)
      clear h61
      clear hb hv hd
      have c := tc_keep hB kA
      refine wpOp_step rfl (fun K hK => ?_)
      go_simp
      exact hK _ _ ⟨_, rfl, Below.refl _ _, rfl, fun h => absurd h (by decide)⟩
    | 63, _ =>
      have h62 : (v 62) = tv a0 a1 a2 := hd 62 (by kernel_rfl)
      have d62 : f.tmps[83]? = some (tv a0 a1 a2) := (hv 62 83 rfl).trans (congrArg some h62)
      clear h62
      have h61 : (v 61) = .bool false := hd 61 (by kernel_rfl)
      have d61 : f.tmps[82]? = some (.bool false) := (hv 61 82 rfl).trans (congrArg some h61)
      clear h61
      clear hb hv hd
      refine wpOp_step rfl (fun K hK => ?_)
      go_simp
      refine (c7 _).mono ?_
      rintro e5 w5 ⟨rfl, hb5⟩
      exact hK _ _ ⟨_, rfl, hb5, rfl, fun h => absurd h (by decide)⟩
    | 64, _ =>
      have b2 : f.tmps[2]? = some (.pointer (some ⟨w.heap.size, 0, none⟩)) := (hb 2 (by decide)).trans rfl
      have h61 : (v 61) = .bool false := hd 61 (by kernel_rfl)
      have d61 : f.tmps[82]? = some (.bool false) := (hv 61 82 rfl).trans (congrArg some h61)
      clear h61
      clear hb hv hd
      refine wpOp_step rfl (fun K hK => ?_)
      go_simp
      exact hK _ _ ⟨_, rfl, Below.refl _ _, rfl, fun h => absurd h (by decide)⟩
    | 65, _ =>
      have h64 : (v 64) = .pointer (some ⟨w.heap.size, 2, none⟩) := hd 64 (by kernel_rfl)
      have d64 : f.tmps[85]? = some (.pointer (some ⟨w.heap.size, 2, none⟩)) := (hv 64 85 rfl).trans (congrArg some h64)
      clear h64
      have h61 : (v 61) = .bool false := hd 61 (by kernel_rfl)
      have d61 : f.tmps[82]? = some (.bool false) := (hv 61 82 rfl).trans (congrArg some h61)
      clear h61
      clear hb hv hd
      have c := tc_keep hB kA
      refine wpOp_step rfl (fun K hK => ?_)
      go_simp
      exact hK _ _ ⟨_, rfl, Below.refl _ _, rfl, fun h => absurd h (by decide)⟩
    | 66, _ =>
      have h63 : (v 63) = .int .i64 m := hd 63 (by kernel_rfl)
      have d63 : f.tmps[84]? = some (.int .i64 m) := (hv 63 84 rfl).trans (congrArg some h63)
      clear h63
      have h65 : (v 65) = .int .i64 a2 := hd 65 (by kernel_rfl)
      have d65 : f.tmps[86]? = some (.int .i64 a2) := (hv 65 86 rfl).trans (congrArg some h65)
      clear h65
      have h61 : (v 61) = .bool false := hd 61 (by kernel_rfl)
      have d61 : f.tmps[82]? = some (.bool false) := (hv 61 82 rfl).trans (congrArg some h61)
      clear h61
      clear hb hv hd
      refine wpOp_step rfl (fun K hK => ?_)
      go_simp
      exact hK _ _ ⟨_, rfl, Below.refl _ _, rfl, fun h => absurd h (by decide)⟩
    | 67, _ =>
      have h61 : (v 61) = .bool false := hd 61 (by kernel_rfl)
      have d61 : f.tmps[82]? = some (.bool false) := (hv 61 82 rfl).trans (congrArg some h61)
      clear h61
      have h66 : (v 66) = .bool true := hd 66 (by kernel_rfl)
      have d66 : f.tmps[87]? = some (.bool true) := (hv 66 87 rfl).trans (congrArg some h66)
      clear h66
      have h48 : (v 48) = .bool true := hd 48 (by kernel_rfl)
      have d48 : f.tmps[69]? = some (.bool true) := (hv 48 69 rfl).trans (congrArg some h48)
      clear h48
      clear hb hv hd
      refine wpOp_step rfl (fun K hK => ?_)
      go_simp
      exact hK _ _ ⟨_, rfl, Below.refl _ _, rfl, fun h => absurd h (by decide)⟩
    | 68, _ =>
      have h48 : (v 48) = .bool true := hd 48 (by kernel_rfl)
      have d48 : f.tmps[69]? = some (.bool true) := (hv 48 69 rfl).trans (congrArg some h48)
      clear h48
      have h67 : (v 67) = .bool true := hd 67 (by kernel_rfl)
      have d67 : f.tmps[88]? = some (.bool true) := (hv 67 88 rfl).trans (congrArg some h67)
      clear h67
      clear hb hv hd
      refine wpOp_step rfl (fun K hK => ?_)
      go_simp
      exact hK _ _ ⟨_, rfl, Below.refl _ _, rfl, fun h => absurd h (by decide)⟩
    | k + 69, hk => exact absurd hk (by simp)
  · intro v w' hB hF hD
    have F0 : (v 0) = .bool true := hF 0 (by simp)
    have F1 : (v 1) = .bool true := hF 1 (by simp)
    have F2 : (v 2) = tv x0 x1 x2 := hF 2 (by simp)
    have F3 : (v 3) = tv x0 x1 x2 := hF 3 (by simp)
    have F4 : (v 4) = .bool true := hF 4 (by simp)
    have F5 : (v 5) = .bool true := hF 5 (by simp)
    have F6 : (v 6) = .bool true := hF 6 (by simp)
    have F7 : (v 7) = .int .i64 xe := hF 7 (by simp)
    have F8 : (v 8) = .int .i64 xe := hF 8 (by simp)
    have F9 : (v 9) = .bool true := hF 9 (by simp)
    have F10 : (v 10) = .bool true := hF 10 (by simp)
    have F11 : (v 11) = .bool true := hF 11 (by simp)
    have F12 : (v 12) = tv a0 a1 a2 := hF 12 (by simp)
    have F13 : (v 13) = tv b0 b1 b2 := hF 13 (by simp)
    have F14 : (v 14) = tv y0 y1 y2 := hF 14 (by simp)
    have F15 : (v 15) = tv a0 a1 a2 := hF 15 (by simp)
    have F16 : (v 16) = tv b0 b1 b2 := hF 16 (by simp)
    have F17 : (v 17) = tv y0 y1 y2 := hF 17 (by simp)
    have F18 : (v 18) = .bool true := hF 18 (by simp)
    have F19 : (v 19) = .bool true := hF 19 (by simp)
    have F20 : (v 20) = .bool true := hF 20 (by simp)
    have F21 : (v 21) = tv a0 a1 a2 := hF 21 (by simp)
    have F22 : (v 22) = .bool fb := hF 22 (by simp)
    have F23 : (v 23) = tv a0 a1 a2 := hF 23 (by simp)
    have F24 : (v 24) = .bool fb := hF 24 (by simp)
    have F25 : (v 25) = .bool true := hF 25 (by simp)
    have F26 : (v 26) = .bool true := hF 26 (by simp)
    have F27 : (v 27) = .bool true := hF 27 (by simp)
    have F28 : (v 28) = tv a0 a1 a2 := hF 28 (by simp)
    have F29 : (v 29) = .int .i64 m := hF 29 (by simp)
    have F30 : (v 30) = .pointer (some ⟨w.heap.size, 0, none⟩) := hF 30 (by simp)
    have F31 : (v 31) = .int .i64 a0 := hF 31 (by simp)
    have F32 : (v 32) = .bool true := hF 32 (by simp)
    have F33 : (v 33) = .bool true := hF 33 (by simp)
    have F34 : (v 34) = .bool true := hF 34 (by simp)
    have F35 : (v 35) = tv a0 a1 a2 := hF 35 (by simp)
    have F36 : (v 36) = .int .i64 m := hF 36 (by simp)
    have F37 : (v 37) = .pointer (some ⟨w.heap.size, 1, none⟩) := hF 37 (by simp)
    have F38 : (v 38) = .int .i64 a1 := hF 38 (by simp)
    have F39 : (v 39) = .bool true := hF 39 (by simp)
    have F40 : (v 40) = .bool true := hF 40 (by simp)
    have F41 : (v 41) = .bool true := hF 41 (by simp)
    have F42 : (v 42) = tv a0 a1 a2 := hF 42 (by simp)
    have F43 : (v 43) = .int .i64 m := hF 43 (by simp)
    have F44 : (v 44) = .pointer (some ⟨w.heap.size, 2, none⟩) := hF 44 (by simp)
    have F45 : (v 45) = .int .i64 a2 := hF 45 (by simp)
    have F46 : (v 46) = .bool true := hF 46 (by simp)
    have F47 : (v 47) = .bool true := hF 47 (by simp)
    have F48 : (v 48) = .bool true := hF 48 (by simp)
    have F49 : (v 49) = tv a0 a1 a2 := hF 49 (by simp)
    have F50 : (v 50) = .int .i64 m := hF 50 (by simp)
    have F51 : (v 51) = .pointer (some ⟨w.heap.size, 0, none⟩) := hF 51 (by simp)
    have F52 : (v 52) = .int .i64 a0 := hF 52 (by simp)
    have F53 : (v 53) = .bool false := hF 53 (by simp)
    have F54 : (v 54) = .bool false := hF 54 (by simp)
    have F55 : (v 55) = tv a0 a1 a2 := hF 55 (by simp)
    have F56 : (v 56) = .int .i64 m := hF 56 (by simp)
    have F57 : (v 57) = .pointer (some ⟨w.heap.size, 1, none⟩) := hF 57 (by simp)
    have F58 : (v 58) = .int .i64 a1 := hF 58 (by simp)
    have F59 : (v 59) = .bool false := hF 59 (by simp)
    have F60 : (v 60) = .bool false := hF 60 (by simp)
    have F61 : (v 61) = .bool false := hF 61 (by simp)
    have F62 : (v 62) = tv a0 a1 a2 := hF 62 (by simp)
    have F63 : (v 63) = .int .i64 m := hF 63 (by simp)
    have F64 : (v 64) = .pointer (some ⟨w.heap.size, 2, none⟩) := hF 64 (by simp)
    have F65 : (v 65) = .int .i64 a2 := hF 65 (by simp)
    have F66 : (v 66) = .bool true := hF 66 (by simp)
    have F67 : (v 67) = .bool true := hF 67 (by simp)
    have F68 : (v 68) = .bool true := hF 68 (by simp)
    clear hF
    simp only [frOf, frGo, Nat.zero_add, Nat.reduceAdd, F0, F1, F2, F3, F4, F5, F6, F7, F8, F9, F10, F11, F12, F13, F14, F15, F16, F17, F18, F19, F20, F21, F22, F23, F24, F25, F26, F27, F28, F29, F30, F31, F32, F33, F34, F35, F36, F37, F38, F39, F40, F41, F42, F43, F44, F45, F46, F47, F48, F49, F50, F51, F52, F53, F54, F55, F56, F57, F58, F59, F60, F61, F62, F63, F64, F65, F66, F67, F68]
    replace B0 := b_trans B0 hB
    clear F0 F1 F2 F3 F4 F5 F6 F7 F8 F9 F10 F11 F12 F13 F14 F15 F16 F17 F18 F19 F20 F21 F22 F23 F24 F25 F26 F27 F28 F29 F30 F31 F32 F33 F34 F35 F36 F37 F38 F39 F40 F41 F42 F43 F44 F45 F46 F47 F48 F49 F50 F51 F52 F53 F54 F55 F56 F57 F58 F59 F60 F61 F62 F63 F64 F65 F66 F67 F68 hD hB kA kB kx ky c3 c4 c5 c6 c7
    go_wp2
    go_ret
    exact ⟨rfl, B0⟩

theorem vecSums_any (a0 a1 a2 b0 b1 b2 : Int) (ha0 : I64 a0) (ha1 : I64 a1) (ha2 : I64 a2) (hb0 : I64 b0) (hb1 : I64 b1) (hb2 : I64 b2) (w : World) :
    Calls Try.prog 3 #[tv a0 a1 a2, tv b0 b1 b2] w (RetV (.bool true) w) := by
  obtain ⟨x0, x1, x2, xe, c1, c2, _⟩ := add3_all a0 a1 a2 b0 b1 b2 ha0 ha1 ha2 hb0 hb1 hb2
  have c3 := clamp_vec a0 a1 a2 b0 b1 b2 ha0 ha1 ha2 hb0 hb1 hb2
  have c4 := clamp3_ref a0 a1 a2 b0 b1 b2 ha0 ha1 ha2 hb0 hb1 hb2
  have c5 := fits3_vec a0 a1 a2 ha0 ha1 ha2
  have c6 := fits3_ref a0 a1 a2 ha0 ha1 ha2
  have c7 := least_vec a0 a1 a2
  obtain ⟨l0, l1, l2, l3⟩ := lst_le a0 a1 a2
  by_cases h1 : lst a0 a1 a2 = a0
  · exact vecSums_0 _ _ _ _ _ _ _ _ _ _ _ _ _ _ _ c1 c2 c3 c4 c5 c6 c7 l0 l1 l2 (by simpa using h1) w
  · by_cases h2 : lst a0 a1 a2 = a1
    · exact vecSums_1 _ _ _ _ _ _ _ _ _ _ _ _ _ _ _ c1 c2 c3 c4 c5 c6 c7 l0 l1 l2 (by simpa using h1) (by simpa using h2) w
    · have h3 : lst a0 a1 a2 = a2 := by omega
      exact vecSums_2 _ _ _ _ _ _ _ _ _ _ _ _ _ _ _ c1 c2 c3 c4 c5 c6 c7 l0 l1 l2 (by simpa using h1) (by simpa using h2) (by simpa using h3) w

end Go.Proofs.Ytokjljmamiipbaa
