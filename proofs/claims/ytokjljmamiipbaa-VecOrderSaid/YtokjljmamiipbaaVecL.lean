/- VecOrder: what the law's call answers: true, for every two rows and every place. -/
import Derived.Test.YtokjljmamiipbaaVecJ
namespace Go.Proofs.Ytokjljmamiipbaa
open Go.RowKit Go.Shelf

theorem wpList_done {P : Program} {ops : Array Oper} {Q : Exit → Act → World → Prop} {a : Act} {w : World} (h : Q Exit.normal a w) : wpList P ops Q [] a w := h

set_option maxHeartbeats 8000000 in
set_option maxRecDepth 10000 in
theorem vecOrder_go (a0 a1 a2 b0 b1 b2 x0 x1 x2 xe d de y0 y1 y2 i : Int) (fb : Bool) (_i0 : 0 ≤ i) (_i1 : i ≤ 255)
    (c1 : ∀ w, Calls Try.prog 6 #[tv a0 a1 a2, tv b0 b1 b2] w (RetV (.tuple #[tv x0 x1 x2, .int .i64 xe]) w))
    (c2 : ∀ w, Calls Try.prog 6 #[tv b0 b1 b2, tv a0 a1 a2] w (RetV (.tuple #[tv x0 x1 x2, .int .i64 xe]) w))
    (c3 : ∀ w, Calls Try.prog 16 #[tv a0 a1 a2, tv b0 b1 b2] w (RetV (.tuple #[.int .i64 d, .int .i64 de]) w))
    (c4 : ∀ w, Calls Try.prog 16 #[tv b0 b1 b2, tv a0 a1 a2] w (RetV (.tuple #[.int .i64 d, .int .i64 de]) w))
    (c5 : ∀ w, Calls Try.prog 9 #[tv a0 a1 a2, tv b0 b1 b2] w (RetV (tv y0 y1 y2) w))
    (c6 : ∀ w, Calls Try.prog 9 #[tv y0 y1 y2, tv b0 b1 b2] w (RetV (tv y0 y1 y2) w))
    (ct0 : fb = true → ∀ w, Calls Try.prog 16 #[tv a0 a1 a2, tv 1099511627776 0 0] w (RetV (.tuple #[.int .i64 a0, .int .i64 0]) w))
    (cf0 : fb = false → ∀ w, Calls Try.prog 16 #[tv a0 a1 a2, tv 1099511627776 0 0] w (RetV (.tuple #[.int .i64 0, .int .i64 1]) w))
    (ct1 : fb = true → ∀ w, Calls Try.prog 16 #[tv a0 a1 a2, tv 0 1099511627776 0] w (RetV (.tuple #[.int .i64 a1, .int .i64 0]) w))
    (cf1 : fb = false → ∀ w, Calls Try.prog 16 #[tv a0 a1 a2, tv 0 1099511627776 0] w (RetV (.tuple #[.int .i64 0, .int .i64 1]) w))
    (ct2 : fb = true → ∀ w, Calls Try.prog 16 #[tv a0 a1 a2, tv 0 0 1099511627776] w (RetV (.tuple #[.int .i64 a2, .int .i64 0]) w))
    (cf2 : fb = false → ∀ w, Calls Try.prog 16 #[tv a0 a1 a2, tv 0 0 1099511627776] w (RetV (.tuple #[.int .i64 0, .int .i64 1]) w))
    (c8 : ∀ w, Calls Try.prog 11 #[tv a0 a1 a2] w (RetV (.bool fb) w))
    (hi : (i.tmod 3 = 0 ∧ i % 3 = 0) ∨ (i.tmod 3 = 1 ∧ i % 3 = 1) ∨ (i.tmod 3 = 2 ∧ i % 3 = 2)) (w : World) :
    Calls Try.prog 5 #[tv a0 a1 a2, tv b0 b1 b2, .int .u8 i] w (RetV (.bool true) w) := by
  have kA : TC ((w.alloc (Obj.cells #[.int .i64 a0, .int .i64 a1, .int .i64 a2] 23)).alloc (Obj.cells #[.int .i64 b0, .int .i64 b1, .int .i64 b2] 23)) (w.heap.size) a0 a1 a2 := tc_alloc (tc_new rfl)
  have kB : TC ((w.alloc (Obj.cells #[.int .i64 a0, .int .i64 a1, .int .i64 a2] 23)).alloc (Obj.cells #[.int .i64 b0, .int .i64 b1, .int .i64 b2] 23)) (w.heap.size + 1) b0 b1 b2 := tc_new (by simp)
  have B0 : Below w.heap.size w ((w.alloc (Obj.cells #[.int .i64 a0, .int .i64 a1, .int .i64 a2] 23)).alloc (Obj.cells #[.int .i64 b0, .int .i64 b1, .int .i64 b2] 23)) := b_alloc (b_alloc (Below.refl _ _))
  go_enter Try.func5, Try.ntmps5
  go_wp2_with fail
  refine (c1 _).mono ?_
  rintro ew1 w1 ⟨rfl, hb9⟩
  replace kA := tc_keep hb9 kA
  replace kB := tc_keep hb9 kB
  replace B0 := b_trans B0 hb9
  clear hb9
  have kx : TC (w1.alloc (Obj.cells #[.int .i64 x0, .int .i64 x1, .int .i64 x2] 23)) w1.heap.size x0 x1 x2 := tc_new rfl
  replace kA := tc_alloc (o := (Obj.cells #[.int .i64 x0, .int .i64 x1, .int .i64 x2] 23)) kA
  replace kB := tc_alloc (o := (Obj.cells #[.int .i64 x0, .int .i64 x1, .int .i64 x2] 23)) kB
  replace B0 := b_alloc (o := (Obj.cells #[.int .i64 x0, .int .i64 x1, .int .i64 x2] 23)) B0
  go_wp2_with fail
  refine (c2 _).mono ?_
  rintro ew2 w2 ⟨rfl, hb9⟩
  replace kA := tc_keep hb9 kA
  replace kB := tc_keep hb9 kB
  replace kx := tc_keep hb9 kx
  replace B0 := b_trans B0 hb9
  clear hb9
  have ky : TC (w2.alloc (Obj.cells #[.int .i64 x0, .int .i64 x1, .int .i64 x2] 23)) w2.heap.size x0 x1 x2 := tc_new rfl
  replace kA := tc_alloc (o := (Obj.cells #[.int .i64 x0, .int .i64 x1, .int .i64 x2] 23)) kA
  replace kB := tc_alloc (o := (Obj.cells #[.int .i64 x0, .int .i64 x1, .int .i64 x2] 23)) kB
  replace kx := tc_alloc (o := (Obj.cells #[.int .i64 x0, .int .i64 x1, .int .i64 x2] 23)) kx
  replace B0 := b_alloc (o := (Obj.cells #[.int .i64 x0, .int .i64 x1, .int .i64 x2] 23)) B0
  clear c1 c2
  go_wp2_with fail
  refine (c3 _).mono ?_
  rintro ew3 w3 ⟨rfl, hb9⟩
  replace kA := tc_keep hb9 kA
  replace kB := tc_keep hb9 kB
  replace kx := tc_keep hb9 kx
  replace ky := tc_keep hb9 ky
  replace B0 := b_trans B0 hb9
  clear hb9
  go_wp2_with fail
  refine (c4 _).mono ?_
  rintro ew4 w4 ⟨rfl, hb9⟩
  replace kA := tc_keep hb9 kA
  replace kB := tc_keep hb9 kB
  replace kx := tc_keep hb9 kx
  replace ky := tc_keep hb9 ky
  replace B0 := b_trans B0 hb9
  clear hb9
  clear c3 c4
  go_wp2
  generalize w1.heap.size = P1 at *
  generalize w2.heap.size = P2 at *
  refine region_each [42, 43, 44, 45, 46, 47, 48, 49, 50, 51, 52, 53, 54, 55, 56, 57, 58, 59, 60, 61, 62, 63, 64, 65, 66, 67, 68, 69, 70] (fun i X_ U_ => match i with | 0 => X_ = tv x0 x1 x2 | 1 => X_ = tv x0 x1 x2 | 2 => X_ = .bool false | 3 => X_ = .bool false | 4 => X_ = .int .i64 xe | 5 => X_ = .int .i64 xe | 6 => X_ = .bool false | 7 => X_ = .bool false | 8 => X_ = .bool false | 9 => X_ = .int .i64 d | 10 => X_ = .int .i64 d | 11 => X_ = .bool false | 12 => X_ = .bool false | 13 => X_ = .bool false | 14 => X_ = .int .i64 de | 15 => X_ = .int .i64 de | 16 => X_ = .bool false | 17 => X_ = .bool false | 18 => X_ = .bool false | 19 => X_ = tv a0 a1 a2 | 20 => X_ = tv b0 b1 b2 | 21 => X_ = tv y0 y1 y2 | 22 => X_ = tv b0 b1 b2 | 23 => X_ = tv y0 y1 y2 | 24 => X_ = tv a0 a1 a2 | 25 => X_ = tv b0 b1 b2 | 26 => X_ = tv y0 y1 y2 | 27 => X_ = .bool false | 28 => X_ = .bool false | _ => True) (fun i => false) (by kernel_rfl) (by kernel_rfl) (by kernel_rfl) (by kernel_rfl) (by kernel_rfl) ?_ ?_ ?_ ?_
  · intro i x w w' hi h hb
    match i, hi with
    | 0, _ => exact h
    | 1, _ => exact h
    | 2, _ => exact h
    | 3, _ => exact h
    | 4, _ => exact h
    | 5, _ => exact h
    | 6, _ => exact h
    | 7, _ => exact h
    | 8, _ => exact h
    | 9, _ => exact h
    | 10, _ => exact h
    | 11, _ => exact h
    | 12, _ => exact h
    | 13, _ => exact h
    | 14, _ => exact h
    | 15, _ => exact h
    | 16, _ => exact h
    | 17, _ => exact h
    | 18, _ => exact h
    | 19, _ => exact h
    | 20, _ => exact h
    | 21, _ => exact h
    | 22, _ => exact h
    | 23, _ => exact h
    | 24, _ => exact h
    | 25, _ => exact h
    | 26, _ => exact h
    | 27, _ => exact h
    | 28, _ => exact h
    | k + 29, hk => exact absurd hk (by simp)
  · intro i x w hi ha h
    cases ha
  · intro i hi v f w' hb hv hB hd
    match i, hi with
    | 0, _ =>
      have b7 : f.tmps[7]? = some (.pointer (some ⟨P1, 0, none⟩)) := (hb 7 (by decide)).trans rfl
      clear hb hv hd
      have c := tc_keep hB kx
      refine wpOp_step rfl (fun K hK => ?_)
      go_simp
      exact hK _ _ ⟨_, rfl, Below.refl _ _, rfl, fun h => absurd h (by decide)⟩
    | 1, _ =>
      have b9 : f.tmps[9]? = some (.pointer (some ⟨P2, 0, none⟩)) := (hb 9 (by decide)).trans rfl
      clear hb hv hd
      have c := tc_keep hB ky
      refine wpOp_step rfl (fun K hK => ?_)
      go_simp
      exact hK _ _ ⟨_, rfl, Below.refl _ _, rfl, fun h => absurd h (by decide)⟩
    | 2, _ =>
      have h0 : (v 0) = tv x0 x1 x2 := hd 0 (by kernel_rfl)
      have d0 : f.tmps[42]? = some (tv x0 x1 x2) := (hv 0 42 rfl).trans (congrArg some h0)
      clear h0
      have h1 : (v 1) = tv x0 x1 x2 := hd 1 (by kernel_rfl)
      have d1 : f.tmps[43]? = some (tv x0 x1 x2) := (hv 1 43 rfl).trans (congrArg some h1)
      clear h1
      clear hb hv hd
      have hve := vec_eq_self
      refine wpOp_step rfl (fun K hK => ?_)
      go_simp
      exact hK _ _ ⟨_, rfl, Below.refl _ _, rfl, fun h => absurd h (by decide)⟩
    | 3, _ =>
      have h2 : (v 2) = .bool false := hd 2 (by kernel_rfl)
      have d2 : f.tmps[44]? = some (.bool false) := (hv 2 44 rfl).trans (congrArg some h2)
      clear h2
      clear hb hv hd
      refine wpOp_step rfl (fun K hK => ?_)
      go_simp
      exact hK _ _ ⟨_, rfl, Below.refl _ _, rfl, fun h => absurd h (by decide)⟩
    | 4, _ =>
      have b8 : f.tmps[8]? = some (.int .i64 xe) := (hb 8 (by decide)).trans rfl
      have h3 : (v 3) = .bool false := hd 3 (by kernel_rfl)
      have d3 : f.tmps[45]? = some (.bool false) := (hv 3 45 rfl).trans (congrArg some h3)
      clear h3
      clear hb hv hd
      refine wpOp_step rfl (fun K hK => ?_)
      go_simp
      exact hK _ _ ⟨_, rfl, Below.refl _ _, rfl, fun h => absurd h (by decide)⟩
    | 5, _ =>
      have b10 : f.tmps[10]? = some (.int .i64 xe) := (hb 10 (by decide)).trans rfl
      have h3 : (v 3) = .bool false := hd 3 (by kernel_rfl)
      have d3 : f.tmps[45]? = some (.bool false) := (hv 3 45 rfl).trans (congrArg some h3)
      clear h3
      clear hb hv hd
      refine wpOp_step rfl (fun K hK => ?_)
      go_simp
      exact hK _ _ ⟨_, rfl, Below.refl _ _, rfl, fun h => absurd h (by decide)⟩
    | 6, _ =>
      have h4 : (v 4) = .int .i64 xe := hd 4 (by kernel_rfl)
      have d4 : f.tmps[46]? = some (.int .i64 xe) := (hv 4 46 rfl).trans (congrArg some h4)
      clear h4
      have h5 : (v 5) = .int .i64 xe := hd 5 (by kernel_rfl)
      have d5 : f.tmps[47]? = some (.int .i64 xe) := (hv 5 47 rfl).trans (congrArg some h5)
      clear h5
      have h3 : (v 3) = .bool false := hd 3 (by kernel_rfl)
      have d3 : f.tmps[45]? = some (.bool false) := (hv 3 45 rfl).trans (congrArg some h3)
      clear h3
      clear hb hv hd
      refine wpOp_step rfl (fun K hK => ?_)
      go_simp
      exact hK _ _ ⟨_, rfl, Below.refl _ _, rfl, fun h => absurd h (by decide)⟩
    | 7, _ =>
      have h3 : (v 3) = .bool false := hd 3 (by kernel_rfl)
      have d3 : f.tmps[45]? = some (.bool false) := (hv 3 45 rfl).trans (congrArg some h3)
      clear h3
      have h6 : (v 6) = .bool false := hd 6 (by kernel_rfl)
      have d6 : f.tmps[48]? = some (.bool false) := (hv 6 48 rfl).trans (congrArg some h6)
      clear h6
      clear hb hv hd
      refine wpOp_step rfl (fun K hK => ?_)
      go_simp
      exact hK _ _ ⟨_, rfl, Below.refl _ _, rfl, fun h => absurd h (by decide)⟩
    | 8, _ =>
      have h7 : (v 7) = .bool false := hd 7 (by kernel_rfl)
      have d7 : f.tmps[49]? = some (.bool false) := (hv 7 49 rfl).trans (congrArg some h7)
      clear h7
      clear hb hv hd
      refine wpOp_step rfl (fun K hK => ?_)
      go_simp
      exact hK _ _ ⟨_, rfl, Below.refl _ _, rfl, fun h => absurd h (by decide)⟩
    | 9, _ =>
      have b11 : f.tmps[11]? = some (.int .i64 d) := (hb 11 (by decide)).trans rfl
      have h8 : (v 8) = .bool false := hd 8 (by kernel_rfl)
      have d8 : f.tmps[50]? = some (.bool false) := (hv 8 50 rfl).trans (congrArg some h8)
      clear h8
      clear hb hv hd
      refine wpOp_step rfl (fun K hK => ?_)
      go_simp
      exact hK _ _ ⟨_, rfl, Below.refl _ _, rfl, fun h => absurd h (by decide)⟩
    | 10, _ =>
      have b13 : f.tmps[13]? = some (.int .i64 d) := (hb 13 (by decide)).trans rfl
      have h8 : (v 8) = .bool false := hd 8 (by kernel_rfl)
      have d8 : f.tmps[50]? = some (.bool false) := (hv 8 50 rfl).trans (congrArg some h8)
      clear h8
      clear hb hv hd
      refine wpOp_step rfl (fun K hK => ?_)
      go_simp
      exact hK _ _ ⟨_, rfl, Below.refl _ _, rfl, fun h => absurd h (by decide)⟩
    | 11, _ =>
      have h9 : (v 9) = .int .i64 d := hd 9 (by kernel_rfl)
      have d9 : f.tmps[51]? = some (.int .i64 d) := (hv 9 51 rfl).trans (congrArg some h9)
      clear h9
      have h10 : (v 10) = .int .i64 d := hd 10 (by kernel_rfl)
      have d10 : f.tmps[52]? = some (.int .i64 d) := (hv 10 52 rfl).trans (congrArg some h10)
      clear h10
      have h8 : (v 8) = .bool false := hd 8 (by kernel_rfl)
      have d8 : f.tmps[50]? = some (.bool false) := (hv 8 50 rfl).trans (congrArg some h8)
      clear h8
      clear hb hv hd
      refine wpOp_step rfl (fun K hK => ?_)
      go_simp
      exact hK _ _ ⟨_, rfl, Below.refl _ _, rfl, fun h => absurd h (by decide)⟩
    | 12, _ =>
      have h8 : (v 8) = .bool false := hd 8 (by kernel_rfl)
      have d8 : f.tmps[50]? = some (.bool false) := (hv 8 50 rfl).trans (congrArg some h8)
      clear h8
      have h11 : (v 11) = .bool false := hd 11 (by kernel_rfl)
      have d11 : f.tmps[53]? = some (.bool false) := (hv 11 53 rfl).trans (congrArg some h11)
      clear h11
      clear hb hv hd
      refine wpOp_step rfl (fun K hK => ?_)
      go_simp
      exact hK _ _ ⟨_, rfl, Below.refl _ _, rfl, fun h => absurd h (by decide)⟩
    | 13, _ =>
      have h12 : (v 12) = .bool false := hd 12 (by kernel_rfl)
      have d12 : f.tmps[54]? = some (.bool false) := (hv 12 54 rfl).trans (congrArg some h12)
      clear h12
      clear hb hv hd
      refine wpOp_step rfl (fun K hK => ?_)
      go_simp
      exact hK _ _ ⟨_, rfl, Below.refl _ _, rfl, fun h => absurd h (by decide)⟩
    | 14, _ =>
      have b12 : f.tmps[12]? = some (.int .i64 de) := (hb 12 (by decide)).trans rfl
      have h13 : (v 13) = .bool false := hd 13 (by kernel_rfl)
      have d13 : f.tmps[55]? = some (.bool false) := (hv 13 55 rfl).trans (congrArg some h13)
      clear h13
      clear hb hv hd
      refine wpOp_step rfl (fun K hK => ?_)
      go_simp
      exact hK _ _ ⟨_, rfl, Below.refl _ _, rfl, fun h => absurd h (by decide)⟩
    | 15, _ =>
      have b14 : f.tmps[14]? = some (.int .i64 de) := (hb 14 (by decide)).trans rfl
      have h13 : (v 13) = .bool false := hd 13 (by kernel_rfl)
      have d13 : f.tmps[55]? = some (.bool false) := (hv 13 55 rfl).trans (congrArg some h13)
      clear h13
      clear hb hv hd
      refine wpOp_step rfl (fun K hK => ?_)
      go_simp
      exact hK _ _ ⟨_, rfl, Below.refl _ _, rfl, fun h => absurd h (by decide)⟩
    | 16, _ =>
      have h14 : (v 14) = .int .i64 de := hd 14 (by kernel_rfl)
      have d14 : f.tmps[56]? = some (.int .i64 de) := (hv 14 56 rfl).trans (congrArg some h14)
      clear h14
      have h15 : (v 15) = .int .i64 de := hd 15 (by kernel_rfl)
      have d15 : f.tmps[57]? = some (.int .i64 de) := (hv 15 57 rfl).trans (congrArg some h15)
      clear h15
      have h13 : (v 13) = .bool false := hd 13 (by kernel_rfl)
      have d13 : f.tmps[55]? = some (.bool false) := (hv 13 55 rfl).trans (congrArg some h13)
      clear h13
      clear hb hv hd
      refine wpOp_step rfl (fun K hK => ?_)
      go_simp
      exact hK _ _ ⟨_, rfl, Below.refl _ _, rfl, fun h => absurd h (by decide)⟩
    | 17, _ =>
      have h13 : (v 13) = .bool false := hd 13 (by kernel_rfl)
      have d13 : f.tmps[55]? = some (.bool false) := (hv 13 55 rfl).trans (congrArg some h13)
      clear h13
      have h16 : (v 16) = .bool false := hd 16 (by kernel_rfl)
      have d16 : f.tmps[58]? = some (.bool false) := (hv 16 58 rfl).trans (congrArg some h16)
      clear h16
      clear hb hv hd
      refine wpOp_step rfl (fun K hK => ?_)
      go_simp
      exact hK _ _ ⟨_, rfl, Below.refl _ _, rfl, fun h => absurd h (by decide)⟩
    | 18, _ =>
      have h17 : (v 17) = .bool false := hd 17 (by kernel_rfl)
      have d17 : f.tmps[59]? = some (.bool false) := (hv 17 59 rfl).trans (congrArg some h17)
      clear h17
      clear hb hv hd
      refine wpOp_step rfl (fun K hK => ?_)
      go_simp
      exact hK _ _ ⟨_, rfl, Below.refl _ _, rfl, fun h => absurd h (by decide)⟩
    | 19, _ =>
      have b3 : f.tmps[3]? = some (.pointer (some ⟨w.heap.size, 0, none⟩)) := (hb 3 (by decide)).trans rfl
      have h18 : (v 18) = .bool false := hd 18 (by kernel_rfl)
      have d18 : f.tmps[60]? = some (.bool false) := (hv 18 60 rfl).trans (congrArg some h18)
      clear h18
      clear hb hv hd
      have c := tc_keep hB kA
      refine wpOp_step rfl (fun K hK => ?_)
      go_simp
      exact hK _ _ ⟨_, rfl, Below.refl _ _, rfl, fun h => absurd h (by decide)⟩
    | 20, _ =>
      have b4 : f.tmps[4]? = some (.pointer (some ⟨w.heap.size + 1, 0, none⟩)) := (hb 4 (by decide)).trans rfl
      have h18 : (v 18) = .bool false := hd 18 (by kernel_rfl)
      have d18 : f.tmps[60]? = some (.bool false) := (hv 18 60 rfl).trans (congrArg some h18)
      clear h18
      clear hb hv hd
      have c := tc_keep hB kB
      refine wpOp_step rfl (fun K hK => ?_)
      go_simp
      exact hK _ _ ⟨_, rfl, Below.refl _ _, rfl, fun h => absurd h (by decide)⟩
    | 21, _ =>
      have h19 : (v 19) = tv a0 a1 a2 := hd 19 (by kernel_rfl)
      have d19 : f.tmps[61]? = some (tv a0 a1 a2) := (hv 19 61 rfl).trans (congrArg some h19)
      clear h19
      have h20 : (v 20) = tv b0 b1 b2 := hd 20 (by kernel_rfl)
      have d20 : f.tmps[62]? = some (tv b0 b1 b2) := (hv 20 62 rfl).trans (congrArg some h20)
      clear h20
      have h18 : (v 18) = .bool false := hd 18 (by kernel_rfl)
      have d18 : f.tmps[60]? = some (.bool false) := (hv 18 60 rfl).trans (congrArg some h18)
      clear h18
      clear hb hv hd
      refine wpOp_step rfl (fun K hK => ?_)
      go_simp
      refine (c5 _).mono ?_
      rintro e5 w5 ⟨rfl, hb5⟩
      exact hK _ _ ⟨_, rfl, hb5, rfl, fun h => absurd h (by decide)⟩
    | 22, _ =>
      have b4 : f.tmps[4]? = some (.pointer (some ⟨w.heap.size + 1, 0, none⟩)) := (hb 4 (by decide)).trans rfl
      have h18 : (v 18) = .bool false := hd 18 (by kernel_rfl)
      have d18 : f.tmps[60]? = some (.bool false) := (hv 18 60 rfl).trans (congrArg some h18)
      clear h18
      clear hb hv hd
      have c := tc_keep hB kB
      refine wpOp_step rfl (fun K hK => ?_)
      go_simp
      exact hK _ _ ⟨_, rfl, Below.refl _ _, rfl, fun h => absurd h (by decide)⟩
    | 23, _ =>
      have h21 : (v 21) = tv y0 y1 y2 := hd 21 (by kernel_rfl)
      have d21 : f.tmps[63]? = some (tv y0 y1 y2) := (hv 21 63 rfl).trans (congrArg some h21)
      clear h21
      have h22 : (v 22) = tv b0 b1 b2 := hd 22 (by kernel_rfl)
      have d22 : f.tmps[64]? = some (tv b0 b1 b2) := (hv 22 64 rfl).trans (congrArg some h22)
      clear h22
      have h18 : (v 18) = .bool false := hd 18 (by kernel_rfl)
      have d18 : f.tmps[60]? = some (.bool false) := (hv 18 60 rfl).trans (congrArg some h18)
      clear h18
      clear hb hv hd
      refine wpOp_step rfl (fun K hK => ?_)
      go_simp
      refine (c6 _).mono ?_
      rintro e5 w5 ⟨rfl, hb5⟩
      exact hK _ _ ⟨_, rfl, hb5, rfl, fun h => absurd h (by decide)⟩
    | 24, _ =>
      have b3 : f.tmps[3]? = some (.pointer (some ⟨w.heap.size, 0, none⟩)) := (hb 3 (by decide)).trans rfl
      have h18 : (v 18) = .bool false := hd 18 (by kernel_rfl)
      have d18 : f.tmps[60]? = some (.bool false) := (hv 18 60 rfl).trans (congrArg some h18)
      clear h18
      clear hb hv hd
      have c := tc_keep hB kA
      refine wpOp_step rfl (fun K hK => ?_)
      go_simp
      exact hK _ _ ⟨_, rfl, Below.refl _ _, rfl, fun h => absurd h (by decide)⟩
    | 25, _ =>
      have b4 : f.tmps[4]? = some (.pointer (some ⟨w.heap.size + 1, 0, none⟩)) := (hb 4 (by decide)).trans rfl
      have h18 : (v 18) = .bool false := hd 18 (by kernel_rfl)
      have d18 : f.tmps[60]? = some (.bool false) := (hv 18 60 rfl).trans (congrArg some h18)
      clear h18
      clear hb hv hd
      have c := tc_keep hB kB
      refine wpOp_step rfl (fun K hK => ?_)
      go_simp
      exact hK _ _ ⟨_, rfl, Below.refl _ _, rfl, fun h => absurd h (by decide)⟩
    | 26, _ =>
      have h24 : (v 24) = tv a0 a1 a2 := hd 24 (by kernel_rfl)
      have d24 : f.tmps[66]? = some (tv a0 a1 a2) := (hv 24 66 rfl).trans (congrArg some h24)
      clear h24
      have h25 : (v 25) = tv b0 b1 b2 := hd 25 (by kernel_rfl)
      have d25 : f.tmps[67]? = some (tv b0 b1 b2) := (hv 25 67 rfl).trans (congrArg some h25)
      clear h25
      have h18 : (v 18) = .bool false := hd 18 (by kernel_rfl)
      have d18 : f.tmps[60]? = some (.bool false) := (hv 18 60 rfl).trans (congrArg some h18)
      clear h18
      clear hb hv hd
      refine wpOp_step rfl (fun K hK => ?_)
      go_simp
      refine (c5 _).mono ?_
      rintro e5 w5 ⟨rfl, hb5⟩
      exact hK _ _ ⟨_, rfl, hb5, rfl, fun h => absurd h (by decide)⟩
    | 27, _ =>
      have h23 : (v 23) = tv y0 y1 y2 := hd 23 (by kernel_rfl)
      have d23 : f.tmps[65]? = some (tv y0 y1 y2) := (hv 23 65 rfl).trans (congrArg some h23)
      clear h23
      have h26 : (v 26) = tv y0 y1 y2 := hd 26 (by kernel_rfl)
      have d26 : f.tmps[68]? = some (tv y0 y1 y2) := (hv 26 68 rfl).trans (congrArg some h26)
      clear h26
      have h18 : (v 18) = .bool false := hd 18 (by kernel_rfl)
      have d18 : f.tmps[60]? = some (.bool false) := (hv 18 60 rfl).trans (congrArg some h18)
      clear h18
      clear hb hv hd
      have hve := vec_eq_self
      refine wpOp_step rfl (fun K hK => ?_)
      go_simp
      exact hK _ _ ⟨_, rfl, Below.refl _ _, rfl, fun h => absurd h (by decide)⟩
    | 28, _ =>
      have h18 : (v 18) = .bool false := hd 18 (by kernel_rfl)
      have d18 : f.tmps[60]? = some (.bool false) := (hv 18 60 rfl).trans (congrArg some h18)
      clear h18
      have h27 : (v 27) = .bool false := hd 27 (by kernel_rfl)
      have d27 : f.tmps[69]? = some (.bool false) := (hv 27 69 rfl).trans (congrArg some h27)
      clear h27
      clear hb hv hd
      refine wpOp_step rfl (fun K hK => ?_)
      go_simp
      exact hK _ _ ⟨_, rfl, Below.refl _ _, rfl, fun h => absurd h (by decide)⟩
    | k + 29, hk => exact absurd hk (by simp)
  · intro v w' hB hF hD
    have F0 : (v 0) = tv x0 x1 x2 := hF 0 (by simp)
    have F1 : (v 1) = tv x0 x1 x2 := hF 1 (by simp)
    have F2 : (v 2) = .bool false := hF 2 (by simp)
    have F3 : (v 3) = .bool false := hF 3 (by simp)
    have F4 : (v 4) = .int .i64 xe := hF 4 (by simp)
    have F5 : (v 5) = .int .i64 xe := hF 5 (by simp)
    have F6 : (v 6) = .bool false := hF 6 (by simp)
    have F7 : (v 7) = .bool false := hF 7 (by simp)
    have F8 : (v 8) = .bool false := hF 8 (by simp)
    have F9 : (v 9) = .int .i64 d := hF 9 (by simp)
    have F10 : (v 10) = .int .i64 d := hF 10 (by simp)
    have F11 : (v 11) = .bool false := hF 11 (by simp)
    have F12 : (v 12) = .bool false := hF 12 (by simp)
    have F13 : (v 13) = .bool false := hF 13 (by simp)
    have F14 : (v 14) = .int .i64 de := hF 14 (by simp)
    have F15 : (v 15) = .int .i64 de := hF 15 (by simp)
    have F16 : (v 16) = .bool false := hF 16 (by simp)
    have F17 : (v 17) = .bool false := hF 17 (by simp)
    have F18 : (v 18) = .bool false := hF 18 (by simp)
    have F19 : (v 19) = tv a0 a1 a2 := hF 19 (by simp)
    have F20 : (v 20) = tv b0 b1 b2 := hF 20 (by simp)
    have F21 : (v 21) = tv y0 y1 y2 := hF 21 (by simp)
    have F22 : (v 22) = tv b0 b1 b2 := hF 22 (by simp)
    have F23 : (v 23) = tv y0 y1 y2 := hF 23 (by simp)
    have F24 : (v 24) = tv a0 a1 a2 := hF 24 (by simp)
    have F25 : (v 25) = tv b0 b1 b2 := hF 25 (by simp)
    have F26 : (v 26) = tv y0 y1 y2 := hF 26 (by simp)
    have F27 : (v 27) = .bool false := hF 27 (by simp)
    have F28 : (v 28) = .bool false := hF 28 (by simp)
    clear hF
    simp only [frOf, frGo, Nat.zero_add, Nat.reduceAdd, F0, F1, F2, F3, F4, F5, F6, F7, F8, F9, F10, F11, F12, F13, F14, F15, F16, F17, F18, F19, F20, F21, F22, F23, F24, F25, F26, F27, F28]
    rw [List.drop_eq_nil_of_le (by simp)]
    refine wpList_done ?_
    simp only [Act.put, List.setIfInBounds_toArray, List.set_cons_zero, List.set_cons_succ]
    replace B0 := b_trans B0 hB
    replace kA := tc_keep hB kA
    clear F0 F1 F2 F3 F4 F5 F6 F7 F8 F9 F10 F11 F12 F13 F14 F15 F16 F17 F18 F19 F20 F21 F22 F23 F24 F25 F26 F27 F28 hD hB kB kx ky c5 c6
    rcases hi with h | h | h
    · obtain ⟨r1, r2⟩ := h
      have kN : TC (w'.alloc (Obj.cells #[.int .i64 1099511627776, .int .i64 0, .int .i64 0] 23)) (w'.heap.size) 1099511627776 0 0 := tc_new rfl
      replace kA := tc_alloc (o := (Obj.cells #[.int .i64 1099511627776, .int .i64 0, .int .i64 0] 23)) kA
      replace B0 := b_alloc (o := (Obj.cells #[.int .i64 1099511627776, .int .i64 0, .int .i64 0] 23)) B0
      cases fb
      · have cD := cf0 rfl
        clear ct0 ct1 ct2 cf0 cf1 cf2
        go_wp2_with fail
        refine (cD _).mono ?_
        rintro ew6 w6 ⟨rfl, hb9⟩
        replace kA := tc_keep hb9 kA
        replace kN := tc_keep hb9 kN
        replace B0 := b_trans B0 hb9
        clear hb9
        clear cD kN
        go_wp2_with fail
        refine (fixed_vec _).mono ?_
        rintro ew7 w7 ⟨rfl, hb9⟩
        replace kA := tc_keep hb9 kA
        replace B0 := b_trans B0 hb9
        clear hb9
        go_wp2_with fail
        refine (c8 _).mono ?_
        rintro ew8 w8 ⟨rfl, hb9⟩
        replace kA := tc_keep hb9 kA
        replace B0 := b_trans B0 hb9
        clear hb9
        go_wp2_with fail
        refine (c8 _).mono ?_
        rintro ew9 w9 ⟨rfl, hb9⟩
        replace kA := tc_keep hb9 kA
        replace B0 := b_trans B0 hb9
        clear hb9
        go_wp2
        go_ret
        exact ⟨by simp, B0⟩
      · have cD := ct0 rfl
        clear ct0 ct1 ct2 cf0 cf1 cf2
        go_wp2_with fail
        refine (cD _).mono ?_
        rintro ew6 w6 ⟨rfl, hb9⟩
        replace kA := tc_keep hb9 kA
        replace kN := tc_keep hb9 kN
        replace B0 := b_trans B0 hb9
        clear hb9
        clear cD kN
        go_wp2_with fail
        refine (fixed_vec _).mono ?_
        rintro ew7 w7 ⟨rfl, hb9⟩
        replace kA := tc_keep hb9 kA
        replace B0 := b_trans B0 hb9
        clear hb9
        go_wp2_with fail
        refine (c8 _).mono ?_
        rintro ew8 w8 ⟨rfl, hb9⟩
        replace kA := tc_keep hb9 kA
        replace B0 := b_trans B0 hb9
        clear hb9
        go_wp2
        go_ret
        exact ⟨by simp, B0⟩
    · obtain ⟨r1, r2⟩ := h
      have kN : TC (w'.alloc (Obj.cells #[.int .i64 0, .int .i64 1099511627776, .int .i64 0] 23)) (w'.heap.size) 0 1099511627776 0 := tc_new rfl
      replace kA := tc_alloc (o := (Obj.cells #[.int .i64 0, .int .i64 1099511627776, .int .i64 0] 23)) kA
      replace B0 := b_alloc (o := (Obj.cells #[.int .i64 0, .int .i64 1099511627776, .int .i64 0] 23)) B0
      cases fb
      · have cD := cf1 rfl
        clear ct0 ct1 ct2 cf0 cf1 cf2
        go_wp2_with fail
        refine (cD _).mono ?_
        rintro ew6 w6 ⟨rfl, hb9⟩
        replace kA := tc_keep hb9 kA
        replace kN := tc_keep hb9 kN
        replace B0 := b_trans B0 hb9
        clear hb9
        clear cD kN
        go_wp2_with fail
        refine (fixed_vec _).mono ?_
        rintro ew7 w7 ⟨rfl, hb9⟩
        replace kA := tc_keep hb9 kA
        replace B0 := b_trans B0 hb9
        clear hb9
        go_wp2_with fail
        refine (c8 _).mono ?_
        rintro ew8 w8 ⟨rfl, hb9⟩
        replace kA := tc_keep hb9 kA
        replace B0 := b_trans B0 hb9
        clear hb9
        go_wp2_with fail
        refine (c8 _).mono ?_
        rintro ew9 w9 ⟨rfl, hb9⟩
        replace kA := tc_keep hb9 kA
        replace B0 := b_trans B0 hb9
        clear hb9
        go_wp2
        go_ret
        exact ⟨by simp, B0⟩
      · have cD := ct1 rfl
        clear ct0 ct1 ct2 cf0 cf1 cf2
        go_wp2_with fail
        refine (cD _).mono ?_
        rintro ew6 w6 ⟨rfl, hb9⟩
        replace kA := tc_keep hb9 kA
        replace kN := tc_keep hb9 kN
        replace B0 := b_trans B0 hb9
        clear hb9
        clear cD kN
        go_wp2_with fail
        refine (fixed_vec _).mono ?_
        rintro ew7 w7 ⟨rfl, hb9⟩
        replace kA := tc_keep hb9 kA
        replace B0 := b_trans B0 hb9
        clear hb9
        go_wp2_with fail
        refine (c8 _).mono ?_
        rintro ew8 w8 ⟨rfl, hb9⟩
        replace kA := tc_keep hb9 kA
        replace B0 := b_trans B0 hb9
        clear hb9
        go_wp2
        go_ret
        exact ⟨by simp, B0⟩
    · obtain ⟨r1, r2⟩ := h
      have kN : TC (w'.alloc (Obj.cells #[.int .i64 0, .int .i64 0, .int .i64 1099511627776] 23)) (w'.heap.size) 0 0 1099511627776 := tc_new rfl
      replace kA := tc_alloc (o := (Obj.cells #[.int .i64 0, .int .i64 0, .int .i64 1099511627776] 23)) kA
      replace B0 := b_alloc (o := (Obj.cells #[.int .i64 0, .int .i64 0, .int .i64 1099511627776] 23)) B0
      cases fb
      · have cD := cf2 rfl
        clear ct0 ct1 ct2 cf0 cf1 cf2
        go_wp2_with fail
        refine (cD _).mono ?_
        rintro ew6 w6 ⟨rfl, hb9⟩
        replace kA := tc_keep hb9 kA
        replace kN := tc_keep hb9 kN
        replace B0 := b_trans B0 hb9
        clear hb9
        clear cD kN
        go_wp2_with fail
        refine (fixed_vec _).mono ?_
        rintro ew7 w7 ⟨rfl, hb9⟩
        replace kA := tc_keep hb9 kA
        replace B0 := b_trans B0 hb9
        clear hb9
        go_wp2_with fail
        refine (c8 _).mono ?_
        rintro ew8 w8 ⟨rfl, hb9⟩
        replace kA := tc_keep hb9 kA
        replace B0 := b_trans B0 hb9
        clear hb9
        go_wp2_with fail
        refine (c8 _).mono ?_
        rintro ew9 w9 ⟨rfl, hb9⟩
        replace kA := tc_keep hb9 kA
        replace B0 := b_trans B0 hb9
        clear hb9
        go_wp2
        go_ret
        exact ⟨by simp, B0⟩
      · have cD := ct2 rfl
        clear ct0 ct1 ct2 cf0 cf1 cf2
        go_wp2_with fail
        refine (cD _).mono ?_
        rintro ew6 w6 ⟨rfl, hb9⟩
        replace kA := tc_keep hb9 kA
        replace kN := tc_keep hb9 kN
        replace B0 := b_trans B0 hb9
        clear hb9
        clear cD kN
        go_wp2_with fail
        refine (fixed_vec _).mono ?_
        rintro ew7 w7 ⟨rfl, hb9⟩
        replace kA := tc_keep hb9 kA
        replace B0 := b_trans B0 hb9
        clear hb9
        go_wp2_with fail
        refine (c8 _).mono ?_
        rintro ew8 w8 ⟨rfl, hb9⟩
        replace kA := tc_keep hb9 kA
        replace B0 := b_trans B0 hb9
        clear hb9
        go_wp2
        go_ret
        exact ⟨by simp, B0⟩

theorem clz_again (x m : Int) : clz (clz x m) m = clz x m := by
  unfold clz
  by_cases a : m < 0
  · rw [if_pos a, if_pos a]
  · rw [if_neg a, if_neg a]
    by_cases b : x < -m
    · rw [if_pos b]
      rw [if_neg (by omega), if_neg (by omega)]
    · rw [if_neg b]
      by_cases c : m < x
      · rw [if_pos c, if_neg (by omega), if_neg (by omega)]
      · rw [if_neg c, if_neg b, if_neg c]
theorem vecOrder_any (a0 a1 a2 b0 b1 b2 i : Int) (ha0 : I64 a0) (ha1 : I64 a1) (ha2 : I64 a2) (hb0 : I64 b0) (hb1 : I64 b1) (hb2 : I64 b2) (i0 : 0 ≤ i) (i1 : i ≤ 255) (w : World) :
    Calls Try.prog 5 #[tv a0 a1 a2, tv b0 b1 b2, .int .u8 i] w (RetV (.bool true) w) := by
  obtain ⟨x0, x1, x2, xe, c1, _, c2⟩ := add3_all a0 a1 a2 b0 b1 b2 ha0 ha1 ha2 hb0 hb1 hb2
  obtain ⟨d, de, c3, _, c4⟩ := dot_all a0 a1 a2 b0 b1 b2 ha0 ha1 ha2 hb0 hb1 hb2
  have c5 := clamp_vec a0 a1 a2 b0 b1 b2 ha0 ha1 ha2 hb0 hb1 hb2
  have c6 := clamp_vec (clz a0 b0) (clz a1 b1) (clz a2 b2) b0 b1 b2 (clz_i64 ha0 hb0) (clz_i64 ha1 hb1) (clz_i64 ha2 hb2) hb0 hb1 hb2
  rw [clz_again, clz_again, clz_again] at c6
  have T := fun (h : f3b a0 a1 a2 = true) => dot_one a0 a1 a2 ha0 ha1 ha2 (Classical.byContradiction fun c => by rw [f3b_no c] at h; cases h)
  have N := fun (h : f3b a0 a1 a2 = false) (b0 b1 b2 : Int) (h0 : I64 b0) (h1 : I64 b1) (h2 : I64 b2) => dot_vec_bad a0 a1 a2 b0 b1 b2 ha0 ha1 ha2 h0 h1 h2 (fun c => by rw [f3b_yes c.1] at h; cases h)
  have tm : i.tmod 3 = i % 3 := Int.tmod_eq_emod_of_nonneg i0
  exact vecOrder_go _ _ _ _ _ _ _ _ _ _ _ _ _ _ _ _ _ i0 i1 c1 c2 c3 c4 c5 c6 (fun h => (T h).1) (fun h => N h _ _ _ (by decide) (by decide) (by decide)) (fun h => (T h).2.1) (fun h => N h _ _ _ (by decide) (by decide) (by decide)) (fun h => (T h).2.2) (fun h => N h _ _ _ (by decide) (by decide) (by decide))
    (fits3_vec a0 a1 a2 ha0 ha1 ha2) (by rw [tm]; omega) w

end Go.Proofs.Ytokjljmamiipbaa
