/- WideDivides: what the law's call answers: true, for every wide number and every integer. -/
import Derived.Test.YtlgnenogieehnaaSame
import Derived.Test.YtlgnenogieehnaaBigI
namespace Go.Proofs.Ytlgnenogieehnaa
open Go.RowKit Go.Shelf

set_option maxHeartbeats 2000000 in
theorem wdiv_zero (h l : Int) (w : World) :
    Calls Try.prog 6 #[wv h l, .int .i64 0] w (RetV (.bool true) w) := by
  go_enter Try.func6, Try.ntmps6
  go_wp2_with fail
  refine (div_zero h l _).mono ?_
  rintro e w1 ⟨h1, l1, rfl, x1, hb1⟩
  obtain ⟨rfl, rfl⟩ := (x1.inj isW_zero).2 rfl
  have k0 : WC w1 w.heap.size h l := wc_keep hb1 (by simp [WC, go_sem])
  have B := b_alloc (o := Obj.cells #[.int .i64 0, .int .u64 0] 24) (b_trans (b_alloc (Below.refl _ _)) hb1)
  have k1 := wc_alloc (o := Obj.cells #[.int .i64 0, .int .u64 0] 24) k0
  clear hb1 x1 k0
  go_wp2_with fail
  refine (even_zero h l _).mono ?_
  rintro e w2 ⟨h2, l2, rfl, x2, hb2⟩
  obtain ⟨rfl, rfl⟩ := (x2.inj isW_zero).2 rfl
  have k7 : WC w2 w1.heap.size 0 0 := wc_keep hb2 (by simp [WC, go_sem])
  have B := b_alloc (o := Obj.cells #[.int .i64 0, .int .u64 0] 24) (b_trans B hb2)
  have k7 := wc_alloc (o := Obj.cells #[.int .i64 0, .int .u64 0] 24) k7
  clear hb2 x2 k1
  go_wp2_with fail
  refine (fixed_any _).mono ?_
  rintro e w3 ⟨rfl, hb3⟩
  have k7 := wc_keep hb3 k7
  have k8 : WC w3 w2.heap.size 0 0 := wc_keep hb3 (by simp [WC, go_sem])
  have B := b_trans B hb3
  clear hb3
  go_wp2
  go_ret
  exact ⟨by simp, B⟩

theorem qd_qf {x y : Int} (_ : y ≠ 0) : qd x y = qf x y := by
  unfold qd qf sg
  by_cases c : y < 0
  · rw [if_pos c, if_pos c, show (y.natAbs : Int) = -y by omega]
  · rw [if_neg c, if_neg c, show (y.natAbs : Int) = y by omega]
theorem qf_tiny {a b : Int} (f : Fits a) (b0 : b ≠ 0) : Tiny (qf a b) ∧ Tiny (ef a b) := by
  by_cases c : a = -170141183460469231731687303715884105728 ∧ b = -1
  · rw [(qf_not c).1]
    obtain ⟨rfl, rfl⟩ := c
    rw [show ef (-170141183460469231731687303715884105728) (-1) = 170141183460469231731687303715884105728 by decide]
    exact ⟨⟨by decide, by decide⟩, ⟨by decide, by decide⟩⟩
  · have h1 := qf_fits f b0 c
    have h2 := ef_fits f b0 c
    exact ⟨⟨by have := h1.lo; omega, by have := h1.hi; omega⟩, ⟨by have := h2.lo; omega, by have := h2.hi; omega⟩⟩

set_option maxHeartbeats 4000000 in
set_option maxRecDepth 10000 in
theorem wdiv_in (h l a b : Int) (X : IsW h l a) (b0 : -9223372036854775808 ≤ b) (b1 : b ≤ 9223372036854775807) (b2 : ¬ b = 0) (w : World) :
    Calls Try.prog 6 #[wv h l, .int .i64 b] w (RetV (.bool true) w) := by
  have f0 := X.fits.lo; have f1 := X.fits.hi
  have cD := div_any h l a b X b2 b0 b1
  have cE := even_any h l a b X b2 b0 b1
  have QD := Lib.hid (qd_qf (x := a) b2)
  have TT := Lib.hid (qf_tiny X.fits b2)
  generalize qf a b = z at *
  generalize hy : ef a b = y at *
  have EV := Lib.hid hy
  clear hy
  have z0 := TT.out.1.1; have z1 := TT.out.1.2; have y0 := TT.out.2.1; have y1 := TT.out.2.2
  go_enter Try.func6, Try.ntmps6
  go_wp2_with fail
  refine (cD _).mono ?_
  rintro e w1 ⟨h5, l5, rfl, x5, hb1⟩
  have k0 : WC w1 w.heap.size h l := wc_keep hb1 (by simp [WC, go_sem])
  have B := b_alloc (o := Obj.cells #[.int .i64 h5, .int .u64 l5] 24) (b_trans (b_alloc (Below.refl _ _)) hb1)
  have k0 := wc_alloc (o := Obj.cells #[.int .i64 h5, .int .u64 l5] 24) k0
  clear hb1
  generalize he5 : fe z = e5 at *
  have E5 := Lib.hid he5
  clear he5
  go_wp2_with fail
  refine (cE _).mono ?_
  rintro e w2 ⟨h7, l7, rfl, x7, hb2⟩
  have k5 : WC w2 w1.heap.size h5 l5 := wc_keep hb2 (by simp [WC, go_sem])
  have k0 := wc_keep hb2 k0
  have B := b_alloc (o := Obj.cells #[.int .i64 h7, .int .u64 l7] 24) (b_trans B hb2)
  have k5 := wc_alloc (o := Obj.cells #[.int .i64 h7, .int .u64 l7] 24) k5
  have k0 := wc_alloc (o := Obj.cells #[.int .i64 h7, .int .u64 l7] 24) k0
  clear hb2
  generalize he7 : fe y = e7 at *
  have E7 := Lib.hid he7
  clear he7
  go_wp2_with fail
  refine (from_any h l a X _).mono ?_
  rintro e w3 ⟨v3, rfl, g3, hb3⟩
  obtain ⟨n3, a3, k3, c3, rfl⟩ := bg_form g3
  have k7 : WC w3 w2.heap.size h7 l7 := wc_keep hb3 (by simp [WC, go_sem])
  have k5 := wc_keep hb3 k5
  have B := b_trans B hb3
  clear hb3 k0
  go_wp2_with fail
  refine (of_big b b0 b1 _).mono ?_
  rintro e w4 ⟨v4, rfl, g4, hb4⟩
  obtain ⟨n4, a4, k4, c4, rfl⟩ := bg_form g4
  have k7 := wc_keep hb4 k7
  have k5 := wc_keep hb4 k5
  have g3 := bg_keep g3 hb4
  have B := b_trans B hb4
  clear hb4
  go_wp2_with fail
  have al : Below w4.heap.size w4 ((w4.alloc (Obj.cells #[.bool n3, .slice a3 k3 c3] 27)).alloc (Obj.cells #[.bool n4, .slice a4 k4 c4] 27)) := b_alloc (b_alloc (Below.refl _ _))
  have q9 : VB ((w4.alloc (Obj.cells #[.bool n3, .slice a3 k3 c3] 27)).alloc (Obj.cells #[.bool n4, .slice a4 k4 c4] 27)) w4.heap.size a := vb_keep (vb_new rfl g3) (b_alloc (Below.refl _ _))
  have q10 : VB ((w4.alloc (Obj.cells #[.bool n3, .slice a3 k3 c3] 27)).alloc (Obj.cells #[.bool n4, .slice a4 k4 c4] 27)) (w4.heap.size + 1) b := vb_new (by simp) (bg_keep g4 (b_alloc (Below.refl _ _)))
  have k5 := wc_keep al k5
  have k7 := wc_keep al k7
  have B4 := b_trans B al
  clear al B g3 g4
  generalize (w4.alloc (Obj.cells #[.bool n3, .slice a3 k3 c3] 27)).alloc (Obj.cells #[.bool n4, .slice a4 k4 c4] 27) = W4 at *
  generalize w4.heap.size + 1 = g10 at *
  generalize w4.heap.size = g9 at *
  generalize w2.heap.size = g7 at *
  generalize w1.heap.size = g5 at *
  obtain ⟨n9, a9, l9, c9, k9, f9, g9'⟩ := vb_use q9
  obtain ⟨n10, a10, l10, c10, k10, f10, g10'⟩ := vb_use q10
  clear q9 f9 q10 f10
  refine region_each [48, 49, 50, 51, 52, 53, 54, 55, 56, 57, 58, 59, 60, 61, 62, 63, 64] (fun i X_ U_ => match i with | 0 => X_ = .bool true | 1 => X_ = .bool true | 2 => X_ = wv h5 l5 | 3 => X_ = .int .i64 e5 | 4 => X_ = .agg #[.bool n9, .slice a9 l9 c9] | 5 => X_ = .agg #[.bool n10, .slice a10 l10 c10] | 6 => BG U_ X_ (z) | 7 => X_ = .bool true | 8 => X_ = .bool true | 9 => X_ = .bool true | 10 => X_ = wv h7 l7 | 11 => X_ = .int .i64 e7 | 12 => X_ = .agg #[.bool n9, .slice a9 l9 c9] | 13 => X_ = .agg #[.bool n10, .slice a10 l10 c10] | 14 => BG U_ X_ (y) | 15 => X_ = .bool true | 16 => X_ = .bool true | _ => True) (fun i => false) (by kernel_rfl) (by kernel_rfl) (by kernel_rfl) (by kernel_rfl) (by kernel_rfl) ?_ ?_ ?_ ?_
  · intro i x w w' hi h hb
    match i, hi with
    | 0, _ => exact h
    | 1, _ => exact h
    | 2, _ => exact h
    | 3, _ => exact h
    | 4, _ => exact h
    | 5, _ => exact h
    | 6, _ => exact bg_keep h hb
    | 7, _ => exact h
    | 8, _ => exact h
    | 9, _ => exact h
    | 10, _ => exact h
    | 11, _ => exact h
    | 12, _ => exact h
    | 13, _ => exact h
    | 14, _ => exact bg_keep h hb
    | 15, _ => exact h
    | 16, _ => exact h
    | k + 17, hk => exact absurd hk (by simp)
  · intro i x w hi ha h
    cases ha
  · intro i hi v f w' hb hv hB hd
    match i, hi with
    | 0, _ =>
      clear hb hv hd
      refine wpOp_step rfl (fun K hK => ?_)
      go_simp
      refine (fixed_any _).mono ?_
      rintro e w5 ⟨rfl, hb5⟩
      exact hK _ _ ⟨_, rfl, hb5, rfl, fun h => absurd h (by decide)⟩
    | 1, _ =>
      have h0 : (v 0) = .bool true := hd 0 (by kernel_rfl)
      have d0 : f.tmps[48]? = some (.bool true) := (hv 0 48 rfl).trans (congrArg some h0)
      clear h0
      clear hb hv hd
      refine wpOp_step rfl (fun K hK => ?_)
      go_simp
      exact hK _ _ ⟨_, rfl, Below.refl _ _, rfl, fun h => absurd h (by decide)⟩
    | 2, _ =>
      have b5 : f.tmps[5]? = some (.pointer (some ⟨g5, 0, none⟩)) := (hb 5 (by decide)).trans rfl
      have h1 : (v 1) = .bool true := hd 1 (by kernel_rfl)
      have d1 : f.tmps[49]? = some (.bool true) := (hv 1 49 rfl).trans (congrArg some h1)
      clear h1
      clear hb hv hd
      have c := wc_keep hB k5
      refine wpOp_step rfl (fun K hK => ?_)
      go_simp
      exact hK _ _ ⟨_, rfl, Below.refl _ _, rfl, fun h => absurd h (by decide)⟩
    | 3, _ =>
      have b6 : f.tmps[6]? = some (.int .i64 e5) := (hb 6 (by decide)).trans rfl
      have h1 : (v 1) = .bool true := hd 1 (by kernel_rfl)
      have d1 : f.tmps[49]? = some (.bool true) := (hv 1 49 rfl).trans (congrArg some h1)
      clear h1
      clear hb hv hd
      refine wpOp_step rfl (fun K hK => ?_)
      go_simp
      exact hK _ _ ⟨_, rfl, Below.refl _ _, rfl, fun h => absurd h (by decide)⟩
    | 4, _ =>
      have b9 : f.tmps[9]? = some (.pointer (some ⟨g9, 0, none⟩)) := (hb 9 (by decide)).trans rfl
      have h1 : (v 1) = .bool true := hd 1 (by kernel_rfl)
      have d1 : f.tmps[49]? = some (.bool true) := (hv 1 49 rfl).trans (congrArg some h1)
      clear h1
      clear hb hv hd
      have c := bc_keep hB k9
      refine wpOp_step rfl (fun K hK => ?_)
      go_simp
      exact hK _ _ ⟨_, rfl, Below.refl _ _, rfl, fun h => absurd h (by decide)⟩
    | 5, _ =>
      have b10 : f.tmps[10]? = some (.pointer (some ⟨g10, 0, none⟩)) := (hb 10 (by decide)).trans rfl
      have h1 : (v 1) = .bool true := hd 1 (by kernel_rfl)
      have d1 : f.tmps[49]? = some (.bool true) := (hv 1 49 rfl).trans (congrArg some h1)
      clear h1
      clear hb hv hd
      have c := bc_keep hB k10
      refine wpOp_step rfl (fun K hK => ?_)
      go_simp
      exact hK _ _ ⟨_, rfl, Below.refl _ _, rfl, fun h => absurd h (by decide)⟩
    | 6, _ =>
      have h4 : (v 4) = .agg #[.bool n9, .slice a9 l9 c9] := hd 4 (by kernel_rfl)
      have d4 : f.tmps[52]? = some (.agg #[.bool n9, .slice a9 l9 c9]) := (hv 4 52 rfl).trans (congrArg some h4)
      clear h4
      have h5 : (v 5) = .agg #[.bool n10, .slice a10 l10 c10] := hd 5 (by kernel_rfl)
      have d5 : f.tmps[53]? = some (.agg #[.bool n10, .slice a10 l10 c10]) := (hv 5 53 rfl).trans (congrArg some h5)
      clear h5
      have h1 : (v 1) = .bool true := hd 1 (by kernel_rfl)
      have d1 : f.tmps[49]? = some (.bool true) := (hv 1 49 rfl).trans (congrArg some h1)
      clear h1
      clear hb hv hd
      refine wpOp_step rfl (fun K hK => ?_)
      go_simp
      refine (div_big _ _ a b _ (bg_keep g9' hB) (bg_keep g10' hB) b2 ⟨by omega, by omega⟩ ⟨by omega, by omega⟩).mono ?_
      rintro e w5 ⟨v5, rfl, h5, hb5⟩
      exact hK _ _ ⟨_, rfl, hb5, by rwa [QD.out] at h5, fun h => absurd h (by decide)⟩
    | 7, _ =>
      have h2 : (v 2) = wv h5 l5 := hd 2 (by kernel_rfl)
      have d2 : f.tmps[50]? = some (wv h5 l5) := (hv 2 50 rfl).trans (congrArg some h2)
      clear h2
      have h3 : (v 3) = .int .i64 e5 := hd 3 (by kernel_rfl)
      have d3 : f.tmps[51]? = some (.int .i64 e5) := (hv 3 51 rfl).trans (congrArg some h3)
      clear h3
      have h6 : BG w' (v 6) (z) := hd 6 (by kernel_rfl)
      have d6 : f.tmps[54]? = some (v 6) := hv 6 54 rfl
      have h1 : (v 1) = .bool true := hd 1 (by kernel_rfl)
      have d1 : f.tmps[49]? = some (.bool true) := (hv 1 49 rfl).trans (congrArg some h1)
      clear h1
      clear hb hv hd
      refine wpOp_step rfl (fun K hK => ?_)
      go_simp
      refine (same_true h5 l5 (z) e5 x5 E5.out _ _ h6 ⟨by omega, by omega⟩).mono ?_
      rintro e w5 ⟨rfl, hb5⟩
      exact hK _ _ ⟨_, rfl, hb5, rfl, fun h => absurd h (by decide)⟩
    | 8, _ =>
      have h1 : (v 1) = .bool true := hd 1 (by kernel_rfl)
      have d1 : f.tmps[49]? = some (.bool true) := (hv 1 49 rfl).trans (congrArg some h1)
      clear h1
      have h7 : (v 7) = .bool true := hd 7 (by kernel_rfl)
      have d7 : f.tmps[55]? = some (.bool true) := (hv 7 55 rfl).trans (congrArg some h7)
      clear h7
      clear hb hv hd
      refine wpOp_step rfl (fun K hK => ?_)
      go_simp
      exact hK _ _ ⟨_, rfl, Below.refl _ _, rfl, fun h => absurd h (by decide)⟩
    | 9, _ =>
      have h8 : (v 8) = .bool true := hd 8 (by kernel_rfl)
      have d8 : f.tmps[56]? = some (.bool true) := (hv 8 56 rfl).trans (congrArg some h8)
      clear h8
      clear hb hv hd
      refine wpOp_step rfl (fun K hK => ?_)
      go_simp
      exact hK _ _ ⟨_, rfl, Below.refl _ _, rfl, fun h => absurd h (by decide)⟩
    | 10, _ =>
      have b7 : f.tmps[7]? = some (.pointer (some ⟨g7, 0, none⟩)) := (hb 7 (by decide)).trans rfl
      have h9 : (v 9) = .bool true := hd 9 (by kernel_rfl)
      have d9 : f.tmps[57]? = some (.bool true) := (hv 9 57 rfl).trans (congrArg some h9)
      clear h9
      clear hb hv hd
      have c := wc_keep hB k7
      refine wpOp_step rfl (fun K hK => ?_)
      go_simp
      exact hK _ _ ⟨_, rfl, Below.refl _ _, rfl, fun h => absurd h (by decide)⟩
    | 11, _ =>
      have b8 : f.tmps[8]? = some (.int .i64 e7) := (hb 8 (by decide)).trans rfl
      have h9 : (v 9) = .bool true := hd 9 (by kernel_rfl)
      have d9 : f.tmps[57]? = some (.bool true) := (hv 9 57 rfl).trans (congrArg some h9)
      clear h9
      clear hb hv hd
      refine wpOp_step rfl (fun K hK => ?_)
      go_simp
      exact hK _ _ ⟨_, rfl, Below.refl _ _, rfl, fun h => absurd h (by decide)⟩
    | 12, _ =>
      have b9 : f.tmps[9]? = some (.pointer (some ⟨g9, 0, none⟩)) := (hb 9 (by decide)).trans rfl
      have h9 : (v 9) = .bool true := hd 9 (by kernel_rfl)
      have d9 : f.tmps[57]? = some (.bool true) := (hv 9 57 rfl).trans (congrArg some h9)
      clear h9
      clear hb hv hd
      have c := bc_keep hB k9
      refine wpOp_step rfl (fun K hK => ?_)
      go_simp
      exact hK _ _ ⟨_, rfl, Below.refl _ _, rfl, fun h => absurd h (by decide)⟩
    | 13, _ =>
      have b10 : f.tmps[10]? = some (.pointer (some ⟨g10, 0, none⟩)) := (hb 10 (by decide)).trans rfl
      have h9 : (v 9) = .bool true := hd 9 (by kernel_rfl)
      have d9 : f.tmps[57]? = some (.bool true) := (hv 9 57 rfl).trans (congrArg some h9)
      clear h9
      clear hb hv hd
      have c := bc_keep hB k10
      refine wpOp_step rfl (fun K hK => ?_)
      go_simp
      exact hK _ _ ⟨_, rfl, Below.refl _ _, rfl, fun h => absurd h (by decide)⟩
    | 14, _ =>
      have h12 : (v 12) = .agg #[.bool n9, .slice a9 l9 c9] := hd 12 (by kernel_rfl)
      have d12 : f.tmps[60]? = some (.agg #[.bool n9, .slice a9 l9 c9]) := (hv 12 60 rfl).trans (congrArg some h12)
      clear h12
      have h13 : (v 13) = .agg #[.bool n10, .slice a10 l10 c10] := hd 13 (by kernel_rfl)
      have d13 : f.tmps[61]? = some (.agg #[.bool n10, .slice a10 l10 c10]) := (hv 13 61 rfl).trans (congrArg some h13)
      clear h13
      have h9 : (v 9) = .bool true := hd 9 (by kernel_rfl)
      have d9 : f.tmps[57]? = some (.bool true) := (hv 9 57 rfl).trans (congrArg some h9)
      clear h9
      clear hb hv hd
      refine wpOp_step rfl (fun K hK => ?_)
      go_simp
      refine (even_big _ _ a b _ (bg_keep g9' hB) (bg_keep g10' hB) b2 ⟨by omega, by omega⟩ ⟨by omega, by omega⟩).mono ?_
      rintro e w5 ⟨v5, rfl, h5, hb5⟩
      exact hK _ _ ⟨_, rfl, hb5, by rwa [EV.out] at h5, fun h => absurd h (by decide)⟩
    | 15, _ =>
      have h10 : (v 10) = wv h7 l7 := hd 10 (by kernel_rfl)
      have d10 : f.tmps[58]? = some (wv h7 l7) := (hv 10 58 rfl).trans (congrArg some h10)
      clear h10
      have h11 : (v 11) = .int .i64 e7 := hd 11 (by kernel_rfl)
      have d11 : f.tmps[59]? = some (.int .i64 e7) := (hv 11 59 rfl).trans (congrArg some h11)
      clear h11
      have h14 : BG w' (v 14) (y) := hd 14 (by kernel_rfl)
      have d14 : f.tmps[62]? = some (v 14) := hv 14 62 rfl
      have h9 : (v 9) = .bool true := hd 9 (by kernel_rfl)
      have d9 : f.tmps[57]? = some (.bool true) := (hv 9 57 rfl).trans (congrArg some h9)
      clear h9
      clear hb hv hd
      refine wpOp_step rfl (fun K hK => ?_)
      go_simp
      refine (same_true h7 l7 (y) e7 x7 E7.out _ _ h14 ⟨by omega, by omega⟩).mono ?_
      rintro e w5 ⟨rfl, hb5⟩
      exact hK _ _ ⟨_, rfl, hb5, rfl, fun h => absurd h (by decide)⟩
    | 16, _ =>
      have h9 : (v 9) = .bool true := hd 9 (by kernel_rfl)
      have d9 : f.tmps[57]? = some (.bool true) := (hv 9 57 rfl).trans (congrArg some h9)
      clear h9
      have h15 : (v 15) = .bool true := hd 15 (by kernel_rfl)
      have d15 : f.tmps[63]? = some (.bool true) := (hv 15 63 rfl).trans (congrArg some h15)
      clear h15
      clear hb hv hd
      refine wpOp_step rfl (fun K hK => ?_)
      go_simp
      exact hK _ _ ⟨_, rfl, Below.refl _ _, rfl, fun h => absurd h (by decide)⟩
    | k + 17, hk => exact absurd hk (by simp)
  · intro v w' hB hF hD
    have F0 : (v 0) = .bool true := hF 0 (by simp)
    have F1 : (v 1) = .bool true := hF 1 (by simp)
    have F2 : (v 2) = wv h5 l5 := hF 2 (by simp)
    have F3 : (v 3) = .int .i64 e5 := hF 3 (by simp)
    have F4 : (v 4) = .agg #[.bool n9, .slice a9 l9 c9] := hF 4 (by simp)
    have F5 : (v 5) = .agg #[.bool n10, .slice a10 l10 c10] := hF 5 (by simp)
    have F6 : BG w' (v 6) (z) := hF 6 (by simp)
    have F7 : (v 7) = .bool true := hF 7 (by simp)
    have F8 : (v 8) = .bool true := hF 8 (by simp)
    have F9 : (v 9) = .bool true := hF 9 (by simp)
    have F10 : (v 10) = wv h7 l7 := hF 10 (by simp)
    have F11 : (v 11) = .int .i64 e7 := hF 11 (by simp)
    have F12 : (v 12) = .agg #[.bool n9, .slice a9 l9 c9] := hF 12 (by simp)
    have F13 : (v 13) = .agg #[.bool n10, .slice a10 l10 c10] := hF 13 (by simp)
    have F14 : BG w' (v 14) (y) := hF 14 (by simp)
    have F15 : (v 15) = .bool true := hF 15 (by simp)
    have F16 : (v 16) = .bool true := hF 16 (by simp)
    clear hF
    obtain ⟨n6_, a6_, k6_, c6_, e6⟩ := bg_form F6
    obtain ⟨n14_, a14_, k14_, c14_, e14⟩ := bg_form F14
    simp only [frOf, frGo, Nat.zero_add, Nat.reduceAdd, F0, F1, F2, F3, F4, F5, e6, F7, F8, F9, F10, F11, F12, F13, e14, F15, F16]
    have B5 := b_trans B4 hB
    clear F0 F1 F2 F3 F4 F5 F6 F7 F8 F9 F10 F11 F12 F13 F14 F15 F16 hB hD e6 e14 B4 k5 k7 k9 k10
    go_wp2
    go_ret
    exact ⟨rfl, B5⟩

theorem wdiv_any (h l a b : Int) (X : IsW h l a) (b0 : -9223372036854775808 ≤ b) (b1 : b ≤ 9223372036854775807) (w : World) : Calls Try.prog 6 #[wv h l, .int .i64 b] w (RetV (.bool true) w) := by
  by_cases c : b = 0
  · subst c
    exact wdiv_zero h l w
  · exact wdiv_in h l a b X b0 b1 c w
end Go.Proofs.Ytlgnenogieehnaa
