/- WideShifts: what the law's call answers: true, for every wide number and every integer. -/
import Derived.Test.YtlgnenogieehnaaSame
import Derived.Test.YtlgnenogieehnaaBigI
namespace Go.Proofs.Ytlgnenogieehnaa
open Go.RowKit Go.Shelf

set_option maxHeartbeats 2000000 in
theorem wshift_out (h l n : Int) (c : n < 0 ∨ 127 < n) (w : World) :
    Calls Try.prog 5 #[wv h l, .int .i64 n] w (RetV (.bool true) w) := by
  have cU := up_arg h l n c
  have cH := half_arg h l n c
  have t : (decide (n < 0) || decide (127 < n)) = true := by simpa using c
  rcases c with c | c
  · go_enter Try.func5, Try.ntmps5
    go_wp2_with fail
    refine (cU _).mono ?_
    rintro e w1 ⟨h1, l1, rfl, x1, hb1⟩
    obtain ⟨rfl, rfl⟩ := (x1.inj isW_zero).2 rfl
    have k0 : WC w1 w.heap.size h l := wc_keep hb1 (by simp [WC, go_sem])
    have B := b_alloc (o := Obj.cells #[.int .i64 0, .int .u64 0] 24) (b_trans (b_alloc (Below.refl _ _)) hb1)
    have k1 := wc_alloc (o := Obj.cells #[.int .i64 0, .int .u64 0] 24) k0
    clear hb1 x1 k0
    go_wp2_with fail
    refine (cH _).mono ?_
    rintro e w2 ⟨h2, l2, rfl, x2, hb2⟩
    obtain ⟨rfl, rfl⟩ := (x2.inj isW_zero).2 rfl
    have k7 : WC w2 w1.heap.size 0 0 := wc_keep hb2 (by simp [WC, go_sem])
    have B := b_alloc (o := Obj.cells #[.int .i64 0, .int .u64 0] 24) (b_trans B hb2)
    have k7 := wc_alloc (o := Obj.cells #[.int .i64 0, .int .u64 0] 24) k7
    clear hb2 x2 k1
    go_wp2_with fail
    refine (fixed_any _).mono ?_
    rintro e w3 ⟨rfl, hb3⟩
    have k7 := wc_keep hb3 k7
    have k8 : WC w3 w2.heap.size 0 0 := wc_keep hb3 (by simp [WC, go_sem])
    have B := b_trans B hb3
    clear hb3
    go_wp2
    go_ret
    exact ⟨by simp, B⟩
  · go_enter Try.func5, Try.ntmps5
    go_wp2_with fail
    refine (cU _).mono ?_
    rintro e w1 ⟨h1, l1, rfl, x1, hb1⟩
    obtain ⟨rfl, rfl⟩ := (x1.inj isW_zero).2 rfl
    have k0 : WC w1 w.heap.size h l := wc_keep hb1 (by simp [WC, go_sem])
    have B := b_alloc (o := Obj.cells #[.int .i64 0, .int .u64 0] 24) (b_trans (b_alloc (Below.refl _ _)) hb1)
    have k1 := wc_alloc (o := Obj.cells #[.int .i64 0, .int .u64 0] 24) k0
    clear hb1 x1 k0
    go_wp2_with fail
    refine (cH _).mono ?_
    rintro e w2 ⟨h2, l2, rfl, x2, hb2⟩
    obtain ⟨rfl, rfl⟩ := (x2.inj isW_zero).2 rfl
    have k7 : WC w2 w1.heap.size 0 0 := wc_keep hb2 (by simp [WC, go_sem])
    have B := b_alloc (o := Obj.cells #[.int .i64 0, .int .u64 0] 24) (b_trans B hb2)
    have k7 := wc_alloc (o := Obj.cells #[.int .i64 0, .int .u64 0] 24) k7
    clear hb2 x2 k1
    go_wp2_with fail
    refine (fixed_any _).mono ?_
    rintro e w3 ⟨rfl, hb3⟩
    have k7 := wc_keep hb3 k7
    have k8 : WC w3 w2.heap.size 0 0 := wc_keep hb3 (by simp [WC, go_sem])
    have B := b_trans B hb3
    clear hb3
    go_wp2
    go_ret
    exact ⟨by simp, B⟩

theorem evn_one (a : Int) : evn a (2 ^ (0 : Int).toNat) = a := by
  unfold evn near
  simp
theorem half_all (ah al a n : Int) (x : IsW ah al a) (n0 : 0 ≤ n) (n1 : n ≤ 127) (w : World) :
    Calls Try.prog 28 #[wv ah al, .int .i64 n] w (RetWE (evn a (2 ^ n.toNat)) 0 w) := by
  by_cases c : n = 0
  · subst c
    rw [evn_one]
    exact half_zero ah al a x w
  · exact half_any ah al a n x (by omega) n1 w
theorem mul_tiny {a p : Int} (f : Fits a) (p0 : 1 ≤ p) (p1 : p ≤ 340282366920938463463374607431768211456) : Tiny (a * p) := by
  have a0 := f.lo; have a1 := f.hi
  have h : a.natAbs * p.natAbs ≤ 170141183460469231731687303715884105728 * 340282366920938463463374607431768211456 := Nat.mul_le_mul (by omega) (by omega)
  have e : (a * p).natAbs = a.natAbs * p.natAbs := Int.natAbs_mul a p
  exact ⟨by omega, by omega⟩

set_option maxHeartbeats 4000000 in
set_option maxRecDepth 10000 in
theorem wshift_in (h l a : Int) (k : Nat) (X : IsW h l a) (k1' : k ≤ 127) (w : World) :
    Calls Try.prog 5 #[wv h l, .int .i64 (k : Int)] w (RetV (.bool true) w) := by
  have f0 := X.fits.lo; have f1 := X.fits.hi
  have cU := up_all h l a k X (by omega) (by omega)
  have cH := half_all h l a k X (by omega) (by omega)
  have cP := power_any k (by omega)
  obtain ⟨q, p0, q0, pq⟩ := pow_div (k : Int) (by omega) (by omega)
  rw [show ((k : Int).toNat) = k by omega] at cU cH p0 pq
  have p1 : (2 : Int) ^ k ≤ 340282366920938463463374607431768211456 := by
    rw [pq]
    have := Int.mul_le_mul_of_nonneg_left q0 (show (0 : Int) ≤ 2 ^ k by omega)
    omega
  have E9 := Lib.hid (ef_pos a (show (0 : Int) < 2 ^ k by omega))
  have EB := Lib.hid (mul_tiny X.fits p0 p1)
  clear pq q0 q
  generalize (2 : Int) ^ k = p at *
  generalize hz : evn a p = z at *
  have HZ := Lib.hid hz
  clear hz
  have kn : ¬ (k : Int) < 0 := by omega
  have km : ¬ (127 : Int) < (k : Int) := by omega
  go_enter Try.func5, Try.ntmps5
  go_wp2_with fail
  refine (cU _).mono ?_
  rintro e w1 ⟨h5, l5, rfl, x5, hb1⟩
  have k0 : WC w1 w.heap.size h l := wc_keep hb1 (by simp [WC, go_sem])
  have B := b_alloc (o := Obj.cells #[.int .i64 h5, .int .u64 l5] 24) (b_trans (b_alloc (Below.refl _ _)) hb1)
  have k0 := wc_alloc (o := Obj.cells #[.int .i64 h5, .int .u64 l5] 24) k0
  clear hb1
  generalize he5 : fe (a * p) = e5 at *
  have E5 := Lib.hid he5
  clear he5
  go_wp2_with fail
  refine (cH _).mono ?_
  rintro e w2 ⟨h7, l7, rfl, x7, hb2⟩
  have k5 : WC w2 w1.heap.size h5 l5 := wc_keep hb2 (by simp [WC, go_sem])
  have k0 := wc_keep hb2 k0
  have B := b_alloc (o := Obj.cells #[.int .i64 h7, .int .u64 l7] 24) (b_trans B hb2)
  have k5 := wc_alloc (o := Obj.cells #[.int .i64 h7, .int .u64 l7] 24) k5
  have k0 := wc_alloc (o := Obj.cells #[.int .i64 h7, .int .u64 l7] 24) k0
  clear hb2
  have z0 := x7.fits.lo
  have z1 := x7.fits.hi
  have X7 := Lib.hid (show IsW h7 l7 (fz z) by rw [fz_of x7.fits]; exact x7)
  have E7 := Lib.hid (fe_of x7.fits)
  clear x7
  go_wp2_with fail
  refine (from_any h l a X _).mono ?_
  rintro e w3 ⟨v3, rfl, g3, hb3⟩
  obtain ⟨n3, a3, k3, c3, rfl⟩ := bg_form g3
  have k7 : WC w3 w2.heap.size h7 l7 := wc_keep hb3 (by simp [WC, go_sem])
  have k5 := wc_keep hb3 k5
  have B := b_trans B hb3
  clear hb3 k0
  go_wp2_with fail
  have al : Below w3.heap.size w3 (w3.alloc (Obj.cells #[.bool n3, .slice a3 k3 c3] 27)) := b_alloc (Below.refl _ _)
  have q9 : VB (w3.alloc (Obj.cells #[.bool n3, .slice a3 k3 c3] 27)) w3.heap.size a := vb_new rfl g3
  have k5 := wc_keep al k5
  have k7 := wc_keep al k7
  have B4 := b_trans B al
  clear al B g3
  generalize w3.alloc (Obj.cells #[.bool n3, .slice a3 k3 c3] 27) = W4 at *
  generalize w3.heap.size = g9 at *
  generalize w2.heap.size = g7 at *
  generalize w1.heap.size = g5 at *
  obtain ⟨n9, a9, l9, c9, k9, f9, g9'⟩ := vb_use q9
  clear q9 f9
  have b0 := EB.out.1
  have b1 := EB.out.2
  refine region_each [49, 50, 51, 52, 53, 54, 55, 56, 57, 58, 59, 60, 61, 62, 63, 64, 65, 66, 67] (fun i X_ U_ => match i with | 0 => X_ = .bool true | 1 => X_ = .bool true | 2 => X_ = wv h5 l5 | 3 => X_ = .int .i64 e5 | 4 => X_ = .agg #[.bool n9, .slice a9 l9 c9] | 5 => X_ = .int .i64 (k : Int) | 6 => BG U_ X_ (p) | 7 => BG U_ X_ (a * p) | 8 => X_ = .bool true | 9 => X_ = .bool true | 10 => X_ = .bool true | 11 => X_ = wv h7 l7 | 12 => X_ = .int .i64 0 | 13 => X_ = .agg #[.bool n9, .slice a9 l9 c9] | 14 => X_ = .int .i64 (k : Int) | 15 => BG U_ X_ (p) | 16 => BG U_ X_ (z) | 17 => X_ = .bool true | 18 => X_ = .bool true | _ => True) (fun i => false) (by kernel_rfl) (by kernel_rfl) (by kernel_rfl) (by kernel_rfl) (by kernel_rfl) ?_ ?_ ?_ ?_
  · intro i x w w' hi h hb
    match i, hi with
    | 0, _ => exact h
    | 1, _ => exact h
    | 2, _ => exact h
    | 3, _ => exact h
    | 4, _ => exact h
    | 5, _ => exact h
    | 6, _ => exact bg_keep h hb
    | 7, _ => exact bg_keep h hb
    | 8, _ => exact h
    | 9, _ => exact h
    | 10, _ => exact h
    | 11, _ => exact h
    | 12, _ => exact h
    | 13, _ => exact h
    | 14, _ => exact h
    | 15, _ => exact bg_keep h hb
    | 16, _ => exact bg_keep h hb
    | 17, _ => exact h
    | 18, _ => exact h
    | k + 19, hk => exact absurd hk (by simp)
  · intro i x w hi ha h
    cases ha
  · intro i hi v f w' hb hv hB hd
    match i, hi with
    | 0, _ =>
      clear hb hv hd
      refine wpOp_step rfl (fun K hK => ?_)
      go_simp
      refine (fixed_any _).mono ?_
      rintro e w5 ⟨rfl, hb5⟩
      exact hK _ _ ⟨_, rfl, hb5, rfl, fun h => absurd h (by decide)⟩
    | 1, _ =>
      have h0 : (v 0) = .bool true := hd 0 (by kernel_rfl)
      have d0 : f.tmps[49]? = some (.bool true) := (hv 0 49 rfl).trans (congrArg some h0)
      clear h0
      clear hb hv hd
      refine wpOp_step rfl (fun K hK => ?_)
      go_simp
      exact hK _ _ ⟨_, rfl, Below.refl _ _, rfl, fun h => absurd h (by decide)⟩
    | 2, _ =>
      have b5 : f.tmps[5]? = some (.pointer (some ⟨g5, 0, none⟩)) := (hb 5 (by decide)).trans rfl
      have h1 : (v 1) = .bool true := hd 1 (by kernel_rfl)
      have d1 : f.tmps[50]? = some (.bool true) := (hv 1 50 rfl).trans (congrArg some h1)
      clear h1
      clear hb hv hd
      have c := wc_keep hB k5
      refine wpOp_step rfl (fun K hK => ?_)
      go_simp
      exact hK _ _ ⟨_, rfl, Below.refl _ _, rfl, fun h => absurd h (by decide)⟩
    | 3, _ =>
      have b6 : f.tmps[6]? = some (.int .i64 e5) := (hb 6 (by decide)).trans rfl
      have h1 : (v 1) = .bool true := hd 1 (by kernel_rfl)
      have d1 : f.tmps[50]? = some (.bool true) := (hv 1 50 rfl).trans (congrArg some h1)
      clear h1
      clear hb hv hd
      refine wpOp_step rfl (fun K hK => ?_)
      go_simp
      exact hK _ _ ⟨_, rfl, Below.refl _ _, rfl, fun h => absurd h (by decide)⟩
    | 4, _ =>
      have b9 : f.tmps[9]? = some (.pointer (some ⟨g9, 0, none⟩)) := (hb 9 (by decide)).trans rfl
      have h1 : (v 1) = .bool true := hd 1 (by kernel_rfl)
      have d1 : f.tmps[50]? = some (.bool true) := (hv 1 50 rfl).trans (congrArg some h1)
      clear h1
      clear hb hv hd
      have c := bc_keep hB k9
      refine wpOp_step rfl (fun K hK => ?_)
      go_simp
      exact hK _ _ ⟨_, rfl, Below.refl _ _, rfl, fun h => absurd h (by decide)⟩
    | 5, _ =>
      have b1 : f.tmps[1]? = some (.int .i64 (k : Int)) := (hb 1 (by decide)).trans rfl
      have h1 : (v 1) = .bool true := hd 1 (by kernel_rfl)
      have d1 : f.tmps[50]? = some (.bool true) := (hv 1 50 rfl).trans (congrArg some h1)
      clear h1
      clear hb hv hd
      refine wpOp_step rfl (fun K hK => ?_)
      go_simp
      exact hK _ _ ⟨_, rfl, Below.refl _ _, rfl, fun h => absurd h (by decide)⟩
    | 6, _ =>
      have h5 : (v 5) = .int .i64 (k : Int) := hd 5 (by kernel_rfl)
      have d5 : f.tmps[54]? = some (.int .i64 (k : Int)) := (hv 5 54 rfl).trans (congrArg some h5)
      clear h5
      have h1 : (v 1) = .bool true := hd 1 (by kernel_rfl)
      have d1 : f.tmps[50]? = some (.bool true) := (hv 1 50 rfl).trans (congrArg some h1)
      clear h1
      clear hb hv hd
      refine wpOp_step rfl (fun K hK => ?_)
      go_simp
      refine (cP _).mono ?_
      rintro e w5 ⟨v5, rfl, h5, hb5⟩
      exact hK _ _ ⟨_, rfl, hb5, h5, fun h => absurd h (by decide)⟩
    | 7, _ =>
      have h4 : (v 4) = .agg #[.bool n9, .slice a9 l9 c9] := hd 4 (by kernel_rfl)
      have d4 : f.tmps[53]? = some (.agg #[.bool n9, .slice a9 l9 c9]) := (hv 4 53 rfl).trans (congrArg some h4)
      clear h4
      have h6 : BG w' (v 6) (p) := hd 6 (by kernel_rfl)
      have d6 : f.tmps[55]? = some (v 6) := hv 6 55 rfl
      have h1 : (v 1) = .bool true := hd 1 (by kernel_rfl)
      have d1 : f.tmps[50]? = some (.bool true) := (hv 1 50 rfl).trans (congrArg some h1)
      clear h1
      clear hb hv hd
      refine wpOp_step rfl (fun K hK => ?_)
      go_simp
      refine (mul_big _ _ a p _ (bg_keep g9' hB) h6 (small_of (by omega) (by omega)) (small_of (by omega) (by omega))).mono ?_
      rintro e w5 ⟨v5, rfl, h5, hb5⟩
      exact hK _ _ ⟨_, rfl, hb5, h5, fun h => absurd h (by decide)⟩
    | 8, _ =>
      have h2 : (v 2) = wv h5 l5 := hd 2 (by kernel_rfl)
      have d2 : f.tmps[51]? = some (wv h5 l5) := (hv 2 51 rfl).trans (congrArg some h2)
      clear h2
      have h3 : (v 3) = .int .i64 e5 := hd 3 (by kernel_rfl)
      have d3 : f.tmps[52]? = some (.int .i64 e5) := (hv 3 52 rfl).trans (congrArg some h3)
      clear h3
      have h7 : BG w' (v 7) (a * p) := hd 7 (by kernel_rfl)
      have d7 : f.tmps[56]? = some (v 7) := hv 7 56 rfl
      have h1 : (v 1) = .bool true := hd 1 (by kernel_rfl)
      have d1 : f.tmps[50]? = some (.bool true) := (hv 1 50 rfl).trans (congrArg some h1)
      clear h1
      clear hb hv hd
      refine wpOp_step rfl (fun K hK => ?_)
      go_simp
      refine (same_true h5 l5 (a * p) e5 x5 E5.out _ _ h7 ⟨by omega, by omega⟩).mono ?_
      rintro e w5 ⟨rfl, hb5⟩
      exact hK _ _ ⟨_, rfl, hb5, rfl, fun h => absurd h (by decide)⟩
    | 9, _ =>
      have h1 : (v 1) = .bool true := hd 1 (by kernel_rfl)
      have d1 : f.tmps[50]? = some (.bool true) := (hv 1 50 rfl).trans (congrArg some h1)
      clear h1
      have h8 : (v 8) = .bool true := hd 8 (by kernel_rfl)
      have d8 : f.tmps[57]? = some (.bool true) := (hv 8 57 rfl).trans (congrArg some h8)
      clear h8
      clear hb hv hd
      refine wpOp_step rfl (fun K hK => ?_)
      go_simp
      exact hK _ _ ⟨_, rfl, Below.refl _ _, rfl, fun h => absurd h (by decide)⟩
    | 10, _ =>
      have h9 : (v 9) = .bool true := hd 9 (by kernel_rfl)
      have d9 : f.tmps[58]? = some (.bool true) := (hv 9 58 rfl).trans (congrArg some h9)
      clear h9
      clear hb hv hd
      refine wpOp_step rfl (fun K hK => ?_)
      go_simp
      exact hK _ _ ⟨_, rfl, Below.refl _ _, rfl, fun h => absurd h (by decide)⟩
    | 11, _ =>
      have b7 : f.tmps[7]? = some (.pointer (some ⟨g7, 0, none⟩)) := (hb 7 (by decide)).trans rfl
      have h10 : (v 10) = .bool true := hd 10 (by kernel_rfl)
      have d10 : f.tmps[59]? = some (.bool true) := (hv 10 59 rfl).trans (congrArg some h10)
      clear h10
      clear hb hv hd
      have c := wc_keep hB k7
      refine wpOp_step rfl (fun K hK => ?_)
      go_simp
      exact hK _ _ ⟨_, rfl, Below.refl _ _, rfl, fun h => absurd h (by decide)⟩
    | 12, _ =>
      have b8 : f.tmps[8]? = some (.int .i64 0) := (hb 8 (by decide)).trans rfl
      have h10 : (v 10) = .bool true := hd 10 (by kernel_rfl)
      have d10 : f.tmps[59]? = some (.bool true) := (hv 10 59 rfl).trans (congrArg some h10)
      clear h10
      clear hb hv hd
      refine wpOp_step rfl (fun K hK => ?_)
      go_simp
      exact hK _ _ ⟨_, rfl, Below.refl _ _, rfl, fun h => absurd h (by decide)⟩
    | 13, _ =>
      have b9 : f.tmps[9]? = some (.pointer (some ⟨g9, 0, none⟩)) := (hb 9 (by decide)).trans rfl
      have h10 : (v 10) = .bool true := hd 10 (by kernel_rfl)
      have d10 : f.tmps[59]? = some (.bool true) := (hv 10 59 rfl).trans (congrArg some h10)
      clear h10
      clear hb hv hd
      have c := bc_keep hB k9
      refine wpOp_step rfl (fun K hK => ?_)
      go_simp
      exact hK _ _ ⟨_, rfl, Below.refl _ _, rfl, fun h => absurd h (by decide)⟩
    | 14, _ =>
      have b1 : f.tmps[1]? = some (.int .i64 (k : Int)) := (hb 1 (by decide)).trans rfl
      have h10 : (v 10) = .bool true := hd 10 (by kernel_rfl)
      have d10 : f.tmps[59]? = some (.bool true) := (hv 10 59 rfl).trans (congrArg some h10)
      clear h10
      clear hb hv hd
      refine wpOp_step rfl (fun K hK => ?_)
      go_simp
      exact hK _ _ ⟨_, rfl, Below.refl _ _, rfl, fun h => absurd h (by decide)⟩
    | 15, _ =>
      have h14 : (v 14) = .int .i64 (k : Int) := hd 14 (by kernel_rfl)
      have d14 : f.tmps[63]? = some (.int .i64 (k : Int)) := (hv 14 63 rfl).trans (congrArg some h14)
      clear h14
      have h10 : (v 10) = .bool true := hd 10 (by kernel_rfl)
      have d10 : f.tmps[59]? = some (.bool true) := (hv 10 59 rfl).trans (congrArg some h10)
      clear h10
      clear hb hv hd
      refine wpOp_step rfl (fun K hK => ?_)
      go_simp
      refine (cP _).mono ?_
      rintro e w5 ⟨v5, rfl, h5, hb5⟩
      exact hK _ _ ⟨_, rfl, hb5, h5, fun h => absurd h (by decide)⟩
    | 16, _ =>
      have h13 : (v 13) = .agg #[.bool n9, .slice a9 l9 c9] := hd 13 (by kernel_rfl)
      have d13 : f.tmps[62]? = some (.agg #[.bool n9, .slice a9 l9 c9]) := (hv 13 62 rfl).trans (congrArg some h13)
      clear h13
      have h15 : BG w' (v 15) (p) := hd 15 (by kernel_rfl)
      have d15 : f.tmps[64]? = some (v 15) := hv 15 64 rfl
      have h10 : (v 10) = .bool true := hd 10 (by kernel_rfl)
      have d10 : f.tmps[59]? = some (.bool true) := (hv 10 59 rfl).trans (congrArg some h10)
      clear h10
      clear hb hv hd
      refine wpOp_step rfl (fun K hK => ?_)
      go_simp
      refine (even_big _ _ a p _ (bg_keep g9' hB) h15 (by omega) ⟨by omega, by omega⟩ ⟨by omega, by omega⟩).mono ?_
      rintro e w5 ⟨v5, rfl, h5, hb5⟩
      exact hK _ _ ⟨_, rfl, hb5, by rwa [E9.out] at h5, fun h => absurd h (by decide)⟩
    | 17, _ =>
      have h11 : (v 11) = wv h7 l7 := hd 11 (by kernel_rfl)
      have d11 : f.tmps[60]? = some (wv h7 l7) := (hv 11 60 rfl).trans (congrArg some h11)
      clear h11
      have h12 : (v 12) = .int .i64 0 := hd 12 (by kernel_rfl)
      have d12 : f.tmps[61]? = some (.int .i64 0) := (hv 12 61 rfl).trans (congrArg some h12)
      clear h12
      have h16 : BG w' (v 16) (z) := hd 16 (by kernel_rfl)
      have d16 : f.tmps[65]? = some (v 16) := hv 16 65 rfl
      have h10 : (v 10) = .bool true := hd 10 (by kernel_rfl)
      have d10 : f.tmps[59]? = some (.bool true) := (hv 10 59 rfl).trans (congrArg some h10)
      clear h10
      clear hb hv hd
      refine wpOp_step rfl (fun K hK => ?_)
      go_simp
      refine (same_true h7 l7 (z) 0 X7.out E7.out _ _ h16 ⟨by omega, by omega⟩).mono ?_
      rintro e w5 ⟨rfl, hb5⟩
      exact hK _ _ ⟨_, rfl, hb5, rfl, fun h => absurd h (by decide)⟩
    | 18, _ =>
      have h10 : (v 10) = .bool true := hd 10 (by kernel_rfl)
      have d10 : f.tmps[59]? = some (.bool true) := (hv 10 59 rfl).trans (congrArg some h10)
      clear h10
      have h17 : (v 17) = .bool true := hd 17 (by kernel_rfl)
      have d17 : f.tmps[66]? = some (.bool true) := (hv 17 66 rfl).trans (congrArg some h17)
      clear h17
      clear hb hv hd
      refine wpOp_step rfl (fun K hK => ?_)
      go_simp
      exact hK _ _ ⟨_, rfl, Below.refl _ _, rfl, fun h => absurd h (by decide)⟩
    | k + 19, hk => exact absurd hk (by simp)
  · intro v w' hB hF hD
    have F0 : (v 0) = .bool true := hF 0 (by simp)
    have F1 : (v 1) = .bool true := hF 1 (by simp)
    have F2 : (v 2) = wv h5 l5 := hF 2 (by simp)
    have F3 : (v 3) = .int .i64 e5 := hF 3 (by simp)
    have F4 : (v 4) = .agg #[.bool n9, .slice a9 l9 c9] := hF 4 (by simp)
    have F5 : (v 5) = .int .i64 (k : Int) := hF 5 (by simp)
    have F6 : BG w' (v 6) (p) := hF 6 (by simp)
    have F7 : BG w' (v 7) (a * p) := hF 7 (by simp)
    have F8 : (v 8) = .bool true := hF 8 (by simp)
    have F9 : (v 9) = .bool true := hF 9 (by simp)
    have F10 : (v 10) = .bool true := hF 10 (by simp)
    have F11 : (v 11) = wv h7 l7 := hF 11 (by simp)
    have F12 : (v 12) = .int .i64 0 := hF 12 (by simp)
    have F13 : (v 13) = .agg #[.bool n9, .slice a9 l9 c9] := hF 13 (by simp)
    have F14 : (v 14) = .int .i64 (k : Int) := hF 14 (by simp)
    have F15 : BG w' (v 15) (p) := hF 15 (by simp)
    have F16 : BG w' (v 16) (z) := hF 16 (by simp)
    have F17 : (v 17) = .bool true := hF 17 (by simp)
    have F18 : (v 18) = .bool true := hF 18 (by simp)
    clear hF
    obtain ⟨n6_, a6_, k6_, c6_, e6⟩ := bg_form F6
    obtain ⟨n7_, a7_, k7_, c7_, e7⟩ := bg_form F7
    obtain ⟨n15_, a15_, k15_, c15_, e15⟩ := bg_form F15
    obtain ⟨n16_, a16_, k16_, c16_, e16⟩ := bg_form F16
    simp only [frOf, frGo, Nat.zero_add, Nat.reduceAdd, F0, F1, F2, F3, F4, F5, e6, e7, F8, F9, F10, F11, F12, F13, F14, e15, e16, F17, F18]
    have B5 := b_trans B4 hB
    clear F0 F1 F2 F3 F4 F5 F6 F7 F8 F9 F10 F11 F12 F13 F14 F15 F16 F17 F18 hB hD e6 e7 e15 e16 B4 k5 k7 k9
    go_wp2
    go_ret
    exact ⟨rfl, B5⟩

theorem wshift_any (h l a n : Int) (X : IsW h l a) (w : World) : Calls Try.prog 5 #[wv h l, .int .i64 n] w (RetV (.bool true) w) := by
  by_cases c : n < 0 ∨ 127 < n
  · exact wshift_out h l n c w
  · have := wshift_in h l a n.toNat X (by omega) w
    rwa [show ((n.toNat : Nat) : Int) = n by omega] at this
end Go.Proofs.Ytlgnenogieehnaa
