/- Package root: how a square stands to a wide number, the whole root of a wide number, the mean of two numbers: each call's answer, for every argument. -/
import Derived.Test.YtjafcnbghbfehaaDoorWideD
import Derived.Test.YtjafcnbghbfehaaDoorWideF
import Derived.Test.YtjafcnbghbfehaaDoorRoot
import Derived.WalkMore
namespace Go.Proofs.YtjafcnbghbfehaaDoor
open Go.RowKit Go.Shelf

theorem sq_words {h l x : Int} (e : h * 18446744073709551616 + l = x * x) (l0 : 0 ≤ l) (l1 : l ≤ 18446744073709551615) (h0 : 0 ≤ h) (h1 : h ≤ 9223372036854775807) : IsW h l (x * x) :=
  ⟨by omega, h1, l0, l1, by omega⟩
theorem sq_above {h l x a ah al : Int} (e : h * 18446744073709551616 + l = x * x) (l0 : 0 ≤ l) (h1 : 9223372036854775807 < h) (y : IsW ah al a) : cmp3 (x * x) a = 1 := by
  have := y.fits.2
  exact cmp3_gt (by omega)

theorem square_cmp (x ah al a : Int) (x0 : 0 ≤ x) (x1 : x ≤ 18446744073709551615) (y : IsW ah al a) (w : World) :
    Calls Tryd.prog 39 #[.int .u64 x, wv ah al] w (RetV (.int .i64 (cmp3 (x * x) a)) w) := by
  generalize hg : cmp3 (x * x) a = g
  replace hg := Lib.hid hg
  go_enter Tryd.func39, Tryd.ntmps39
  go_wp2_with (go_at_call 37; refine (mul64 _ _ (by omega) (by omega) (by omega) (by omega) _).mono ?_; rintro e w1 ⟨rh, rl, rfl, a0, a1, b0, b1, E, rfl⟩)
  · rename_i big
    have : g = 1 := by rw [← hg.out]; exact sq_above E.out b0 big y
    subst this
    go_ret
    exact ⟨rfl, b_alloc (Below.refl _ _)⟩
  · rename_i le _ _ _ _
    refine (cmp_any _ _ _ _ _ _ (sq_words E.out b0 b1 a0 le) y _).mono ?_
    rintro e w2 ⟨rfl, hb⟩
    rw [hg.out]
    have B := b_trans (b_alloc (o := (Obj.cells #[Value.int IntKind.i64 ah, Value.int IntKind.u64 al] 54)) (Below.refl w.heap.size w)) hb
    go_wp2
    go_ret
    exact ⟨rfl, B⟩

/-- What holds at the head of each round: n is the root's higher bits, p twice the bit that is tried next. -/
structure RR (a n p : Int) : Prop where
  n0 : 0 ≤ n
  p1 : 1 ≤ p
  n1 : n + p ≤ 18446744073709551616
  lo : n * n ≤ a
  hi : a < (n + p) * (n + p)
theorem rr_start {ah al a : Int} (y : IsW ah al a) (a0 : 0 ≤ a) : RR a 0 18446744073709551616 := by
  have := y.fits.2
  exact ⟨by decide, by decide, by decide, by omega, by omega⟩
theorem rr_step {a n p : Int} (h : RR a n (2 * p)) (p1 : 1 ≤ p) : ((n + p) * (n + p) ≤ a → RR a (n + p) p) ∧ (a < (n + p) * (n + p) → RR a n p) := by
  obtain ⟨h0, h1, h2, h3, h4⟩ := h
  have t := bit_take h0 p1 h3 h4
  exact ⟨fun k => ⟨by omega, p1, by omega, (t.1 k).2.1, (t.1 k).2.2⟩, fun k => ⟨h0, p1, by omega, h3, k⟩⟩
theorem rr_end {a n r : Int} (h : RR a n 1) (x : IsRoot a r) : n = r := IsRoot.uniq ⟨h.n0, h.lo, h.hi⟩ x

theorem or_bit {n : Int} (m : Nat) (n0 : 0 ≤ n) (n1 : n + 2 ^ (m + 1) ≤ 18446744073709551616) (hm : m + 1 ≤ 64) (d : (2 : Int) ^ (m + 1) ∣ n) : bits .or .u64 n (2 ^ m) = n + 2 ^ m := by
  obtain ⟨c, rfl⟩ := d
  have e : (2 : Int) ^ (m + 1) = 2 * 2 ^ m := by rw [Int.pow_succ, Int.mul_comm]
  have p0 : (0 : Int) < 2 ^ m := Int.pow_pos (by decide)
  rw [bits_or_comm, or_u64 _ _ (m + 1) hm c (by rw [Int.mul_comm c, Int.emod_eq_of_lt n0 (by omega)]) (by omega) (by omega)]
  omega
theorem root_neg (ah al a : Int) (x : IsW ah al a) (n : a < 0) (w : World) :
    Calls Tryd.prog 32 #[wv ah al] w (RetV (.tuple #[.int .u64 0, .int .i64 1]) w) := by
  have cO := retV_regrown (w := w.alloc (Obj.cells #[.int .i64 ah, .int .u64 al] 54)) (fun w => (of_any 0 (by decide) (by decide) w).mono fun _ _ h => retW_det isW_zero h)
  have cC := retV_regrown (w := w.alloc (Obj.cells #[.int .i64 ah, .int .u64 al] 54)) (cmp_any _ _ _ _ _ _ x isW_zero)
  rw [cmp3_lt n] at cC
  have g := wc_regrown (w := w.alloc (Obj.cells #[.int .i64 ah, .int .u64 al] 54)) (b := w.heap.size) (h := ah) (l := al) (by simp [WC, go_sem])
  go_enter Tryd.func32, Tryd.ntmps32
  go_wp2
  go_step3
  go_wp2
  refine wp_region_quiet_below (by kernel_rfl) (by kernel_rfl) ?_
  repeat (quiet_step (first | exact cO _ _ | exact cC _ _))
  refine wpQuiet_nil ?_
  intro _ hw'
  obtain ⟨⟨dq, osq⟩, rfl⟩ := hw'
  have B := b_trans (b_alloc (o := (Obj.cells #[Value.int IntKind.i64 ah, Value.int IntKind.u64 al] 54)) (Below.refl w.heap.size w)) (below_regrown _ dq osq)
  go_wp2
  try rw [Exit.noGoto_ret]
  go_ret2
  exact ⟨rfl, B⟩

theorem root_of (ah al a r : Int) (x : IsW ah al a) (n : 0 ≤ a) (R : IsRoot a r) (w : World) :
    Calls Tryd.prog 32 #[wv ah al] w (RetV (.tuple #[.int .u64 r, .int .i64 0]) w) := by
  have cO := retV_regrown (w := w.alloc (Obj.cells #[.int .i64 ah, .int .u64 al] 54)) (fun w => (of_any 0 (by decide) (by decide) w).mono fun _ _ h => retW_det isW_zero h)
  have cC := retV_regrown (w := w.alloc (Obj.cells #[.int .i64 ah, .int .u64 al] 54)) (cmp_any _ _ _ _ _ _ x isW_zero)
  have cz : ¬ cmp3 a 0 < 0 := by unfold cmp3; split <;> omega
  have g := wc_regrown (w := w.alloc (Obj.cells #[.int .i64 ah, .int .u64 al] 54)) (b := w.heap.size) (h := ah) (l := al) (by simp [WC, go_sem])
  have r0 := rr_start x n
  generalize cmp3 a 0 = c0 at *
  go_enter Tryd.func32, Tryd.ntmps32
  go_wp2
  go_step3
  go_wp2
  refine wp_region_quiet_below (by kernel_rfl) (by kernel_rfl) ?_
  repeat (quiet_step (first | exact cO _ _ | exact cC _ _))
  refine wpQuiet_nil ?_
  intro _ hw'
  obtain ⟨⟨dq, osq⟩, hw''⟩ := hw'
  subst hw''
  have B := b_trans (b_alloc (o := (Obj.cells #[Value.int IntKind.i64 ah, Value.int IntKind.u64 al] 54)) (Below.refl w.heap.size w)) (below_regrown _ dq osq)
  have k := g dq osq
  clear g cO cC
  generalize Sort.grow (redrawn (w.alloc (Obj.cells #[Value.int IntKind.i64 ah, Value.int IntKind.u64 al] 54)) dq) osq = w2 at *
  go_wp2
  go_step3
  go_wp2
  go_loopw [4, 5] (fun nv bv wr => ∃ (n p : Int) (m : Nat), nv = .int .u64 n ∧ bv = .int .u64 p ∧ RR a n (2 ^ m) ∧ (2 : Int) ^ m ∣ n ∧ p = 2 ^ m / 2 ∧ m ≤ 64 ∧ WC wr w.heap.size ah al ∧ Below w.heap.size w wr) (fun nv bv _ => (intOf bv).toNat)
  case atStart => exact ⟨0, 9223372036854775808, 64, rfl, rfl, r0, ⟨0, by decide⟩, by decide, by decide, k, B⟩
  case round =>
    obtain ⟨n, p, m, rfl, rfl, rr, dv, hp, hm, k, B⟩ := hrel
    have n0 := rr.n0
    have nn := rr.n1
    cases m with
    | zero =>
      obtain rfl : p = 0 := by simpa using hp
      obtain rfl := rr_end (by simpa using rr) R
      clear rr dv hp
      go_wp2
      try rw [Exit.noGoto_ret]
      go_ret2
      exact ⟨rfl, B⟩
    | succ m =>
      have e : (2 : Int) ^ (m + 1) = 2 * 2 ^ m := by rw [Int.pow_succ, Int.mul_comm]
      have p0 : (0 : Int) < 2 ^ m := Int.pow_pos (by decide)
      obtain rfl : p = 2 ^ m := by rw [hp, e]; omega
      have ho := or_bit m n0 nn hm dv
      have ST := Lib.hid (rr_step (e ▸ rr) (by omega))
      have EQ : Hid ((n + 2 ^ m) * (n + 2 ^ m) = a → n + 2 ^ m = r) := Lib.hid (fun h => IsRoot.uniq (root_square (by omega)) (h ▸ R))
      have DV : Hid ((2 : Int) ^ m ∣ n ∧ (2 : Int) ^ m ∣ n + 2 ^ m) := Lib.hid (by
        have : (2 : Int) ^ m ∣ n := Int.dvd_trans ⟨2, by omega⟩ dv
        exact ⟨this, (Int.dvd_add_right this).2 (Int.dvd_refl _)⟩)
      rw [e] at nn
      clear rr dv hp e r0
      generalize hP : (2 : Int) ^ m = P at *
      replace hP := Lib.hid hP
      generalize hT : n + P = T at *
      replace hT := Lib.hid hT
      have T0 : 0 ≤ T ∧ T ≤ 18446744073709551615 := by have := hT.out; omega
      clear nn
      go_wp2_with fail
      refine (square_cmp T ah al a T0.1 T0.2 x _).mono ?_
      rintro e w3 ⟨rfl, hb⟩
      replace k := wc_keep hb k
      replace B := b_trans B hb
      clear hb
      by_cases lt : a < T * T
      · rw [cmp3_gt lt]
        go_wp2
        refine ⟨⟨n, _, m, rfl, rfl, ?_, ?_, ?_, by omega, k, B⟩, by simp [intOf]; omega⟩
        · rw [hP.out]; exact ST.out.2 lt
        · rw [hP.out]; exact DV.out.1
        · rw [hP.out]
      · by_cases eq : T * T = a
        · rw [← eq, cmp3_eq]
          obtain rfl := EQ.out eq
          go_wp2
          try rw [Exit.noGoto_ret]
          go_ret2
          exact ⟨rfl, B⟩
        · rw [cmp3_lt (by omega)]
          go_wp2
          refine ⟨⟨T, _, m, rfl, rfl, ?_, ?_, ?_, by omega, k, B⟩, by simp [intOf]; omega⟩
          · rw [hP.out]; exact ST.out.1 (by omega)
          · rw [hP.out]; exact DV.out.2
          · rw [hP.out]

theorem mean_neg (x y : Int) (x0 : -9223372036854775808 ≤ x) (x1 : x ≤ 9223372036854775807) (y0 : -9223372036854775808 ≤ y) (y1 : y ≤ 9223372036854775807) (n : x < 0 ∨ y < 0) (w : World) :
    Calls Tryd.prog 18 #[.int .i64 x, .int .i64 y] w (RetV (.int .i64 0) w) := by
  by_cases c : x < 0
  · clear n
    go_enter Tryd.func18, Tryd.ntmps18
    go_wp2
    go_ret
    exact ⟨rfl, Below.refl _ _⟩
  · have d : y < 0 := by omega
    clear n
    go_enter Tryd.func18, Tryd.ntmps18
    go_wp2
    go_ret
    exact ⟨rfl, Below.refl _ _⟩

theorem mean_of (x y r : Int) (x0 : 0 ≤ x) (x1 : x ≤ 9223372036854775807) (y0 : 0 ≤ y) (y1 : y ≤ 9223372036854775807) (R : IsRoot (x * y) r) (w : World) :
    Calls Tryd.prog 18 #[.int .i64 x, .int .i64 y] w (RetV (.int .i64 r) w) := by
  have r0 := R.r0
  have r1 := root_i64 x0 y0 x1 y1 R
  have c : ¬ x < 0 := by omega
  have d : ¬ y < 0 := by omega
  go_enter Tryd.func18, Tryd.ntmps18
  go_wp2_with fail
  refine (mul_any x y (by omega) x1 (by omega) y1 _).mono ?_
  rintro e w1 ⟨mh, ml, rfl, hm, hb1⟩
  go_wp2_with fail
  refine (root_of mh ml (x * y) r hm (Int.mul_nonneg x0 y0) R _).mono ?_
  rintro e w2 ⟨rfl, hb2⟩
  have B := b_trans hb1 hb2
  clear hb1 hb2 hm R
  go_wp2
  go_ret
  exact ⟨rfl, B⟩

end Go.Proofs.YtjafcnbghbfehaaDoor
