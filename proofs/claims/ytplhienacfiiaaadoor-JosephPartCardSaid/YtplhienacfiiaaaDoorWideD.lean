/- Package wide: Int, Mul, wideSize, nearest, Up, Half: each call's answer, for every argument. -/
import Derived.Test.YtplhienacfiiaaaDoorWideA
namespace Go.Proofs.YtplhienacfiiaaaDoor
open Go.RowKit Go.Shelf

/-- A wide number as 64 bits: itself, if it fits, else 0; and the error's number. -/
def iz (z : Int) : Int := if -9223372036854775808 ≤ z ∧ z ≤ 9223372036854775807 then z else 0
def ie (z : Int) : Int := if -9223372036854775808 ≤ z ∧ z ≤ 9223372036854775807 then 0 else 3

theorem iz_of {z : Int} (f : -9223372036854775808 ≤ z ∧ z ≤ 9223372036854775807) : iz z = z ∧ ie z = 0 := ⟨if_pos f, if_pos f⟩
theorem iz_no {z : Int} (f : ¬ (-9223372036854775808 ≤ z ∧ z ≤ 9223372036854775807)) : iz z = 0 ∧ ie z = 3 := ⟨if_neg f, if_neg f⟩

theorem retW_det {z h l : Int} (x : IsW h l z) {w : World} {e : Ending} {w' : World} (r : RetW z w e w') : RetV (wv h l) w e w' := by
  obtain ⟨h', l', he, y, hb⟩ := r
  obtain ⟨rfl, rfl⟩ := (x.inj y).2 rfl
  exact ⟨he, hb⟩

theorem int_fits {h l z : Int} (x : IsW h l z) (f : -9223372036854775808 ≤ z ∧ z ≤ 9223372036854775807) : wrap64 l = z := by
  obtain ⟨a, b, c, d, e⟩ := x
  rw [wrapi]; unfold s64; omega
theorem int_not {h l z oh ol : Int} (x : IsW h l z) (f : ¬ (-9223372036854775808 ≤ z ∧ z ≤ 9223372036854775807)) (y : IsW oh ol (wrap64 l)) : oh ≠ h ∧ ol = l := by
  obtain ⟨a, b, c, d, e⟩ := x; obtain ⟨a', b', c', d', e'⟩ := y
  rw [wrapi] at e'; unfold s64 at e'; omega

set_option maxHeartbeats 1000000 in
set_option maxRecDepth 10000 in
theorem int_any (h l z : Int) (x : IsW h l z) (w : World) :
    Calls Tryd.prog 65 #[wv h l] w (RetV (.tuple #[.int .i64 (iz z), .int .i64 (ie z)]) w) := by
  have b0 : -9223372036854775808 ≤ wrap64 l ∧ wrap64 l ≤ 9223372036854775807 := by rw [wrapi]; unfold s64; omega
  have x0 := x.l0; have x1 := x.l1
  obtain ⟨oh, ol, y⟩ : ∃ oh ol, IsW oh ol (wrap64 l) := ⟨_, _, IsW.mk' ⟨by omega, by omega⟩⟩
  have cO := fun w => (of_any (wrap64 l) b0.1 b0.2 w).mono fun _ _ => retW_det y
  by_cases f : -9223372036854775808 ≤ z ∧ z ≤ 9223372036854775807
  · have e1 := int_fits x f
    obtain ⟨rfl, rfl⟩ := (x.inj y).2 e1.symm
    have E := Lib.hid (And.intro (iz_of f).1 (And.intro (iz_of f).2 e1))
    clear e1 x y f b0
    go_enter Tryd.func65, Tryd.ntmps65
    go_wp2
    have cO1 := retV_regrown (w := w.alloc (Obj.cells #[.int .i64 h, .int .u64 l] 78)) cO
    have g0 : ∀ d os, WC (Sort.grow (redrawn (w.alloc (Obj.cells #[.int .i64 h, .int .u64 l] 78)) d) os) w.heap.size h l := wc_regrown (by simp [WC, go_sem])
    clear cO
    refine wp_region_quiet_below (by kernel_rfl) (by kernel_rfl) ?_
    repeat (quiet_step (first | exact cO1 _ _))
    refine wpQuiet_nil ?_
    intro _ hw'
    obtain ⟨⟨dq, osq⟩, hw''⟩ := hw'
    subst hw''
    have B := b_trans (b_alloc (Below.refl _ w)) (below_regrown (w.alloc (Obj.cells #[.int .i64 h, .int .u64 l] 78)) dq osq)
    clear g0 cO1
    go_wp2
    go_ret2
    exact ⟨by rw [E.out.1, E.out.2.1, ← E.out.2.2]; rfl, B⟩
  · obtain ⟨e1, rfl⟩ := int_not x f y
    have E := Lib.hid (iz_no f)
    have e2 : (oh == h) = false := by rw [beq_eq_false_iff_ne]; exact e1
    clear e1 x y f b0
    go_enter Tryd.func65, Tryd.ntmps65
    go_wp2
    have cO1 := retV_regrown (w := w.alloc (Obj.cells #[.int .i64 h, .int .u64 ol] 78)) cO
    have g0 : ∀ d os, WC (Sort.grow (redrawn (w.alloc (Obj.cells #[.int .i64 h, .int .u64 ol] 78)) d) os) w.heap.size h ol := wc_regrown (by simp [WC, go_sem])
    clear cO
    refine wp_region_quiet_below (by kernel_rfl) (by kernel_rfl) ?_
    repeat (quiet_step (first | exact cO1 _ _))
    refine wpQuiet_nil ?_
    intro _ hw'
    obtain ⟨⟨dq, osq⟩, hw''⟩ := hw'
    subst hw''
    have B := b_trans (b_alloc (Below.refl _ w)) (below_regrown (w.alloc (Obj.cells #[.int .i64 h, .int .u64 ol] 78)) dq osq)
    clear g0 cO1
    go_wp2
    go_ret2
    exact ⟨by rw [E.out.1, E.out.2]; rfl, B⟩

theorem mul_fits {x y : Int} (x0 : -9223372036854775808 ≤ x) (x1 : x ≤ 9223372036854775807) (y0 : -9223372036854775808 ≤ y) (y1 : y ≤ 9223372036854775807) : Fits (x * y) := by
  have h1 : x.natAbs * y.natAbs ≤ 9223372036854775808 * 9223372036854775808 := Nat.mul_le_mul (by omega) (by omega)
  have h2 : (x * y).natAbs = x.natAbs * y.natAbs := Int.natAbs_mul x y
  generalize x.natAbs * y.natAbs = m at *
  generalize x * y = p at *
  exact ⟨by omega, by omega⟩

theorem mul_num {x y u v h l : Int} (X : Fits (x * y)) (e : h * 18446744073709551616 + l = u * v) (l0 : 0 ≤ l) (l1 : l ≤ 18446744073709551615)
    (c d : Int) (hu : u = x + c * 18446744073709551616) (hv : v = y + d * 18446744073709551616) (k : Int) (hk : k % 18446744073709551616 = (h - c * y - d * x) % 18446744073709551616) : IsW (s64 k) l (x * y) := by
  have e2 : (h - c * y - d * x - c * d * 18446744073709551616) * 18446744073709551616 + l = x * y := by
    have : u * v = x * y + (c * y + d * x + c * d * 18446744073709551616) * 18446744073709551616 := by
      rw [hu, hv]; simp only [Int.add_mul, Int.mul_add, Int.mul_assoc, Int.mul_comm, Int.mul_left_comm]; omega
    rw [this] at e
    simp only [Int.sub_mul, Int.add_mul] at *
    omega
  have q := isW_mk (h - c * y - d * x - c * d * 18446744073709551616) l (x * y) e2
  rw [w128_of X, show l / 18446744073709551616 = 0 by omega, show l % 18446744073709551616 = l by omega] at q
  rw [s64_mod k (h - c * y - d * x - c * d * 18446744073709551616 + 0) (by omega)]
  exact q

theorem mul_any (x y : Int) (x0 : -9223372036854775808 ≤ x) (x1 : x ≤ 9223372036854775807) (y0 : -9223372036854775808 ≤ y) (y1 : y ≤ 9223372036854775807) (w : World) :
    Calls Tryd.prog 63 #[.int .i64 x, .int .i64 y] w (RetW (x * y) w) := by
  have X := Lib.hid (mul_fits x0 x1 y0 y1)
  have U := fun x => Lib.hid (wrapu x)
  have k0 : 0 ≤ IntKind.u64.wrap x ∧ IntKind.u64.wrap x ≤ 18446744073709551615 := by rw [wrapu]; omega
  have k1 : 0 ≤ IntKind.u64.wrap y ∧ IntKind.u64.wrap y ≤ 18446744073709551615 := by rw [wrapu]; omega
  by_cases c : x < 0 <;> by_cases d : y < 0
  · go_enter Tryd.func63, Tryd.ntmps63
    go_wp2_with (go_at_call 79; refine (mul64 _ _ (by omega) (by omega) (by omega) (by omega) _).mono ?_; rintro e w1 ⟨rh, rl, rfl, a0, a1, b0, b1, E, rfl⟩)
    refine bodyPost_ret (v := wv (wrap64 (IntKind.u64.wrap (IntKind.u64.wrap (rh - IntKind.u64.wrap y) - IntKind.u64.wrap x))) rl) (by simp [results, Tryd.results63, go_sem]) rfl ⟨_, _, rfl, ?_, b_alloc (Below.refl _ _)⟩
    have e1 := (U x).out; have e2 := (U y).out
    rw [wrapi]
    exact mul_num X.out E.out b0 b1 1 1 (by omega) (by omega) _ (by rw [wrapu, wrapu]; omega)
  · go_enter Tryd.func63, Tryd.ntmps63
    go_wp2_with (go_at_call 79; refine (mul64 _ _ (by omega) (by omega) (by omega) (by omega) _).mono ?_; rintro e w1 ⟨rh, rl, rfl, a0, a1, b0, b1, E, rfl⟩)
    refine bodyPost_ret (v := wv (wrap64 (IntKind.u64.wrap (rh - y))) rl) (by simp [results, Tryd.results63, go_sem]) rfl ⟨_, _, rfl, ?_, b_alloc (Below.refl _ _)⟩
    have e1 := (U x).out; have e2 := (U y).out
    rw [wrapi]
    exact mul_num X.out E.out b0 b1 1 0 (by omega) (by omega) _ (by rw [wrapu]; omega)
  · go_enter Tryd.func63, Tryd.ntmps63
    go_wp2_with (go_at_call 79; refine (mul64 _ _ (by omega) (by omega) (by omega) (by omega) _).mono ?_; rintro e w1 ⟨rh, rl, rfl, a0, a1, b0, b1, E, rfl⟩)
    refine bodyPost_ret (v := wv (wrap64 (IntKind.u64.wrap (rh - x))) rl) (by simp [results, Tryd.results63, go_sem]) rfl ⟨_, _, rfl, ?_, b_alloc (Below.refl _ _)⟩
    have e1 := (U x).out; have e2 := (U y).out
    rw [wrapi]
    exact mul_num X.out E.out b0 b1 0 1 (by omega) (by omega) _ (by rw [wrapu]; omega)
  · go_enter Tryd.func63, Tryd.ntmps63
    go_wp2_with (go_at_call 79; refine (mul64 _ _ (by omega) (by omega) (by omega) (by omega) _).mono ?_; rintro e w1 ⟨rh, rl, rfl, a0, a1, b0, b1, E, rfl⟩)
    refine bodyPost_ret (v := wv (wrap64 rh) rl) (by simp [results, Tryd.results63, go_sem]) rfl ⟨_, _, rfl, ?_, b_alloc (Below.refl _ _)⟩
    rw [wrapi]
    exact mul_num X.out E.out b0 b1 0 0 (by omega) (by omega) _ (by omega)

/-- q, or the next one, as side tells. -/
def near (q side : Int) : Int := if 0 < side ∨ (side = 0 ∧ q % 2 = 1) then q + 1 else q

theorem odd_num {h l q : Int} (x : IsW h l q) : bits .and .u64 l 1 = q % 2 := by
  obtain ⟨a, b, c, d, e⟩ := x
  obtain ⟨l, rfl⟩ := Int.eq_ofNat_of_zero_le c
  have := bits_and_u64_nat l 1 (by omega) (by decide)
  rw [Nat.and_one_is_mod] at this
  have h2 : bits .and .u64 (l : Int) 1 = ((l % 2 : Nat) : Int) := this
  rw [h2]; omega


theorem near_up {q side : Int} (h : 0 < side ∨ (side = 0 ∧ q % 2 = 1)) : near q side = q + 1 := if_pos h
theorem near_stay {q side : Int} (h : ¬ (0 < side ∨ (side = 0 ∧ q % 2 = 1))) : near q side = q := if_neg h

set_option maxHeartbeats 1000000 in
set_option maxRecDepth 10000 in
theorem near_stays (h l q side : Int) (x : IsW h l q) (c : ¬ (0 < side ∨ (side = 0 ∧ q % 2 = 1))) (w : World) :
    Calls Tryd.prog 83 #[wv h l, .int .i64 side] w (RetW (near q side) w) := by
  rw [near_stay c]
  by_cases s0 : side = 0
  · subst s0
    have o1 : (bits .and .u64 l 1 == 1) = false := by rw [odd_num x, beq_eq_false_iff_ne]; omega
    clear c
    go_enter Tryd.func83, Tryd.ntmps83
    go_wp2
    refine bodyPost_ret (v := wv h l) (by simp [results, Tryd.results83, go_sem]) rfl ⟨_, _, rfl, x, b_alloc (b_alloc (Below.refl _ _))⟩
  · have s1 : (side == 0) = false := by rw [beq_eq_false_iff_ne]; exact s0
    have s2 : ¬ 0 < side := by omega
    clear c s0
    generalize ho : (bits .and .u64 l 1 == 1) = o
    have O := Lib.hid ho; clear ho
    go_enter Tryd.func83, Tryd.ntmps83
    go_wp2
    refine bodyPost_ret (v := wv h l) (by simp [results, Tryd.results83, go_sem]) rfl ⟨_, _, rfl, x, b_alloc (b_alloc (Below.refl _ _))⟩

set_option maxHeartbeats 1000000 in
set_option maxRecDepth 10000 in
theorem near_ups (h l q side : Int) (x : IsW h l q) (c : 0 < side ∨ (side = 0 ∧ q % 2 = 1)) (f : Fits (q + 1)) (w : World) :
    Calls Tryd.prog 83 #[wv h l, .int .i64 side] w (RetW (near q side) w) := by
  rw [near_up c]
  have E := Lib.hid (w128_of f)
  have c' : (0 < side) ∨ (side = 0 ∧ (bits .and .u64 l 1 == 1) = true) := by rw [odd_num x]; simpa using c
  clear c f
  rcases c' with c1 | ⟨rfl, c1⟩
  all_goals
    go_enter Tryd.func83, Tryd.ntmps83
    go_wp2
    have k : WC ((w.alloc (Obj.cells #[.int .i64 h, .int .u64 l] 78)).alloc (Obj.cells #[.int .i64 0, .int .u64 0] 78)) w.heap.size h l := by simp [WC, go_sem, World.cell?_alloc_past]
    have r1 : WC ((w.alloc (Obj.cells #[.int .i64 h, .int .u64 l] 78)).alloc (Obj.cells #[.int .i64 0, .int .u64 0] 78)) (w.heap.size + 1) 0 0 := by simp [WC, go_sem]
    have f1 : WF ((w.alloc (Obj.cells #[.int .i64 h, .int .u64 l] 78)).alloc (Obj.cells #[.int .i64 0, .int .u64 0] 78)) (w.heap.size + 1) := by simp [WF, go_sem]
    go_region_held3 (fun w' => Below w.heap.size w w' ∧ WC w' w.heap.size h l) (first | assumption | exact s1_keep (by assumption) (by assumption) | exact s1_set (by assumption) (by omega) (by omega) | exact s1_keep ⟨b_alloc (b_alloc (Below.refl _ _)), k⟩ (b_drew (Below.refl _ _)))
      (first
        | (go_at_call 85; refine (of_any 1 (by decide) (by decide) _).mono ?_; rintro e w2 ⟨oh, ol, rfl, ho, hb2⟩; have r2 := wc_keep hb2 r1; have f2 := wf_keep hb2 r1 f1)
        | (go_at_call 77; refine (plus_any _ _ _ _ _ _ x ho _).mono ?_; rintro e w3 ⟨rh, rl, rfl, hr, hb3⟩; have r3 := wc_keep hb3 r2; have f3 := wf_keep hb3 r2 f2))
    rename_i hS
    go_wp2
    refine bodyPost_ret (v := wv rh rl) (by simp [results, Tryd.results83, go_sem, r3]) rfl ⟨_, _, rfl, by rw [E.out] at hr; exact hr, hS.1⟩

end Go.Proofs.YtplhienacfiiaaaDoor
