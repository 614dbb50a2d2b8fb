/- Layer 18: the program's altitudes. -/
import Derived.Test.YthnaeoagooahbaaDoorGroA
import Derived.Test.YthnaeoagooahbaaDoorRegion
namespace Go.Proofs.YthnaeoagooahbaaDoor
open Go.RowKit Go.Shelf Go.Joins

set_option maxHeartbeats 4000000 in
set_option maxRecDepth 10000 in
/-- Which is the last place whose count isn't below a good one. -/
theorem under_any (p : Int) (g : gd p = true) (w : World) (hT : TB w) : Calls Tryd.prog 23 #[.int .i64 p] w (RetV (.int .i64 (un p)) w) := by
  have r := gd_range g
  go_enter Tryd.func23, Tryd.ntmps23
  go_wp2
  go_loopw [3] (fun iv wr => ∃ k : Nat, k ≤ 45 ∧ iv = .int .i64 k ∧ p ≤ tb k ∧ Below w.heap.size w wr) (fun iv _ => 46 - (intOf iv).toNat)
  case atStart => exact ⟨0, Nat.zero_le _, rfl, r.2, Below.refl _ _⟩
  case round =>
    obtain ⟨k, hk, rfl, hp, E⟩ := hrel
    have c0 := tb_keep E hT (k + 1) (by omega)
    have k0 : (0 : Int) ≤ (k : Int) + 1 := by omega
    have k1 : (k : Int) + 1 < 47 := by omega
    have ws : IntKind.i64.wrap ((k : Int) + 1) = (k : Int) + 1 := by rw [IntKind.wrap_i64]; omega
    have hn : ((k : Int) + 1).toNat = k + 1 := by omega
    by_cases c : p ≤ tb (k + 1)
    · have c2 := Lib.hid c
      have hx : k + 1 ≤ 45 := by
        rcases Nat.lt_or_ge k 45 with h | h
        · omega
        · have : k = 45 := by omega
          subst this
          have : tb (45 + 1) = 86822 := rfl
          omega
      obtain ⟨t, ht⟩ : ∃ t, tb (k + 1) = t := ⟨_, rfl⟩
      rw [ht] at c c0
      clear hT ht
      go_wp2
      refine ⟨⟨k + 1, hx, rfl, c2.out, E⟩, ?_⟩
      simp only [intOf]
      omega
    · have hu := Lib.hid (un_only g hk hp (by omega))
      generalize tb (k + 1) = t at *
      clear hT
      go_wp2
      exact bodyPost_ret (v := .int .i64 k) (by simp [results, Tryd.results23, go_sem]) rfl ⟨by rw [hu.out], E⟩

set_option maxHeartbeats 4000000 in
set_option maxRecDepth 10000 in
theorem height_any (i : Nat) (hi : i ≤ 46) (w : World) : Calls Tryd.prog 24 #[.int .i64 i] w (RetV (.int .i64 (ht i)) w) := by
  have w1 : IntKind.i64.wrap (281474976710656 * (i : Int)) = 281474976710656 * (i : Int) := by rw [IntKind.wrap_i64]; omega
  have w2 : IntKind.i64.wrap (-562949953421312 + 281474976710656 * (i : Int)) = ht i := by unfold ht; rw [IntKind.wrap_i64]; omega
  go_enter Tryd.func24, Tryd.ntmps24
  go_wp2
  go_ret
  exact ⟨rfl, Below.refl _ _⟩

set_option maxHeartbeats 4000000 in
set_option maxRecDepth 10000 in
theorem altitude_bad (p : Int) (g : gd p = false) (w : World) : Calls Tryd.prog 16 #[.int .i64 p] w (RetV (.tuple #[.int .i64 0, .int .i64 2]) w) := by
  have cg := good_any p
  rw [g] at cg
  clear g
  go_enter Tryd.func16, Tryd.ntmps16
  go_wp2_with fail
  refine (cg _).mono ?_
  rintro e y0 ⟨rfl, E⟩
  clear cg
  go_wp2
  go_ret2
  exact ⟨rfl, E⟩
set_option maxHeartbeats 4000000 in
set_option maxRecDepth 10000 in
theorem altitude_ok (p : Int) (g : gd p = true) (w : World) (hT : TB w) : Calls Tryd.prog 16 #[.int .i64 p] w (RetV (.tuple #[.int .i64 (al p), .int .i64 0]) w) := by
  have cg := good_any p
  rw [g] at cg
  have gr := gd_range g
  have cu := under_any p g
  obtain ⟨u0, u1, u2⟩ := un_spec g
  obtain ⟨d0, d1, d2⟩ := dn_wd g
  have pr := pt_range g
  have r0 := tb_range (i := un p) (by omega)
  have r1 := tb_range (i := un p + 1) (by omega)
  have ch := height_any (un p) (by omega)
  have eal := Lib.hid (show al p = ht (un p) + pt p from rfl)
  have hh : ht (un p) = -562949953421312 + 281474976710656 * (un p : Int) := rfl
  have wd1 : IntKind.i64.wrap (tb (un p) - p) = dn p := by unfold dn; rw [IntKind.wrap_i64]; omega
  have wd2 : IntKind.i64.wrap (tb (un p) - tb (un p + 1)) = wd p := by unfold wd; rw [IntKind.wrap_i64]; omega
  have wd3 : IntKind.i64.wrap (281474976710656 * dn p) = 281474976710656 * dn p := by rw [IntKind.wrap_i64]; omega
  have wd4 : (281474976710656 * dn p).tdiv (wd p) = pt p := by unfold pt; rw [Int.tdiv_eq_ediv_of_nonneg (by omega)]
  have wd5 : IntKind.i64.wrap (pt p) = pt p := by rw [IntKind.wrap_i64]; omega
  have wd6 : IntKind.i64.wrap (ht (un p) + pt p) = ht (un p) + pt p := by rw [IntKind.wrap_i64]; omega
  have wn : ¬ wd p = 0 := by omega
  have k0 : (0 : Int) ≤ (un p : Int) + 1 := by omega
  have k1 : (un p : Int) + 1 < 47 := by omega
  have k2 : (un p : Int) < 47 := by omega
  have ws : IntKind.i64.wrap ((un p : Int) + 1) = (un p : Int) + 1 := by rw [IntKind.wrap_i64]; omega
  have hn : ((un p : Int) + 1).toNat = un p + 1 := by omega
  have T0 := fun (w : World) (h : TB w) => h (un p) (by omega)
  have T1 := fun (w : World) (h : TB w) => h (un p + 1) (by omega)
  clear g u0 u1 u2 d0 d1 d2 pr r0 r1 hh gr
  generalize ht (un p) = H at *
  generalize pt p = f at *
  generalize dn p = d at *
  generalize wd p = v at *
  generalize tb (un p + 1) = t1 at *
  generalize tb (un p) = t0 at *
  generalize un p = i at *
  go_enter Tryd.func16, Tryd.ntmps16
  go_wp2_with fail
  refine (cg _).mono ?_
  rintro e y0 ⟨rfl, E⟩
  replace hT := tb_keep E hT
  clear cg
  go_wp2_with fail
  refine (cu _ hT).mono ?_
  rintro e y1 ⟨rfl, hb⟩
  replace hT := tb_keep hb hT
  replace E := b_trans E hb
  clear cu hb
  have q0 := cell_regrown (T0 _ hT)
  have q1 := cell_regrown (T1 _ hT)
  clear T0 T1 hT
  go_wp2
  refine wp_region_quiet_below (by kernel_rfl) (by kernel_rfl) ?_
  repeat (with_reducible refine wpQuiet_step (fun KQ hKQ => ?_); go_simp; (with_reducible refine hKQ _ ?_; clear hKQ KQ))
  refine wpQuiet_nil ?_
  intro _ hw'
  obtain ⟨⟨dq, osq⟩, hw''⟩ := hw'
  subst hw''
  replace E := b_trans E (below_regrown _ dq osq)
  clear q0 q1
  generalize Sort.grow (redrawn y1 dq) osq = y2 at *
  have c0 := retV_regrown (w := y2) ch
  clear ch
  go_wp2
  refine wp_region_quiet_below (by kernel_rfl) (by kernel_rfl) ?_
  repeat (with_reducible refine wpQuiet_step (fun KQ hKQ => ?_); go_simp; first | (with_reducible refine hKQ _ ?_; clear hKQ KQ) | (apply Exists.intro; with_reducible refine ⟨fun _ => ?_, hKQ _ ?_⟩; (with_reducible exact c0 _ _); clear hKQ KQ))
  refine wpQuiet_nil ?_
  intro _ hw'
  obtain ⟨⟨dq, osq⟩, hw''⟩ := hw'
  subst hw''
  replace E := b_trans E (below_regrown y2 dq osq)
  clear c0
  generalize Sort.grow (redrawn y2 dq) osq = y3 at *
  go_wp2
  go_ret2
  refine ⟨?_, E⟩
  rw [eal.out]
  rfl
theorem altitude_any (p : Int) (w : World) (hT : TB w) : Calls Tryd.prog 16 #[.int .i64 p] w (RetV (.tuple #[.int .i64 (az p), .int .i64 (ae p)]) w) := by
  cases g : gd p
  · rw [az_bad g, ae_bad g]
    exact altitude_bad p g w
  · rw [az_ok g, ae_ok g]
    exact altitude_ok p g w hT
end Go.Proofs.YthnaeoagooahbaaDoor
