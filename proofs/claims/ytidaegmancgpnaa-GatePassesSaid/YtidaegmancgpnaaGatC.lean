/- GatePasses, GateWider: what the law's call answers: true, for every three integers. -/
import Derived.Test.YtidaegmancgpnaaGatB
namespace Go.Proofs.Ytidaegmancgpnaa
open Go.RowKit Go.Shelf

set_option maxHeartbeats 2000000 in
set_option maxRecDepth 10000 in
theorem gatePasses_go (y s g n e : Int) (r : Bool)
    (c1 : ∀ w, Calls Try.prog 5 #[.int .i64 y, .int .i64 s] w (RetV (.tuple #[.int .i64 n, .int .i64 e]) w))
    (c2 : ∀ w, Calls Try.prog 6 #[.int .i64 y, .int .i64 s] w (RetV (.tuple #[.int .i64 n, .int .i64 e]) w))
    (c3 : ∀ w, Calls Try.prog 8 #[.int .i64 y, .int .i64 s, .int .i64 g] w (RetV (.bool r) w))
    (c4 : ∀ w, Calls Try.prog 9 #[.int .i64 y, .int .i64 s, .int .i64 g] w (RetV (.bool r) w)) (w : World) :
    Calls Try.prog 3 #[.int .i64 y, .int .i64 s, .int .i64 g] w (RetV (.bool true) w) := by
  go_enter Try.func3, Try.ntmps3
  go_wp2_with fail
  refine (c1 _).mono ?_
  rintro e w1 ⟨rfl, hb9⟩
  have B0 := hb9
  clear hb9
  go_wp2_with fail
  refine (c2 _).mono ?_
  rintro e w2 ⟨rfl, hb9⟩
  replace B0 := b_trans B0 hb9
  clear hb9
  go_wp2_with fail
  refine (fixed_gate _).mono ?_
  rintro e w3 ⟨rfl, hb9⟩
  replace B0 := b_trans B0 hb9
  clear hb9
  go_wp2_with fail
  refine (c3 _).mono ?_
  rintro e w4 ⟨rfl, hb9⟩
  replace B0 := b_trans B0 hb9
  clear hb9
  go_wp2_with fail
  refine (c4 _).mono ?_
  rintro e w5 ⟨rfl, hb9⟩
  replace B0 := b_trans B0 hb9
  clear hb9
  clear c1 c2 c3 c4
  go_wp2
  go_ret
  exact ⟨by simp, B0⟩

theorem gatePasses_any (y s g : Int) (hy : J64 y) (hs : J64 s) (w : World) :
    Calls Try.prog 3 #[.int .i64 y, .int .i64 s, .int .i64 g] w (RetV (.bool true) w) :=
  gatePasses_go y s g _ _ _ (least_any y s hy hs) (rleast_any y s hy hs) (pass_any y s g hy hs) (rpass_any y s g hy hs) w

set_option maxHeartbeats 2000000 in
set_option maxRecDepth 10000 in
theorem gateWider_no (y s g n e : Int) (h : e ≠ 0 ∨ (e = 0 ∧ g < n) ∨ (e = 0 ∧ n ≤ g ∧ 1000 < g))
    (c1 : ∀ w, Calls Try.prog 8 #[.int .i64 y, .int .i64 s, .int .i64 g] w (RetV (.bool false) w))
    (c2 : ∀ w, Calls Try.prog 5 #[.int .i64 y, .int .i64 s] w (RetV (.tuple #[.int .i64 n, .int .i64 e]) w)) (w : World) :
    Calls Try.prog 4 #[.int .i64 y, .int .i64 s, .int .i64 g] w (RetV (.bool true) w) := by
  rcases h with e0 | ⟨rfl, l⟩ | ⟨rfl, l, k⟩
  · have e1 : (e == 0) = false := by simp [e0]
    go_enter Try.func4, Try.ntmps4
    go_wp2_with fail
    refine (c1 _).mono ?_
    rintro e w1 ⟨rfl, hb9⟩
    have B0 := hb9
    clear hb9
    go_wp2_with fail
    refine (c2 _).mono ?_
    rintro e w2 ⟨rfl, hb9⟩
    replace B0 := b_trans B0 hb9
    clear hb9
    go_wp2_with fail
    refine (fixed_gate _).mono ?_
    rintro e w3 ⟨rfl, hb9⟩
    replace B0 := b_trans B0 hb9
    clear hb9
    go_wp2
    go_ret
    exact ⟨by simp, B0⟩
  · go_enter Try.func4, Try.ntmps4
    go_wp2_with fail
    refine (c1 _).mono ?_
    rintro e w1 ⟨rfl, hb9⟩
    have B0 := hb9
    clear hb9
    go_wp2_with fail
    refine (c2 _).mono ?_
    rintro e w2 ⟨rfl, hb9⟩
    replace B0 := b_trans B0 hb9
    clear hb9
    go_wp2_with fail
    refine (fixed_gate _).mono ?_
    rintro e w3 ⟨rfl, hb9⟩
    replace B0 := b_trans B0 hb9
    clear hb9
    go_wp2
    go_ret
    exact ⟨by simp, B0⟩
  · have l2 : ¬ g < n := by omega
    go_enter Try.func4, Try.ntmps4
    go_wp2_with fail
    refine (c1 _).mono ?_
    rintro e w1 ⟨rfl, hb9⟩
    have B0 := hb9
    clear hb9
    go_wp2_with fail
    refine (c2 _).mono ?_
    rintro e w2 ⟨rfl, hb9⟩
    replace B0 := b_trans B0 hb9
    clear hb9
    go_wp2_with fail
    refine (fixed_gate _).mono ?_
    rintro e w3 ⟨rfl, hb9⟩
    replace B0 := b_trans B0 hb9
    clear hb9
    go_wp2
    go_ret
    exact ⟨by simp, B0⟩

set_option maxHeartbeats 4000000 in
set_option maxRecDepth 10000 in
theorem gateWider_yes00 (y s g ny h0 h : Int)
    (c1 : ∀ w, Calls Try.prog 8 #[.int .i64 y, .int .i64 s, .int .i64 g] w (RetV (.bool true) w))
    (hn : IntKind.i64.wrap (-y) = ny)
    (c2 : ∀ w, Calls Try.prog 8 #[.int .i64 ny, .int .i64 s, .int .i64 g] w (RetV (.bool true) w))
    (hh : y.tdiv 2 = h0) (hw : wrap64 h0 = h)
    (c3 : ∀ w, Calls Try.prog 8 #[.int .i64 h, .int .i64 s, .int .i64 g] w (RetV (.bool true) w))
    (c4 : ∀ w, Calls Try.prog 8 #[.int .i64 0, .int .i64 s, .int .i64 g] w (RetV (.bool true) w))
    (g0 : g = 1000)
    (s0 : s = 288230376151711744)
    (c7 : ∀ w, Calls Try.prog 8 #[.int .i64 y, .int .i64 s, .int .i64 1000] w (RetV (.bool true) w)) (w : World) :
    Calls Try.prog 4 #[.int .i64 y, .int .i64 s, .int .i64 g] w (RetV (.bool true) w) := by
  subst g0
  subst s0
  go_enter Try.func4, Try.ntmps4
  go_wp2_with fail
  refine (c1 _).mono ?_
  rintro e w1 ⟨rfl, hb9⟩
  have B0 := hb9
  clear hb9
  go_wp2_with fail
  refine (fixed_gate _).mono ?_
  rintro e w2 ⟨rfl, hb9⟩
  replace B0 := b_trans B0 hb9
  clear hb9
  go_wp2_with fail
  refine (c2 _).mono ?_
  rintro e w3 ⟨rfl, hb9⟩
  replace B0 := b_trans B0 hb9
  clear hb9
  go_wp2_with fail
  refine (c3 _).mono ?_
  rintro e w4 ⟨rfl, hb9⟩
  replace B0 := b_trans B0 hb9
  clear hb9
  go_wp2_with fail
  refine (c4 _).mono ?_
  rintro e w5 ⟨rfl, hb9⟩
  replace B0 := b_trans B0 hb9
  clear hb9
  go_wp2_with fail
  refine (c7 _).mono ?_
  rintro e w8 ⟨rfl, hb9⟩
  replace B0 := b_trans B0 hb9
  clear hb9
  go_wp2
  go_ret
  exact ⟨by simp, B0⟩

set_option maxHeartbeats 4000000 in
set_option maxRecDepth 10000 in
theorem gateWider_yes01 (y s g ny h0 h s' : Int)
    (c1 : ∀ w, Calls Try.prog 8 #[.int .i64 y, .int .i64 s, .int .i64 g] w (RetV (.bool true) w))
    (hn : IntKind.i64.wrap (-y) = ny)
    (c2 : ∀ w, Calls Try.prog 8 #[.int .i64 ny, .int .i64 s, .int .i64 g] w (RetV (.bool true) w))
    (hh : y.tdiv 2 = h0) (hw : wrap64 h0 = h)
    (c3 : ∀ w, Calls Try.prog 8 #[.int .i64 h, .int .i64 s, .int .i64 g] w (RetV (.bool true) w))
    (c4 : ∀ w, Calls Try.prog 8 #[.int .i64 0, .int .i64 s, .int .i64 g] w (RetV (.bool true) w))
    (s0 : ¬ s = 288230376151711744) (hs : IntKind.i64.wrap (s + 1) = s')
    (c6 : ∀ w, Calls Try.prog 8 #[.int .i64 y, .int .i64 s', .int .i64 g] w (RetV (.bool true) w))
    (g0 : g = 1000)
    (c7 : ∀ w, Calls Try.prog 8 #[.int .i64 y, .int .i64 s, .int .i64 1000] w (RetV (.bool true) w)) (w : World) :
    Calls Try.prog 4 #[.int .i64 y, .int .i64 s, .int .i64 g] w (RetV (.bool true) w) := by
  subst g0
  go_enter Try.func4, Try.ntmps4
  go_wp2_with fail
  refine (c1 _).mono ?_
  rintro e w1 ⟨rfl, hb9⟩
  have B0 := hb9
  clear hb9
  go_wp2_with fail
  refine (fixed_gate _).mono ?_
  rintro e w2 ⟨rfl, hb9⟩
  replace B0 := b_trans B0 hb9
  clear hb9
  go_wp2_with fail
  refine (c2 _).mono ?_
  rintro e w3 ⟨rfl, hb9⟩
  replace B0 := b_trans B0 hb9
  clear hb9
  go_wp2_with fail
  refine (c3 _).mono ?_
  rintro e w4 ⟨rfl, hb9⟩
  replace B0 := b_trans B0 hb9
  clear hb9
  go_wp2_with fail
  refine (c4 _).mono ?_
  rintro e w5 ⟨rfl, hb9⟩
  replace B0 := b_trans B0 hb9
  clear hb9
  go_wp2_with fail
  refine (c6 _).mono ?_
  rintro e w7 ⟨rfl, hb9⟩
  replace B0 := b_trans B0 hb9
  clear hb9
  go_wp2_with fail
  refine (c7 _).mono ?_
  rintro e w8 ⟨rfl, hb9⟩
  replace B0 := b_trans B0 hb9
  clear hb9
  go_wp2
  go_ret
  exact ⟨by simp, B0⟩

set_option maxHeartbeats 4000000 in
set_option maxRecDepth 10000 in
theorem gateWider_yes10 (y s g ny h0 h g' : Int)
    (c1 : ∀ w, Calls Try.prog 8 #[.int .i64 y, .int .i64 s, .int .i64 g] w (RetV (.bool true) w))
    (hn : IntKind.i64.wrap (-y) = ny)
    (c2 : ∀ w, Calls Try.prog 8 #[.int .i64 ny, .int .i64 s, .int .i64 g] w (RetV (.bool true) w))
    (hh : y.tdiv 2 = h0) (hw : wrap64 h0 = h)
    (c3 : ∀ w, Calls Try.prog 8 #[.int .i64 h, .int .i64 s, .int .i64 g] w (RetV (.bool true) w))
    (c4 : ∀ w, Calls Try.prog 8 #[.int .i64 0, .int .i64 s, .int .i64 g] w (RetV (.bool true) w))
    (g0 : ¬ g = 1000) (hg : IntKind.i64.wrap (g + 1) = g')
    (c5 : ∀ w, Calls Try.prog 8 #[.int .i64 y, .int .i64 s, .int .i64 g'] w (RetV (.bool true) w))
    (s0 : s = 288230376151711744)
    (c7 : ∀ w, Calls Try.prog 8 #[.int .i64 y, .int .i64 s, .int .i64 1000] w (RetV (.bool true) w)) (w : World) :
    Calls Try.prog 4 #[.int .i64 y, .int .i64 s, .int .i64 g] w (RetV (.bool true) w) := by
  subst s0
  go_enter Try.func4, Try.ntmps4
  go_wp2_with fail
  refine (c1 _).mono ?_
  rintro e w1 ⟨rfl, hb9⟩
  have B0 := hb9
  clear hb9
  go_wp2_with fail
  refine (fixed_gate _).mono ?_
  rintro e w2 ⟨rfl, hb9⟩
  replace B0 := b_trans B0 hb9
  clear hb9
  go_wp2_with fail
  refine (c2 _).mono ?_
  rintro e w3 ⟨rfl, hb9⟩
  replace B0 := b_trans B0 hb9
  clear hb9
  go_wp2_with fail
  refine (c3 _).mono ?_
  rintro e w4 ⟨rfl, hb9⟩
  replace B0 := b_trans B0 hb9
  clear hb9
  go_wp2_with fail
  refine (c4 _).mono ?_
  rintro e w5 ⟨rfl, hb9⟩
  replace B0 := b_trans B0 hb9
  clear hb9
  go_wp2_with fail
  refine (c5 _).mono ?_
  rintro e w6 ⟨rfl, hb9⟩
  replace B0 := b_trans B0 hb9
  clear hb9
  go_wp2_with fail
  refine (c7 _).mono ?_
  rintro e w8 ⟨rfl, hb9⟩
  replace B0 := b_trans B0 hb9
  clear hb9
  go_wp2
  go_ret
  exact ⟨by simp, B0⟩

set_option maxHeartbeats 4000000 in
set_option maxRecDepth 10000 in
theorem gateWider_yes11 (y s g ny h0 h g' s' : Int)
    (c1 : ∀ w, Calls Try.prog 8 #[.int .i64 y, .int .i64 s, .int .i64 g] w (RetV (.bool true) w))
    (hn : IntKind.i64.wrap (-y) = ny)
    (c2 : ∀ w, Calls Try.prog 8 #[.int .i64 ny, .int .i64 s, .int .i64 g] w (RetV (.bool true) w))
    (hh : y.tdiv 2 = h0) (hw : wrap64 h0 = h)
    (c3 : ∀ w, Calls Try.prog 8 #[.int .i64 h, .int .i64 s, .int .i64 g] w (RetV (.bool true) w))
    (c4 : ∀ w, Calls Try.prog 8 #[.int .i64 0, .int .i64 s, .int .i64 g] w (RetV (.bool true) w))
    (g0 : ¬ g = 1000) (hg : IntKind.i64.wrap (g + 1) = g')
    (c5 : ∀ w, Calls Try.prog 8 #[.int .i64 y, .int .i64 s, .int .i64 g'] w (RetV (.bool true) w))
    (s0 : ¬ s = 288230376151711744) (hs : IntKind.i64.wrap (s + 1) = s')
    (c6 : ∀ w, Calls Try.prog 8 #[.int .i64 y, .int .i64 s', .int .i64 g] w (RetV (.bool true) w))
    (c7 : ∀ w, Calls Try.prog 8 #[.int .i64 y, .int .i64 s, .int .i64 1000] w (RetV (.bool true) w)) (w : World) :
    Calls Try.prog 4 #[.int .i64 y, .int .i64 s, .int .i64 g] w (RetV (.bool true) w) := by
  go_enter Try.func4, Try.ntmps4
  go_wp2_with fail
  refine (c1 _).mono ?_
  rintro e w1 ⟨rfl, hb9⟩
  have B0 := hb9
  clear hb9
  go_wp2_with fail
  refine (fixed_gate _).mono ?_
  rintro e w2 ⟨rfl, hb9⟩
  replace B0 := b_trans B0 hb9
  clear hb9
  go_wp2_with fail
  refine (c2 _).mono ?_
  rintro e w3 ⟨rfl, hb9⟩
  replace B0 := b_trans B0 hb9
  clear hb9
  go_wp2_with fail
  refine (c3 _).mono ?_
  rintro e w4 ⟨rfl, hb9⟩
  replace B0 := b_trans B0 hb9
  clear hb9
  go_wp2_with fail
  refine (c4 _).mono ?_
  rintro e w5 ⟨rfl, hb9⟩
  replace B0 := b_trans B0 hb9
  clear hb9
  go_wp2_with fail
  refine (c5 _).mono ?_
  rintro e w6 ⟨rfl, hb9⟩
  replace B0 := b_trans B0 hb9
  clear hb9
  go_wp2_with fail
  refine (c6 _).mono ?_
  rintro e w7 ⟨rfl, hb9⟩
  replace B0 := b_trans B0 hb9
  clear hb9
  go_wp2_with fail
  refine (c7 _).mono ?_
  rintro e w8 ⟨rfl, hb9⟩
  replace B0 := b_trans B0 hb9
  clear hb9
  go_wp2
  go_ret
  exact ⟨by simp, B0⟩

theorem tdiv_sq (y : Int) : y.tdiv 2 * y.tdiv 2 ≤ y * y ∧ (FitP y → FitP (y.tdiv 2)) := by
  obtain ⟨n, rfl | rfl⟩ := y.eq_nat_or_neg
  · have e : (n : Int).tdiv 2 = (n : Int) / 2 := Int.tdiv_eq_ediv_of_nonneg (by omega)
    rw [e]
    exact ⟨Int.mul_le_mul (by omega) (by omega) (by omega) (by omega), fun h => ⟨by omega, by omega⟩⟩
  · have e : (-(n : Int)).tdiv 2 = -((n : Int) / 2) := by rw [Int.neg_tdiv, Int.tdiv_eq_ediv_of_nonneg (by omega)]
    rw [e, Int.neg_mul_neg, Int.neg_mul_neg]
    exact ⟨Int.mul_le_mul (by omega) (by omega) (by omega) (by omega), fun h => ⟨by omega, by omega⟩⟩
theorem wrap_jj {x : Int} (h : J64 x) : wrap64 x = x := by unfold wrap64; omega
theorem wrap_j {x : Int} (h : J64 x) : IntKind.i64.wrap x = x := by rw [IntKind.wrap_i64]; omega
theorem gateWider_any (y s g : Int) (hy : J64 y) (hs : J64 s) (hg : J64 g) (w : World) :
    Calls Try.prog 4 #[.int .i64 y, .int .i64 s, .int .i64 g] w (RetV (.bool true) w) := by
  have c1 := pass_any y s g hy hs
  by_cases p : PassP y s g
  · rw [pas_yes p] at c1
    obtain ⟨⟨fy, fs, s1⟩, g0, g1, q⟩ := p
    obtain ⟨t1, t2⟩ := tdiv_sq y
    have t3 := t2 fy
    have wN : IntKind.i64.wrap (-y) = -y := wrap_j ⟨by omega, by omega⟩
    have wH : wrap64 (y.tdiv 2) = y.tdiv 2 := wrap_jj (x := y.tdiv 2) ⟨by omega, by omega⟩
    have wG : IntKind.i64.wrap (g + 1) = g + 1 := wrap_j ⟨by omega, by omega⟩
    have wS : IntKind.i64.wrap (s + 1) = s + 1 := wrap_j ⟨by omega, by omega⟩
    have yes : ∀ a b c, J64 a → J64 b → PassP a b c → ∀ w, Calls Try.prog 8 #[.int .i64 a, .int .i64 b, .int .i64 c] w (RetV (.bool true) w) := by
      intro a b c ha hb hp w
      have := pass_any a b c ha hb w
      rwa [pas_yes hp] at this
    have c2 := yes (-y) s g ⟨by omega, by omega⟩ hs ⟨⟨⟨by omega, by omega⟩, fs, s1⟩, g0, g1, by rw [Int.neg_mul_neg]; exact q⟩
    have c3 := yes (y.tdiv 2) s g ⟨by omega, by omega⟩ hs ⟨⟨t3, fs, s1⟩, g0, g1, Int.le_trans t1 q⟩
    have c4 := yes 0 s g (by decide) hs ⟨⟨by decide, fs, s1⟩, g0, g1, Int.le_trans (by simpa using sq_pos y) q⟩
    have more : ∀ k, g ≤ k → k ≤ 1000 → y * y ≤ k * s * 1099511627776 := fun k a _ => by
      have : g * s ≤ k * s := Int.mul_le_mul_of_nonneg_right a (by omega)
      omega
    have c7 := yes y s 1000 hy hs ⟨⟨fy, fs, s1⟩, by omega, by omega, more 1000 g1 (by omega)⟩
    have c5 : g ≠ 1000 → _ := fun n => yes y s (g + 1) hy hs ⟨⟨fy, fs, s1⟩, by omega, by omega, more (g + 1) (by omega) (by omega)⟩
    have c6 : s ≠ 288230376151711744 → _ := fun n => yes y (s + 1) g hy ⟨by omega, by omega⟩ ⟨⟨fy, ⟨by omega, by omega⟩, by omega⟩, g0, g1, by
      have : g * s ≤ g * (s + 1) := Int.mul_le_mul_of_nonneg_left (by omega) g0
      omega⟩
    by_cases a : g = 1000 <;> by_cases b : s = 288230376151711744
    · exact gateWider_yes00 y s g _ _ _ c1 wN c2 rfl wH c3 c4 a b c7 w
    · exact gateWider_yes01 y s g _ _ _ _ c1 wN c2 rfl wH c3 c4 b wS (c6 b) a c7 w
    · exact gateWider_yes10 y s g _ _ _ _ c1 wN c2 rfl wH c3 c4 a wG (c5 a) b c7 w
    · exact gateWider_yes11 y s g _ _ _ _ _ c1 wN c2 rfl wH c3 c4 a wG (c5 a) b wS (c6 b) c7 w
  · rw [pas_no p] at c1
    refine gateWider_no y s g _ _ ?_ c1 (least_any y s hy hs) w
    by_cases d : MayP y s
    · by_cases c : cg y s ≤ 1000
      · rw [(ls_ok d c).1, (ls_ok d c).2]
        by_cases k : g < cg y s
        · exact Or.inr (Or.inl ⟨rfl, k⟩)
        · refine Or.inr (Or.inr ⟨rfl, by omega, ?_⟩)
          by_cases l : 1000 < g
          · exact l
          · have p0 := cg_pos (y := y) d.2.2
            exact absurd ⟨d, by omega, by omega, (cg_le d.2.2 g).1 (by omega)⟩ p
      · rw [(ls_no d c).2]
        exact Or.inl (by decide)
    · rw [(ls_bad d).2]
      exact Or.inl (by decide)

end Go.Proofs.Ytidaegmancgpnaa
