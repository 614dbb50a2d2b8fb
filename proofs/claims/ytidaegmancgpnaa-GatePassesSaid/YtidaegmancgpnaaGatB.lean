/- The document's gate: Pass, Least: what each call answers, for every argument. -/
import Derived.Test.YtidaegmancgpnaaGatA
import Derived.Test.YtidaegmancgpnaaBigG
namespace Go.Proofs.Ytidaegmancgpnaa
open Go.RowKit Go.Shelf

set_option maxHeartbeats 1000000 in
set_option maxRecDepth 10000 in
theorem right_any (y s : Int) (hy : J64 y) (hs : J64 s) (w : World) :
    Calls Try.prog 13 #[.int .i64 y, .int .i64 s] w fun e w' => e = .returned (.bool (mayg y s)) ∧ w = w' := by
  have cy := fits_ref y hy.1 hy.2
  have cs := fits_ref s hs.1 hs.2
  clear hy hs
  by_cases d : FitP y
  · have ed := Lib.hid (fitb_yes d)
    by_cases f : FitP s
    · have ef := Lib.hid (fitb_yes f)
      by_cases o : 0 < s
      · have R := Lib.hid (mayg_yes ⟨d, f, by omega⟩)
        clear d f
        go_enter Try.func13, Try.ntmps13
        go_wp2_with fail
        refine (cy _).mono ?_
        rintro e w9 ⟨rfl, rfl⟩
        rw [ed.out]
        go_wp2_with fail
        refine (cs _).mono ?_
        rintro e w9 ⟨rfl, rfl⟩
        rw [ef.out]
        go_wp2
        go_ret
        exact ⟨by rw [R.out]; rfl, rfl⟩
      · have R := Lib.hid (mayg_no (y := y) (s := s) (fun h => o (by have := h.2.2; omega)))
        clear d f
        go_enter Try.func13, Try.ntmps13
        go_wp2_with fail
        refine (cy _).mono ?_
        rintro e w9 ⟨rfl, rfl⟩
        rw [ed.out]
        go_wp2_with fail
        refine (cs _).mono ?_
        rintro e w9 ⟨rfl, rfl⟩
        rw [ef.out]
        go_wp2
        go_ret
        exact ⟨by rw [R.out]; show Ending.returned (.bool (decide (0 < s))) = _; rw [decide_eq_false (show ¬ 0 < s by omega)], rfl⟩
    · have ef := Lib.hid (fitb_no f)
      have R := Lib.hid (mayg_no (y := y) (s := s) (fun h => f h.2.1))
      clear d f
      go_enter Try.func13, Try.ntmps13
      go_wp2_with fail
      refine (cy _).mono ?_
      rintro e w9 ⟨rfl, rfl⟩
      rw [ed.out]
      go_wp2_with fail
      refine (cs _).mono ?_
      rintro e w9 ⟨rfl, rfl⟩
      rw [ef.out]
      go_wp2
      go_ret
      exact ⟨by rw [R.out]; rfl, rfl⟩
  · have ed := Lib.hid (fitb_no d)
    have R := Lib.hid (mayg_no (y := y) (s := s) (fun h => d h.1))
    clear d
    go_enter Try.func13, Try.ntmps13
    go_wp2_with fail
    refine (cy _).mono ?_
    rintro e w9 ⟨rfl, rfl⟩
    rw [ed.out]
    go_wp2
    go_ret
    exact ⟨by rw [R.out]; rfl, rfl⟩


theorem cg_hi {y s : Int} (s1 : 1 ≤ s) : cg y s ≤ y * y := by
  have q := sq_pos y
  refine (cg_le s1 _).2 ?_
  have : y * y * 1 ≤ y * y * s := Int.mul_le_mul_of_nonneg_left s1 q
  omega
theorem small_j {x : Int} (h : J64 x) : Small x := small_of (by omega) (by omega)
theorem power40 (w : World) : Calls Try.prog 16 #[.int .i64 40] w (RetB 1099511627776 w) := by
  have := power_any 40 (by decide) w
  rwa [show (2 : Int) ^ 40 = 1099511627776 by decide] at this

set_option maxHeartbeats 1000000 in
set_option maxRecDepth 10000 in
theorem rpass_bad (y s g : Int) (b : Bool) (h : b = true → g < 0 ∨ 1000 < g)
    (hm : ∀ w, Calls Try.prog 13 #[.int .i64 y, .int .i64 s] w fun e w' => e = .returned (.bool b) ∧ w = w') (w : World) :
    Calls Try.prog 9 #[.int .i64 y, .int .i64 s, .int .i64 g] w (RetV (.bool false) w) := by
  cases b
  · clear h
    go_enter Try.func9, Try.ntmps9
    go_wp2_with fail
    refine (hm _).mono ?_
    rintro e w1 ⟨rfl, rfl⟩
    go_wp2
    go_ret
    exact ⟨rfl, Below.refl _ _⟩
  · replace h := h rfl
    by_cases g0 : g < 0
    · clear h
      go_enter Try.func9, Try.ntmps9
      go_wp2_with fail
      refine (hm _).mono ?_
      rintro e w1 ⟨rfl, rfl⟩
      go_wp2
      go_ret
      exact ⟨rfl, Below.refl _ _⟩
    · have g1 : 1000 < g := by omega
      clear h
      go_enter Try.func9, Try.ntmps9
      go_wp2_with fail
      refine (hm _).mono ?_
      rintro e w1 ⟨rfl, rfl⟩
      go_wp2
      go_ret
      exact ⟨rfl, Below.refl _ _⟩

set_option maxHeartbeats 4000000 in
set_option maxRecDepth 10000 in
theorem rpass_go (y s g c : Int) (hy : J64 y) (hs : J64 s) (hg : J64 g) (g0 : ¬ g < 0) (g1' : ¬ 1000 < g) (hq : Hid (cmp3 (y * y) (g * s * 1099511627776) = c))
    (sy : Small y) (sq : Small (y * y)) (sp : Small (g * s)) (sr : Small (g * s * 1099511627776))
    (hm : ∀ w, Calls Try.prog 13 #[.int .i64 y, .int .i64 s] w fun e w' => e = .returned (.bool true) ∧ w = w') (w : World) :
    Calls Try.prog 9 #[.int .i64 y, .int .i64 s, .int .i64 g] w (RetV (.bool (decide (c ≤ 0))) w) := by
  have o1 := of_big y hy.1 hy.2
  go_enter Try.func9, Try.ntmps9
  go_wp2_with fail
  refine (hm _).mono ?_
  rintro e w0 ⟨rfl, rfl⟩
  clear hm
  go_wp2_with fail
  refine (of_big g hg.1 hg.2 _).mono ?_
  rintro e w1 ⟨v1, rfl, g1, hb9⟩
  obtain ⟨n1, a1, k1, c1, rfl⟩ := bg_form g1
  have B0 := hb9
  clear hb9 
  go_wp2_with fail
  refine (of_big s hs.1 hs.2 _).mono ?_
  rintro e w2 ⟨v2, rfl, g2, hb9⟩
  obtain ⟨n2, a2, k2, c2, rfl⟩ := bg_form g2
  replace g1 := bg_keep g1 hb9
  replace B0 := b_trans B0 hb9
  clear hb9 
  go_wp2_with fail
  refine (mul_big _ _ g s _ g1 g2 (small_j hg) (small_j hs)).mono ?_
  rintro e w3 ⟨v3, rfl, g3, hb9⟩
  obtain ⟨n3, a3, k3, c3, rfl⟩ := bg_form g3
  replace B0 := b_trans B0 hb9
  clear hb9 g1 g2
  go_wp2_with fail
  refine (power40 _).mono ?_
  rintro e w4 ⟨v4, rfl, g4, hb9⟩
  obtain ⟨n4, a4, k4, c4, rfl⟩ := bg_form g4
  replace g3 := bg_keep g3 hb9
  replace B0 := b_trans B0 hb9
  clear hb9 
  go_wp2_with fail
  refine (mul_big _ _ (g * s) 1099511627776 _ g3 g4 sp (small_of (by decide) (by decide))).mono ?_
  rintro e w6 ⟨v6, rfl, g6, hb9⟩
  obtain ⟨n6, a6, k6, c6, rfl⟩ := bg_form g6
  replace B0 := b_trans B0 hb9
  clear hb9 g3 g4
  have kg : BG (w6.alloc (Obj.cells #[.bool n6, .slice a6 k6 c6] 34)) (.agg #[.bool n6, .slice a6 k6 c6]) (g * s * 1099511627776) := bg_keep g6 (b_alloc (Below.refl _ _))
  have kc : BC (w6.alloc (Obj.cells #[.bool n6, .slice a6 k6 c6] 34)) w6.heap.size n6 (.slice a6 k6 c6) := by simp [BC, go_sem]
  replace B0 := b_alloc (o := (Obj.cells #[.bool n6, .slice a6 k6 c6] 34)) B0
  clear g6
  go_wp2
  refine region_each [27, 28, 29, 30, 31, 32, 33, 34] (fun i_ X_ U_ => match i_ with | 0 => X_ = .int .i64 y | 1 => BG U_ X_ (y) | 2 => X_ = .int .i64 y | 3 => BG U_ X_ (y) | 4 => BG U_ X_ (y * y) | 5 => X_ = .agg #[.bool n6, .slice a6 k6 c6] | 6 => X_ = .int .i64 c | 7 => X_ = .bool (decide (c ≤ 0)) | _ => True) (fun i_ => false) (by kernel_rfl) (by kernel_rfl) (by kernel_rfl) (by kernel_rfl) (by kernel_rfl) ?_ (fun i x w hi ha h => by cases ha) ?_ ?_
  · refine swp (upS (upS (upS (upS (upS (upS (upS (upS up0 ?_) ?_) ?_) ?_) ?_) ?_) ?_) ?_)
    · exact fun _ _ _ h _ => h
    · intro x w w' h hb; exact bg_keep h hb
    · exact fun _ _ _ h _ => h
    · intro x w w' h hb; exact bg_keep h hb
    · intro x w w' h hb; exact bg_keep h hb
    · exact fun _ _ _ h _ => h
    · exact fun _ _ _ h _ => h
    · exact fun _ _ _ h _ => h
  · refine upS (upS (upS (upS (upS (upS (upS (upS up0 ?_) ?_) ?_) ?_) ?_) ?_) ?_) ?_
    all_goals intro v f w' hb hv hB hd
    · have b0 : f.tmps[0]? = some (.int .i64 y) := (hb 0 (by decide)).trans rfl
      clear hb hv hd
      refine wpOp_step rfl fun K hK => ?_
      go_simp
      exact hK _ _ ⟨_, rfl, Below.refl _ _, rfl, fun h => absurd h (by decide)⟩
    · have d0 := got (hv 0 27 rfl) (hd 0 (by kernel_rfl))
      clear hb hv hd
      refine wpOp_call rfl Try.call15 (args1 (eval_tmp d0)) (o1 _) ?_
      rintro e w5 ⟨v5, rfl, h5, hb5⟩
      exact ⟨_, rfl, _, rfl, hb5, h5, fun h => absurd h (by decide)⟩
    · have b0 : f.tmps[0]? = some (.int .i64 y) := (hb 0 (by decide)).trans rfl
      clear hb hv hd
      refine wpOp_step rfl fun K hK => ?_
      go_simp
      exact hK _ _ ⟨_, rfl, Below.refl _ _, rfl, fun h => absurd h (by decide)⟩
    · have d2 := got (hv 2 29 rfl) (hd 2 (by kernel_rfl))
      clear hb hv hd
      refine wpOp_call rfl Try.call15 (args1 (eval_tmp d2)) (o1 _) ?_
      rintro e w5 ⟨v5, rfl, h5, hb5⟩
      exact ⟨_, rfl, _, rfl, hb5, h5, fun h => absurd h (by decide)⟩
    · have h1 : BG w' (v 1) (y) := hd 1 (by kernel_rfl)
      have d1 : f.tmps[28]? = some (v 1) := hv 1 28 rfl
      have h3 : BG w' (v 3) (y) := hd 3 (by kernel_rfl)
      have d3 : f.tmps[30]? = some (v 3) := hv 3 30 rfl
      clear hb hv hd
      refine wpOp_call rfl Try.call14 (args2 (eval_tmp d1) (eval_tmp d3)) (mul_big _ _ y y _ h1 h3 sy sy) ?_
      rintro e w5 ⟨v5, rfl, h5, hb5⟩
      exact ⟨_, rfl, _, rfl, hb5, h5, fun h => absurd h (by decide)⟩
    · have b7 : f.tmps[7]? = some (.pointer (some ⟨w6.heap.size, 0, none⟩)) := (hb 7 (by decide)).trans rfl
      clear hb hv hd
      have c_ := bc_keep hB kc
      refine wpOp_step rfl fun K hK => ?_
      go_simp
      exact hK _ _ ⟨_, rfl, Below.refl _ _, rfl, fun h => absurd h (by decide)⟩
    · have h4 : BG w' (v 4) (y * y) := hd 4 (by kernel_rfl)
      have d4 : f.tmps[31]? = some (v 4) := hv 4 31 rfl
      have d5 := got (hv 5 32 rfl) (hd 5 (by kernel_rfl))
      clear hb hv hd
      refine wpOp_call rfl Try.call19 (args2 (eval_tmp d4) (eval_tmp d5)) (cmp_big _ _ (y * y) (g * s * 1099511627776) _ h4 (bg_keep kg hB) sq sr) ?_
      rw [hq.out]
      rintro e5 w5 ⟨rfl, hb5⟩
      exact ⟨_, rfl, _, rfl, hb5, rfl, fun h => absurd h (by decide)⟩
    · have d6 := got (hv 6 33 rfl) (hd 6 (by kernel_rfl))
      clear hb hv hd
      refine wpOp_step rfl fun K hK => ?_
      go_simp
      exact hK _ _ ⟨_, rfl, Below.refl _ _, rfl, fun h => absurd h (by decide)⟩
  · intro v w' hB hF hD
    have F0 : v 0 = _ := hF 0 (by simp)
    have F1 : BG w' (v 1) (y) := hF 1 (by simp)
    have F2 : v 2 = _ := hF 2 (by simp)
    have F3 : BG w' (v 3) (y) := hF 3 (by simp)
    have F4 : BG w' (v 4) (y * y) := hF 4 (by simp)
    have F5 : v 5 = _ := hF 5 (by simp)
    have F6 : v 6 = _ := hF 6 (by simp)
    have F7 : v 7 = _ := hF 7 (by simp)
    clear hF
    obtain ⟨n1_, a1_, k1_, c1_, e1⟩ := bg_form F1
    obtain ⟨n3_, a3_, k3_, c3_, e3⟩ := bg_form F3
    obtain ⟨n4_, a4_, k4_, c4_, e4⟩ := bg_form F4
    simp only [frOf, frGo, Nat.zero_add, Nat.reduceAdd, F0, e1, F2, e3, e4, F5, F6, F7]
    have B5 := b_trans B0 hB
    clear hB hD F0 F1 F2 F3 F4 F5 F6 F7 e1 e3 e4 kg kc o1 sq sr sy hq
    go_wp2
    go_ret
    exact ⟨rfl, B5⟩
theorem rpass_any (y s g : Int) (hy : J64 y) (hs : J64 s) (w : World) :
    Calls Try.prog 9 #[.int .i64 y, .int .i64 s, .int .i64 g] w (RetV (.bool (pas y s g)) w) := by
  have hm := right_any y s hy hs
  by_cases d : MayP y s
  · rw [mayg_yes d] at hm
    by_cases e : 0 ≤ g ∧ g ≤ 1000
    · obtain ⟨js, jg, q0, q1⟩ := room_fits d.2.2 d.2.1 e.1 e.2
      have f := mul_fits hy.1 hy.2 hy.1 hy.2
      have r := rpass_go y s g _ hy js jg (by omega) (by omega) (Lib.hid rfl) (small_j hy) (small_of (by have := f.lo; omega) (by have := f.hi; omega)) (small_of (by omega) (by omega)) (small_of (by omega) (by omega)) hm w
      rw [cmp3_le] at r
      have E : decide (y * y ≤ g * s * 1099511627776) = pas y s g := by
        unfold pas
        by_cases k : y * y ≤ g * s * 1099511627776
        · rw [decide_eq_true k, decide_eq_true (show PassP y s g from ⟨d, e.1, e.2, k⟩)]
        · rw [decide_eq_false k, decide_eq_false (show ¬ PassP y s g from fun h => k h.2.2.2)]
      rw [E] at r
      exact r
    · rw [pas_no (fun h => e ⟨h.2.1, h.2.2.1⟩)]
      exact rpass_bad y s g true (fun _ => by omega) hm w
  · rw [mayg_no d] at hm
    rw [pas_no (fun h => d h.1)]
    exact rpass_bad y s g false (fun h => by cases h) hm w

set_option maxHeartbeats 1000000 in
set_option maxRecDepth 10000 in
theorem rleast_bad (y s : Int)
    (hm : ∀ w, Calls Try.prog 13 #[.int .i64 y, .int .i64 s] w fun e w' => e = .returned (.bool false) ∧ w = w') (w : World) :
    Calls Try.prog 6 #[.int .i64 y, .int .i64 s] w (RetV (.tuple #[.int .i64 0, .int .i64 1]) w) := by
  go_enter Try.func6, Try.ntmps6
  go_wp2_with fail
  refine (hm _).mono ?_
  rintro e w1 ⟨rfl, rfl⟩
  clear hm
  go_wp2
  go_ret2
  exact ⟨rfl, Below.refl _ _⟩

set_option maxHeartbeats 8000000 in
set_option maxRecDepth 10000 in
theorem rleast_go (y s z q x e X E : Int) (hy : J64 y) (hs : J64 s) (sy : Small y) (dn : s * 1099511627776 ≠ 0) (tq : Tiny (-(y * y))) (td : Tiny (s * 1099511627776)) (tz : Tiny z)
    (hz : Hid (-qd (-(y * y)) (s * 1099511627776) = z)) (hq : Hid (cmp3 z 1000 = q)) (hR : Hid ((0 < q → X = 0 ∧ E = 2) ∧ (q ≤ 0 → X = x ∧ E = 0)))
    (hI : ∀ v w, BG w v z → Calls Try.prog 20 #[v] w (RetV (.tuple #[.int .i64 x, .int .i64 e]) w))
    (hm : ∀ w, Calls Try.prog 13 #[.int .i64 y, .int .i64 s] w fun e w' => e = .returned (.bool true) ∧ w = w') (w : World) :
    Calls Try.prog 6 #[.int .i64 y, .int .i64 s] w (RetV (.tuple #[.int .i64 X, .int .i64 E]) w) := by
  have o1 := of_big y hy.1 hy.2
  go_enter Try.func6, Try.ntmps6
  go_wp2_with fail
  refine (hm _).mono ?_
  rintro e w0 ⟨rfl, rfl⟩
  clear hm
  go_wp2_with fail
  refine (of_big s hs.1 hs.2 _).mono ?_
  rintro e w1 ⟨v1, rfl, g1, hb9⟩
  obtain ⟨n1, a1, k1, c1, rfl⟩ := bg_form g1
  have B0 := hb9
  clear hb9 
  go_wp2_with fail
  refine (power40 _).mono ?_
  rintro e w2 ⟨v2, rfl, g2, hb9⟩
  obtain ⟨n2, a2, k2, c2, rfl⟩ := bg_form g2
  replace g1 := bg_keep g1 hb9
  replace B0 := b_trans B0 hb9
  clear hb9 
  go_wp2_with fail
  refine (mul_big _ _ s 1099511627776 _ g1 g2 (small_j hs) (small_of (by decide) (by decide))).mono ?_
  rintro e w3 ⟨v3, rfl, g3, hb9⟩
  obtain ⟨n3, a3, k3, c3, rfl⟩ := bg_form g3
  replace B0 := b_trans B0 hb9
  clear hb9 g1 g2
  have kg : BG (w3.alloc (Obj.cells #[.bool n3, .slice a3 k3 c3] 34)) (.agg #[.bool n3, .slice a3 k3 c3]) (s * 1099511627776) := bg_keep g3 (b_alloc (Below.refl _ _))
  have kc : BC (w3.alloc (Obj.cells #[.bool n3, .slice a3 k3 c3] 34)) w3.heap.size n3 (.slice a3 k3 c3) := by simp [BC, go_sem]
  replace B0 := b_alloc (o := (Obj.cells #[.bool n3, .slice a3 k3 c3] 34)) B0
  clear g3
  go_wp2
  refine region_each [18, 19, 20, 21, 22, 23, 24, 25, 26, 7] (fun i_ X_ U_ => match i_ with | 0 => X_ = .int .i64 y | 1 => BG U_ X_ (y) | 2 => X_ = .int .i64 y | 3 => BG U_ X_ (y) | 4 => BG U_ X_ (y * y) | 5 => BG U_ X_ (-(y * y)) | 6 => X_ = .agg #[.bool n3, .slice a3 k3 c3] | 7 => BG U_ X_ (qd (-(y * y)) (s * 1099511627776)) | 8 => BG U_ X_ (z) | 9 => ∃ g, X_ = .pointer (some ⟨g, 0, none⟩) ∧ (w3.alloc (Obj.cells #[.bool n3, .slice a3 k3 c3] 34)).heap.size ≤ g ∧ BV U_ g ∧ True | _ => True) (fun i_ => i_ == 9) (by kernel_rfl) (by kernel_rfl) (by kernel_rfl) (by kernel_rfl) (by kernel_rfl) ?_ ?_ ?_ ?_
  · refine swp (upS (upS (upS (upS (upS (upS (upS (upS (upS (upS up0 ?_) ?_) ?_) ?_) ?_) ?_) ?_) ?_) ?_) ?_)
    · exact fun _ _ _ h _ => h
    · intro x w w' h hb; exact bg_keep h hb
    · exact fun _ _ _ h _ => h
    · intro x w w' h hb; exact bg_keep h hb
    · intro x w w' h hb; exact bg_keep h hb
    · intro x w w' h hb; exact bg_keep h hb
    · exact fun _ _ _ h _ => h
    · intro x w w' h hb; exact bg_keep h hb
    · intro x w w' h hb; exact bg_keep h hb
    · intro x w w' h hb; obtain ⟨g, e, hg, hc, _⟩ := h; exact ⟨g, e, hg, bv_keep hb hc, trivial⟩
  · refine swa (upS (upS (upS (upS (upS (upS (upS (upS (upS (upS up0 ?_) ?_) ?_) ?_) ?_) ?_) ?_) ?_) ?_) ?_)
    · exact fun _ _ ha => absurd ha (by decide)
    · exact fun _ _ ha => absurd ha (by decide)
    · exact fun _ _ ha => absurd ha (by decide)
    · exact fun _ _ ha => absurd ha (by decide)
    · exact fun _ _ ha => absurd ha (by decide)
    · exact fun _ _ ha => absurd ha (by decide)
    · exact fun _ _ ha => absurd ha (by decide)
    · exact fun _ _ ha => absurd ha (by decide)
    · exact fun _ _ ha => absurd ha (by decide)
    · intro x w _ h; obtain ⟨g, rfl, _, hg, _⟩ := h; exact bv_lt hg
  · refine upS (upS (upS (upS (upS (upS (upS (upS (upS (upS up0 ?_) ?_) ?_) ?_) ?_) ?_) ?_) ?_) ?_) ?_
    all_goals intro v f w' hb hv hB hd
    · have b0 : f.tmps[0]? = some (.int .i64 y) := (hb 0 (by decide)).trans rfl
      clear hb hv hd
      refine wpOp_step rfl fun K hK => ?_
      go_simp
      exact hK _ _ ⟨_, rfl, Below.refl _ _, rfl, fun h => absurd h (by decide)⟩
    · have d0 := got (hv 0 18 rfl) (hd 0 (by kernel_rfl))
      clear hb hv hd
      refine wpOp_call rfl Try.call15 (args1 (eval_tmp d0)) (o1 _) ?_
      rintro e w5 ⟨v5, rfl, h5, hb5⟩
      exact ⟨_, rfl, _, rfl, hb5, h5, fun h => absurd h (by decide)⟩
    · have b0 : f.tmps[0]? = some (.int .i64 y) := (hb 0 (by decide)).trans rfl
      clear hb hv hd
      refine wpOp_step rfl fun K hK => ?_
      go_simp
      exact hK _ _ ⟨_, rfl, Below.refl _ _, rfl, fun h => absurd h (by decide)⟩
    · have d2 := got (hv 2 20 rfl) (hd 2 (by kernel_rfl))
      clear hb hv hd
      refine wpOp_call rfl Try.call15 (args1 (eval_tmp d2)) (o1 _) ?_
      rintro e w5 ⟨v5, rfl, h5, hb5⟩
      exact ⟨_, rfl, _, rfl, hb5, h5, fun h => absurd h (by decide)⟩
    · have h1 : BG w' (v 1) (y) := hd 1 (by kernel_rfl)
      have d1 : f.tmps[19]? = some (v 1) := hv 1 19 rfl
      have h3 : BG w' (v 3) (y) := hd 3 (by kernel_rfl)
      have d3 : f.tmps[21]? = some (v 3) := hv 3 21 rfl
      clear hb hv hd
      refine wpOp_call rfl Try.call14 (args2 (eval_tmp d1) (eval_tmp d3)) (mul_big _ _ y y _ h1 h3 sy sy) ?_
      rintro e w5 ⟨v5, rfl, h5, hb5⟩
      exact ⟨_, rfl, _, rfl, hb5, h5, fun h => absurd h (by decide)⟩
    · have h4 : BG w' (v 4) (y * y) := hd 4 (by kernel_rfl)
      have d4 : f.tmps[22]? = some (v 4) := hv 4 22 rfl
      clear hb hv hd
      refine wpOp_call rfl Try.call17 (args1 (eval_tmp d4)) (turn_any _ (y * y) _ h4) ?_
      rintro e w5 ⟨v5, rfl, h5, hb5⟩
      exact ⟨_, rfl, _, rfl, hb5, h5, fun h => absurd h (by decide)⟩
    · have b6 : f.tmps[6]? = some (.pointer (some ⟨w3.heap.size, 0, none⟩)) := (hb 6 (by decide)).trans rfl
      clear hb hv hd
      have c_ := bc_keep hB kc
      refine wpOp_step rfl fun K hK => ?_
      go_simp
      exact hK _ _ ⟨_, rfl, Below.refl _ _, rfl, fun h => absurd h (by decide)⟩
    · have h5 : BG w' (v 5) (-(y * y)) := hd 5 (by kernel_rfl)
      have d5 : f.tmps[23]? = some (v 5) := hv 5 23 rfl
      have d6 := got (hv 6 24 rfl) (hd 6 (by kernel_rfl))
      clear hb hv hd
      refine wpOp_call rfl Try.call18 (args2 (eval_tmp d5) (eval_tmp d6)) (div_big _ _ (-(y * y)) (s * 1099511627776) _ h5 (bg_keep kg hB) dn tq td) ?_
      rintro e w5 ⟨v5, rfl, h5, hb5⟩
      exact ⟨_, rfl, _, rfl, hb5, h5, fun h => absurd h (by decide)⟩
    · have h7 : BG w' (v 7) (qd (-(y * y)) (s * 1099511627776)) := hd 7 (by kernel_rfl)
      have d7 : f.tmps[25]? = some (v 7) := hv 7 25 rfl
      clear hb hv hd
      refine wpOp_call rfl Try.call17 (args1 (eval_tmp d7)) (turn_any _ (qd (-(y * y)) (s * 1099511627776)) _ h7) ?_
      rintro e w5 ⟨v5, rfl, h5, hb5⟩
      exact ⟨_, rfl, _, rfl, hb5, by rwa [hz.out] at h5, fun h => absurd h (by decide)⟩
    · clear hb hv hd
      refine wpOp_step rfl fun K hK => ?_
      go_simp
      exact hK _ _ ⟨_, rfl, b_alloc (Below.refl _ _), ⟨_, rfl, hB.size, bv_new _ _ _ _ rfl, trivial⟩, fun _ => Nat.le_refl _⟩
  · intro v w' hB hF hD
    have F0 : v 0 = _ := hF 0 (by simp)
    have F1 : BG w' (v 1) (y) := hF 1 (by simp)
    have F2 : v 2 = _ := hF 2 (by simp)
    have F3 : BG w' (v 3) (y) := hF 3 (by simp)
    have F4 : BG w' (v 4) (y * y) := hF 4 (by simp)
    have F5 : BG w' (v 5) (-(y * y)) := hF 5 (by simp)
    have F6 : v 6 = _ := hF 6 (by simp)
    have F7 : BG w' (v 7) (qd (-(y * y)) (s * 1099511627776)) := hF 7 (by simp)
    have F8 : BG w' (v 8) (z) := hF 8 (by simp)
    have F9 : ∃ g, (v 9) = .pointer (some ⟨g, 0, none⟩) ∧ (w3.alloc (Obj.cells #[.bool n3, .slice a3 k3 c3] 34)).heap.size ≤ g ∧ BV w' g ∧ True := hF 9 (by simp)
    clear hF
    obtain ⟨n1_, a1_, k1_, c1_, e1⟩ := bg_form F1
    obtain ⟨n3_, a3_, k3_, c3_, e3⟩ := bg_form F3
    obtain ⟨n4_, a4_, k4_, c4_, e4⟩ := bg_form F4
    obtain ⟨n5_, a5_, k5_, c5_, e5⟩ := bg_form F5
    obtain ⟨n7_, a7_, k7_, c7_, e7⟩ := bg_form F7
    obtain ⟨n8_, a8_, k8_, c8_, e8⟩ := bg_form F8
    obtain ⟨gt, e9, pt, vt, _⟩ := F9
    rw [e8] at F8
    simp only [frOf, frGo, Nat.zero_add, Nat.reduceAdd, F0, e1, F2, e3, e4, e5, F6, e7, e8, e9]
    have hS : w.heap.size ≤ gt := Nat.le_trans B0.size pt
    have vT := vb_store vt F8
    replace B0 := b_set (p := ⟨gt, 1, none⟩) (v := .slice a8_ k8_ c8_) (b_set (p := ⟨gt, 0, none⟩) (v := .bool n8_) (b_trans B0 hB) hS) hS
    obtain ⟨_, _, _, _, u1, u2⟩ := bv_use vt
    clear vt F0 F1 F2 F3 F4 F5 F6 F7 F8 e1 e3 e4 e5 e7 e8 e9 hB hD hS pt v o1 sy kg kc dn tq td
    have KK := Lib.hid (And.intro vT B0)
    clear vT B0
    go_step
    go_step
    clear u1 u2
    generalize (w'.setCell ⟨gt, 0, none⟩ (.bool n8_)).setCell ⟨gt, 1, none⟩ (.slice a8_ k8_ c8_) = U1 at *
    obtain ⟨vT, B0⟩ := KK.out
    clear KK
    obtain ⟨n, a, k, c, kc, _, kg⟩ := vb_use vT
    clear vT
    go_wp2
    refine region_each [27, 28, 29, 30] (fun i_ X_ U_ => match i_ with | 0 => X_ = .agg #[.bool n, .slice a k c] | 1 => BG U_ X_ (1000) | 2 => X_ = .int .i64 q | 3 => X_ = .bool (decide (0 < q)) | _ => True) (fun i_ => false) (by kernel_rfl) (by kernel_rfl) (by kernel_rfl) (by kernel_rfl) (by kernel_rfl) ?_ (fun i x w hi ha h => by cases ha) ?_ ?_
    · refine swp (upS (upS (upS (upS up0 ?_) ?_) ?_) ?_)
      · exact fun _ _ _ h _ => h
      · intro x w w' h hb; exact bg_keep h hb
      · exact fun _ _ _ h _ => h
      · exact fun _ _ _ h _ => h
    · refine upS (upS (upS (upS up0 ?_) ?_) ?_) ?_
      all_goals intro v f w' hb hv hB hd
      · have b7 : f.tmps[7]? = some (.pointer (some ⟨gt, 0, none⟩)) := (hb 7 (by decide)).trans rfl
        clear hb hv hd
        have c_ := bc_keep hB kc
        refine wpOp_step rfl fun K hK => ?_
        go_simp
        exact hK _ _ ⟨_, rfl, Below.refl _ _, rfl, fun h => absurd h (by decide)⟩
      · clear hb hv hd
        refine wpOp_call rfl Try.call15 (args1 rfl) (of_big 1000 (by decide) (by decide) _) ?_
        rintro e w5 ⟨v5, rfl, h5, hb5⟩
        exact ⟨_, rfl, _, rfl, hb5, h5, fun h => absurd h (by decide)⟩
      · have d0 := got (hv 0 27 rfl) (hd 0 (by kernel_rfl))
        have h1 : BG w' (v 1) (1000) := hd 1 (by kernel_rfl)
        have d1 : f.tmps[28]? = some (v 1) := hv 1 28 rfl
        clear hb hv hd
        refine wpOp_call rfl Try.call19 (args2 (eval_tmp d0) (eval_tmp d1)) (cmp_big _ _ z 1000 _ (bg_keep kg hB) h1 (tiny_small tz) (small_of (by decide) (by decide))) ?_
        rw [hq.out]
        rintro e5 w5 ⟨rfl, hb5⟩
        exact ⟨_, rfl, _, rfl, hb5, rfl, fun h => absurd h (by decide)⟩
      · have d2 := got (hv 2 29 rfl) (hd 2 (by kernel_rfl))
        clear hb hv hd
        refine wpOp_step rfl fun K hK => ?_
        go_simp
        exact hK _ _ ⟨_, rfl, Below.refl _ _, rfl, fun h => absurd h (by decide)⟩
    · intro v w' hB hF hD
      have F0 : v 0 = _ := hF 0 (by simp)
      have F1 : BG w' (v 1) (1000) := hF 1 (by simp)
      have F2 : v 2 = _ := hF 2 (by simp)
      have F3 : v 3 = _ := hF 3 (by simp)
      clear hF
      obtain ⟨n1_, a1_, k1_, c1_, e1⟩ := bg_form F1
      simp only [frOf, frGo, Nat.zero_add, Nat.reduceAdd, F0, e1, F2, F3]
      replace kg := bg_keep kg hB
      replace kc := bc_keep hB kc
      replace B0 := b_trans B0 hB
      clear hB hD e1 F0 F1 F2 F3
      refine wpList_none rfl ?_
      by_cases k' : 0 < q
      · obtain ⟨rfl, rfl⟩ := hR.out.1 k'
        rw [decide_eq_true k']
        clear hR
        clear kg kc hI
        go_wp2
        go_ret2
        exact ⟨rfl, B0⟩
      · obtain ⟨rfl, rfl⟩ := hR.out.2 (Int.not_lt.1 k')
        rw [decide_eq_false k']
        clear hR
        go_wp2_with fail
        refine (hI _ _ kg).mono ?_
        rintro e w8 ⟨rfl, hb8⟩
        replace B0 := b_trans B0 hb8
        clear hb8 kg hI
        go_wp2
        go_ret2
        exact ⟨rfl, B0⟩
theorem rleast_any (y s : Int) (hy : J64 y) (hs : J64 s) (w : World) :
    Calls Try.prog 6 #[.int .i64 y, .int .i64 s] w (RetV (.tuple #[.int .i64 (lsn y s), .int .i64 (lse y s)]) w) := by
  have hm := right_any y s hy hs
  by_cases d : MayP y s
  · rw [mayg_yes d] at hm
    have p0 := cg_pos (y := y) d.2.2
    have p1 := cg_hi (y := y) d.2.2
    have f := mul_fits hy.1 hy.2 hy.1 hy.2
    have f0 := f.lo
    have f1 := f.hi
    have s1 := d.2.2
    have E : -qd (-(y * y)) (s * 1099511627776) = cg y s := by
      unfold qd cg
      rw [if_neg (by omega)]
    have tz : Tiny (cg y s) := ⟨by omega, by omega⟩
    refine rleast_go y s (cg y s) _ _ _ _ _ hy hs (small_j hy) (by omega) ⟨by omega, by omega⟩ ⟨by omega, by omega⟩ tz (Lib.hid E) (Lib.hid rfl) (Lib.hid ⟨fun n => ?_, fun n => ?_⟩) (fun v w h => int_big v _ w h tz) hm w
    · have c : ¬ cg y s ≤ 1000 := fun c => by
        have := cmp3_le (cg y s) 1000
        rw [decide_eq_true c, decide_eq_true_iff] at this
        omega
      exact ls_no d c
    · have c : cg y s ≤ 1000 := by
        by_cases c : cg y s ≤ 1000
        · exact c
        · rw [cmp3_gt (by omega)] at n; exact absurd n (by decide)
      rw [(iz_of ⟨by omega, by omega⟩).1]
      exact ls_ok d c
  · rw [mayg_no d] at hm
    rw [(ls_bad d).1, (ls_bad d).2]
    exact rleast_bad y s hm w

end Go.Proofs.Ytidaegmancgpnaa
