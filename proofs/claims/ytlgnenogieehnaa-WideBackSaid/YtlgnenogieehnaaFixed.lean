/- The chapter's examples, as the statements ask them: the call answers true. -/
import Derived.Test.YtlgnenogieehnaaWideI
namespace Go.Proofs.Ytlgnenogieehnaa
open Go.RowKit Go.Shelf

theorem of_is (h l x : Int) (h0 : -9223372036854775808 ≤ x) (h1 : x ≤ 9223372036854775807) (e : -9223372036854775808 ≤ h ∧ h ≤ 9223372036854775807 ∧ 0 ≤ l ∧ l ≤ 18446744073709551615 ∧ h * 18446744073709551616 + l = x) (w : World) :
    Calls Try.prog 23 #[.int .i64 x] w (RetV (wv h l) w) :=
  (of_any x h0 h1 w).mono fun _ _ => retW_det ⟨e.1, e.2.1, e.2.2.1, e.2.2.2.1, e.2.2.2.2⟩

theorem retWE_det {z c h l : Int} (x : IsW h l z) {w : World} {e : Ending} {w' : World} (r : RetWE z c w e w') : RetV (.tuple #[wv h l, .int .i64 c]) w e w' := by
  obtain ⟨h', l', he, y, hb⟩ := r
  obtain ⟨rfl, rfl⟩ := (x.inj y).2 rfl
  exact ⟨he, hb⟩

set_option maxHeartbeats 4000000 in
set_option maxRecDepth 10000 in
theorem fixed_any (w : World) : Calls Try.prog 15 #[] w (RetV (.bool true) w) := by
  have cE : ∀ w, Calls Try.prog 32 #[wv 0 5, .int .i64 2] w (RetV (.tuple #[wv 0 2, .int .i64 0]) w) := fun w =>
    (even_any 0 5 5 2 (by exact ⟨by decide, by decide, by decide, by decide, by decide⟩) (by decide) (by decide) (by decide) w).mono fun _ _ h => retWE_det (z := 2) (c := 0) (by exact ⟨by decide, by decide, by decide, by decide, by decide⟩) (by rwa [show fz (ef 5 2) = 2 by decide, show fe (ef 5 2) = 0 by decide] at h)
  have cH : ∀ w, Calls Try.prog 28 #[wv 0 7, .int .i64 1] w (RetV (.tuple #[wv 0 4, .int .i64 0]) w) := fun w =>
    (half_any 0 7 7 1 (by exact ⟨by decide, by decide, by decide, by decide, by decide⟩) (by decide) (by decide) w).mono fun _ _ h => retWE_det (z := 4) (c := 0) (by exact ⟨by decide, by decide, by decide, by decide, by decide⟩) (by rwa [show evn 7 (2 ^ (1 : Int).toNat) = 4 by decide] at h)
  have cD : ∀ w, Calls Try.prog 31 #[wv (-1) 18446744073709551609, .int .i64 2] w (RetV (.tuple #[wv (-1) 18446744073709551612, .int .i64 0]) w) := fun w =>
    (div_any (-1) 18446744073709551609 (-7) 2 (by exact ⟨by decide, by decide, by decide, by decide, by decide⟩) (by decide) (by decide) (by decide) w).mono fun _ _ h => retWE_det (z := -4) (c := 0) (by exact ⟨by decide, by decide, by decide, by decide, by decide⟩) (by rwa [show fz (qf (-7) 2) = -4 by decide, show fe (qf (-7) 2) = 0 by decide] at h)
  go_enter Try.func15, Try.ntmps15
  go_wp2_with fail
  refine (of_is 0 5 5 (by decide) (by decide) (by decide) _).mono ?_
  rintro e w1 ⟨rfl, hb1⟩
  go_wp2_with fail
  refine (cE _).mono ?_
  rintro e w2 ⟨rfl, hb2⟩
  have B2 := b_trans hb1 hb2
  clear hb1 hb2
  go_wp2_with fail
  refine (of_is 0 7 7 (by decide) (by decide) (by decide) _).mono ?_
  rintro e w3 ⟨rfl, hb3⟩
  go_wp2_with fail
  refine (cH _).mono ?_
  rintro e w4 ⟨rfl, hb4⟩
  have k1 : WC w4 w2.heap.size 0 2 := wc_keep hb4 (wc_keep hb3 (by simp [WC, go_sem]))
  have B2 := b_trans (b_trans (b_alloc B2) hb3) hb4
  clear hb3 hb4
  go_wp2_with fail
  refine (of_is (-1) 18446744073709551609 (-7) (by decide) (by decide) (by decide) _).mono ?_
  rintro e w5 ⟨rfl, hb5⟩
  go_wp2_with fail
  refine (cD _).mono ?_
  rintro e w6 ⟨rfl, hb6⟩
  have k1 := wc_alloc (o := Obj.cells #[.int .i64 (-1), .int .u64 18446744073709551612] 24) (wc_keep hb6 (wc_keep hb5 (wc_alloc k1)))
  have k3 : WC w6 w4.heap.size 0 4 := wc_keep hb6 (wc_keep hb5 (by simp [WC, go_sem]))
  have k3 := wc_alloc (o := Obj.cells #[.int .i64 (-1), .int .u64 18446744073709551612] 24) k3
  have k5 : WC (w6.alloc (Obj.cells #[.int .i64 (-1), .int .u64 18446744073709551612] 24)) w6.heap.size (-1) 18446744073709551612 := by simp [WC, go_sem]
  have B2 := b_alloc (o := Obj.cells #[.int .i64 (-1), .int .u64 18446744073709551612] 24) (b_trans (b_trans (b_alloc B2) hb5) hb6)
  clear hb5 hb6
  go_wp2
  refine region_each [22, 23, 24, 25, 26, 27, 28, 29, 30, 31, 32, 33, 34, 35, 36, 37, 38, 39, 40] (fun i x u => match i with | 0 => x = wv 0 2 | 1 => x = wv 0 2 | 2 => x = .bool true | 3 => x = .bool true | 4 => x = wv 0 4 | 5 => x = wv 0 4 | 6 => x = .bool true | 7 => x = .bool true | 8 => x = .bool true | 9 => x = wv (-1) 18446744073709551612 | 10 => x = wv (-1) 18446744073709551612 | 11 => x = .bool true | 12 => x = .bool true | 13 => x = .bool true | 14 => x = wv 0 1 | 15 => x = wv 0 2 | 16 => x = .int .i64 (-1) | 17 => x = .bool true | 18 => x = .bool true | _ => True) (fun i => false) (by kernel_rfl) (by kernel_rfl) (by kernel_rfl) (by kernel_rfl) (by kernel_rfl) ?_ ?_ ?_ ?_
  · intro i x w w' hi h hb
    match i, hi with
    | 0, _ => exact h
    | 1, _ => exact h
    | 2, _ => exact h
    | 3, _ => exact h
    | 4, _ => exact h
    | 5, _ => exact h
    | 6, _ => exact h
    | 7, _ => exact h
    | 8, _ => exact h
    | 9, _ => exact h
    | 10, _ => exact h
    | 11, _ => exact h
    | 12, _ => exact h
    | 13, _ => exact h
    | 14, _ => exact h
    | 15, _ => exact h
    | 16, _ => exact h
    | 17, _ => exact h
    | 18, _ => exact h
    | k + 19, hk => exact absurd hk (by simp)
  · intro i x w hi ha h
    cases ha
  · intro i hi v f w' hb hv hB hd
    match i, hi with
    | 0, _ =>
      have b1 : f.tmps[1]? = some (.pointer (some ⟨w2.heap.size, 0, none⟩)) := (hb 1 (by decide)).trans rfl
      clear hb hv hd
      have c := wc_keep hB k1
      refine wpOp_step rfl (fun K hK => ?_)
      go_simp
      exact hK _ _ ⟨_, rfl, Below.refl _ _, rfl, fun h => absurd h (by decide)⟩
    | 1, _ =>
      clear hb hv hd
      refine wpOp_step rfl (fun K hK => ?_)
      go_simp
      refine (of_is 0 2 2 (by decide) (by decide) (by decide) _).mono ?_
      rintro e w5 ⟨rfl, hb5⟩
      exact hK _ _ ⟨_, rfl, hb5, rfl, fun h => absurd h (by decide)⟩
    | 2, _ =>
      have h0 : v 0 = wv 0 2 := hd 0 (by kernel_rfl)
      have d0 : f.tmps[22]? = some (wv 0 2) := (hv 0 22 rfl).trans (congrArg some h0)
      clear h0
      have h1 : v 1 = wv 0 2 := hd 1 (by kernel_rfl)
      have d1 : f.tmps[23]? = some (wv 0 2) := (hv 1 23 rfl).trans (congrArg some h1)
      clear h1
      clear hb hv hd
      refine wpOp_step rfl (fun K hK => ?_)
      go_simp
      exact hK _ _ ⟨_, rfl, Below.refl _ _, rfl, fun h => absurd h (by decide)⟩
    | 3, _ =>
      have h2 : v 2 = .bool true := hd 2 (by kernel_rfl)
      have d2 : f.tmps[24]? = some (.bool true) := (hv 2 24 rfl).trans (congrArg some h2)
      clear h2
      clear hb hv hd
      refine wpOp_step rfl (fun K hK => ?_)
      go_simp
      exact hK _ _ ⟨_, rfl, Below.refl _ _, rfl, fun h => absurd h (by decide)⟩
    | 4, _ =>
      have b3 : f.tmps[3]? = some (.pointer (some ⟨w4.heap.size, 0, none⟩)) := (hb 3 (by decide)).trans rfl
      have h3 : v 3 = .bool true := hd 3 (by kernel_rfl)
      have d3 : f.tmps[25]? = some (.bool true) := (hv 3 25 rfl).trans (congrArg some h3)
      clear h3
      clear hb hv hd
      have c := wc_keep hB k3
      refine wpOp_step rfl (fun K hK => ?_)
      go_simp
      exact hK _ _ ⟨_, rfl, Below.refl _ _, rfl, fun h => absurd h (by decide)⟩
    | 5, _ =>
      have h3 : v 3 = .bool true := hd 3 (by kernel_rfl)
      have d3 : f.tmps[25]? = some (.bool true) := (hv 3 25 rfl).trans (congrArg some h3)
      clear h3
      clear hb hv hd
      refine wpOp_step rfl (fun K hK => ?_)
      go_simp
      refine (of_is 0 4 4 (by decide) (by decide) (by decide) _).mono ?_
      rintro e w5 ⟨rfl, hb5⟩
      exact hK _ _ ⟨_, rfl, hb5, rfl, fun h => absurd h (by decide)⟩
    | 6, _ =>
      have h4 : v 4 = wv 0 4 := hd 4 (by kernel_rfl)
      have d4 : f.tmps[26]? = some (wv 0 4) := (hv 4 26 rfl).trans (congrArg some h4)
      clear h4
      have h5 : v 5 = wv 0 4 := hd 5 (by kernel_rfl)
      have d5 : f.tmps[27]? = some (wv 0 4) := (hv 5 27 rfl).trans (congrArg some h5)
      clear h5
      have h3 : v 3 = .bool true := hd 3 (by kernel_rfl)
      have d3 : f.tmps[25]? = some (.bool true) := (hv 3 25 rfl).trans (congrArg some h3)
      clear h3
      clear hb hv hd
      refine wpOp_step rfl (fun K hK => ?_)
      go_simp
      exact hK _ _ ⟨_, rfl, Below.refl _ _, rfl, fun h => absurd h (by decide)⟩
    | 7, _ =>
      have h3 : v 3 = .bool true := hd 3 (by kernel_rfl)
      have d3 : f.tmps[25]? = some (.bool true) := (hv 3 25 rfl).trans (congrArg some h3)
      clear h3
      have h6 : v 6 = .bool true := hd 6 (by kernel_rfl)
      have d6 : f.tmps[28]? = some (.bool true) := (hv 6 28 rfl).trans (congrArg some h6)
      clear h6
      clear hb hv hd
      refine wpOp_step rfl (fun K hK => ?_)
      go_simp
      exact hK _ _ ⟨_, rfl, Below.refl _ _, rfl, fun h => absurd h (by decide)⟩
    | 8, _ =>
      have h7 : v 7 = .bool true := hd 7 (by kernel_rfl)
      have d7 : f.tmps[29]? = some (.bool true) := (hv 7 29 rfl).trans (congrArg some h7)
      clear h7
      clear hb hv hd
      refine wpOp_step rfl (fun K hK => ?_)
      go_simp
      exact hK _ _ ⟨_, rfl, Below.refl _ _, rfl, fun h => absurd h (by decide)⟩
    | 9, _ =>
      have b5 : f.tmps[5]? = some (.pointer (some ⟨w6.heap.size, 0, none⟩)) := (hb 5 (by decide)).trans rfl
      have h8 : v 8 = .bool true := hd 8 (by kernel_rfl)
      have d8 : f.tmps[30]? = some (.bool true) := (hv 8 30 rfl).trans (congrArg some h8)
      clear h8
      clear hb hv hd
      have c := wc_keep hB k5
      refine wpOp_step rfl (fun K hK => ?_)
      go_simp
      exact hK _ _ ⟨_, rfl, Below.refl _ _, rfl, fun h => absurd h (by decide)⟩
    | 10, _ =>
      have h8 : v 8 = .bool true := hd 8 (by kernel_rfl)
      have d8 : f.tmps[30]? = some (.bool true) := (hv 8 30 rfl).trans (congrArg some h8)
      clear h8
      clear hb hv hd
      refine wpOp_step rfl (fun K hK => ?_)
      go_simp
      refine (of_is (-1) 18446744073709551612 (-4) (by decide) (by decide) (by decide) _).mono ?_
      rintro e w5 ⟨rfl, hb5⟩
      exact hK _ _ ⟨_, rfl, hb5, rfl, fun h => absurd h (by decide)⟩
    | 11, _ =>
      have h9 : v 9 = wv (-1) 18446744073709551612 := hd 9 (by kernel_rfl)
      have d9 : f.tmps[31]? = some (wv (-1) 18446744073709551612) := (hv 9 31 rfl).trans (congrArg some h9)
      clear h9
      have h10 : v 10 = wv (-1) 18446744073709551612 := hd 10 (by kernel_rfl)
      have d10 : f.tmps[32]? = some (wv (-1) 18446744073709551612) := (hv 10 32 rfl).trans (congrArg some h10)
      clear h10
      have h8 : v 8 = .bool true := hd 8 (by kernel_rfl)
      have d8 : f.tmps[30]? = some (.bool true) := (hv 8 30 rfl).trans (congrArg some h8)
      clear h8
      clear hb hv hd
      refine wpOp_step rfl (fun K hK => ?_)
      go_simp
      exact hK _ _ ⟨_, rfl, Below.refl _ _, rfl, fun h => absurd h (by decide)⟩
    | 12, _ =>
      have h8 : v 8 = .bool true := hd 8 (by kernel_rfl)
      have d8 : f.tmps[30]? = some (.bool true) := (hv 8 30 rfl).trans (congrArg some h8)
      clear h8
      have h11 : v 11 = .bool true := hd 11 (by kernel_rfl)
      have d11 : f.tmps[33]? = some (.bool true) := (hv 11 33 rfl).trans (congrArg some h11)
      clear h11
      clear hb hv hd
      refine wpOp_step rfl (fun K hK => ?_)
      go_simp
      exact hK _ _ ⟨_, rfl, Below.refl _ _, rfl, fun h => absurd h (by decide)⟩
    | 13, _ =>
      have h12 : v 12 = .bool true := hd 12 (by kernel_rfl)
      have d12 : f.tmps[34]? = some (.bool true) := (hv 12 34 rfl).trans (congrArg some h12)
      clear h12
      clear hb hv hd
      refine wpOp_step rfl (fun K hK => ?_)
      go_simp
      exact hK _ _ ⟨_, rfl, Below.refl _ _, rfl, fun h => absurd h (by decide)⟩
    | 14, _ =>
      have h13 : v 13 = .bool true := hd 13 (by kernel_rfl)
      have d13 : f.tmps[35]? = some (.bool true) := (hv 13 35 rfl).trans (congrArg some h13)
      clear h13
      clear hb hv hd
      refine wpOp_step rfl (fun K hK => ?_)
      go_simp
      refine (of_is 0 1 1 (by decide) (by decide) (by decide) _).mono ?_
      rintro e w5 ⟨rfl, hb5⟩
      exact hK _ _ ⟨_, rfl, hb5, rfl, fun h => absurd h (by decide)⟩
    | 15, _ =>
      have h13 : v 13 = .bool true := hd 13 (by kernel_rfl)
      have d13 : f.tmps[35]? = some (.bool true) := (hv 13 35 rfl).trans (congrArg some h13)
      clear h13
      clear hb hv hd
      refine wpOp_step rfl (fun K hK => ?_)
      go_simp
      refine (of_is 0 2 2 (by decide) (by decide) (by decide) _).mono ?_
      rintro e w5 ⟨rfl, hb5⟩
      exact hK _ _ ⟨_, rfl, hb5, rfl, fun h => absurd h (by decide)⟩
    | 16, _ =>
      have h14 : v 14 = wv 0 1 := hd 14 (by kernel_rfl)
      have d14 : f.tmps[36]? = some (wv 0 1) := (hv 14 36 rfl).trans (congrArg some h14)
      clear h14
      have h15 : v 15 = wv 0 2 := hd 15 (by kernel_rfl)
      have d15 : f.tmps[37]? = some (wv 0 2) := (hv 15 37 rfl).trans (congrArg some h15)
      clear h15
      have h13 : v 13 = .bool true := hd 13 (by kernel_rfl)
      have d13 : f.tmps[35]? = some (.bool true) := (hv 13 35 rfl).trans (congrArg some h13)
      clear h13
      clear hb hv hd
      refine wpOp_step rfl (fun K hK => ?_)
      go_simp
      refine (cmp_any 0 1 1 0 2 2 (by exact ⟨by decide, by decide, by decide, by decide, by decide⟩) (by exact ⟨by decide, by decide, by decide, by decide, by decide⟩) _).mono ?_
      rintro e w5 ⟨rfl, hb5⟩
      exact hK _ _ ⟨_, rfl, hb5, rfl, fun h => absurd h (by decide)⟩
    | 17, _ =>
      have h16 : v 16 = .int .i64 (-1) := hd 16 (by kernel_rfl)
      have d16 : f.tmps[38]? = some (.int .i64 (-1)) := (hv 16 38 rfl).trans (congrArg some h16)
      clear h16
      have h13 : v 13 = .bool true := hd 13 (by kernel_rfl)
      have d13 : f.tmps[35]? = some (.bool true) := (hv 13 35 rfl).trans (congrArg some h13)
      clear h13
      clear hb hv hd
      refine wpOp_step rfl (fun K hK => ?_)
      go_simp
      exact hK _ _ ⟨_, rfl, Below.refl _ _, rfl, fun h => absurd h (by decide)⟩
    | 18, _ =>
      have h13 : v 13 = .bool true := hd 13 (by kernel_rfl)
      have d13 : f.tmps[35]? = some (.bool true) := (hv 13 35 rfl).trans (congrArg some h13)
      clear h13
      have h17 : v 17 = .bool true := hd 17 (by kernel_rfl)
      have d17 : f.tmps[39]? = some (.bool true) := (hv 17 39 rfl).trans (congrArg some h17)
      clear h17
      clear hb hv hd
      refine wpOp_step rfl (fun K hK => ?_)
      go_simp
      exact hK _ _ ⟨_, rfl, Below.refl _ _, rfl, fun h => absurd h (by decide)⟩
    | k + 19, hk => exact absurd hk (by simp)
  · intro v w' hB hF hD
    have F0 : v 0 = wv 0 2 := hF 0 (by simp)
    have F1 : v 1 = wv 0 2 := hF 1 (by simp)
    have F2 : v 2 = .bool true := hF 2 (by simp)
    have F3 : v 3 = .bool true := hF 3 (by simp)
    have F4 : v 4 = wv 0 4 := hF 4 (by simp)
    have F5 : v 5 = wv 0 4 := hF 5 (by simp)
    have F6 : v 6 = .bool true := hF 6 (by simp)
    have F7 : v 7 = .bool true := hF 7 (by simp)
    have F8 : v 8 = .bool true := hF 8 (by simp)
    have F9 : v 9 = wv (-1) 18446744073709551612 := hF 9 (by simp)
    have F10 : v 10 = wv (-1) 18446744073709551612 := hF 10 (by simp)
    have F11 : v 11 = .bool true := hF 11 (by simp)
    have F12 : v 12 = .bool true := hF 12 (by simp)
    have F13 : v 13 = .bool true := hF 13 (by simp)
    have F14 : v 14 = wv 0 1 := hF 14 (by simp)
    have F15 : v 15 = wv 0 2 := hF 15 (by simp)
    have F16 : v 16 = .int .i64 (-1) := hF 16 (by simp)
    have F17 : v 17 = .bool true := hF 17 (by simp)
    have F18 : v 18 = .bool true := hF 18 (by simp)
    clear hF
    simp only [frOf, frGo, Nat.zero_add, Nat.reduceAdd, F0, F1, F2, F3, F4, F5, F6, F7, F8, F9, F10, F11, F12, F13, F14, F15, F16, F17, F18]
    have B3 := b_trans B2 hB
    clear hB hD
    go_wp2
    go_ret
    exact ⟨rfl, B3⟩

end Go.Proofs.Ytlgnenogieehnaa
