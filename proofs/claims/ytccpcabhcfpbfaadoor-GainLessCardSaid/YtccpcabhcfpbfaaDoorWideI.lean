/- Package wide: floor whole, Div and Even: each call's answer, for every argument. -/
import Derived.Test.YtccpcabhcfpbfaaDoorWideH
namespace Go.Proofs.YtccpcabhcfpbfaaDoor
open Go.RowKit Go.Shelf

theorem qf_fits {a b : Int} (x : Fits a) (b0 : b ≠ 0) (c : ¬ (a = -170141183460469231731687303715884105728 ∧ b = -1)) : Fits (qf a b) := by
  rcases Bool.eq_false_or_eq_true (decide (a < 0)) with ha | ha <;> rcases Bool.eq_false_or_eq_true (decide (b < 0)) with hb | hb
  · have hs : decide (a < 0) = decide (b < 0) := by rw [ha, hb]
    obtain ⟨x0, x1⟩ := x
    unfold qf
    rw [(sg_cases a b).1 hs]
    simp at ha hb
    have n0 : 0 ≤ (a.natAbs : Int) / (b.natAbs : Int) := Int.ediv_nonneg (by omega) (by omega)
    refine ⟨by omega, ?_⟩
    by_cases hm : a = -170141183460469231731687303715884105728
    · have : (a.natAbs : Int) / (b.natAbs : Int) < 170141183460469231731687303715884105728 := Int.ediv_lt_of_lt_mul (by omega) (by omega)
      omega
    · exact Int.le_trans (Int.ediv_le_self _ (by omega)) (by omega)
  · exact fits_qf x b0 (by rw [ha, hb]; rfl)
  · exact fits_qf x b0 (by rw [ha, hb]; rfl)
  · have hs : decide (a < 0) = decide (b < 0) := by rw [ha, hb]
    obtain ⟨x0, x1⟩ := x
    unfold qf
    rw [(sg_cases a b).1 hs]
    simp at ha hb
    have n0 : 0 ≤ (a.natAbs : Int) / (b.natAbs : Int) := Int.ediv_nonneg (by omega) (by omega)
    refine ⟨by omega, ?_⟩
    exact Int.le_trans (Int.ediv_le_self _ (by omega)) (by omega)

theorem qf_not {a b : Int} (c : a = -170141183460469231731687303715884105728 ∧ b = -1) : qf a b = 170141183460469231731687303715884105728 ∧ rf a b = 0 := by
  obtain ⟨rfl, rfl⟩ := c
  exact ⟨by decide, by decide⟩

theorem floor_any (ah al a b : Int) (x : IsW ah al a) (b0 : b ≠ 0) (bl : -9223372036854775808 ≤ b) (bu : b ≤ 9223372036854775807) (c : ¬ (a = -170141183460469231731687303715884105728 ∧ b = -1)) (w : World) :
    Calls Tryd.prog 47 #[wv ah al, .int .i64 b] w (RetF (qf a b) (rf a b) 0 w) := by
  have g : ((ah == -9223372036854775808) = false) ∨ ((ah == -9223372036854775808) = true ∧ (al == 0) = false) ∨ ((ah == -9223372036854775808) = true ∧ (al == 0) = true ∧ (b == -1) = false) := by
    by_cases h1 : ah = -9223372036854775808
    · by_cases h2 : al = 0
      · refine Or.inr (Or.inr ⟨by simpa using h1, by simpa using h2, ?_⟩)
        rw [beq_eq_false_iff_ne]
        intro h3
        exact c ⟨by rw [← x.e, h1, h2]; decide, h3⟩
      · exact Or.inr (Or.inl ⟨by simpa using h1, by rw [beq_eq_false_iff_ne]; exact h2⟩)
    · exact Or.inl (by rw [beq_eq_false_iff_ne]; exact h1)
  have hf := qf_fits x.fits b0 c
  rcases Bool.eq_false_or_eq_true (decide (a < 0)) with ha | ha <;> rcases Bool.eq_false_or_eq_true (decide (b < 0)) with hb | hb
  · exact floor_same ah al a b x b0 bl bu g (by rw [ha, hb]) hf w
  · by_cases h0 : (a.natAbs : Int) % (b.natAbs : Int) = 0
    · exact floor_diff0 ah al a b x b0 bl bu g (by rw [ha, hb]; rfl) h0 w
    · exact floor_diff1 ah al a b x b0 bl bu g (by rw [ha, hb]; rfl) h0 w
  · by_cases h0 : (a.natAbs : Int) % (b.natAbs : Int) = 0
    · exact floor_diff0 ah al a b x b0 bl bu g (by rw [ha, hb]; rfl) h0 w
    · exact floor_diff1 ah al a b x b0 bl bu g (by rw [ha, hb]; rfl) h0 w
  · exact floor_same ah al a b x b0 bl bu g (by rw [ha, hb]) hf w

theorem floor_bad (ah al a : Int) (x : IsW ah al a) (b : Int) (c : a = -170141183460469231731687303715884105728 ∧ b = -1) (w : World) :
    Calls Tryd.prog 47 #[wv ah al, .int .i64 b] w (RetF 0 0 3 w) := by
  obtain ⟨rfl, rfl⟩ := c
  have : ah = -9223372036854775808 ∧ al = 0 := by obtain ⟨_, _, _, _, e⟩ := x; omega
  obtain ⟨rfl, rfl⟩ := this
  exact floor_min w

set_option maxHeartbeats 1000000 in
set_option maxRecDepth 10000 in
theorem even_err (ah al b c : Int) (c0 : (c == 0) = false) (cF : ∀ w, Calls Tryd.prog 47 #[wv ah al, .int .i64 b] w (RetF 0 0 c w)) (w : World) :
    Calls Tryd.prog 33 #[wv ah al, .int .i64 b] w (RetWE 0 c w) := by
  go_enter Tryd.func33, Tryd.ntmps33
  go_wp2_with fail
  refine (cF _).mono ?_
  rintro e w1 ⟨h, l, rfl, hz, hb⟩
  have r1 : WC w1 (w.heap.size + 1) 0 0 := wc_keep hb (by simp [WC, go_sem])
  have f1 : WF w1 (w.heap.size + 1) := wf_keep hb (h := 0) (l := 0) (by simp [WC, go_sem]) (by simp [WF, go_sem])
  have B1 : Below w.heap.size w w1 := b_trans (b_alloc (b_alloc (Below.refl _ _))) hb
  have r2 := wc_alloc (o := Obj.cells #[.int .i64 h, .int .u64 l] 58) r1
  have f2 := wf_keep (b_alloc (o := Obj.cells #[.int .i64 h, .int .u64 l] 58) (Below.refl _ _)) r1 f1
  clear r1 f1 hb
  go_wp2
  exact bodyPost_ret (v := .tuple #[wv 0 0, .int .i64 c]) (by simp [results, Tryd.results33, go_sem, r2]) rfl ⟨_, _, rfl, isW_zero, b_set (b_set (b_alloc B1) (by simp)) (by simp)⟩

/-- a through b, rounded to even; b is not 0. -/
def ef (a b : Int) : Int := near (qf a b) (2 * rf a b - (b.natAbs : Int))

theorem rf_bd (a : Int) {b : Int} (b0 : b ≠ 0) : 0 ≤ rf a b ∧ rf a b < (b.natAbs : Int) := ⟨Int.emod_nonneg _ (by omega), Int.emod_lt_of_pos _ (by omega)⟩

theorem qf_half {a b : Int} (x : Fits a) (b0 : 2 ≤ (b.natAbs : Int)) : Fits (qf a b + 1) := by
  obtain ⟨x0, x1⟩ := x
  unfold qf sg
  have h : ∀ n : Int, -170141183460469231731687303715884105728 ≤ n → n ≤ 170141183460469231731687303715884105728 → Fits (n / (b.natAbs : Int) + 1) := by
    intro n n0 n1
    have l1 : -170141183460469231731687303715884105728 ≤ n / (b.natAbs : Int) := Int.le_ediv_of_mul_le (by omega) (by omega)
    have l2 : n / (b.natAbs : Int) < 100000000000000000000000000000000000000 := Int.ediv_lt_of_lt_mul (by omega) (by omega)
    exact ⟨by omega, by omega⟩
  split
  · exact h _ (by omega) (by omega)
  · exact h _ (by omega) (by omega)

set_option maxHeartbeats 2000000 in
set_option maxRecDepth 10000 in
theorem even_ok (ah al a b : Int) (x : IsW ah al a) (b0 : b ≠ 0) (bl : -9223372036854775808 ≤ b) (bu : b ≤ 9223372036854775807) (c : ¬ (a = -170141183460469231731687303715884105728 ∧ b = -1)) (w : World) :
    Calls Tryd.prog 33 #[wv ah al, .int .i64 b] w (RetWE (ef a b) 0 w) := by
  have cF := floor_any ah al a b x b0 bl bu c
  have cB := size_any b bl bu
  obtain ⟨q0, q1⟩ := rf_bd a b0
  have bm : (b.natAbs : Int) ≤ 9223372036854775808 := by omega
  obtain ⟨h, l, hq⟩ : ∃ h l, IsW h l (qf a b) := ⟨_, _, IsW.mk' (qf_fits x.fits b0 c)⟩
  have cC := cmp_any 0 (rf a b) (rf a b) 0 ((b.natAbs : Int) - rf a b) ((b.natAbs : Int) - rf a b) ⟨by decide, by decide, by omega, by omega, by omega⟩ ⟨by decide, by decide, by omega, by omega, by omega⟩
  generalize hside : cmp3 (rf a b) ((b.natAbs : Int) - rf a b) = side at cC
  have cN : ∀ w, Calls Tryd.prog 49 #[wv h l, .int .i64 side] w (RetW (ef a b) w) := by
    intro w
    have sgn := cmp3_sign (rf a b) ((b.natAbs : Int) - rf a b)
    rw [hside] at sgn
    have e : ef a b = near (qf a b) side := by
      unfold ef
      apply near_sign
      omega
    rw [e]
    by_cases d : 0 < side ∨ (side = 0 ∧ qf a b % 2 = 1)
    · exact near_ups h l _ side hq d (qf_half x.fits (by omega)) w
    · exact near_stays h l _ side hq d w
  generalize ef a b = z at *
  generalize qf a b = q at *
  generalize rf a b = r at *
  generalize (b.natAbs : Int) = B at *
  clear hside x b0 bl bu c
  go_enter Tryd.func33, Tryd.ntmps33
  go_wp2_with fail
  refine (cF _).mono ?_
  rintro e w1 ⟨h', l', rfl, hz, hb⟩
  obtain ⟨rfl, rfl⟩ := (hq.inj hz).2 rfl
  clear hz
  have r1 : WC w1 (w.heap.size + 1) 0 0 := wc_keep hb (by simp [WC, go_sem])
  have f1 : WF w1 (w.heap.size + 1) := wf_keep hb (h := 0) (l := 0) (by simp [WC, go_sem]) (by simp [WF, go_sem])
  have B1 : Below w.heap.size w w1 := b_trans (b_alloc (b_alloc (Below.refl _ _))) hb
  have r2 := wc_alloc (o := Obj.cells #[.int .i64 h, .int .u64 l] 58) r1
  have f2 := wf_keep (b_alloc (o := Obj.cells #[.int .i64 h, .int .u64 l] 58) (Below.refl _ _)) r1 f1
  have B2 := b_alloc (o := Obj.cells #[.int .i64 h, .int .u64 l] 58) B1
  have k2 : WC (w1.alloc (Obj.cells #[.int .i64 h, .int .u64 l] 58)) w1.heap.size h l := by simp [WC, go_sem]
  clear r1 f1 hb B1
  go_wp2_with fail
  refine (cB _).mono ?_
  rintro e w2 ⟨rfl, rfl⟩
  go_wp2
  refine region_each [25, 26, 27, 28, 29, 30, 31] (fun i x u => match i with | 0 => x = wv h l | 1 => x = .int .u64 r | 2 => x = wv 0 r | 3 => x = .int .u64 (B - r) | 4 => x = wv 0 (B - r) | 5 => x = .int .i64 side | 6 => ∃ zh zl, x = wv zh zl ∧ IsW zh zl z | _ => True) (fun i => false) (by kernel_rfl) (by kernel_rfl) (by kernel_rfl) (by kernel_rfl) (by kernel_rfl) ?_ ?_ ?_ ?_
  · intro i x w w' hi h hb
    match i, hi with
    | 0, _ => exact h
    | 1, _ => exact h
    | 2, _ => exact h
    | 3, _ => exact h
    | 4, _ => exact h
    | 5, _ => exact h
    | 6, _ => exact h
    | k + 7, hk => exact absurd hk (by simp)
  · intro i x w hi ha h
    cases ha
  · intro i hi v f w' hb hv hB hd
    match i, hi with
    | 0, _ =>
      have b6 : f.tmps[6]? = some (.pointer (some ⟨w1.heap.size, 0, none⟩)) := (hb 6 (by decide)).trans rfl
      clear hb hv hd
      have c := wc_keep hB k2
      refine wpOp_step rfl (fun K hK => ?_)
      go_simp
      exact hK _ _ ⟨_, rfl, Below.refl _ _, rfl, fun h => absurd h (by decide)⟩
    | 1, _ =>
      have b7 : f.tmps[7]? = some (.int .u64 r) := (hb 7 (by decide)).trans rfl
      clear hb hv hd
      refine wpOp_step rfl (fun K hK => ?_)
      go_simp
      exact hK _ _ ⟨_, rfl, Below.refl _ _, rfl, fun h => absurd h (by decide)⟩
    | 2, _ =>
      have h1 : v 1 = .int .u64 r := hd 1 (by kernel_rfl)
      have d1 : f.tmps[26]? = some (.int .u64 r) := (hv 1 26 rfl).trans (congrArg some h1)
      clear h1
      clear hb hv hd
      refine wpOp_step rfl (fun K hK => ?_)
      go_simp
      exact hK _ _ ⟨_, rfl, Below.refl _ _, rfl, fun h => absurd h (by decide)⟩
    | 3, _ =>
      have b9 : f.tmps[9]? = some (.int .u64 (B - r)) := (hb 9 (by decide)).trans rfl
      clear hb hv hd
      refine wpOp_step rfl (fun K hK => ?_)
      go_simp
      exact hK _ _ ⟨_, rfl, Below.refl _ _, rfl, fun h => absurd h (by decide)⟩
    | 4, _ =>
      have h3 : v 3 = .int .u64 (B - r) := hd 3 (by kernel_rfl)
      have d3 : f.tmps[28]? = some (.int .u64 (B - r)) := (hv 3 28 rfl).trans (congrArg some h3)
      clear h3
      clear hb hv hd
      refine wpOp_step rfl (fun K hK => ?_)
      go_simp
      exact hK _ _ ⟨_, rfl, Below.refl _ _, rfl, fun h => absurd h (by decide)⟩
    | 5, _ =>
      have h2 : v 2 = wv 0 r := hd 2 (by kernel_rfl)
      have d2 : f.tmps[27]? = some (wv 0 r) := (hv 2 27 rfl).trans (congrArg some h2)
      clear h2
      have h4 : v 4 = wv 0 (B - r) := hd 4 (by kernel_rfl)
      have d4 : f.tmps[29]? = some (wv 0 (B - r)) := (hv 4 29 rfl).trans (congrArg some h4)
      clear h4
      clear hb hv hd
      refine wpOp_step rfl (fun K hK => ?_)
      go_simp
      refine (cC _).mono ?_
      rintro e w5 ⟨rfl, hb5⟩
      exact hK _ _ ⟨_, rfl, hb5, rfl, fun h => absurd h (by decide)⟩
    | 6, _ =>
      have h0 : v 0 = wv h l := hd 0 (by kernel_rfl)
      have d0 : f.tmps[25]? = some (wv h l) := (hv 0 25 rfl).trans (congrArg some h0)
      clear h0
      have h5 : v 5 = .int .i64 side := hd 5 (by kernel_rfl)
      have d5 : f.tmps[30]? = some (.int .i64 side) := (hv 5 30 rfl).trans (congrArg some h5)
      clear h5
      clear hb hv hd
      refine wpOp_step rfl (fun K hK => ?_)
      go_simp
      refine (cN _).mono ?_
      rintro e w5 ⟨zh, zl, rfl, hz, hb5⟩
      exact hK _ _ ⟨_, rfl, hb5, ⟨zh, zl, rfl, hz⟩, fun h => absurd h (by decide)⟩
    | k + 7, hk => exact absurd hk (by simp)
  · intro v w' hB hF hD
    have F0 : v 0 = wv h l := hF 0 (by simp)
    have F1 : v 1 = .int .u64 r := hF 1 (by simp)
    have F2 : v 2 = wv 0 r := hF 2 (by simp)
    have F3 : v 3 = .int .u64 (B - r) := hF 3 (by simp)
    have F4 : v 4 = wv 0 (B - r) := hF 4 (by simp)
    have F5 : v 5 = .int .i64 side := hF 5 (by simp)
    have F6 : ∃ zh zl, v 6 = wv zh zl ∧ IsW zh zl z := hF 6 (by simp)
    clear hF
    obtain ⟨zh, zl, e6, hz'⟩ := F6
    simp only [frOf, frGo, Nat.zero_add, Nat.reduceAdd, F0, F1, F2, F3, F4, F5, e6]
    have r3 := wc_keep hB r2
    have f3 := wf_keep hB r2 f2
    have B3 := b_trans B2 hB
    clear k2 r2 f2 B2 hB hD
    go_wp2
    exact bodyPost_ret (v := .tuple #[wv zh zl, .int .i64 0]) (by simp [results, Tryd.results33, go_sem, r3]) rfl ⟨_, _, rfl, hz', b_set (b_set B3 (by simp)) (by simp)⟩

theorem even_zero (ah al : Int) (w : World) : Calls Tryd.prog 33 #[wv ah al, .int .i64 0] w (RetWE 0 4 w) :=
  even_err ah al 0 4 (by decide) (fun w => floor_zero ah al w) w

theorem ef_fits {a b : Int} (x : Fits a) (b0 : b ≠ 0) (c : ¬ (a = -170141183460469231731687303715884105728 ∧ b = -1)) : Fits (ef a b) := by
  obtain ⟨q0, q1⟩ := rf_bd a b0
  unfold ef near
  split
  · exact qf_half x (by omega)
  · exact qf_fits x b0 c

theorem even_any (ah al a b : Int) (x : IsW ah al a) (b0 : b ≠ 0) (bl : -9223372036854775808 ≤ b) (bu : b ≤ 9223372036854775807) (w : World) :
    Calls Tryd.prog 33 #[wv ah al, .int .i64 b] w (RetWE (fz (ef a b)) (fe (ef a b)) w) := by
  by_cases c : a = -170141183460469231731687303715884105728 ∧ b = -1
  · have e : ef a b = 170141183460469231731687303715884105728 := by
      obtain ⟨rfl, rfl⟩ := c
      decide
    rw [e]
    exact even_err ah al b 3 (by decide) (fun w => floor_bad ah al a x b c w) w
  · have hf := ef_fits x.fits b0 c
    rw [fz_of hf, fe_of hf]
    exact even_ok ah al a b x b0 bl bu c w

end Go.Proofs.YtccpcabhcfpbfaaDoor
