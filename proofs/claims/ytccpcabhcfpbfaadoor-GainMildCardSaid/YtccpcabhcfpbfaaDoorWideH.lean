/- Package wide: floor, where the signs differ and something is left. -/
import Derived.Test.YtccpcabhcfpbfaaDoorWideG
namespace Go.Proofs.YtccpcabhcfpbfaaDoor
open Go.RowKit Go.Shelf

theorem fits_qf {a b : Int} (x : Fits a) (b0 : b ≠ 0) (hs : decide (a < 0) = !decide (b < 0)) : Fits (qf a b) := by
  obtain ⟨x0, x1⟩ := x
  unfold qf
  rw [(sg_cases a b).2 hs]
  refine ⟨Int.le_ediv_of_mul_le (by omega) (by omega), ?_⟩
  have : -(a.natAbs : Int) / (b.natAbs : Int) < 1 := Int.ediv_lt_of_lt_mul (by omega) (by omega)
  omega

set_option maxHeartbeats 4000000 in
set_option maxRecDepth 10000 in
theorem floor_diff1 (ah al a b : Int) (x : IsW ah al a) (b0 : b ≠ 0) (bl : -9223372036854775808 ≤ b) (bu : b ≤ 9223372036854775807)
    (g : ((ah == -9223372036854775808) = false) ∨ ((ah == -9223372036854775808) = true ∧ (al == 0) = false) ∨ ((ah == -9223372036854775808) = true ∧ (al == 0) = true ∧ (b == -1) = false))
    (hs : decide (a < 0) = !decide (b < 0)) (hr : (a.natAbs : Int) % (b.natAbs : Int) ≠ 0) (w : World) :
    Calls Tryd.prog 47 #[wv ah al, .int .i64 b] w (RetF (qf a b) (rf a b) 0 w) := by
  obtain ⟨sh, sl, hS⟩ : ∃ sh sl, IsW sh sl (w128 (a.natAbs : Int)) := ⟨_, _, IsW.mk' (w128_fits _)⟩
  have cW := fun w => (wsize_any ah al a x w).mono fun _ _ => retW_det hS
  have cB := size_any b bl bu
  have cV0 := divide_any sh sl _ (a.natAbs : Int) (b.natAbs : Int) hS (w128_nat x.fits).symm (by omega) (by omega)
  have nd := neg_div (a.natAbs : Int) (b.natAbs : Int) (by omega) (by omega)
  have q0 : 0 ≤ (a.natAbs : Int) / (b.natAbs : Int) := Int.ediv_nonneg (by omega) (by omega)
  have q1 : (a.natAbs : Int) / (b.natAbs : Int) ≤ 170141183460469231731687303715884105728 := by
    have := x.fits.lo
    have := x.fits.hi
    exact Int.le_trans (Int.ediv_le_self _ (by omega)) (by omega)
  have rr0 : 0 ≤ (a.natAbs : Int) % (b.natAbs : Int) := Int.emod_nonneg _ (by omega)
  have rr1 : (a.natAbs : Int) % (b.natAbs : Int) < (b.natAbs : Int) := Int.emod_lt_of_pos _ (by omega)
  have eq : qf a b = -(a.natAbs : Int) / (b.natAbs : Int) := by unfold qf; rw [(sg_cases a b).2 hs]
  have er : rf a b = -(a.natAbs : Int) % (b.natAbs : Int) := by unfold rf; rw [(sg_cases a b).2 hs]
  have ez := (nd.2 hr).1
  have ew := (nd.2 hr).2
  rw [← eq] at ez
  rw [← er] at ew
  obtain ⟨qh, ql, hq⟩ : ∃ qh ql, IsW qh ql (w128 ((a.natAbs : Int) / (b.natAbs : Int))) := ⟨_, _, IsW.mk' (w128_fits _)⟩
  obtain ⟨oh, ol, ho⟩ : ∃ oh ol, IsW oh ol 0 := ⟨_, _, isW_zero⟩
  have cO := fun w => (of_any 0 (by decide) (by decide) w).mono fun _ _ => retW_det ho
  have em : w128 (0 - w128 ((a.natAbs : Int) / (b.natAbs : Int))) = -((a.natAbs : Int) / (b.natAbs : Int)) := by
    generalize (a.natAbs : Int) / (b.natAbs : Int) = q at *
    unfold w128; omega
  obtain ⟨mh, ml, hm⟩ : ∃ mh ml, IsW mh ml (w128 (0 - w128 ((a.natAbs : Int) / (b.natAbs : Int)))) := ⟨_, _, IsW.mk' (w128_fits _)⟩
  have cM := fun w => (minus_any oh ol 0 qh ql _ ho hq w).mono fun _ _ => retW_det hm
  rw [em] at hm
  obtain ⟨ih, il, hI⟩ : ∃ ih il, IsW ih il 1 := ⟨_, _, IsW.mk' ⟨by decide, by decide⟩⟩
  have cI := fun w => (of_any 1 (by decide) (by decide) w).mono fun _ _ => retW_det hI
  have hfit : w128 (-((a.natAbs : Int) / (b.natAbs : Int)) - 1) = qf a b := by
    rw [← ez]
    apply w128_of
    have := fits_qf x.fits b0 hs
    exact this
  obtain ⟨nh, nl, hn⟩ : ∃ nh nl, IsW nh nl (w128 (-((a.natAbs : Int) / (b.natAbs : Int)) - 1)) := ⟨_, _, IsW.mk' (w128_fits _)⟩
  have cL := fun w => (minus_any mh ml _ ih il 1 hm hI w).mono fun _ _ => retW_det hn
  rw [hfit] at hn
  have hr' : ((a.natAbs : Int) % (b.natAbs : Int) == 0) = false := by rw [beq_eq_false_iff_ne]; exact hr
  have bm : (b.natAbs : Int) ≤ 9223372036854775808 := by omega
  generalize (a.natAbs : Int) % (b.natAbs : Int) = R at *
  generalize hB' : (b.natAbs : Int) = B at *
  clear hfit hB' hI
  have cN := neg_any ah al a x
  have bb : decide (b < 0) = !decide (a < 0) := by rw [hs]; simp
  generalize hda : decide (a < 0) = da at *
  have b1 : (b == 0) = false := by rw [beq_eq_false_iff_ne]; exact b0
  generalize qf a b = z at *
  generalize rf a b = r at *
  clear nd eq er em q0 q1 hS x hs b0 ho hda ez hr hm
  rcases g with g | ⟨g, g2⟩ | ⟨g, g2, g3⟩ <;> cases da
  all_goals
    simp only [Bool.not_true, Bool.not_false] at bb
    go_enter Tryd.func47, Tryd.ntmps47
    go_wp2_with fail
    refine (cW _).mono ?_
    rintro e w1 ⟨rfl, hb1⟩
    have k1 : WC w1 w.heap.size ah al := wc_keep hb1 (by simp [WC, go_sem, World.cell?_alloc_past])
    have r1 : WC w1 (w.heap.size + 1) 0 0 := wc_keep hb1 (by simp [WC, go_sem])
    have f1 : WF w1 (w.heap.size + 1) := wf_keep hb1 (h := 0) (l := 0) (by simp [WC, go_sem]) (by simp [WF, go_sem])
    have B1 : Below w.heap.size w w1 := b_trans (b_alloc (b_alloc (Below.refl _ _))) hb1
    clear hb1
    go_wp2_with fail
    refine (cB _).mono ?_
    rintro e w1 ⟨rfl, rfl⟩
    go_wp2_with fail
    refine (cV0 _).mono ?_
    rintro e w2 ⟨qh', ql', rfl, hq', hb2⟩
    obtain ⟨rfl, rfl⟩ := (hq.inj hq').2 rfl
    clear hq'
    have k2 := wc_alloc (o := Obj.cells #[.int .i64 qh, .int .u64 ql] 58) (wc_keep hb2 k1)
    have r2 := wc_keep hb2 r1
    have f2 := wf_keep hb2 r1 f1
    have B2 := b_trans B1 hb2
    have hne : w2.heap.size ≠ w.heap.size + 1 := by have := wc_lt r2; omega
    have hle : w.heap.size ≤ w2.heap.size := B2.size
    clear k1 r1 f1 B1 hb2
    go_wp2_with fail
    refine (cN _).mono ?_
    rintro e w3 ⟨rfl, hb3⟩
    have k3 : WC w3 w2.heap.size qh ql := wc_keep hb3 (by simp [WC, go_sem])
    have fk3 : WF w3 w2.heap.size := wf_keep hb3 (h := qh) (l := ql) (by simp [WC, go_sem]) (by simp [WF, go_sem])
    have r3 := wc_keep hb3 (wc_alloc r2)
    have f3 := wf_keep hb3 (wc_alloc r2) (wf_keep (b_alloc (Below.refl _ _)) r2 f2)
    have B3 := b_trans (b_alloc B2) hb3
    clear r2 f2 B2 hb3 k2
    go_wp2
    refine region_each [35, 36, 37] (fun i x u => match i with | 0 => x = wv oh ol | 1 => x = wv qh ql | 2 => x = wv mh ml | _ => True) (fun i => false) (by kernel_rfl) (by kernel_rfl) (by kernel_rfl) (by kernel_rfl) (by kernel_rfl) ?_ ?_ ?_ ?_
    · intro i x w w' hi h hb
      match i, hi with
      | 0, _ => exact h
      | 1, _ => exact h
      | 2, _ => exact h
      | k + 3, hk => exact absurd hk (by simp)
    · intro i x w hi ha h
      cases ha
    · intro i hi v f w' hb hv hB hd
      match i, hi with
      | 0, _ =>
        clear hb hv hd
        refine wpOp_step rfl (fun K hK => ?_)
        go_simp
        refine (cO _).mono ?_
        rintro e w5 ⟨rfl, hb5⟩
        exact hK _ _ ⟨_, rfl, hb5, rfl, fun h => absurd h (by decide)⟩
      | 1, _ =>
        have b7 : f.tmps[7]? = some (.pointer (some ⟨w2.heap.size, 0, none⟩)) := (hb 7 (by decide)).trans rfl
        clear hb hv hd
        have c := wc_keep hB k3
        refine wpOp_step rfl (fun K hK => ?_)
        go_simp
        exact hK _ _ ⟨_, rfl, Below.refl _ _, rfl, fun h => absurd h (by decide)⟩
      | 2, _ =>
        have h0 : v 0 = wv oh ol := hd 0 (by kernel_rfl)
        have d0 : f.tmps[35]? = some (wv oh ol) := (hv 0 35 rfl).trans (congrArg some h0)
        clear h0
        have h1 : v 1 = wv qh ql := hd 1 (by kernel_rfl)
        have d1 : f.tmps[36]? = some (wv qh ql) := (hv 1 36 rfl).trans (congrArg some h1)
        clear h1
        clear hb hv hd
        refine wpOp_step rfl (fun K hK => ?_)
        go_simp
        refine (cM _).mono ?_
        rintro e w5 ⟨rfl, hb5⟩
        exact hK _ _ ⟨_, rfl, hb5, rfl, fun h => absurd h (by decide)⟩
      | k + 3, hk => exact absurd hk (by simp)
    · intro v w' hB hF hD
      have F0 : v 0 = wv oh ol := hF 0 (by simp)
      have F1 : v 1 = wv qh ql := hF 1 (by simp)
      have F2 : v 2 = wv mh ml := hF 2 (by simp)
      clear hF
      simp only [frOf, frGo, Nat.zero_add, Nat.reduceAdd, F0, F1, F2]
      have k4 := wc_keep hB k3
      have fk4 := wf_keep hB k3 fk3
      have r4 := wc_keep hB r3
      have f4 := wf_keep hB r3 f3
      have B4 := b_trans B3 hB
      clear k3 fk3 r3 f3 B3 hB hD
      go_wp2
      have k5 : WC ((w'.setCell ⟨w2.heap.size, 0, none⟩ (.int .i64 mh)).setCell ⟨w2.heap.size, 1, none⟩ (.int .u64 ml)) w2.heap.size mh ml := wc_mine k4
      have r5 := wc_set (b1 := w2.heap.size) (o := 1) (v := .int .u64 ml) (wc_set (b1 := w2.heap.size) (o := 0) (v := .int .i64 mh) r4 hne) hne
      have f5 := wf_set (b1 := w2.heap.size) (o := 1) (v := .int .u64 ml) (wf_set (b1 := w2.heap.size) (o := 0) (v := .int .i64 mh) f4)
      have B5 := b_set (p := ⟨w2.heap.size, 1, none⟩) (v := .int .u64 ml) (b_set (p := ⟨w2.heap.size, 0, none⟩) (v := .int .i64 mh) B4 hle) hle
      clear k4 fk4 r4 f4 B4
      have hSz : w.heap.size + 1 ≠ w2.heap.size := fun h => hne h.symm
      have sq : IntKind.u64.wrap (B - R) = B - R := by rw [wrapu]; omega
      go_region_held3 (fun u => Below w.heap.size w u ∧ WC u w2.heap.size mh ml) (first | assumption | exact s1_keep (by assumption) (by assumption) | exact s1_set (by assumption) (by omega) (by omega) | exact s1_keep ⟨B5, k5⟩ (b_drew (Below.refl _ _)))
        (first
          | (go_at_call 52; refine (cI _).mono ?_; rintro e w6 ⟨rfl, hb6⟩; have r6 := wc_keep hb6 r5; have f6 := wf_keep hb6 r5 f5)
          | (go_at_call 61; refine (cL _).mono ?_; rintro e w7 ⟨rfl, hb7⟩; have r7 := wc_keep hb7 r6; have f7 := wf_keep hb7 r6 f6)
          | (go_at_call 48; refine (cB _).mono ?_; rintro e w8 ⟨rfl, rfl⟩))
      all_goals
        rename_i hS
        go_wp2
        exact bodyPost_ret (v := .tuple #[wv nh nl, .int .u64 (B - R), .int .i64 0]) (by simp [results, Tryd.results47, go_sem, r7]) rfl ⟨_, _, by rw [ew], hn, hS.1⟩

end Go.Proofs.YtccpcabhcfpbfaaDoor
