/- RootSquares: what the law's call answers: true, for every integer. -/
import Derived.Test.YtgfknmomljjhfaaRootC
import Derived.Test.YtgfknmomljjhfaaLate
import Derived.Test.YtgfknmomljjhfaaWideC
namespace Go.Proofs.Ytgfknmomljjhfaa
open Go.RowKit Go.Shelf

set_option maxHeartbeats 4000000 in
theorem rootSquares_any (x : Int) (x0 : -9223372036854775808 ≤ x) (x1 : x ≤ 9223372036854775807) (w : World) :
    Calls Try.prog 5 #[.int .i64 x] w (RetV (.bool true) w) := by
  by_cases c : x < 1
  · go_enter Try.func5, Try.ntmps5
    go_wp2_with fail
    refine (fixed_root _).mono ?_
    rintro e w1 ⟨rfl, hb1⟩
    go_wp2
    go_ret
    exact ⟨rfl, hb1⟩
  · have f := mul_fits x0 x1 x0 x1
    have p1 : 1 ≤ x * x := Int.le_trans (by decide) (Int.mul_le_mul (show 1 ≤ x by omega) (show 1 ≤ x by omega) (by decide) (by omega))
    have g : Fits (x * x - 1) := ⟨by have := f.lo; omega, by have := f.hi; omega⟩
    obtain ⟨ph, pl, hp⟩ : ∃ ph pl, IsW ph pl (x * x) := ⟨_, _, IsW.mk' f⟩
    obtain ⟨dh, dl, hd⟩ : ∃ dh dl, IsW dh dl (x * x - 1) := ⟨_, _, IsW.mk' g⟩
    have o1 : IsW 0 1 1 := ⟨by decide, by decide, by decide, by decide, by decide⟩
    have cO := fun w => (of_any 1 (by decide) (by decide) w).mono fun _ _ => retW_det o1
    have cS : ∀ w, Calls Try.prog 13 #[wv ph pl, wv 0 1] w (RetV (.tuple #[wv dh dl, .int .i64 0]) w) := fun w => (sub_any ph pl _ 0 1 1 hp o1 w).mono fun _ _ h => retWE_fix hd (by rwa [fz_of g, fe_of g] at h)
    have cA := root_of ph pl _ x hp (by omega) (root_square (by omega))
    have cB := root_of dh dl _ (x - 1) hd (by omega) (root_less (by omega))
    have cM := mean_of x x x (by omega) x1 (by omega) x1 (root_square (by omega))
    clear f g p1 hd o1
    go_enter Try.func5, Try.ntmps5
    go_wp2_with fail
    refine ((mul_any x x x0 x1 x0 x1 _).mono fun _ _ => retW_det hp).mono ?_
    rintro e w1 ⟨rfl, hb1⟩
    have k1 : WC (w1.alloc (Obj.cells #[.int .i64 ph, .int .u64 pl] 24)) w1.heap.size ph pl := by simp [WC, go_sem]
    have B := b_alloc (o := Obj.cells #[.int .i64 ph, .int .u64 pl] 24) hb1
    clear hb1 hp
    go_wp2
    generalize w1.alloc (Obj.cells #[.int .i64 ph, .int .u64 pl] 24) = W1 at *
    generalize w1.heap.size = P at *
    refine region_late [17, 18, 19, 16, 20, 21, 4] 5 (fun i X_ U_ => match i with | 0 => X_ = wv ph pl | 1 => X_ = wv 0 1 | 2 => X_ = .tuple #[wv dh dl, .int .i64 0] | 3 => X_ = .tuple #[wv dh dl, .int .i64 0] | 4 => X_ = wv dh dl | 5 => X_ = .int .i64 0 | 6 => ∃ g, X_ = .pointer (some ⟨g, 0, none⟩) ∧ W1.heap.size ≤ g ∧ WC U_ g 0 0 ∧ WF U_ g | _ => True) (fun i => i == 6) (by kernel_rfl) (by kernel_rfl) (by kernel_rfl) (by kernel_rfl) ?_ ?_ ?_ ?_ ?_
    · intro i x w w' hi h hb
      match i, hi with
      | 0, _ => exact h
      | 1, _ => exact h
      | 2, _ => exact h
      | 3, _ => exact h
      | 4, _ => exact h
      | 5, _ => exact h
      | 6, _ => obtain ⟨g, e, hg, hc, hf⟩ := h; exact ⟨g, e, hg, wc_keep hb hc, wf_keep hb hc hf⟩
      | k + 7, hk => exact absurd hk (by simp)
    · intro i x w hi ha h
      match i, hi with
      | 0, _ => exact absurd ha (by decide)
      | 1, _ => exact absurd ha (by decide)
      | 2, _ => exact absurd ha (by decide)
      | 3, _ => exact absurd ha (by decide)
      | 4, _ => exact absurd ha (by decide)
      | 5, _ => exact absurd ha (by decide)
      | 6, _ => obtain ⟨g, rfl, _, hg, _⟩ := h; exact wc_lt hg
      | k + 7, hk => exact absurd hk (by simp)
    · intro i hi v f w' hb hv hB hd
      match i, hi with
      | 0, _ =>
        have b3 : f.tmps[3]? = some (.pointer (some ⟨P, 0, none⟩)) := (hb 3 (by decide)).trans rfl
        clear hb hv hd
        have c := wc_keep hB k1
        refine wpOp_step rfl (fun K hK => ?_)
        go_simp
        exact hK _ _ ⟨_, rfl, Below.refl _ _, rfl, fun h => absurd h (by decide)⟩
      | 1, _ =>
        clear hb hv hd
        refine wpOp_step rfl (fun K hK => ?_)
        go_simp
        refine (cO _).mono ?_
        rintro e w5 ⟨rfl, hb5⟩
        exact hK _ _ ⟨_, rfl, hb5, rfl, fun h => absurd h (by decide)⟩
      | 2, _ =>
        have h0 : (v 0) = wv ph pl := hd 0 (by kernel_rfl)
        have d0 : f.tmps[17]? = some (wv ph pl) := (hv 0 17 rfl).trans (congrArg some h0)
        clear h0
        have h1 : (v 1) = wv 0 1 := hd 1 (by kernel_rfl)
        have d1 : f.tmps[18]? = some (wv 0 1) := (hv 1 18 rfl).trans (congrArg some h1)
        clear h1
        clear hb hv hd
        refine wpOp_step rfl (fun K hK => ?_)
        go_simp
        refine (cS _).mono ?_
        rintro e w5 ⟨rfl, hb5⟩
        exact hK _ _ ⟨_, rfl, hb5, rfl, fun h => absurd h (by decide)⟩
      | 3, _ =>
        have h2 : (v 2) = .tuple #[wv dh dl, .int .i64 0] := hd 2 (by kernel_rfl)
        have d2 : f.tmps[19]? = some (.tuple #[wv dh dl, .int .i64 0]) := (hv 2 19 rfl).trans (congrArg some h2)
        clear h2
        clear hb hv hd
        refine wpOp_step rfl (fun K hK => ?_)
        go_simp
        exact hK _ _ ⟨_, rfl, Below.refl _ _, rfl, fun h => absurd h (by decide)⟩
      | 4, _ =>
        have h3 : (v 3) = .tuple #[wv dh dl, .int .i64 0] := hd 3 (by kernel_rfl)
        have d3 : f.tmps[16]? = some (.tuple #[wv dh dl, .int .i64 0]) := (hv 3 16 rfl).trans (congrArg some h3)
        clear h3
        clear hb hv hd
        refine wpOp_step rfl (fun K hK => ?_)
        go_simp
        exact hK _ _ ⟨_, rfl, Below.refl _ _, rfl, fun h => absurd h (by decide)⟩
      | 5, _ =>
        have h3 : (v 3) = .tuple #[wv dh dl, .int .i64 0] := hd 3 (by kernel_rfl)
        have d3 : f.tmps[16]? = some (.tuple #[wv dh dl, .int .i64 0]) := (hv 3 16 rfl).trans (congrArg some h3)
        clear h3
        clear hb hv hd
        refine wpOp_step rfl (fun K hK => ?_)
        go_simp
        exact hK _ _ ⟨_, rfl, Below.refl _ _, rfl, fun h => absurd h (by decide)⟩
      | 6, _ =>
        clear hb hv hd
        refine wpOp_step rfl (fun K hK => ?_)
        go_simp
        exact hK _ _ ⟨_, rfl, b_alloc (Below.refl _ _), ⟨_, rfl, hB.size, by simp [WC, go_sem], by simp [WF, go_sem]⟩, fun _ => Nat.le_refl _⟩
      | k + 7, hk => exact absurd hk (by simp)
    · intro v w' hB hF hD
      have F0 : (v 0) = wv ph pl := hF 0 (by simp)
      have F1 : (v 1) = wv 0 1 := hF 1 (by simp)
      have F2 : (v 2) = .tuple #[wv dh dl, .int .i64 0] := hF 2 (by simp)
      have F3 : (v 3) = .tuple #[wv dh dl, .int .i64 0] := hF 3 (by simp)
      have F4 : (v 4) = wv dh dl := hF 4 (by simp)
      have F5 : (v 5) = .int .i64 0 := hF 5 (by simp)
      have F6 : ∃ g, (v 6) = .pointer (some ⟨g, 0, none⟩) ∧ W1.heap.size ≤ g ∧ WC w' g 0 0 ∧ WF w' g := hF 6 (by simp)
      clear hF
      obtain ⟨g, e6, p6, v6, f6⟩ := F6
      simp only [frOf, frGo, Nat.zero_add, Nat.reduceAdd, F0, F1, F2, F3, F4, F5, e6]
      have k2 := wc_mine (h' := dh) (l' := dl) v6
      have k3 : WC ((w'.setCell ⟨g, 0, none⟩ (.int .i64 dh)).setCell ⟨g, 1, none⟩ (.int .u64 dl)) P ph pl := wc_set (wc_set (wc_keep hB k1) (by have := wc_lt k1; omega)) (by have := wc_lt k1; omega)
      have B2 := b_set (p := ⟨g, 1, none⟩) (v := .int .u64 dl) (b_set (p := ⟨g, 0, none⟩) (v := .int .i64 dh) (b_trans B hB) (by have := B.size; show _ ≤ g; omega)) (by have := B.size; show _ ≤ g; omega)
      have KK := Lib.hid (And.intro k2 (And.intro k3 B2))
      clear F0 F1 F2 F3 F4 F5 e6 hB hD k1 k2 k3 B B2 cO cS
      go_step
      go_step
      clear v6 f6
      generalize (w'.setCell ⟨g, 0, none⟩ (.int .i64 dh)).setCell ⟨g, 1, none⟩ (.int .u64 dl) = W2 at *
      obtain ⟨k2, k3, B⟩ := KK.out
      clear KK
      go_wp2_with fail
      refine (cA _).mono ?_
      rintro e w5 ⟨rfl, hb5⟩
      replace k2 := wc_keep hb5 k2
      replace B := b_trans B hb5
      clear hb5 k3
      go_wp2_with fail
      refine (cB _).mono ?_
      rintro e w6 ⟨rfl, hb6⟩
      replace B := b_trans B hb6
      clear hb6 k2
      go_wp2_with fail
      refine (fixed_root _).mono ?_
      rintro e w7 ⟨rfl, hb7⟩
      replace B := b_trans B hb7
      clear hb7
      go_wp2_with fail
      refine (cM _).mono ?_
      rintro e w8 ⟨rfl, hb8⟩
      replace B := b_trans B hb8
      clear hb8
      go_wp2
      go_ret
      exact ⟨by simp, B⟩
    · intro v w' hB hF hD
      have F0 : (v 0) = wv ph pl := hF 0 (by simp) (by decide)
      have F1 : (v 1) = wv 0 1 := hF 1 (by simp) (by decide)
      have F2 : (v 2) = .tuple #[wv dh dl, .int .i64 0] := hF 2 (by simp) (by decide)
      have F3 : (v 3) = .tuple #[wv dh dl, .int .i64 0] := hF 3 (by simp) (by decide)
      have F4 : (v 4) = wv dh dl := hF 4 (by simp) (by decide)
      have F6 : ∃ g, (v 6) = .pointer (some ⟨g, 0, none⟩) ∧ W1.heap.size ≤ g ∧ WC w' g 0 0 ∧ WF w' g := hF 6 (by simp) (by decide)
      clear hF
      obtain ⟨g, e6, p6, v6, f6⟩ := F6
      simp only [frOf, frGo, Nat.zero_add, Nat.reduceAdd, F0, F1, F2, F3, F4, e6]
      have k2 := wc_mine (h' := dh) (l' := dl) v6
      have k3 : WC ((w'.setCell ⟨g, 0, none⟩ (.int .i64 dh)).setCell ⟨g, 1, none⟩ (.int .u64 dl)) P ph pl := wc_set (wc_set (wc_keep hB k1) (by have := wc_lt k1; omega)) (by have := wc_lt k1; omega)
      have B2 := b_set (p := ⟨g, 1, none⟩) (v := .int .u64 dl) (b_set (p := ⟨g, 0, none⟩) (v := .int .i64 dh) (b_trans B hB) (by have := B.size; show _ ≤ g; omega)) (by have := B.size; show _ ≤ g; omega)
      have KK := Lib.hid (And.intro k2 (And.intro k3 B2))
      clear F0 F1 F2 F3 F4 e6 hB hD k1 k2 k3 B B2 cO cS
      refine wpOp_step rfl (fun K hK => ?_)
      go_simp
      refine hK _ _ ?_
      clear hK K
      refine wpOp_step rfl (fun K hK => ?_)
      go_simp
      refine hK _ _ ?_
      clear hK K
      clear v6 f6
      generalize (w'.setCell ⟨g, 0, none⟩ (.int .i64 dh)).setCell ⟨g, 1, none⟩ (.int .u64 dl) = W2 at *
      obtain ⟨k2, k3, B⟩ := KK.out
      clear KK
      go_wp2_with fail
      refine (cA _).mono ?_
      rintro e w5 ⟨rfl, hb5⟩
      replace k2 := wc_keep hb5 k2
      replace B := b_trans B hb5
      clear hb5 k3
      go_wp2_with fail
      refine (cB _).mono ?_
      rintro e w6 ⟨rfl, hb6⟩
      replace B := b_trans B hb6
      clear hb6 k2
      go_wp2_with fail
      refine (fixed_root _).mono ?_
      rintro e w7 ⟨rfl, hb7⟩
      replace B := b_trans B hb7
      clear hb7
      go_wp2_with fail
      refine (cM _).mono ?_
      rintro e w8 ⟨rfl, hb8⟩
      replace B := b_trans B hb8
      clear hb8
      go_wp2
      go_ret
      exact ⟨by simp, B⟩

end Go.Proofs.Ytgfknmomljjhfaa
