/- Rows: Fits of the program; Clamp, Add, Scale of the document. -/
import Derived.Test.YtplhienacfiiaaaDoorVecD
namespace Go.Proofs.YtplhienacfiiaaaDoor
open Go.RowKit Go.Shelf

theorem clz_most (x : Int) : clz x 288230376151711744 = x ↔ FitP x := by
  unfold clz
  rw [if_neg (by decide)]
  by_cases a : x < -288230376151711744
  · rw [if_pos a]; omega
  · rw [if_neg a]
    by_cases b : 288230376151711744 < x
    · rw [if_pos b]; omega
    · rw [if_neg b]; omega
theorem f3b_clz (x y z : Int) : f3b x y z = (clz x 288230376151711744 == x && (clz y 288230376151711744 == y && clz z 288230376151711744 == z)) := by
  have e : ∀ t, fitb t = (clz t 288230376151711744 == t) := fun t => by
    rw [Bool.eq_iff_iff, beq_iff_eq, clz_most, fitb, decide_eq_true_eq]
  unfold f3b
  rw [e, e, e]

set_option maxHeartbeats 1000000 in
set_option maxRecDepth 10000 in
theorem fits3_vec (x y z : Int) (hx : I64 x) (hy : I64 y) (hz : I64 z) (w : World) :
    Calls Tryd.prog 13 #[tv x y z] w (RetV (.bool (f3b x y z)) w) := by
  have cC := clamp_vec x y z 288230376151711744 288230376151711744 288230376151711744 hx hy hz (by decide) (by decide) (by decide)
  have E := Lib.hid (f3b_clz x y z)
  have kA : TC (w.alloc (Obj.cells #[.int .i64 x, .int .i64 y, .int .i64 z] 23)) w.heap.size x y z := tc_new rfl
  have B0 : Below w.heap.size w (w.alloc (Obj.cells #[.int .i64 x, .int .i64 y, .int .i64 z] 23)) := b_alloc (Below.refl _ _)
  generalize clz x 288230376151711744 = X at *
  generalize clz y 288230376151711744 = Y at *
  generalize clz z 288230376151711744 = Z at *
  clear hx hy hz
  go_enter Tryd.func13, Tryd.ntmps13
  go_wp2
  generalize w.alloc (Obj.cells #[.int .i64 x, .int .i64 y, .int .i64 z] 23) = W1 at *
  refine region_each [3, 4, 5, 6, 7] (fun i X_ U_ => match i with | 0 => X_ = tv x y z | 1 => X_ = tv 288230376151711744 288230376151711744 288230376151711744 | 2 => X_ = tv X Y Z | 3 => X_ = tv x y z | 4 => X_ = .bool (X == x && (Y == y && Z == z)) | _ => True) (fun i => false) (by kernel_rfl) (by kernel_rfl) (by kernel_rfl) (by kernel_rfl) (by kernel_rfl) ?_ (fun i x w hi ha h => by cases ha) ?_ ?_
  · refine swp (upS (upS (upS (upS (upS up0 ?_) ?_) ?_) ?_) ?_)
    all_goals exact fun _ _ _ h _ => h
  · refine upS (upS (upS (upS (upS up0 ?_) ?_) ?_) ?_) ?_
    all_goals intro v f w' hb hv hB hd
    · have b1 : f.tmps[1]? = some (.pointer (some ⟨w.heap.size, 0, none⟩)) := (hb 1 (by decide)).trans rfl
      clear hb hv hd
      have c := tc_keep hB kA
      refine wpOp_step rfl fun K hK => ?_
      go_simp
      exact hK _ _ ⟨_, rfl, Below.refl _ _, rfl, fun h => absurd h (by decide)⟩
    · clear hb hv hd
      refine wpOp_step rfl fun K hK => ?_
      go_simp
      exact hK _ _ ⟨_, rfl, Below.refl _ _, rfl, fun h => absurd h (by decide)⟩
    · have d0 := got (hv 0 3 rfl) (hd 0 (by kernel_rfl))
      have d1 := got (hv 1 4 rfl) (hd 1 (by kernel_rfl))
      clear hb hv hd
      refine wpOp_call rfl Tryd.call29 (args2 (eval_tmp d0) (eval_tmp d1)) (cC _) ?_
      rintro e5 w5 ⟨rfl, hb5⟩
      exact ⟨_, rfl, _, rfl, hb5, rfl, fun h => absurd h (by decide)⟩
    · have b1 : f.tmps[1]? = some (.pointer (some ⟨w.heap.size, 0, none⟩)) := (hb 1 (by decide)).trans rfl
      clear hb hv hd
      have c := tc_keep hB kA
      refine wpOp_step rfl fun K hK => ?_
      go_simp
      exact hK _ _ ⟨_, rfl, Below.refl _ _, rfl, fun h => absurd h (by decide)⟩
    · have d2 := got (hv 2 5 rfl) (hd 2 (by kernel_rfl))
      have d3 := got (hv 3 6 rfl) (hd 3 (by kernel_rfl))
      clear hb hv hd
      have hve := vec_eq
      refine wpOp_step rfl fun K hK => ?_
      go_simp
      exact hK _ _ ⟨_, rfl, Below.refl _ _, rfl, fun h => absurd h (by decide)⟩
  · intro v w' hB hF hD
    have F0 : v 0 = _ := hF 0 (by simp)
    have F1 : v 1 = _ := hF 1 (by simp)
    have F2 : v 2 = _ := hF 2 (by simp)
    have F3 : v 3 = _ := hF 3 (by simp)
    have F4 : v 4 = _ := hF 4 (by simp)
    clear hF
    simp only [frOf, frGo, Nat.zero_add, Nat.reduceAdd, F0, F1, F2, F3, F4]
    clear F0 F1 F2 F3 F4 hD cC
    have B9 := b_trans B0 hB
    clear B0 hB
    go_wp2
    go_ret
    exact ⟨by rw [E.out]; rfl, B9⟩

end Go.Proofs.YtplhienacfiiaaaDoor
