/- MotionShifts: what the law's call answers: true, for every row and every two integers. -/
import Derived.Test.YtahpiakjhdnigaaMotG
namespace Go.Proofs.Ytahpiakjhdnigaa
open Go.RowKit Go.Shelf

set_option maxHeartbeats 4000000 in
set_option maxRecDepth 10000 in
theorem motionShifts_out (x0 x1 x2 t b y0 y1 y2 : Int) (n : (x0 == y0 && (x1 == y1 && x2 == y2)) = false)
    (c3 : ∀ w, Calls Try.prog 9 #[tv x0 x1 x2, tv 72057594037927936 1125899906842624 1125899906842624] w (RetV (tv y0 y1 y2) w)) (w : World) :
    Calls Try.prog 5 #[tv x0 x1 x2, .int .i64 t, .int .i64 b] w (RetV (.bool true) w) := by
  have kA : TC (w.alloc (Obj.cells #[.int .i64 x0, .int .i64 x1, .int .i64 x2] 23)) (w.heap.size) x0 x1 x2 := tc_new rfl
  have B0 : Below w.heap.size w (w.alloc (Obj.cells #[.int .i64 x0, .int .i64 x1, .int .i64 x2] 23)) := b_alloc (Below.refl _ _)
  go_enter Try.func5, Try.ntmps5
  go_wp2
  generalize w.alloc (Obj.cells #[.int .i64 x0, .int .i64 x1, .int .i64 x2] 23) = W1 at *
  refine region_each [13, 14, 15, 16, 17, 18, 19, 20, 21, 22, 23, 24, 25, 26, 27, 28, 29, 30, 31, 32, 33, 34, 35, 36, 37, 38, 39] (fun i_ X_ U_ => match i_ with | 0 => X_ = tv x0 x1 x2 | 1 => X_ = tv x0 x1 x2 | 2 => X_ = tv 72057594037927936 1125899906842624 1125899906842624 | 3 => X_ = tv y0 y1 y2 | 4 => X_ = .bool true | 5 => X_ = .bool true | 6 => X_ = undef | 7 => X_ = undef | 8 => X_ = undef | 9 => X_ = undef | 10 => X_ = undef | 11 => X_ = .bool true | 12 => X_ = .bool true | 13 => X_ = undef | 14 => X_ = undef | 15 => X_ = .bool true | 16 => X_ = .bool true | 17 => X_ = undef | 18 => X_ = undef | 19 => X_ = undef | 20 => X_ = undef | 21 => X_ = undef | 22 => X_ = .bool true | 23 => X_ = .bool true | 24 => X_ = undef | 25 => X_ = undef | 26 => X_ = .bool true | _ => True) (fun i_ => false) (by kernel_rfl) (by kernel_rfl) (by kernel_rfl) (by kernel_rfl) (by kernel_rfl) ?_ (fun i x w hi ha h => by cases ha) ?_ ?_
  · refine swp (upS (upS (upS (upS (upS (upS (upS (upS (upS (upS (upS (upS (upS (upS (upS (upS (upS (upS (upS (upS (upS (upS (upS (upS (upS (upS (upS up0 ?_) ?_) ?_) ?_) ?_) ?_) ?_) ?_) ?_) ?_) ?_) ?_) ?_) ?_) ?_) ?_) ?_) ?_) ?_) ?_) ?_) ?_) ?_) ?_) ?_) ?_) ?_)
    all_goals exact fun _ _ _ h _ => h
  · refine upS (upS (upS (upS (upS (upS (upS (upS (upS (upS (upS (upS (upS (upS (upS (upS (upS (upS (upS (upS (upS (upS (upS (upS (upS (upS (upS up0 ?_) ?_) ?_) ?_) ?_) ?_) ?_) ?_) ?_) ?_) ?_) ?_) ?_) ?_) ?_) ?_) ?_) ?_) ?_) ?_) ?_) ?_) ?_) ?_) ?_) ?_) ?_
    all_goals intro v f w' hb hv hB hd
    · have b3 : f.tmps[3]? = some (.pointer (some ⟨w.heap.size, 0, none⟩)) := (hb 3 (by decide)).trans rfl
      clear hb hv hd
      have c := tc_keep hB kA
      refine wpOp_step rfl fun K hK => ?_
      go_simp
      exact hK _ _ ⟨_, rfl, Below.refl _ _, rfl, fun h => absurd h (by decide)⟩
    · have b3 : f.tmps[3]? = some (.pointer (some ⟨w.heap.size, 0, none⟩)) := (hb 3 (by decide)).trans rfl
      clear hb hv hd
      have c := tc_keep hB kA
      refine wpOp_step rfl fun K hK => ?_
      go_simp
      exact hK _ _ ⟨_, rfl, Below.refl _ _, rfl, fun h => absurd h (by decide)⟩
    · clear hb hv hd
      refine wpOp_step rfl fun K hK => ?_
      go_simp
      exact hK _ _ ⟨_, rfl, Below.refl _ _, rfl, fun h => absurd h (by decide)⟩
    · have d1 := got (hv 1 14 rfl) (hd 1 (by kernel_rfl))
      have d2 := got (hv 2 15 rfl) (hd 2 (by kernel_rfl))
      clear hb hv hd
      refine wpOp_call rfl Try.call9 (args2 (eval_tmp d1) (eval_tmp d2)) (c3 _) ?_
      rintro e5 w5 ⟨rfl, hb5⟩
      exact ⟨_, rfl, _, rfl, hb5, rfl, fun h => absurd h (by decide)⟩
    · have d0 := got (hv 0 13 rfl) (hd 0 (by kernel_rfl))
      have d3 := got (hv 3 16 rfl) (hd 3 (by kernel_rfl))
      clear hb hv hd
      have hve := vec_eq
      refine wpOp_step rfl fun K hK => ?_
      go_simp
      exact hK _ _ ⟨_, rfl, Below.refl _ _, rfl, fun h => absurd h (by decide)⟩
    · have d4 := got (hv 4 17 rfl) (hd 4 (by kernel_rfl))
      clear hb hv hd
      refine wpOp_step rfl fun K hK => ?_
      go_simp
      exact hK _ _ ⟨_, rfl, Below.refl _ _, rfl, fun h => absurd h (by decide)⟩
    · have b1 : f.tmps[1]? = some (.int .i64 t) := (hb 1 (by decide)).trans rfl
      have d5 := got (hv 5 18 rfl) (hd 5 (by kernel_rfl))
      clear hb hv hd
      refine wpOp_step rfl fun K hK => ?_
      go_simp
      exact hK _ _ ⟨_, rfl, Below.refl _ _, rfl, fun h => absurd h (by decide)⟩
    · have b1 : f.tmps[1]? = some (.int .i64 t) := (hb 1 (by decide)).trans rfl
      have d5 := got (hv 5 18 rfl) (hd 5 (by kernel_rfl))
      clear hb hv hd
      refine wpOp_step rfl fun K hK => ?_
      go_simp
      exact hK _ _ ⟨_, rfl, Below.refl _ _, rfl, fun h => absurd h (by decide)⟩
    · have d7 := got (hv 7 20 rfl) (hd 7 (by kernel_rfl))
      have d5 := got (hv 5 18 rfl) (hd 5 (by kernel_rfl))
      clear hb hv hd
      refine wpOp_step rfl fun K hK => ?_
      go_simp
      exact hK _ _ ⟨_, rfl, Below.refl _ _, rfl, fun h => absurd h (by decide)⟩
    · have d6 := got (hv 6 19 rfl) (hd 6 (by kernel_rfl))
      have d8 := got (hv 8 21 rfl) (hd 8 (by kernel_rfl))
      have d5 := got (hv 5 18 rfl) (hd 5 (by kernel_rfl))
      clear hb hv hd
      refine wpOp_step rfl fun K hK => ?_
      go_simp
      exact hK _ _ ⟨_, rfl, Below.refl _ _, rfl, fun h => absurd h (by decide)⟩
    · have d9 := got (hv 9 22 rfl) (hd 9 (by kernel_rfl))
      have d5 := got (hv 5 18 rfl) (hd 5 (by kernel_rfl))
      clear hb hv hd
      refine wpOp_step rfl fun K hK => ?_
      go_simp
      exact hK _ _ ⟨_, rfl, Below.refl _ _, rfl, fun h => absurd h (by decide)⟩
    · have d5 := got (hv 5 18 rfl) (hd 5 (by kernel_rfl))
      have d10 := got (hv 10 23 rfl) (hd 10 (by kernel_rfl))
      clear hb hv hd
      refine wpOp_step rfl fun K hK => ?_
      go_simp
      exact hK _ _ ⟨_, rfl, Below.refl _ _, rfl, fun h => absurd h (by decide)⟩
    · have d11 := got (hv 11 24 rfl) (hd 11 (by kernel_rfl))
      clear hb hv hd
      refine wpOp_step rfl fun K hK => ?_
      go_simp
      exact hK _ _ ⟨_, rfl, Below.refl _ _, rfl, fun h => absurd h (by decide)⟩
    · have b1 : f.tmps[1]? = some (.int .i64 t) := (hb 1 (by decide)).trans rfl
      have d12 := got (hv 12 25 rfl) (hd 12 (by kernel_rfl))
      clear hb hv hd
      refine wpOp_step rfl fun K hK => ?_
      go_simp
      exact hK _ _ ⟨_, rfl, Below.refl _ _, rfl, fun h => absurd h (by decide)⟩
    · have d13 := got (hv 13 26 rfl) (hd 13 (by kernel_rfl))
      have d12 := got (hv 12 25 rfl) (hd 12 (by kernel_rfl))
      clear hb hv hd
      refine wpOp_step rfl fun K hK => ?_
      go_simp
      exact hK _ _ ⟨_, rfl, Below.refl _ _, rfl, fun h => absurd h (by decide)⟩
    · have d12 := got (hv 12 25 rfl) (hd 12 (by kernel_rfl))
      have d14 := got (hv 14 27 rfl) (hd 14 (by kernel_rfl))
      clear hb hv hd
      refine wpOp_step rfl fun K hK => ?_
      go_simp
      exact hK _ _ ⟨_, rfl, Below.refl _ _, rfl, fun h => absurd h (by decide)⟩
    · have d15 := got (hv 15 28 rfl) (hd 15 (by kernel_rfl))
      clear hb hv hd
      refine wpOp_step rfl fun K hK => ?_
      go_simp
      exact hK _ _ ⟨_, rfl, Below.refl _ _, rfl, fun h => absurd h (by decide)⟩
    · have b2 : f.tmps[2]? = some (.int .i64 b) := (hb 2 (by decide)).trans rfl
      have d16 := got (hv 16 29 rfl) (hd 16 (by kernel_rfl))
      clear hb hv hd
      refine wpOp_step rfl fun K hK => ?_
      go_simp
      exact hK _ _ ⟨_, rfl, Below.refl _ _, rfl, fun h => absurd h (by decide)⟩
    · have b2 : f.tmps[2]? = some (.int .i64 b) := (hb 2 (by decide)).trans rfl
      have d16 := got (hv 16 29 rfl) (hd 16 (by kernel_rfl))
      clear hb hv hd
      refine wpOp_step rfl fun K hK => ?_
      go_simp
      exact hK _ _ ⟨_, rfl, Below.refl _ _, rfl, fun h => absurd h (by decide)⟩
    · have d18 := got (hv 18 31 rfl) (hd 18 (by kernel_rfl))
      have d16 := got (hv 16 29 rfl) (hd 16 (by kernel_rfl))
      clear hb hv hd
      refine wpOp_step rfl fun K hK => ?_
      go_simp
      exact hK _ _ ⟨_, rfl, Below.refl _ _, rfl, fun h => absurd h (by decide)⟩
    · have d17 := got (hv 17 30 rfl) (hd 17 (by kernel_rfl))
      have d19 := got (hv 19 32 rfl) (hd 19 (by kernel_rfl))
      have d16 := got (hv 16 29 rfl) (hd 16 (by kernel_rfl))
      clear hb hv hd
      refine wpOp_step rfl fun K hK => ?_
      go_simp
      exact hK _ _ ⟨_, rfl, Below.refl _ _, rfl, fun h => absurd h (by decide)⟩
    · have d20 := got (hv 20 33 rfl) (hd 20 (by kernel_rfl))
      have d16 := got (hv 16 29 rfl) (hd 16 (by kernel_rfl))
      clear hb hv hd
      refine wpOp_step rfl fun K hK => ?_
      go_simp
      exact hK _ _ ⟨_, rfl, Below.refl _ _, rfl, fun h => absurd h (by decide)⟩
    · have d16 := got (hv 16 29 rfl) (hd 16 (by kernel_rfl))
      have d21 := got (hv 21 34 rfl) (hd 21 (by kernel_rfl))
      clear hb hv hd
      refine wpOp_step rfl fun K hK => ?_
      go_simp
      exact hK _ _ ⟨_, rfl, Below.refl _ _, rfl, fun h => absurd h (by decide)⟩
    · have d22 := got (hv 22 35 rfl) (hd 22 (by kernel_rfl))
      clear hb hv hd
      refine wpOp_step rfl fun K hK => ?_
      go_simp
      exact hK _ _ ⟨_, rfl, Below.refl _ _, rfl, fun h => absurd h (by decide)⟩
    · have b2 : f.tmps[2]? = some (.int .i64 b) := (hb 2 (by decide)).trans rfl
      have d23 := got (hv 23 36 rfl) (hd 23 (by kernel_rfl))
      clear hb hv hd
      refine wpOp_step rfl fun K hK => ?_
      go_simp
      exact hK _ _ ⟨_, rfl, Below.refl _ _, rfl, fun h => absurd h (by decide)⟩
    · have d24 := got (hv 24 37 rfl) (hd 24 (by kernel_rfl))
      have d23 := got (hv 23 36 rfl) (hd 23 (by kernel_rfl))
      clear hb hv hd
      refine wpOp_step rfl fun K hK => ?_
      go_simp
      exact hK _ _ ⟨_, rfl, Below.refl _ _, rfl, fun h => absurd h (by decide)⟩
    · have d23 := got (hv 23 36 rfl) (hd 23 (by kernel_rfl))
      have d25 := got (hv 25 38 rfl) (hd 25 (by kernel_rfl))
      clear hb hv hd
      refine wpOp_step rfl fun K hK => ?_
      go_simp
      exact hK _ _ ⟨_, rfl, Below.refl _ _, rfl, fun h => absurd h (by decide)⟩
  · intro v w' hB hF hD
    have F0 : v 0 = _ := hF 0 (by simp)
    have F1 : v 1 = _ := hF 1 (by simp)
    have F2 : v 2 = _ := hF 2 (by simp)
    have F3 : v 3 = _ := hF 3 (by simp)
    have F4 : v 4 = _ := hF 4 (by simp)
    have F5 : v 5 = _ := hF 5 (by simp)
    have F6 : v 6 = _ := hF 6 (by simp)
    have F7 : v 7 = _ := hF 7 (by simp)
    have F8 : v 8 = _ := hF 8 (by simp)
    have F9 : v 9 = _ := hF 9 (by simp)
    have F10 : v 10 = _ := hF 10 (by simp)
    have F11 : v 11 = _ := hF 11 (by simp)
    have F12 : v 12 = _ := hF 12 (by simp)
    have F13 : v 13 = _ := hF 13 (by simp)
    have F14 : v 14 = _ := hF 14 (by simp)
    have F15 : v 15 = _ := hF 15 (by simp)
    have F16 : v 16 = _ := hF 16 (by simp)
    have F17 : v 17 = _ := hF 17 (by simp)
    have F18 : v 18 = _ := hF 18 (by simp)
    have F19 : v 19 = _ := hF 19 (by simp)
    have F20 : v 20 = _ := hF 20 (by simp)
    have F21 : v 21 = _ := hF 21 (by simp)
    have F22 : v 22 = _ := hF 22 (by simp)
    have F23 : v 23 = _ := hF 23 (by simp)
    have F24 : v 24 = _ := hF 24 (by simp)
    have F25 : v 25 = _ := hF 25 (by simp)
    have F26 : v 26 = _ := hF 26 (by simp)
    clear hF
    simp only [frOf, frGo, Nat.zero_add, Nat.reduceAdd, F0, F1, F2, F3, F4, F5, F6, F7, F8, F9, F10, F11, F12, F13, F14, F15, F16, F17, F18, F19, F20, F21, F22, F23, F24, F25, F26]
    rw [List.drop_eq_nil_of_le (by simp)]
    refine wpList_fin ?_
    simp only [Act.put, List.setIfInBounds_toArray, List.set_cons_zero, List.set_cons_succ]
    replace B0 := b_trans B0 hB
    clear F0 F1 F2 F3 F4 F5 F6 F7 F8 F9 F10 F11 F12 F13 F14 F15 F16 F17 F18 F19 F20 F21 F22 F23 F24 F25 F26 hD hB kA c3 v
    go_wp2_with fail
    refine (fixed_mot _).mono ?_
    rintro e5 w5 ⟨rfl, hb5⟩
    replace B0 := b_trans B0 hb5
    clear hb5
    go_wp2
    go_ret
    exact ⟨rfl, B0⟩

set_option maxHeartbeats 4000000 in
set_option maxRecDepth 10000 in
theorem motionShifts_tmax (x0 x1 x2 t b tn tm bn bm : Int) (et : IntKind.i64.wrap (-t) = tn) (em : (if t < tn then tn else t) = tm) (_en' : IntKind.i64.wrap (-b) = bn) (_eb : (if b < bn then bn else b) = bm) (p1 : 1125899906842624 < tm)
    (c3 : ∀ w, Calls Try.prog 9 #[tv x0 x1 x2, tv 72057594037927936 1125899906842624 1125899906842624] w (RetV (tv x0 x1 x2) w)) (w : World) :
    Calls Try.prog 5 #[tv x0 x1 x2, .int .i64 t, .int .i64 b] w (RetV (.bool true) w) := by
  have kA : TC (w.alloc (Obj.cells #[.int .i64 x0, .int .i64 x1, .int .i64 x2] 23)) (w.heap.size) x0 x1 x2 := tc_new rfl
  have B0 : Below w.heap.size w (w.alloc (Obj.cells #[.int .i64 x0, .int .i64 x1, .int .i64 x2] 23)) := b_alloc (Below.refl _ _)
  go_enter Try.func5, Try.ntmps5
  go_wp2
  generalize w.alloc (Obj.cells #[.int .i64 x0, .int .i64 x1, .int .i64 x2] 23) = W1 at *
  refine region_each [13, 14, 15, 16, 17, 18, 19, 20, 21, 22, 23, 24, 25, 26, 27, 28, 29, 30, 31, 32, 33, 34, 35, 36, 37, 38, 39] (fun i_ X_ U_ => match i_ with | 0 => X_ = tv x0 x1 x2 | 1 => X_ = tv x0 x1 x2 | 2 => X_ = tv 72057594037927936 1125899906842624 1125899906842624 | 3 => X_ = tv x0 x1 x2 | 4 => X_ = .bool false | 5 => X_ = .bool false | 6 => X_ = .int .i64 t | 7 => X_ = .int .i64 t | 8 => X_ = .int .i64 tn | 9 => X_ = .int .i64 tm | 10 => X_ = .bool true | 11 => X_ = .bool true | 12 => X_ = .bool true | 13 => X_ = undef | 14 => X_ = undef | 15 => X_ = .bool true | 16 => X_ = .bool true | 17 => X_ = undef | 18 => X_ = undef | 19 => X_ = undef | 20 => X_ = undef | 21 => X_ = undef | 22 => X_ = .bool true | 23 => X_ = .bool true | 24 => X_ = undef | 25 => X_ = undef | 26 => X_ = .bool true | _ => True) (fun i_ => false) (by kernel_rfl) (by kernel_rfl) (by kernel_rfl) (by kernel_rfl) (by kernel_rfl) ?_ (fun i x w hi ha h => by cases ha) ?_ ?_
  · refine swp (upS (upS (upS (upS (upS (upS (upS (upS (upS (upS (upS (upS (upS (upS (upS (upS (upS (upS (upS (upS (upS (upS (upS (upS (upS (upS (upS up0 ?_) ?_) ?_) ?_) ?_) ?_) ?_) ?_) ?_) ?_) ?_) ?_) ?_) ?_) ?_) ?_) ?_) ?_) ?_) ?_) ?_) ?_) ?_) ?_) ?_) ?_) ?_)
    all_goals exact fun _ _ _ h _ => h
  · refine upS (upS (upS (upS (upS (upS (upS (upS (upS (upS (upS (upS (upS (upS (upS (upS (upS (upS (upS (upS (upS (upS (upS (upS (upS (upS (upS up0 ?_) ?_) ?_) ?_) ?_) ?_) ?_) ?_) ?_) ?_) ?_) ?_) ?_) ?_) ?_) ?_) ?_) ?_) ?_) ?_) ?_) ?_) ?_) ?_) ?_) ?_) ?_
    all_goals intro v f w' hb hv hB hd
    · have b3 : f.tmps[3]? = some (.pointer (some ⟨w.heap.size, 0, none⟩)) := (hb 3 (by decide)).trans rfl
      clear hb hv hd
      have c := tc_keep hB kA
      refine wpOp_step rfl fun K hK => ?_
      go_simp
      exact hK _ _ ⟨_, rfl, Below.refl _ _, rfl, fun h => absurd h (by decide)⟩
    · have b3 : f.tmps[3]? = some (.pointer (some ⟨w.heap.size, 0, none⟩)) := (hb 3 (by decide)).trans rfl
      clear hb hv hd
      have c := tc_keep hB kA
      refine wpOp_step rfl fun K hK => ?_
      go_simp
      exact hK _ _ ⟨_, rfl, Below.refl _ _, rfl, fun h => absurd h (by decide)⟩
    · clear hb hv hd
      refine wpOp_step rfl fun K hK => ?_
      go_simp
      exact hK _ _ ⟨_, rfl, Below.refl _ _, rfl, fun h => absurd h (by decide)⟩
    · have d1 := got (hv 1 14 rfl) (hd 1 (by kernel_rfl))
      have d2 := got (hv 2 15 rfl) (hd 2 (by kernel_rfl))
      clear hb hv hd
      refine wpOp_call rfl Try.call9 (args2 (eval_tmp d1) (eval_tmp d2)) (c3 _) ?_
      rintro e5 w5 ⟨rfl, hb5⟩
      exact ⟨_, rfl, _, rfl, hb5, rfl, fun h => absurd h (by decide)⟩
    · have d0 := got (hv 0 13 rfl) (hd 0 (by kernel_rfl))
      have d3 := got (hv 3 16 rfl) (hd 3 (by kernel_rfl))
      clear hb hv hd
      have hve := vec_eq_self
      refine wpOp_step rfl fun K hK => ?_
      go_simp
      exact hK _ _ ⟨_, rfl, Below.refl _ _, rfl, fun h => absurd h (by decide)⟩
    · have d4 := got (hv 4 17 rfl) (hd 4 (by kernel_rfl))
      clear hb hv hd
      refine wpOp_step rfl fun K hK => ?_
      go_simp
      exact hK _ _ ⟨_, rfl, Below.refl _ _, rfl, fun h => absurd h (by decide)⟩
    · have b1 : f.tmps[1]? = some (.int .i64 t) := (hb 1 (by decide)).trans rfl
      have d5 := got (hv 5 18 rfl) (hd 5 (by kernel_rfl))
      clear hb hv hd
      refine wpOp_step rfl fun K hK => ?_
      go_simp
      exact hK _ _ ⟨_, rfl, Below.refl _ _, rfl, fun h => absurd h (by decide)⟩
    · have b1 : f.tmps[1]? = some (.int .i64 t) := (hb 1 (by decide)).trans rfl
      have d5 := got (hv 5 18 rfl) (hd 5 (by kernel_rfl))
      clear hb hv hd
      refine wpOp_step rfl fun K hK => ?_
      go_simp
      exact hK _ _ ⟨_, rfl, Below.refl _ _, rfl, fun h => absurd h (by decide)⟩
    · have d7 := got (hv 7 20 rfl) (hd 7 (by kernel_rfl))
      have d5 := got (hv 5 18 rfl) (hd 5 (by kernel_rfl))
      clear hb hv hd
      refine wpOp_step rfl fun K hK => ?_
      go_simp
      exact hK _ _ ⟨_, rfl, Below.refl _ _, rfl, fun h => absurd h (by decide)⟩
    · have d6 := got (hv 6 19 rfl) (hd 6 (by kernel_rfl))
      have d8 := got (hv 8 21 rfl) (hd 8 (by kernel_rfl))
      have d5 := got (hv 5 18 rfl) (hd 5 (by kernel_rfl))
      clear hb hv hd
      refine wpOp_step rfl fun K hK => ?_
      go_simp
      exact hK _ _ ⟨_, rfl, Below.refl _ _, rfl, fun h => absurd h (by decide)⟩
    · have d9 := got (hv 9 22 rfl) (hd 9 (by kernel_rfl))
      have d5 := got (hv 5 18 rfl) (hd 5 (by kernel_rfl))
      clear hb hv hd
      refine wpOp_step rfl fun K hK => ?_
      go_simp
      exact hK _ _ ⟨_, rfl, Below.refl _ _, rfl, fun h => absurd h (by decide)⟩
    · have d5 := got (hv 5 18 rfl) (hd 5 (by kernel_rfl))
      have d10 := got (hv 10 23 rfl) (hd 10 (by kernel_rfl))
      clear hb hv hd
      refine wpOp_step rfl fun K hK => ?_
      go_simp
      exact hK _ _ ⟨_, rfl, Below.refl _ _, rfl, fun h => absurd h (by decide)⟩
    · have d11 := got (hv 11 24 rfl) (hd 11 (by kernel_rfl))
      clear hb hv hd
      refine wpOp_step rfl fun K hK => ?_
      go_simp
      exact hK _ _ ⟨_, rfl, Below.refl _ _, rfl, fun h => absurd h (by decide)⟩
    · have b1 : f.tmps[1]? = some (.int .i64 t) := (hb 1 (by decide)).trans rfl
      have d12 := got (hv 12 25 rfl) (hd 12 (by kernel_rfl))
      clear hb hv hd
      refine wpOp_step rfl fun K hK => ?_
      go_simp
      exact hK _ _ ⟨_, rfl, Below.refl _ _, rfl, fun h => absurd h (by decide)⟩
    · have d13 := got (hv 13 26 rfl) (hd 13 (by kernel_rfl))
      have d12 := got (hv 12 25 rfl) (hd 12 (by kernel_rfl))
      clear hb hv hd
      refine wpOp_step rfl fun K hK => ?_
      go_simp
      exact hK _ _ ⟨_, rfl, Below.refl _ _, rfl, fun h => absurd h (by decide)⟩
    · have d12 := got (hv 12 25 rfl) (hd 12 (by kernel_rfl))
      have d14 := got (hv 14 27 rfl) (hd 14 (by kernel_rfl))
      clear hb hv hd
      refine wpOp_step rfl fun K hK => ?_
      go_simp
      exact hK _ _ ⟨_, rfl, Below.refl _ _, rfl, fun h => absurd h (by decide)⟩
    · have d15 := got (hv 15 28 rfl) (hd 15 (by kernel_rfl))
      clear hb hv hd
      refine wpOp_step rfl fun K hK => ?_
      go_simp
      exact hK _ _ ⟨_, rfl, Below.refl _ _, rfl, fun h => absurd h (by decide)⟩
    · have b2 : f.tmps[2]? = some (.int .i64 b) := (hb 2 (by decide)).trans rfl
      have d16 := got (hv 16 29 rfl) (hd 16 (by kernel_rfl))
      clear hb hv hd
      refine wpOp_step rfl fun K hK => ?_
      go_simp
      exact hK _ _ ⟨_, rfl, Below.refl _ _, rfl, fun h => absurd h (by decide)⟩
    · have b2 : f.tmps[2]? = some (.int .i64 b) := (hb 2 (by decide)).trans rfl
      have d16 := got (hv 16 29 rfl) (hd 16 (by kernel_rfl))
      clear hb hv hd
      refine wpOp_step rfl fun K hK => ?_
      go_simp
      exact hK _ _ ⟨_, rfl, Below.refl _ _, rfl, fun h => absurd h (by decide)⟩
    · have d18 := got (hv 18 31 rfl) (hd 18 (by kernel_rfl))
      have d16 := got (hv 16 29 rfl) (hd 16 (by kernel_rfl))
      clear hb hv hd
      refine wpOp_step rfl fun K hK => ?_
      go_simp
      exact hK _ _ ⟨_, rfl, Below.refl _ _, rfl, fun h => absurd h (by decide)⟩
    · have d17 := got (hv 17 30 rfl) (hd 17 (by kernel_rfl))
      have d19 := got (hv 19 32 rfl) (hd 19 (by kernel_rfl))
      have d16 := got (hv 16 29 rfl) (hd 16 (by kernel_rfl))
      clear hb hv hd
      refine wpOp_step rfl fun K hK => ?_
      go_simp
      exact hK _ _ ⟨_, rfl, Below.refl _ _, rfl, fun h => absurd h (by decide)⟩
    · have d20 := got (hv 20 33 rfl) (hd 20 (by kernel_rfl))
      have d16 := got (hv 16 29 rfl) (hd 16 (by kernel_rfl))
      clear hb hv hd
      refine wpOp_step rfl fun K hK => ?_
      go_simp
      exact hK _ _ ⟨_, rfl, Below.refl _ _, rfl, fun h => absurd h (by decide)⟩
    · have d16 := got (hv 16 29 rfl) (hd 16 (by kernel_rfl))
      have d21 := got (hv 21 34 rfl) (hd 21 (by kernel_rfl))
      clear hb hv hd
      refine wpOp_step rfl fun K hK => ?_
      go_simp
      exact hK _ _ ⟨_, rfl, Below.refl _ _, rfl, fun h => absurd h (by decide)⟩
    · have d22 := got (hv 22 35 rfl) (hd 22 (by kernel_rfl))
      clear hb hv hd
      refine wpOp_step rfl fun K hK => ?_
      go_simp
      exact hK _ _ ⟨_, rfl, Below.refl _ _, rfl, fun h => absurd h (by decide)⟩
    · have b2 : f.tmps[2]? = some (.int .i64 b) := (hb 2 (by decide)).trans rfl
      have d23 := got (hv 23 36 rfl) (hd 23 (by kernel_rfl))
      clear hb hv hd
      refine wpOp_step rfl fun K hK => ?_
      go_simp
      exact hK _ _ ⟨_, rfl, Below.refl _ _, rfl, fun h => absurd h (by decide)⟩
    · have d24 := got (hv 24 37 rfl) (hd 24 (by kernel_rfl))
      have d23 := got (hv 23 36 rfl) (hd 23 (by kernel_rfl))
      clear hb hv hd
      refine wpOp_step rfl fun K hK => ?_
      go_simp
      exact hK _ _ ⟨_, rfl, Below.refl _ _, rfl, fun h => absurd h (by decide)⟩
    · have d23 := got (hv 23 36 rfl) (hd 23 (by kernel_rfl))
      have d25 := got (hv 25 38 rfl) (hd 25 (by kernel_rfl))
      clear hb hv hd
      refine wpOp_step rfl fun K hK => ?_
      go_simp
      exact hK _ _ ⟨_, rfl, Below.refl _ _, rfl, fun h => absurd h (by decide)⟩
  · intro v w' hB hF hD
    have F0 : v 0 = _ := hF 0 (by simp)
    have F1 : v 1 = _ := hF 1 (by simp)
    have F2 : v 2 = _ := hF 2 (by simp)
    have F3 : v 3 = _ := hF 3 (by simp)
    have F4 : v 4 = _ := hF 4 (by simp)
    have F5 : v 5 = _ := hF 5 (by simp)
    have F6 : v 6 = _ := hF 6 (by simp)
    have F7 : v 7 = _ := hF 7 (by simp)
    have F8 : v 8 = _ := hF 8 (by simp)
    have F9 : v 9 = _ := hF 9 (by simp)
    have F10 : v 10 = _ := hF 10 (by simp)
    have F11 : v 11 = _ := hF 11 (by simp)
    have F12 : v 12 = _ := hF 12 (by simp)
    have F13 : v 13 = _ := hF 13 (by simp)
    have F14 : v 14 = _ := hF 14 (by simp)
    have F15 : v 15 = _ := hF 15 (by simp)
    have F16 : v 16 = _ := hF 16 (by simp)
    have F17 : v 17 = _ := hF 17 (by simp)
    have F18 : v 18 = _ := hF 18 (by simp)
    have F19 : v 19 = _ := hF 19 (by simp)
    have F20 : v 20 = _ := hF 20 (by simp)
    have F21 : v 21 = _ := hF 21 (by simp)
    have F22 : v 22 = _ := hF 22 (by simp)
    have F23 : v 23 = _ := hF 23 (by simp)
    have F24 : v 24 = _ := hF 24 (by simp)
    have F25 : v 25 = _ := hF 25 (by simp)
    have F26 : v 26 = _ := hF 26 (by simp)
    clear hF
    simp only [frOf, frGo, Nat.zero_add, Nat.reduceAdd, F0, F1, F2, F3, F4, F5, F6, F7, F8, F9, F10, F11, F12, F13, F14, F15, F16, F17, F18, F19, F20, F21, F22, F23, F24, F25, F26]
    rw [List.drop_eq_nil_of_le (by simp)]
    refine wpList_fin ?_
    simp only [Act.put, List.setIfInBounds_toArray, List.set_cons_zero, List.set_cons_succ]
    replace B0 := b_trans B0 hB
    clear F0 F1 F2 F3 F4 F5 F6 F7 F8 F9 F10 F11 F12 F13 F14 F15 F16 F17 F18 F19 F20 F21 F22 F23 F24 F25 F26 hD hB kA c3 v
    go_wp2_with fail
    refine (fixed_mot _).mono ?_
    rintro e5 w5 ⟨rfl, hb5⟩
    replace B0 := b_trans B0 hb5
    clear hb5
    go_wp2
    go_ret
    exact ⟨rfl, B0⟩

set_option maxHeartbeats 4000000 in
set_option maxRecDepth 10000 in
theorem motionShifts_tlow (x0 x1 x2 t b tn tm bn bm : Int) (et : IntKind.i64.wrap (-t) = tn) (em : (if t < tn then tn else t) = tm) (_en' : IntKind.i64.wrap (-b) = bn) (_eb : (if b < bn then bn else b) = bm) (p1 : decide (1125899906842624 < tm) = false) (p2 : t < -1125899906842624)
    (c3 : ∀ w, Calls Try.prog 9 #[tv x0 x1 x2, tv 72057594037927936 1125899906842624 1125899906842624] w (RetV (tv x0 x1 x2) w)) (w : World) :
    Calls Try.prog 5 #[tv x0 x1 x2, .int .i64 t, .int .i64 b] w (RetV (.bool true) w) := by
  have kA : TC (w.alloc (Obj.cells #[.int .i64 x0, .int .i64 x1, .int .i64 x2] 23)) (w.heap.size) x0 x1 x2 := tc_new rfl
  have B0 : Below w.heap.size w (w.alloc (Obj.cells #[.int .i64 x0, .int .i64 x1, .int .i64 x2] 23)) := b_alloc (Below.refl _ _)
  go_enter Try.func5, Try.ntmps5
  go_wp2
  generalize w.alloc (Obj.cells #[.int .i64 x0, .int .i64 x1, .int .i64 x2] 23) = W1 at *
  refine region_each [13, 14, 15, 16, 17, 18, 19, 20, 21, 22, 23, 24, 25, 26, 27, 28, 29, 30, 31, 32, 33, 34, 35, 36, 37, 38, 39] (fun i_ X_ U_ => match i_ with | 0 => X_ = tv x0 x1 x2 | 1 => X_ = tv x0 x1 x2 | 2 => X_ = tv 72057594037927936 1125899906842624 1125899906842624 | 3 => X_ = tv x0 x1 x2 | 4 => X_ = .bool false | 5 => X_ = .bool false | 6 => X_ = .int .i64 t | 7 => X_ = .int .i64 t | 8 => X_ = .int .i64 tn | 9 => X_ = .int .i64 tm | 10 => X_ = .bool false | 11 => X_ = .bool false | 12 => X_ = .bool false | 13 => X_ = .int .i64 t | 14 => X_ = .bool true | 15 => X_ = .bool true | 16 => X_ = .bool true | 17 => X_ = undef | 18 => X_ = undef | 19 => X_ = undef | 20 => X_ = undef | 21 => X_ = undef | 22 => X_ = .bool true | 23 => X_ = .bool true | 24 => X_ = undef | 25 => X_ = undef | 26 => X_ = .bool true | _ => True) (fun i_ => false) (by kernel_rfl) (by kernel_rfl) (by kernel_rfl) (by kernel_rfl) (by kernel_rfl) ?_ (fun i x w hi ha h => by cases ha) ?_ ?_
  · refine swp (upS (upS (upS (upS (upS (upS (upS (upS (upS (upS (upS (upS (upS (upS (upS (upS (upS (upS (upS (upS (upS (upS (upS (upS (upS (upS (upS up0 ?_) ?_) ?_) ?_) ?_) ?_) ?_) ?_) ?_) ?_) ?_) ?_) ?_) ?_) ?_) ?_) ?_) ?_) ?_) ?_) ?_) ?_) ?_) ?_) ?_) ?_) ?_)
    all_goals exact fun _ _ _ h _ => h
  · refine upS (upS (upS (upS (upS (upS (upS (upS (upS (upS (upS (upS (upS (upS (upS (upS (upS (upS (upS (upS (upS (upS (upS (upS (upS (upS (upS up0 ?_) ?_) ?_) ?_) ?_) ?_) ?_) ?_) ?_) ?_) ?_) ?_) ?_) ?_) ?_) ?_) ?_) ?_) ?_) ?_) ?_) ?_) ?_) ?_) ?_) ?_) ?_
    all_goals intro v f w' hb hv hB hd
    · have b3 : f.tmps[3]? = some (.pointer (some ⟨w.heap.size, 0, none⟩)) := (hb 3 (by decide)).trans rfl
      clear hb hv hd
      have c := tc_keep hB kA
      refine wpOp_step rfl fun K hK => ?_
      go_simp
      exact hK _ _ ⟨_, rfl, Below.refl _ _, rfl, fun h => absurd h (by decide)⟩
    · have b3 : f.tmps[3]? = some (.pointer (some ⟨w.heap.size, 0, none⟩)) := (hb 3 (by decide)).trans rfl
      clear hb hv hd
      have c := tc_keep hB kA
      refine wpOp_step rfl fun K hK => ?_
      go_simp
      exact hK _ _ ⟨_, rfl, Below.refl _ _, rfl, fun h => absurd h (by decide)⟩
    · clear hb hv hd
      refine wpOp_step rfl fun K hK => ?_
      go_simp
      exact hK _ _ ⟨_, rfl, Below.refl _ _, rfl, fun h => absurd h (by decide)⟩
    · have d1 := got (hv 1 14 rfl) (hd 1 (by kernel_rfl))
      have d2 := got (hv 2 15 rfl) (hd 2 (by kernel_rfl))
      clear hb hv hd
      refine wpOp_call rfl Try.call9 (args2 (eval_tmp d1) (eval_tmp d2)) (c3 _) ?_
      rintro e5 w5 ⟨rfl, hb5⟩
      exact ⟨_, rfl, _, rfl, hb5, rfl, fun h => absurd h (by decide)⟩
    · have d0 := got (hv 0 13 rfl) (hd 0 (by kernel_rfl))
      have d3 := got (hv 3 16 rfl) (hd 3 (by kernel_rfl))
      clear hb hv hd
      have hve := vec_eq_self
      refine wpOp_step rfl fun K hK => ?_
      go_simp
      exact hK _ _ ⟨_, rfl, Below.refl _ _, rfl, fun h => absurd h (by decide)⟩
    · have d4 := got (hv 4 17 rfl) (hd 4 (by kernel_rfl))
      clear hb hv hd
      refine wpOp_step rfl fun K hK => ?_
      go_simp
      exact hK _ _ ⟨_, rfl, Below.refl _ _, rfl, fun h => absurd h (by decide)⟩
    · have b1 : f.tmps[1]? = some (.int .i64 t) := (hb 1 (by decide)).trans rfl
      have d5 := got (hv 5 18 rfl) (hd 5 (by kernel_rfl))
      clear hb hv hd
      refine wpOp_step rfl fun K hK => ?_
      go_simp
      exact hK _ _ ⟨_, rfl, Below.refl _ _, rfl, fun h => absurd h (by decide)⟩
    · have b1 : f.tmps[1]? = some (.int .i64 t) := (hb 1 (by decide)).trans rfl
      have d5 := got (hv 5 18 rfl) (hd 5 (by kernel_rfl))
      clear hb hv hd
      refine wpOp_step rfl fun K hK => ?_
      go_simp
      exact hK _ _ ⟨_, rfl, Below.refl _ _, rfl, fun h => absurd h (by decide)⟩
    · have d7 := got (hv 7 20 rfl) (hd 7 (by kernel_rfl))
      have d5 := got (hv 5 18 rfl) (hd 5 (by kernel_rfl))
      clear hb hv hd
      refine wpOp_step rfl fun K hK => ?_
      go_simp
      exact hK _ _ ⟨_, rfl, Below.refl _ _, rfl, fun h => absurd h (by decide)⟩
    · have d6 := got (hv 6 19 rfl) (hd 6 (by kernel_rfl))
      have d8 := got (hv 8 21 rfl) (hd 8 (by kernel_rfl))
      have d5 := got (hv 5 18 rfl) (hd 5 (by kernel_rfl))
      clear hb hv hd
      refine wpOp_step rfl fun K hK => ?_
      go_simp
      exact hK _ _ ⟨_, rfl, Below.refl _ _, rfl, fun h => absurd h (by decide)⟩
    · have d9 := got (hv 9 22 rfl) (hd 9 (by kernel_rfl))
      have d5 := got (hv 5 18 rfl) (hd 5 (by kernel_rfl))
      clear hb hv hd
      refine wpOp_step rfl fun K hK => ?_
      go_simp
      exact hK _ _ ⟨_, rfl, Below.refl _ _, rfl, fun h => absurd h (by decide)⟩
    · have d5 := got (hv 5 18 rfl) (hd 5 (by kernel_rfl))
      have d10 := got (hv 10 23 rfl) (hd 10 (by kernel_rfl))
      clear hb hv hd
      refine wpOp_step rfl fun K hK => ?_
      go_simp
      exact hK _ _ ⟨_, rfl, Below.refl _ _, rfl, fun h => absurd h (by decide)⟩
    · have d11 := got (hv 11 24 rfl) (hd 11 (by kernel_rfl))
      clear hb hv hd
      refine wpOp_step rfl fun K hK => ?_
      go_simp
      exact hK _ _ ⟨_, rfl, Below.refl _ _, rfl, fun h => absurd h (by decide)⟩
    · have b1 : f.tmps[1]? = some (.int .i64 t) := (hb 1 (by decide)).trans rfl
      have d12 := got (hv 12 25 rfl) (hd 12 (by kernel_rfl))
      clear hb hv hd
      refine wpOp_step rfl fun K hK => ?_
      go_simp
      exact hK _ _ ⟨_, rfl, Below.refl _ _, rfl, fun h => absurd h (by decide)⟩
    · have d13 := got (hv 13 26 rfl) (hd 13 (by kernel_rfl))
      have d12 := got (hv 12 25 rfl) (hd 12 (by kernel_rfl))
      clear hb hv hd
      refine wpOp_step rfl fun K hK => ?_
      go_simp
      exact hK _ _ ⟨_, rfl, Below.refl _ _, rfl, fun h => absurd h (by decide)⟩
    · have d12 := got (hv 12 25 rfl) (hd 12 (by kernel_rfl))
      have d14 := got (hv 14 27 rfl) (hd 14 (by kernel_rfl))
      clear hb hv hd
      refine wpOp_step rfl fun K hK => ?_
      go_simp
      exact hK _ _ ⟨_, rfl, Below.refl _ _, rfl, fun h => absurd h (by decide)⟩
    · have d15 := got (hv 15 28 rfl) (hd 15 (by kernel_rfl))
      clear hb hv hd
      refine wpOp_step rfl fun K hK => ?_
      go_simp
      exact hK _ _ ⟨_, rfl, Below.refl _ _, rfl, fun h => absurd h (by decide)⟩
    · have b2 : f.tmps[2]? = some (.int .i64 b) := (hb 2 (by decide)).trans rfl
      have d16 := got (hv 16 29 rfl) (hd 16 (by kernel_rfl))
      clear hb hv hd
      refine wpOp_step rfl fun K hK => ?_
      go_simp
      exact hK _ _ ⟨_, rfl, Below.refl _ _, rfl, fun h => absurd h (by decide)⟩
    · have b2 : f.tmps[2]? = some (.int .i64 b) := (hb 2 (by decide)).trans rfl
      have d16 := got (hv 16 29 rfl) (hd 16 (by kernel_rfl))
      clear hb hv hd
      refine wpOp_step rfl fun K hK => ?_
      go_simp
      exact hK _ _ ⟨_, rfl, Below.refl _ _, rfl, fun h => absurd h (by decide)⟩
    · have d18 := got (hv 18 31 rfl) (hd 18 (by kernel_rfl))
      have d16 := got (hv 16 29 rfl) (hd 16 (by kernel_rfl))
      clear hb hv hd
      refine wpOp_step rfl fun K hK => ?_
      go_simp
      exact hK _ _ ⟨_, rfl, Below.refl _ _, rfl, fun h => absurd h (by decide)⟩
    · have d17 := got (hv 17 30 rfl) (hd 17 (by kernel_rfl))
      have d19 := got (hv 19 32 rfl) (hd 19 (by kernel_rfl))
      have d16 := got (hv 16 29 rfl) (hd 16 (by kernel_rfl))
      clear hb hv hd
      refine wpOp_step rfl fun K hK => ?_
      go_simp
      exact hK _ _ ⟨_, rfl, Below.refl _ _, rfl, fun h => absurd h (by decide)⟩
    · have d20 := got (hv 20 33 rfl) (hd 20 (by kernel_rfl))
      have d16 := got (hv 16 29 rfl) (hd 16 (by kernel_rfl))
      clear hb hv hd
      refine wpOp_step rfl fun K hK => ?_
      go_simp
      exact hK _ _ ⟨_, rfl, Below.refl _ _, rfl, fun h => absurd h (by decide)⟩
    · have d16 := got (hv 16 29 rfl) (hd 16 (by kernel_rfl))
      have d21 := got (hv 21 34 rfl) (hd 21 (by kernel_rfl))
      clear hb hv hd
      refine wpOp_step rfl fun K hK => ?_
      go_simp
      exact hK _ _ ⟨_, rfl, Below.refl _ _, rfl, fun h => absurd h (by decide)⟩
    · have d22 := got (hv 22 35 rfl) (hd 22 (by kernel_rfl))
      clear hb hv hd
      refine wpOp_step rfl fun K hK => ?_
      go_simp
      exact hK _ _ ⟨_, rfl, Below.refl _ _, rfl, fun h => absurd h (by decide)⟩
    · have b2 : f.tmps[2]? = some (.int .i64 b) := (hb 2 (by decide)).trans rfl
      have d23 := got (hv 23 36 rfl) (hd 23 (by kernel_rfl))
      clear hb hv hd
      refine wpOp_step rfl fun K hK => ?_
      go_simp
      exact hK _ _ ⟨_, rfl, Below.refl _ _, rfl, fun h => absurd h (by decide)⟩
    · have d24 := got (hv 24 37 rfl) (hd 24 (by kernel_rfl))
      have d23 := got (hv 23 36 rfl) (hd 23 (by kernel_rfl))
      clear hb hv hd
      refine wpOp_step rfl fun K hK => ?_
      go_simp
      exact hK _ _ ⟨_, rfl, Below.refl _ _, rfl, fun h => absurd h (by decide)⟩
    · have d23 := got (hv 23 36 rfl) (hd 23 (by kernel_rfl))
      have d25 := got (hv 25 38 rfl) (hd 25 (by kernel_rfl))
      clear hb hv hd
      refine wpOp_step rfl fun K hK => ?_
      go_simp
      exact hK _ _ ⟨_, rfl, Below.refl _ _, rfl, fun h => absurd h (by decide)⟩
  · intro v w' hB hF hD
    have F0 : v 0 = _ := hF 0 (by simp)
    have F1 : v 1 = _ := hF 1 (by simp)
    have F2 : v 2 = _ := hF 2 (by simp)
    have F3 : v 3 = _ := hF 3 (by simp)
    have F4 : v 4 = _ := hF 4 (by simp)
    have F5 : v 5 = _ := hF 5 (by simp)
    have F6 : v 6 = _ := hF 6 (by simp)
    have F7 : v 7 = _ := hF 7 (by simp)
    have F8 : v 8 = _ := hF 8 (by simp)
    have F9 : v 9 = _ := hF 9 (by simp)
    have F10 : v 10 = _ := hF 10 (by simp)
    have F11 : v 11 = _ := hF 11 (by simp)
    have F12 : v 12 = _ := hF 12 (by simp)
    have F13 : v 13 = _ := hF 13 (by simp)
    have F14 : v 14 = _ := hF 14 (by simp)
    have F15 : v 15 = _ := hF 15 (by simp)
    have F16 : v 16 = _ := hF 16 (by simp)
    have F17 : v 17 = _ := hF 17 (by simp)
    have F18 : v 18 = _ := hF 18 (by simp)
    have F19 : v 19 = _ := hF 19 (by simp)
    have F20 : v 20 = _ := hF 20 (by simp)
    have F21 : v 21 = _ := hF 21 (by simp)
    have F22 : v 22 = _ := hF 22 (by simp)
    have F23 : v 23 = _ := hF 23 (by simp)
    have F24 : v 24 = _ := hF 24 (by simp)
    have F25 : v 25 = _ := hF 25 (by simp)
    have F26 : v 26 = _ := hF 26 (by simp)
    clear hF
    simp only [frOf, frGo, Nat.zero_add, Nat.reduceAdd, F0, F1, F2, F3, F4, F5, F6, F7, F8, F9, F10, F11, F12, F13, F14, F15, F16, F17, F18, F19, F20, F21, F22, F23, F24, F25, F26]
    rw [List.drop_eq_nil_of_le (by simp)]
    refine wpList_fin ?_
    simp only [Act.put, List.setIfInBounds_toArray, List.set_cons_zero, List.set_cons_succ]
    replace B0 := b_trans B0 hB
    clear F0 F1 F2 F3 F4 F5 F6 F7 F8 F9 F10 F11 F12 F13 F14 F15 F16 F17 F18 F19 F20 F21 F22 F23 F24 F25 F26 hD hB kA c3 v
    go_wp2_with fail
    refine (fixed_mot _).mono ?_
    rintro e5 w5 ⟨rfl, hb5⟩
    replace B0 := b_trans B0 hb5
    clear hb5
    go_wp2
    go_ret
    exact ⟨rfl, B0⟩

set_option maxHeartbeats 4000000 in
set_option maxRecDepth 10000 in
theorem motionShifts_bmax (x0 x1 x2 t b tn tm bn bm : Int) (et : IntKind.i64.wrap (-t) = tn) (em : (if t < tn then tn else t) = tm) (en' : IntKind.i64.wrap (-b) = bn) (eb : (if b < bn then bn else b) = bm) (p1 : decide (1125899906842624 < tm) = false) (p2 : decide (t < -1125899906842624) = false) (p3 : 1125899906842624 < bm)
    (c3 : ∀ w, Calls Try.prog 9 #[tv x0 x1 x2, tv 72057594037927936 1125899906842624 1125899906842624] w (RetV (tv x0 x1 x2) w)) (w : World) :
    Calls Try.prog 5 #[tv x0 x1 x2, .int .i64 t, .int .i64 b] w (RetV (.bool true) w) := by
  have kA : TC (w.alloc (Obj.cells #[.int .i64 x0, .int .i64 x1, .int .i64 x2] 23)) (w.heap.size) x0 x1 x2 := tc_new rfl
  have B0 : Below w.heap.size w (w.alloc (Obj.cells #[.int .i64 x0, .int .i64 x1, .int .i64 x2] 23)) := b_alloc (Below.refl _ _)
  go_enter Try.func5, Try.ntmps5
  go_wp2
  generalize w.alloc (Obj.cells #[.int .i64 x0, .int .i64 x1, .int .i64 x2] 23) = W1 at *
  refine region_each [13, 14, 15, 16, 17, 18, 19, 20, 21, 22, 23, 24, 25, 26, 27, 28, 29, 30, 31, 32, 33, 34, 35, 36, 37, 38, 39] (fun i_ X_ U_ => match i_ with | 0 => X_ = tv x0 x1 x2 | 1 => X_ = tv x0 x1 x2 | 2 => X_ = tv 72057594037927936 1125899906842624 1125899906842624 | 3 => X_ = tv x0 x1 x2 | 4 => X_ = .bool false | 5 => X_ = .bool false | 6 => X_ = .int .i64 t | 7 => X_ = .int .i64 t | 8 => X_ = .int .i64 tn | 9 => X_ = .int .i64 tm | 10 => X_ = .bool false | 11 => X_ = .bool false | 12 => X_ = .bool false | 13 => X_ = .int .i64 t | 14 => X_ = .bool false | 15 => X_ = .bool false | 16 => X_ = .bool false | 17 => X_ = .int .i64 b | 18 => X_ = .int .i64 b | 19 => X_ = .int .i64 bn | 20 => X_ = .int .i64 bm | 21 => X_ = .bool true | 22 => X_ = .bool true | 23 => X_ = .bool true | 24 => X_ = undef | 25 => X_ = undef | 26 => X_ = .bool true | _ => True) (fun i_ => false) (by kernel_rfl) (by kernel_rfl) (by kernel_rfl) (by kernel_rfl) (by kernel_rfl) ?_ (fun i x w hi ha h => by cases ha) ?_ ?_
  · refine swp (upS (upS (upS (upS (upS (upS (upS (upS (upS (upS (upS (upS (upS (upS (upS (upS (upS (upS (upS (upS (upS (upS (upS (upS (upS (upS (upS up0 ?_) ?_) ?_) ?_) ?_) ?_) ?_) ?_) ?_) ?_) ?_) ?_) ?_) ?_) ?_) ?_) ?_) ?_) ?_) ?_) ?_) ?_) ?_) ?_) ?_) ?_) ?_)
    all_goals exact fun _ _ _ h _ => h
  · refine upS (upS (upS (upS (upS (upS (upS (upS (upS (upS (upS (upS (upS (upS (upS (upS (upS (upS (upS (upS (upS (upS (upS (upS (upS (upS (upS up0 ?_) ?_) ?_) ?_) ?_) ?_) ?_) ?_) ?_) ?_) ?_) ?_) ?_) ?_) ?_) ?_) ?_) ?_) ?_) ?_) ?_) ?_) ?_) ?_) ?_) ?_) ?_
    all_goals intro v f w' hb hv hB hd
    · have b3 : f.tmps[3]? = some (.pointer (some ⟨w.heap.size, 0, none⟩)) := (hb 3 (by decide)).trans rfl
      clear hb hv hd
      have c := tc_keep hB kA
      refine wpOp_step rfl fun K hK => ?_
      go_simp
      exact hK _ _ ⟨_, rfl, Below.refl _ _, rfl, fun h => absurd h (by decide)⟩
    · have b3 : f.tmps[3]? = some (.pointer (some ⟨w.heap.size, 0, none⟩)) := (hb 3 (by decide)).trans rfl
      clear hb hv hd
      have c := tc_keep hB kA
      refine wpOp_step rfl fun K hK => ?_
      go_simp
      exact hK _ _ ⟨_, rfl, Below.refl _ _, rfl, fun h => absurd h (by decide)⟩
    · clear hb hv hd
      refine wpOp_step rfl fun K hK => ?_
      go_simp
      exact hK _ _ ⟨_, rfl, Below.refl _ _, rfl, fun h => absurd h (by decide)⟩
    · have d1 := got (hv 1 14 rfl) (hd 1 (by kernel_rfl))
      have d2 := got (hv 2 15 rfl) (hd 2 (by kernel_rfl))
      clear hb hv hd
      refine wpOp_call rfl Try.call9 (args2 (eval_tmp d1) (eval_tmp d2)) (c3 _) ?_
      rintro e5 w5 ⟨rfl, hb5⟩
      exact ⟨_, rfl, _, rfl, hb5, rfl, fun h => absurd h (by decide)⟩
    · have d0 := got (hv 0 13 rfl) (hd 0 (by kernel_rfl))
      have d3 := got (hv 3 16 rfl) (hd 3 (by kernel_rfl))
      clear hb hv hd
      have hve := vec_eq_self
      refine wpOp_step rfl fun K hK => ?_
      go_simp
      exact hK _ _ ⟨_, rfl, Below.refl _ _, rfl, fun h => absurd h (by decide)⟩
    · have d4 := got (hv 4 17 rfl) (hd 4 (by kernel_rfl))
      clear hb hv hd
      refine wpOp_step rfl fun K hK => ?_
      go_simp
      exact hK _ _ ⟨_, rfl, Below.refl _ _, rfl, fun h => absurd h (by decide)⟩
    · have b1 : f.tmps[1]? = some (.int .i64 t) := (hb 1 (by decide)).trans rfl
      have d5 := got (hv 5 18 rfl) (hd 5 (by kernel_rfl))
      clear hb hv hd
      refine wpOp_step rfl fun K hK => ?_
      go_simp
      exact hK _ _ ⟨_, rfl, Below.refl _ _, rfl, fun h => absurd h (by decide)⟩
    · have b1 : f.tmps[1]? = some (.int .i64 t) := (hb 1 (by decide)).trans rfl
      have d5 := got (hv 5 18 rfl) (hd 5 (by kernel_rfl))
      clear hb hv hd
      refine wpOp_step rfl fun K hK => ?_
      go_simp
      exact hK _ _ ⟨_, rfl, Below.refl _ _, rfl, fun h => absurd h (by decide)⟩
    · have d7 := got (hv 7 20 rfl) (hd 7 (by kernel_rfl))
      have d5 := got (hv 5 18 rfl) (hd 5 (by kernel_rfl))
      clear hb hv hd
      refine wpOp_step rfl fun K hK => ?_
      go_simp
      exact hK _ _ ⟨_, rfl, Below.refl _ _, rfl, fun h => absurd h (by decide)⟩
    · have d6 := got (hv 6 19 rfl) (hd 6 (by kernel_rfl))
      have d8 := got (hv 8 21 rfl) (hd 8 (by kernel_rfl))
      have d5 := got (hv 5 18 rfl) (hd 5 (by kernel_rfl))
      clear hb hv hd
      refine wpOp_step rfl fun K hK => ?_
      go_simp
      exact hK _ _ ⟨_, rfl, Below.refl _ _, rfl, fun h => absurd h (by decide)⟩
    · have d9 := got (hv 9 22 rfl) (hd 9 (by kernel_rfl))
      have d5 := got (hv 5 18 rfl) (hd 5 (by kernel_rfl))
      clear hb hv hd
      refine wpOp_step rfl fun K hK => ?_
      go_simp
      exact hK _ _ ⟨_, rfl, Below.refl _ _, rfl, fun h => absurd h (by decide)⟩
    · have d5 := got (hv 5 18 rfl) (hd 5 (by kernel_rfl))
      have d10 := got (hv 10 23 rfl) (hd 10 (by kernel_rfl))
      clear hb hv hd
      refine wpOp_step rfl fun K hK => ?_
      go_simp
      exact hK _ _ ⟨_, rfl, Below.refl _ _, rfl, fun h => absurd h (by decide)⟩
    · have d11 := got (hv 11 24 rfl) (hd 11 (by kernel_rfl))
      clear hb hv hd
      refine wpOp_step rfl fun K hK => ?_
      go_simp
      exact hK _ _ ⟨_, rfl, Below.refl _ _, rfl, fun h => absurd h (by decide)⟩
    · have b1 : f.tmps[1]? = some (.int .i64 t) := (hb 1 (by decide)).trans rfl
      have d12 := got (hv 12 25 rfl) (hd 12 (by kernel_rfl))
      clear hb hv hd
      refine wpOp_step rfl fun K hK => ?_
      go_simp
      exact hK _ _ ⟨_, rfl, Below.refl _ _, rfl, fun h => absurd h (by decide)⟩
    · have d13 := got (hv 13 26 rfl) (hd 13 (by kernel_rfl))
      have d12 := got (hv 12 25 rfl) (hd 12 (by kernel_rfl))
      clear hb hv hd
      refine wpOp_step rfl fun K hK => ?_
      go_simp
      exact hK _ _ ⟨_, rfl, Below.refl _ _, rfl, fun h => absurd h (by decide)⟩
    · have d12 := got (hv 12 25 rfl) (hd 12 (by kernel_rfl))
      have d14 := got (hv 14 27 rfl) (hd 14 (by kernel_rfl))
      clear hb hv hd
      refine wpOp_step rfl fun K hK => ?_
      go_simp
      exact hK _ _ ⟨_, rfl, Below.refl _ _, rfl, fun h => absurd h (by decide)⟩
    · have d15 := got (hv 15 28 rfl) (hd 15 (by kernel_rfl))
      clear hb hv hd
      refine wpOp_step rfl fun K hK => ?_
      go_simp
      exact hK _ _ ⟨_, rfl, Below.refl _ _, rfl, fun h => absurd h (by decide)⟩
    · have b2 : f.tmps[2]? = some (.int .i64 b) := (hb 2 (by decide)).trans rfl
      have d16 := got (hv 16 29 rfl) (hd 16 (by kernel_rfl))
      clear hb hv hd
      refine wpOp_step rfl fun K hK => ?_
      go_simp
      exact hK _ _ ⟨_, rfl, Below.refl _ _, rfl, fun h => absurd h (by decide)⟩
    · have b2 : f.tmps[2]? = some (.int .i64 b) := (hb 2 (by decide)).trans rfl
      have d16 := got (hv 16 29 rfl) (hd 16 (by kernel_rfl))
      clear hb hv hd
      refine wpOp_step rfl fun K hK => ?_
      go_simp
      exact hK _ _ ⟨_, rfl, Below.refl _ _, rfl, fun h => absurd h (by decide)⟩
    · have d18 := got (hv 18 31 rfl) (hd 18 (by kernel_rfl))
      have d16 := got (hv 16 29 rfl) (hd 16 (by kernel_rfl))
      clear hb hv hd
      refine wpOp_step rfl fun K hK => ?_
      go_simp
      exact hK _ _ ⟨_, rfl, Below.refl _ _, rfl, fun h => absurd h (by decide)⟩
    · have d17 := got (hv 17 30 rfl) (hd 17 (by kernel_rfl))
      have d19 := got (hv 19 32 rfl) (hd 19 (by kernel_rfl))
      have d16 := got (hv 16 29 rfl) (hd 16 (by kernel_rfl))
      clear hb hv hd
      refine wpOp_step rfl fun K hK => ?_
      go_simp
      exact hK _ _ ⟨_, rfl, Below.refl _ _, rfl, fun h => absurd h (by decide)⟩
    · have d20 := got (hv 20 33 rfl) (hd 20 (by kernel_rfl))
      have d16 := got (hv 16 29 rfl) (hd 16 (by kernel_rfl))
      clear hb hv hd
      refine wpOp_step rfl fun K hK => ?_
      go_simp
      exact hK _ _ ⟨_, rfl, Below.refl _ _, rfl, fun h => absurd h (by decide)⟩
    · have d16 := got (hv 16 29 rfl) (hd 16 (by kernel_rfl))
      have d21 := got (hv 21 34 rfl) (hd 21 (by kernel_rfl))
      clear hb hv hd
      refine wpOp_step rfl fun K hK => ?_
      go_simp
      exact hK _ _ ⟨_, rfl, Below.refl _ _, rfl, fun h => absurd h (by decide)⟩
    · have d22 := got (hv 22 35 rfl) (hd 22 (by kernel_rfl))
      clear hb hv hd
      refine wpOp_step rfl fun K hK => ?_
      go_simp
      exact hK _ _ ⟨_, rfl, Below.refl _ _, rfl, fun h => absurd h (by decide)⟩
    · have b2 : f.tmps[2]? = some (.int .i64 b) := (hb 2 (by decide)).trans rfl
      have d23 := got (hv 23 36 rfl) (hd 23 (by kernel_rfl))
      clear hb hv hd
      refine wpOp_step rfl fun K hK => ?_
      go_simp
      exact hK _ _ ⟨_, rfl, Below.refl _ _, rfl, fun h => absurd h (by decide)⟩
    · have d24 := got (hv 24 37 rfl) (hd 24 (by kernel_rfl))
      have d23 := got (hv 23 36 rfl) (hd 23 (by kernel_rfl))
      clear hb hv hd
      refine wpOp_step rfl fun K hK => ?_
      go_simp
      exact hK _ _ ⟨_, rfl, Below.refl _ _, rfl, fun h => absurd h (by decide)⟩
    · have d23 := got (hv 23 36 rfl) (hd 23 (by kernel_rfl))
      have d25 := got (hv 25 38 rfl) (hd 25 (by kernel_rfl))
      clear hb hv hd
      refine wpOp_step rfl fun K hK => ?_
      go_simp
      exact hK _ _ ⟨_, rfl, Below.refl _ _, rfl, fun h => absurd h (by decide)⟩
  · intro v w' hB hF hD
    have F0 : v 0 = _ := hF 0 (by simp)
    have F1 : v 1 = _ := hF 1 (by simp)
    have F2 : v 2 = _ := hF 2 (by simp)
    have F3 : v 3 = _ := hF 3 (by simp)
    have F4 : v 4 = _ := hF 4 (by simp)
    have F5 : v 5 = _ := hF 5 (by simp)
    have F6 : v 6 = _ := hF 6 (by simp)
    have F7 : v 7 = _ := hF 7 (by simp)
    have F8 : v 8 = _ := hF 8 (by simp)
    have F9 : v 9 = _ := hF 9 (by simp)
    have F10 : v 10 = _ := hF 10 (by simp)
    have F11 : v 11 = _ := hF 11 (by simp)
    have F12 : v 12 = _ := hF 12 (by simp)
    have F13 : v 13 = _ := hF 13 (by simp)
    have F14 : v 14 = _ := hF 14 (by simp)
    have F15 : v 15 = _ := hF 15 (by simp)
    have F16 : v 16 = _ := hF 16 (by simp)
    have F17 : v 17 = _ := hF 17 (by simp)
    have F18 : v 18 = _ := hF 18 (by simp)
    have F19 : v 19 = _ := hF 19 (by simp)
    have F20 : v 20 = _ := hF 20 (by simp)
    have F21 : v 21 = _ := hF 21 (by simp)
    have F22 : v 22 = _ := hF 22 (by simp)
    have F23 : v 23 = _ := hF 23 (by simp)
    have F24 : v 24 = _ := hF 24 (by simp)
    have F25 : v 25 = _ := hF 25 (by simp)
    have F26 : v 26 = _ := hF 26 (by simp)
    clear hF
    simp only [frOf, frGo, Nat.zero_add, Nat.reduceAdd, F0, F1, F2, F3, F4, F5, F6, F7, F8, F9, F10, F11, F12, F13, F14, F15, F16, F17, F18, F19, F20, F21, F22, F23, F24, F25, F26]
    rw [List.drop_eq_nil_of_le (by simp)]
    refine wpList_fin ?_
    simp only [Act.put, List.setIfInBounds_toArray, List.set_cons_zero, List.set_cons_succ]
    replace B0 := b_trans B0 hB
    clear F0 F1 F2 F3 F4 F5 F6 F7 F8 F9 F10 F11 F12 F13 F14 F15 F16 F17 F18 F19 F20 F21 F22 F23 F24 F25 F26 hD hB kA c3 v
    go_wp2_with fail
    refine (fixed_mot _).mono ?_
    rintro e5 w5 ⟨rfl, hb5⟩
    replace B0 := b_trans B0 hb5
    clear hb5
    go_wp2
    go_ret
    exact ⟨rfl, B0⟩

set_option maxHeartbeats 4000000 in
set_option maxRecDepth 10000 in
theorem motionShifts_blow (x0 x1 x2 t b tn tm bn bm : Int) (et : IntKind.i64.wrap (-t) = tn) (em : (if t < tn then tn else t) = tm) (en' : IntKind.i64.wrap (-b) = bn) (eb : (if b < bn then bn else b) = bm) (p1 : decide (1125899906842624 < tm) = false) (p2 : decide (t < -1125899906842624) = false) (p3 : decide (1125899906842624 < bm) = false) (p4 : b < -1125899906842624)
    (c3 : ∀ w, Calls Try.prog 9 #[tv x0 x1 x2, tv 72057594037927936 1125899906842624 1125899906842624] w (RetV (tv x0 x1 x2) w)) (w : World) :
    Calls Try.prog 5 #[tv x0 x1 x2, .int .i64 t, .int .i64 b] w (RetV (.bool true) w) := by
  have kA : TC (w.alloc (Obj.cells #[.int .i64 x0, .int .i64 x1, .int .i64 x2] 23)) (w.heap.size) x0 x1 x2 := tc_new rfl
  have B0 : Below w.heap.size w (w.alloc (Obj.cells #[.int .i64 x0, .int .i64 x1, .int .i64 x2] 23)) := b_alloc (Below.refl _ _)
  go_enter Try.func5, Try.ntmps5
  go_wp2
  generalize w.alloc (Obj.cells #[.int .i64 x0, .int .i64 x1, .int .i64 x2] 23) = W1 at *
  refine region_each [13, 14, 15, 16, 17, 18, 19, 20, 21, 22, 23, 24, 25, 26, 27, 28, 29, 30, 31, 32, 33, 34, 35, 36, 37, 38, 39] (fun i_ X_ U_ => match i_ with | 0 => X_ = tv x0 x1 x2 | 1 => X_ = tv x0 x1 x2 | 2 => X_ = tv 72057594037927936 1125899906842624 1125899906842624 | 3 => X_ = tv x0 x1 x2 | 4 => X_ = .bool false | 5 => X_ = .bool false | 6 => X_ = .int .i64 t | 7 => X_ = .int .i64 t | 8 => X_ = .int .i64 tn | 9 => X_ = .int .i64 tm | 10 => X_ = .bool false | 11 => X_ = .bool false | 12 => X_ = .bool false | 13 => X_ = .int .i64 t | 14 => X_ = .bool false | 15 => X_ = .bool false | 16 => X_ = .bool false | 17 => X_ = .int .i64 b | 18 => X_ = .int .i64 b | 19 => X_ = .int .i64 bn | 20 => X_ = .int .i64 bm | 21 => X_ = .bool false | 22 => X_ = .bool false | 23 => X_ = .bool false | 24 => X_ = .int .i64 b | 25 => X_ = .bool true | 26 => X_ = .bool true | _ => True) (fun i_ => false) (by kernel_rfl) (by kernel_rfl) (by kernel_rfl) (by kernel_rfl) (by kernel_rfl) ?_ (fun i x w hi ha h => by cases ha) ?_ ?_
  · refine swp (upS (upS (upS (upS (upS (upS (upS (upS (upS (upS (upS (upS (upS (upS (upS (upS (upS (upS (upS (upS (upS (upS (upS (upS (upS (upS (upS up0 ?_) ?_) ?_) ?_) ?_) ?_) ?_) ?_) ?_) ?_) ?_) ?_) ?_) ?_) ?_) ?_) ?_) ?_) ?_) ?_) ?_) ?_) ?_) ?_) ?_) ?_) ?_)
    all_goals exact fun _ _ _ h _ => h
  · refine upS (upS (upS (upS (upS (upS (upS (upS (upS (upS (upS (upS (upS (upS (upS (upS (upS (upS (upS (upS (upS (upS (upS (upS (upS (upS (upS up0 ?_) ?_) ?_) ?_) ?_) ?_) ?_) ?_) ?_) ?_) ?_) ?_) ?_) ?_) ?_) ?_) ?_) ?_) ?_) ?_) ?_) ?_) ?_) ?_) ?_) ?_) ?_
    all_goals intro v f w' hb hv hB hd
    · have b3 : f.tmps[3]? = some (.pointer (some ⟨w.heap.size, 0, none⟩)) := (hb 3 (by decide)).trans rfl
      clear hb hv hd
      have c := tc_keep hB kA
      refine wpOp_step rfl fun K hK => ?_
      go_simp
      exact hK _ _ ⟨_, rfl, Below.refl _ _, rfl, fun h => absurd h (by decide)⟩
    · have b3 : f.tmps[3]? = some (.pointer (some ⟨w.heap.size, 0, none⟩)) := (hb 3 (by decide)).trans rfl
      clear hb hv hd
      have c := tc_keep hB kA
      refine wpOp_step rfl fun K hK => ?_
      go_simp
      exact hK _ _ ⟨_, rfl, Below.refl _ _, rfl, fun h => absurd h (by decide)⟩
    · clear hb hv hd
      refine wpOp_step rfl fun K hK => ?_
      go_simp
      exact hK _ _ ⟨_, rfl, Below.refl _ _, rfl, fun h => absurd h (by decide)⟩
    · have d1 := got (hv 1 14 rfl) (hd 1 (by kernel_rfl))
      have d2 := got (hv 2 15 rfl) (hd 2 (by kernel_rfl))
      clear hb hv hd
      refine wpOp_call rfl Try.call9 (args2 (eval_tmp d1) (eval_tmp d2)) (c3 _) ?_
      rintro e5 w5 ⟨rfl, hb5⟩
      exact ⟨_, rfl, _, rfl, hb5, rfl, fun h => absurd h (by decide)⟩
    · have d0 := got (hv 0 13 rfl) (hd 0 (by kernel_rfl))
      have d3 := got (hv 3 16 rfl) (hd 3 (by kernel_rfl))
      clear hb hv hd
      have hve := vec_eq_self
      refine wpOp_step rfl fun K hK => ?_
      go_simp
      exact hK _ _ ⟨_, rfl, Below.refl _ _, rfl, fun h => absurd h (by decide)⟩
    · have d4 := got (hv 4 17 rfl) (hd 4 (by kernel_rfl))
      clear hb hv hd
      refine wpOp_step rfl fun K hK => ?_
      go_simp
      exact hK _ _ ⟨_, rfl, Below.refl _ _, rfl, fun h => absurd h (by decide)⟩
    · have b1 : f.tmps[1]? = some (.int .i64 t) := (hb 1 (by decide)).trans rfl
      have d5 := got (hv 5 18 rfl) (hd 5 (by kernel_rfl))
      clear hb hv hd
      refine wpOp_step rfl fun K hK => ?_
      go_simp
      exact hK _ _ ⟨_, rfl, Below.refl _ _, rfl, fun h => absurd h (by decide)⟩
    · have b1 : f.tmps[1]? = some (.int .i64 t) := (hb 1 (by decide)).trans rfl
      have d5 := got (hv 5 18 rfl) (hd 5 (by kernel_rfl))
      clear hb hv hd
      refine wpOp_step rfl fun K hK => ?_
      go_simp
      exact hK _ _ ⟨_, rfl, Below.refl _ _, rfl, fun h => absurd h (by decide)⟩
    · have d7 := got (hv 7 20 rfl) (hd 7 (by kernel_rfl))
      have d5 := got (hv 5 18 rfl) (hd 5 (by kernel_rfl))
      clear hb hv hd
      refine wpOp_step rfl fun K hK => ?_
      go_simp
      exact hK _ _ ⟨_, rfl, Below.refl _ _, rfl, fun h => absurd h (by decide)⟩
    · have d6 := got (hv 6 19 rfl) (hd 6 (by kernel_rfl))
      have d8 := got (hv 8 21 rfl) (hd 8 (by kernel_rfl))
      have d5 := got (hv 5 18 rfl) (hd 5 (by kernel_rfl))
      clear hb hv hd
      refine wpOp_step rfl fun K hK => ?_
      go_simp
      exact hK _ _ ⟨_, rfl, Below.refl _ _, rfl, fun h => absurd h (by decide)⟩
    · have d9 := got (hv 9 22 rfl) (hd 9 (by kernel_rfl))
      have d5 := got (hv 5 18 rfl) (hd 5 (by kernel_rfl))
      clear hb hv hd
      refine wpOp_step rfl fun K hK => ?_
      go_simp
      exact hK _ _ ⟨_, rfl, Below.refl _ _, rfl, fun h => absurd h (by decide)⟩
    · have d5 := got (hv 5 18 rfl) (hd 5 (by kernel_rfl))
      have d10 := got (hv 10 23 rfl) (hd 10 (by kernel_rfl))
      clear hb hv hd
      refine wpOp_step rfl fun K hK => ?_
      go_simp
      exact hK _ _ ⟨_, rfl, Below.refl _ _, rfl, fun h => absurd h (by decide)⟩
    · have d11 := got (hv 11 24 rfl) (hd 11 (by kernel_rfl))
      clear hb hv hd
      refine wpOp_step rfl fun K hK => ?_
      go_simp
      exact hK _ _ ⟨_, rfl, Below.refl _ _, rfl, fun h => absurd h (by decide)⟩
    · have b1 : f.tmps[1]? = some (.int .i64 t) := (hb 1 (by decide)).trans rfl
      have d12 := got (hv 12 25 rfl) (hd 12 (by kernel_rfl))
      clear hb hv hd
      refine wpOp_step rfl fun K hK => ?_
      go_simp
      exact hK _ _ ⟨_, rfl, Below.refl _ _, rfl, fun h => absurd h (by decide)⟩
    · have d13 := got (hv 13 26 rfl) (hd 13 (by kernel_rfl))
      have d12 := got (hv 12 25 rfl) (hd 12 (by kernel_rfl))
      clear hb hv hd
      refine wpOp_step rfl fun K hK => ?_
      go_simp
      exact hK _ _ ⟨_, rfl, Below.refl _ _, rfl, fun h => absurd h (by decide)⟩
    · have d12 := got (hv 12 25 rfl) (hd 12 (by kernel_rfl))
      have d14 := got (hv 14 27 rfl) (hd 14 (by kernel_rfl))
      clear hb hv hd
      refine wpOp_step rfl fun K hK => ?_
      go_simp
      exact hK _ _ ⟨_, rfl, Below.refl _ _, rfl, fun h => absurd h (by decide)⟩
    · have d15 := got (hv 15 28 rfl) (hd 15 (by kernel_rfl))
      clear hb hv hd
      refine wpOp_step rfl fun K hK => ?_
      go_simp
      exact hK _ _ ⟨_, rfl, Below.refl _ _, rfl, fun h => absurd h (by decide)⟩
    · have b2 : f.tmps[2]? = some (.int .i64 b) := (hb 2 (by decide)).trans rfl
      have d16 := got (hv 16 29 rfl) (hd 16 (by kernel_rfl))
      clear hb hv hd
      refine wpOp_step rfl fun K hK => ?_
      go_simp
      exact hK _ _ ⟨_, rfl, Below.refl _ _, rfl, fun h => absurd h (by decide)⟩
    · have b2 : f.tmps[2]? = some (.int .i64 b) := (hb 2 (by decide)).trans rfl
      have d16 := got (hv 16 29 rfl) (hd 16 (by kernel_rfl))
      clear hb hv hd
      refine wpOp_step rfl fun K hK => ?_
      go_simp
      exact hK _ _ ⟨_, rfl, Below.refl _ _, rfl, fun h => absurd h (by decide)⟩
    · have d18 := got (hv 18 31 rfl) (hd 18 (by kernel_rfl))
      have d16 := got (hv 16 29 rfl) (hd 16 (by kernel_rfl))
      clear hb hv hd
      refine wpOp_step rfl fun K hK => ?_
      go_simp
      exact hK _ _ ⟨_, rfl, Below.refl _ _, rfl, fun h => absurd h (by decide)⟩
    · have d17 := got (hv 17 30 rfl) (hd 17 (by kernel_rfl))
      have d19 := got (hv 19 32 rfl) (hd 19 (by kernel_rfl))
      have d16 := got (hv 16 29 rfl) (hd 16 (by kernel_rfl))
      clear hb hv hd
      refine wpOp_step rfl fun K hK => ?_
      go_simp
      exact hK _ _ ⟨_, rfl, Below.refl _ _, rfl, fun h => absurd h (by decide)⟩
    · have d20 := got (hv 20 33 rfl) (hd 20 (by kernel_rfl))
      have d16 := got (hv 16 29 rfl) (hd 16 (by kernel_rfl))
      clear hb hv hd
      refine wpOp_step rfl fun K hK => ?_
      go_simp
      exact hK _ _ ⟨_, rfl, Below.refl _ _, rfl, fun h => absurd h (by decide)⟩
    · have d16 := got (hv 16 29 rfl) (hd 16 (by kernel_rfl))
      have d21 := got (hv 21 34 rfl) (hd 21 (by kernel_rfl))
      clear hb hv hd
      refine wpOp_step rfl fun K hK => ?_
      go_simp
      exact hK _ _ ⟨_, rfl, Below.refl _ _, rfl, fun h => absurd h (by decide)⟩
    · have d22 := got (hv 22 35 rfl) (hd 22 (by kernel_rfl))
      clear hb hv hd
      refine wpOp_step rfl fun K hK => ?_
      go_simp
      exact hK _ _ ⟨_, rfl, Below.refl _ _, rfl, fun h => absurd h (by decide)⟩
    · have b2 : f.tmps[2]? = some (.int .i64 b) := (hb 2 (by decide)).trans rfl
      have d23 := got (hv 23 36 rfl) (hd 23 (by kernel_rfl))
      clear hb hv hd
      refine wpOp_step rfl fun K hK => ?_
      go_simp
      exact hK _ _ ⟨_, rfl, Below.refl _ _, rfl, fun h => absurd h (by decide)⟩
    · have d24 := got (hv 24 37 rfl) (hd 24 (by kernel_rfl))
      have d23 := got (hv 23 36 rfl) (hd 23 (by kernel_rfl))
      clear hb hv hd
      refine wpOp_step rfl fun K hK => ?_
      go_simp
      exact hK _ _ ⟨_, rfl, Below.refl _ _, rfl, fun h => absurd h (by decide)⟩
    · have d23 := got (hv 23 36 rfl) (hd 23 (by kernel_rfl))
      have d25 := got (hv 25 38 rfl) (hd 25 (by kernel_rfl))
      clear hb hv hd
      refine wpOp_step rfl fun K hK => ?_
      go_simp
      exact hK _ _ ⟨_, rfl, Below.refl _ _, rfl, fun h => absurd h (by decide)⟩
  · intro v w' hB hF hD
    have F0 : v 0 = _ := hF 0 (by simp)
    have F1 : v 1 = _ := hF 1 (by simp)
    have F2 : v 2 = _ := hF 2 (by simp)
    have F3 : v 3 = _ := hF 3 (by simp)
    have F4 : v 4 = _ := hF 4 (by simp)
    have F5 : v 5 = _ := hF 5 (by simp)
    have F6 : v 6 = _ := hF 6 (by simp)
    have F7 : v 7 = _ := hF 7 (by simp)
    have F8 : v 8 = _ := hF 8 (by simp)
    have F9 : v 9 = _ := hF 9 (by simp)
    have F10 : v 10 = _ := hF 10 (by simp)
    have F11 : v 11 = _ := hF 11 (by simp)
    have F12 : v 12 = _ := hF 12 (by simp)
    have F13 : v 13 = _ := hF 13 (by simp)
    have F14 : v 14 = _ := hF 14 (by simp)
    have F15 : v 15 = _ := hF 15 (by simp)
    have F16 : v 16 = _ := hF 16 (by simp)
    have F17 : v 17 = _ := hF 17 (by simp)
    have F18 : v 18 = _ := hF 18 (by simp)
    have F19 : v 19 = _ := hF 19 (by simp)
    have F20 : v 20 = _ := hF 20 (by simp)
    have F21 : v 21 = _ := hF 21 (by simp)
    have F22 : v 22 = _ := hF 22 (by simp)
    have F23 : v 23 = _ := hF 23 (by simp)
    have F24 : v 24 = _ := hF 24 (by simp)
    have F25 : v 25 = _ := hF 25 (by simp)
    have F26 : v 26 = _ := hF 26 (by simp)
    clear hF
    simp only [frOf, frGo, Nat.zero_add, Nat.reduceAdd, F0, F1, F2, F3, F4, F5, F6, F7, F8, F9, F10, F11, F12, F13, F14, F15, F16, F17, F18, F19, F20, F21, F22, F23, F24, F25, F26]
    rw [List.drop_eq_nil_of_le (by simp)]
    refine wpList_fin ?_
    simp only [Act.put, List.setIfInBounds_toArray, List.set_cons_zero, List.set_cons_succ]
    replace B0 := b_trans B0 hB
    clear F0 F1 F2 F3 F4 F5 F6 F7 F8 F9 F10 F11 F12 F13 F14 F15 F16 F17 F18 F19 F20 F21 F22 F23 F24 F25 F26 hD hB kA c3 v
    go_wp2_with fail
    refine (fixed_mot _).mono ?_
    rintro e5 w5 ⟨rfl, hb5⟩
    replace B0 := b_trans B0 hb5
    clear hb5
    go_wp2
    go_ret
    exact ⟨rfl, B0⟩

set_option maxHeartbeats 4000000 in
set_option maxRecDepth 10000 in
theorem motionShifts_in (x0 x1 x2 t b tn tm bn bm xb cb tb a0 a1 ab : Int) (et : IntKind.i64.wrap (-t) = tn) (em : (if t < tn then tn else t) = tm) (en' : IntKind.i64.wrap (-b) = bn) (eb : (if b < bn then bn else b) = bm) (p1 : decide (1125899906842624 < tm) = false) (p2 : decide (t < -1125899906842624) = false) (p3 : decide (1125899906842624 < bm) = false) (p4 : decide (b < -1125899906842624) = false)
    (c3 : ∀ w, Calls Try.prog 9 #[tv x0 x1 x2, tv 72057594037927936 1125899906842624 1125899906842624] w (RetV (tv x0 x1 x2) w))
    (wa : IntKind.i64.wrap (x0 + b) = xb) (wc : IntKind.i64.wrap (x2 + b) = cb) (wt : IntKind.i64.wrap (t + b) = tb) (wab : IntKind.i64.wrap (a0 + b) = ab)
    (c1 : ∀ w, Calls Try.prog 6 #[tv x0 x1 x2, .int .i64 t] w (RetV (.tuple #[tv a0 a1 x2, .int .i64 0]) w))
    (c2 : ∀ w, Calls Try.prog 6 #[tv xb x1 x2, .int .i64 t] w (RetV (.tuple #[tv ab a1 x2, .int .i64 0]) w))
    (c4 : ∀ w, Calls Try.prog 6 #[tv x0 x1 cb, .int .i64 tb] w (RetV (.tuple #[tv a0 a1 cb, .int .i64 0]) w)) (w : World) :
    Calls Try.prog 5 #[tv x0 x1 x2, .int .i64 t, .int .i64 b] w (RetV (.bool true) w) := by
  have kA : TC (w.alloc (Obj.cells #[.int .i64 x0, .int .i64 x1, .int .i64 x2] 23)) (w.heap.size) x0 x1 x2 := tc_new rfl
  have B0 : Below w.heap.size w (w.alloc (Obj.cells #[.int .i64 x0, .int .i64 x1, .int .i64 x2] 23)) := b_alloc (Below.refl _ _)
  go_enter Try.func5, Try.ntmps5
  go_wp2
  generalize w.alloc (Obj.cells #[.int .i64 x0, .int .i64 x1, .int .i64 x2] 23) = W1 at *
  refine region_each [13, 14, 15, 16, 17, 18, 19, 20, 21, 22, 23, 24, 25, 26, 27, 28, 29, 30, 31, 32, 33, 34, 35, 36, 37, 38, 39] (fun i_ X_ U_ => match i_ with | 0 => X_ = tv x0 x1 x2 | 1 => X_ = tv x0 x1 x2 | 2 => X_ = tv 72057594037927936 1125899906842624 1125899906842624 | 3 => X_ = tv x0 x1 x2 | 4 => X_ = .bool false | 5 => X_ = .bool false | 6 => X_ = .int .i64 t | 7 => X_ = .int .i64 t | 8 => X_ = .int .i64 tn | 9 => X_ = .int .i64 tm | 10 => X_ = .bool false | 11 => X_ = .bool false | 12 => X_ = .bool false | 13 => X_ = .int .i64 t | 14 => X_ = .bool false | 15 => X_ = .bool false | 16 => X_ = .bool false | 17 => X_ = .int .i64 b | 18 => X_ = .int .i64 b | 19 => X_ = .int .i64 bn | 20 => X_ = .int .i64 bm | 21 => X_ = .bool false | 22 => X_ = .bool false | 23 => X_ = .bool false | 24 => X_ = .int .i64 b | 25 => X_ = .bool false | 26 => X_ = .bool false | _ => True) (fun i_ => false) (by kernel_rfl) (by kernel_rfl) (by kernel_rfl) (by kernel_rfl) (by kernel_rfl) ?_ (fun i x w hi ha h => by cases ha) ?_ ?_
  · refine swp (upS (upS (upS (upS (upS (upS (upS (upS (upS (upS (upS (upS (upS (upS (upS (upS (upS (upS (upS (upS (upS (upS (upS (upS (upS (upS (upS up0 ?_) ?_) ?_) ?_) ?_) ?_) ?_) ?_) ?_) ?_) ?_) ?_) ?_) ?_) ?_) ?_) ?_) ?_) ?_) ?_) ?_) ?_) ?_) ?_) ?_) ?_) ?_)
    all_goals exact fun _ _ _ h _ => h
  · refine upS (upS (upS (upS (upS (upS (upS (upS (upS (upS (upS (upS (upS (upS (upS (upS (upS (upS (upS (upS (upS (upS (upS (upS (upS (upS (upS up0 ?_) ?_) ?_) ?_) ?_) ?_) ?_) ?_) ?_) ?_) ?_) ?_) ?_) ?_) ?_) ?_) ?_) ?_) ?_) ?_) ?_) ?_) ?_) ?_) ?_) ?_) ?_
    all_goals intro v f w' hb hv hB hd
    · have b3 : f.tmps[3]? = some (.pointer (some ⟨w.heap.size, 0, none⟩)) := (hb 3 (by decide)).trans rfl
      clear hb hv hd
      have c := tc_keep hB kA
      refine wpOp_step rfl fun K hK => ?_
      go_simp
      exact hK _ _ ⟨_, rfl, Below.refl _ _, rfl, fun h => absurd h (by decide)⟩
    · have b3 : f.tmps[3]? = some (.pointer (some ⟨w.heap.size, 0, none⟩)) := (hb 3 (by decide)).trans rfl
      clear hb hv hd
      have c := tc_keep hB kA
      refine wpOp_step rfl fun K hK => ?_
      go_simp
      exact hK _ _ ⟨_, rfl, Below.refl _ _, rfl, fun h => absurd h (by decide)⟩
    · clear hb hv hd
      refine wpOp_step rfl fun K hK => ?_
      go_simp
      exact hK _ _ ⟨_, rfl, Below.refl _ _, rfl, fun h => absurd h (by decide)⟩
    · have d1 := got (hv 1 14 rfl) (hd 1 (by kernel_rfl))
      have d2 := got (hv 2 15 rfl) (hd 2 (by kernel_rfl))
      clear hb hv hd
      refine wpOp_call rfl Try.call9 (args2 (eval_tmp d1) (eval_tmp d2)) (c3 _) ?_
      rintro e5 w5 ⟨rfl, hb5⟩
      exact ⟨_, rfl, _, rfl, hb5, rfl, fun h => absurd h (by decide)⟩
    · have d0 := got (hv 0 13 rfl) (hd 0 (by kernel_rfl))
      have d3 := got (hv 3 16 rfl) (hd 3 (by kernel_rfl))
      clear hb hv hd
      have hve := vec_eq_self
      refine wpOp_step rfl fun K hK => ?_
      go_simp
      exact hK _ _ ⟨_, rfl, Below.refl _ _, rfl, fun h => absurd h (by decide)⟩
    · have d4 := got (hv 4 17 rfl) (hd 4 (by kernel_rfl))
      clear hb hv hd
      refine wpOp_step rfl fun K hK => ?_
      go_simp
      exact hK _ _ ⟨_, rfl, Below.refl _ _, rfl, fun h => absurd h (by decide)⟩
    · have b1 : f.tmps[1]? = some (.int .i64 t) := (hb 1 (by decide)).trans rfl
      have d5 := got (hv 5 18 rfl) (hd 5 (by kernel_rfl))
      clear hb hv hd
      refine wpOp_step rfl fun K hK => ?_
      go_simp
      exact hK _ _ ⟨_, rfl, Below.refl _ _, rfl, fun h => absurd h (by decide)⟩
    · have b1 : f.tmps[1]? = some (.int .i64 t) := (hb 1 (by decide)).trans rfl
      have d5 := got (hv 5 18 rfl) (hd 5 (by kernel_rfl))
      clear hb hv hd
      refine wpOp_step rfl fun K hK => ?_
      go_simp
      exact hK _ _ ⟨_, rfl, Below.refl _ _, rfl, fun h => absurd h (by decide)⟩
    · have d7 := got (hv 7 20 rfl) (hd 7 (by kernel_rfl))
      have d5 := got (hv 5 18 rfl) (hd 5 (by kernel_rfl))
      clear hb hv hd
      refine wpOp_step rfl fun K hK => ?_
      go_simp
      exact hK _ _ ⟨_, rfl, Below.refl _ _, rfl, fun h => absurd h (by decide)⟩
    · have d6 := got (hv 6 19 rfl) (hd 6 (by kernel_rfl))
      have d8 := got (hv 8 21 rfl) (hd 8 (by kernel_rfl))
      have d5 := got (hv 5 18 rfl) (hd 5 (by kernel_rfl))
      clear hb hv hd
      refine wpOp_step rfl fun K hK => ?_
      go_simp
      exact hK _ _ ⟨_, rfl, Below.refl _ _, rfl, fun h => absurd h (by decide)⟩
    · have d9 := got (hv 9 22 rfl) (hd 9 (by kernel_rfl))
      have d5 := got (hv 5 18 rfl) (hd 5 (by kernel_rfl))
      clear hb hv hd
      refine wpOp_step rfl fun K hK => ?_
      go_simp
      exact hK _ _ ⟨_, rfl, Below.refl _ _, rfl, fun h => absurd h (by decide)⟩
    · have d5 := got (hv 5 18 rfl) (hd 5 (by kernel_rfl))
      have d10 := got (hv 10 23 rfl) (hd 10 (by kernel_rfl))
      clear hb hv hd
      refine wpOp_step rfl fun K hK => ?_
      go_simp
      exact hK _ _ ⟨_, rfl, Below.refl _ _, rfl, fun h => absurd h (by decide)⟩
    · have d11 := got (hv 11 24 rfl) (hd 11 (by kernel_rfl))
      clear hb hv hd
      refine wpOp_step rfl fun K hK => ?_
      go_simp
      exact hK _ _ ⟨_, rfl, Below.refl _ _, rfl, fun h => absurd h (by decide)⟩
    · have b1 : f.tmps[1]? = some (.int .i64 t) := (hb 1 (by decide)).trans rfl
      have d12 := got (hv 12 25 rfl) (hd 12 (by kernel_rfl))
      clear hb hv hd
      refine wpOp_step rfl fun K hK => ?_
      go_simp
      exact hK _ _ ⟨_, rfl, Below.refl _ _, rfl, fun h => absurd h (by decide)⟩
    · have d13 := got (hv 13 26 rfl) (hd 13 (by kernel_rfl))
      have d12 := got (hv 12 25 rfl) (hd 12 (by kernel_rfl))
      clear hb hv hd
      refine wpOp_step rfl fun K hK => ?_
      go_simp
      exact hK _ _ ⟨_, rfl, Below.refl _ _, rfl, fun h => absurd h (by decide)⟩
    · have d12 := got (hv 12 25 rfl) (hd 12 (by kernel_rfl))
      have d14 := got (hv 14 27 rfl) (hd 14 (by kernel_rfl))
      clear hb hv hd
      refine wpOp_step rfl fun K hK => ?_
      go_simp
      exact hK _ _ ⟨_, rfl, Below.refl _ _, rfl, fun h => absurd h (by decide)⟩
    · have d15 := got (hv 15 28 rfl) (hd 15 (by kernel_rfl))
      clear hb hv hd
      refine wpOp_step rfl fun K hK => ?_
      go_simp
      exact hK _ _ ⟨_, rfl, Below.refl _ _, rfl, fun h => absurd h (by decide)⟩
    · have b2 : f.tmps[2]? = some (.int .i64 b) := (hb 2 (by decide)).trans rfl
      have d16 := got (hv 16 29 rfl) (hd 16 (by kernel_rfl))
      clear hb hv hd
      refine wpOp_step rfl fun K hK => ?_
      go_simp
      exact hK _ _ ⟨_, rfl, Below.refl _ _, rfl, fun h => absurd h (by decide)⟩
    · have b2 : f.tmps[2]? = some (.int .i64 b) := (hb 2 (by decide)).trans rfl
      have d16 := got (hv 16 29 rfl) (hd 16 (by kernel_rfl))
      clear hb hv hd
      refine wpOp_step rfl fun K hK => ?_
      go_simp
      exact hK _ _ ⟨_, rfl, Below.refl _ _, rfl, fun h => absurd h (by decide)⟩
    · have d18 := got (hv 18 31 rfl) (hd 18 (by kernel_rfl))
      have d16 := got (hv 16 29 rfl) (hd 16 (by kernel_rfl))
      clear hb hv hd
      refine wpOp_step rfl fun K hK => ?_
      go_simp
      exact hK _ _ ⟨_, rfl, Below.refl _ _, rfl, fun h => absurd h (by decide)⟩
    · have d17 := got (hv 17 30 rfl) (hd 17 (by kernel_rfl))
      have d19 := got (hv 19 32 rfl) (hd 19 (by kernel_rfl))
      have d16 := got (hv 16 29 rfl) (hd 16 (by kernel_rfl))
      clear hb hv hd
      refine wpOp_step rfl fun K hK => ?_
      go_simp
      exact hK _ _ ⟨_, rfl, Below.refl _ _, rfl, fun h => absurd h (by decide)⟩
    · have d20 := got (hv 20 33 rfl) (hd 20 (by kernel_rfl))
      have d16 := got (hv 16 29 rfl) (hd 16 (by kernel_rfl))
      clear hb hv hd
      refine wpOp_step rfl fun K hK => ?_
      go_simp
      exact hK _ _ ⟨_, rfl, Below.refl _ _, rfl, fun h => absurd h (by decide)⟩
    · have d16 := got (hv 16 29 rfl) (hd 16 (by kernel_rfl))
      have d21 := got (hv 21 34 rfl) (hd 21 (by kernel_rfl))
      clear hb hv hd
      refine wpOp_step rfl fun K hK => ?_
      go_simp
      exact hK _ _ ⟨_, rfl, Below.refl _ _, rfl, fun h => absurd h (by decide)⟩
    · have d22 := got (hv 22 35 rfl) (hd 22 (by kernel_rfl))
      clear hb hv hd
      refine wpOp_step rfl fun K hK => ?_
      go_simp
      exact hK _ _ ⟨_, rfl, Below.refl _ _, rfl, fun h => absurd h (by decide)⟩
    · have b2 : f.tmps[2]? = some (.int .i64 b) := (hb 2 (by decide)).trans rfl
      have d23 := got (hv 23 36 rfl) (hd 23 (by kernel_rfl))
      clear hb hv hd
      refine wpOp_step rfl fun K hK => ?_
      go_simp
      exact hK _ _ ⟨_, rfl, Below.refl _ _, rfl, fun h => absurd h (by decide)⟩
    · have d24 := got (hv 24 37 rfl) (hd 24 (by kernel_rfl))
      have d23 := got (hv 23 36 rfl) (hd 23 (by kernel_rfl))
      clear hb hv hd
      refine wpOp_step rfl fun K hK => ?_
      go_simp
      exact hK _ _ ⟨_, rfl, Below.refl _ _, rfl, fun h => absurd h (by decide)⟩
    · have d23 := got (hv 23 36 rfl) (hd 23 (by kernel_rfl))
      have d25 := got (hv 25 38 rfl) (hd 25 (by kernel_rfl))
      clear hb hv hd
      refine wpOp_step rfl fun K hK => ?_
      go_simp
      exact hK _ _ ⟨_, rfl, Below.refl _ _, rfl, fun h => absurd h (by decide)⟩
  · intro v w' hB hF hD
    have F0 : v 0 = _ := hF 0 (by simp)
    have F1 : v 1 = _ := hF 1 (by simp)
    have F2 : v 2 = _ := hF 2 (by simp)
    have F3 : v 3 = _ := hF 3 (by simp)
    have F4 : v 4 = _ := hF 4 (by simp)
    have F5 : v 5 = _ := hF 5 (by simp)
    have F6 : v 6 = _ := hF 6 (by simp)
    have F7 : v 7 = _ := hF 7 (by simp)
    have F8 : v 8 = _ := hF 8 (by simp)
    have F9 : v 9 = _ := hF 9 (by simp)
    have F10 : v 10 = _ := hF 10 (by simp)
    have F11 : v 11 = _ := hF 11 (by simp)
    have F12 : v 12 = _ := hF 12 (by simp)
    have F13 : v 13 = _ := hF 13 (by simp)
    have F14 : v 14 = _ := hF 14 (by simp)
    have F15 : v 15 = _ := hF 15 (by simp)
    have F16 : v 16 = _ := hF 16 (by simp)
    have F17 : v 17 = _ := hF 17 (by simp)
    have F18 : v 18 = _ := hF 18 (by simp)
    have F19 : v 19 = _ := hF 19 (by simp)
    have F20 : v 20 = _ := hF 20 (by simp)
    have F21 : v 21 = _ := hF 21 (by simp)
    have F22 : v 22 = _ := hF 22 (by simp)
    have F23 : v 23 = _ := hF 23 (by simp)
    have F24 : v 24 = _ := hF 24 (by simp)
    have F25 : v 25 = _ := hF 25 (by simp)
    have F26 : v 26 = _ := hF 26 (by simp)
    clear hF
    simp only [frOf, frGo, Nat.zero_add, Nat.reduceAdd, F0, F1, F2, F3, F4, F5, F6, F7, F8, F9, F10, F11, F12, F13, F14, F15, F16, F17, F18, F19, F20, F21, F22, F23, F24, F25, F26]
    rw [List.drop_eq_nil_of_le (by simp)]
    refine wpList_fin ?_
    simp only [Act.put, List.setIfInBounds_toArray, List.set_cons_zero, List.set_cons_succ]
    replace B0 := b_trans B0 hB
    replace kA := tc_keep hB kA
    clear F0 F1 F2 F3 F4 F5 F6 F7 F8 F9 F10 F11 F12 F13 F14 F15 F16 F17 F18 F19 F20 F21 F22 F23 F24 F25 F26 hD hB c3 v p1 p2 p3 p4 et em en' eb
    go_wp2_with fail
    refine (c1 _).mono ?_
    rintro ew1 w1 ⟨rfl, hb9⟩
    replace kA := tc_keep hb9 kA
    replace B0 := b_trans B0 hb9
    clear hb9 c1
    have ka : TC (w1.alloc (Obj.cells #[.int .i64 a0, .int .i64 a1, .int .i64 x2] 23)) w1.heap.size a0 a1 x2 := tc_new rfl
    replace kA := tc_alloc (o := (Obj.cells #[.int .i64 a0, .int .i64 a1, .int .i64 x2] 23)) kA
    replace B0 := b_alloc (o := (Obj.cells #[.int .i64 a0, .int .i64 a1, .int .i64 x2] 23)) B0
    go_wp2_with fail
    refine (c2 _).mono ?_
    rintro ew2 w2 ⟨rfl, hb9⟩
    replace kA := tc_keep hb9 kA
    replace ka := tc_keep hb9 ka
    replace B0 := b_trans B0 hb9
    clear hb9 c2
    have kb : TC (w2.alloc (Obj.cells #[.int .i64 ab, .int .i64 a1, .int .i64 x2] 23)) w2.heap.size ab a1 x2 := tc_new rfl
    replace kA := tc_alloc (o := (Obj.cells #[.int .i64 ab, .int .i64 a1, .int .i64 x2] 23)) kA
    replace ka := tc_alloc (o := (Obj.cells #[.int .i64 ab, .int .i64 a1, .int .i64 x2] 23)) ka
    replace B0 := b_alloc (o := (Obj.cells #[.int .i64 ab, .int .i64 a1, .int .i64 x2] 23)) B0
    go_wp2_with fail
    refine (c4 _).mono ?_
    rintro ew3 w3 ⟨rfl, hb9⟩
    replace kA := tc_keep hb9 kA
    replace ka := tc_keep hb9 ka
    replace kb := tc_keep hb9 kb
    replace B0 := b_trans B0 hb9
    clear hb9 c4
    have kc : TC (w3.alloc (Obj.cells #[.int .i64 a0, .int .i64 a1, .int .i64 cb] 23)) w3.heap.size a0 a1 cb := tc_new rfl
    replace kA := tc_alloc (o := (Obj.cells #[.int .i64 a0, .int .i64 a1, .int .i64 cb] 23)) kA
    replace ka := tc_alloc (o := (Obj.cells #[.int .i64 a0, .int .i64 a1, .int .i64 cb] 23)) ka
    replace kb := tc_alloc (o := (Obj.cells #[.int .i64 a0, .int .i64 a1, .int .i64 cb] 23)) kb
    replace B0 := b_alloc (o := (Obj.cells #[.int .i64 a0, .int .i64 a1, .int .i64 cb] 23)) B0
    clear kA
    have hve := vec_eq_self
    go_wp2_with fail
    refine (fixed_mot _).mono ?_
    rintro e5 w5 ⟨rfl, hb9⟩
    replace ka := tc_keep hb9 ka
    replace kb := tc_keep hb9 kb
    replace kc := tc_keep hb9 kc
    replace B0 := b_trans B0 hb9
    clear hb9
    go_wp2
    go_ret
    exact ⟨by simp, B0⟩

theorem motionShifts_any (x0 x1 x2 t b : Int) (hx0 : I64 x0) (hx1 : I64 x1) (hx2 : I64 x2) (ht : I64 t) (hb : I64 b) (w : World) :
    Calls Try.prog 5 #[tv x0 x1 x2, .int .i64 t, .int .i64 b] w (RetV (.bool true) w) := by
  have c3 := kept_mot x0 x1 x2 72057594037927936 1125899906842624 1125899906842624 hx0 hx1 hx2 (by decide) (by decide) (by decide)
  cases hc : (x0 == clz x0 72057594037927936 && (x1 == clz x1 1125899906842624 && x2 == clz x2 1125899906842624))
  · exact motionShifts_out x0 x1 x2 t b _ _ _ hc c3 w
  simp only [Bool.and_eq_true, beq_iff_eq] at hc
  obtain ⟨e0, e1, e2⟩ := hc
  rw [← e0, ← e1, ← e2] at c3
  have r0 := clz_range e0 (by decide)
  have r1 := clz_range e1 (by decide)
  have r2 := clz_range e2 (by decide)
  clear e0 e1 e2
  generalize et : IntKind.i64.wrap (-t) = tn
  generalize em : (if t < tn then tn else t) = tm
  generalize en' : IntKind.i64.wrap (-b) = bn
  generalize eb : (if b < bn then bn else b) = bm
  by_cases p1 : 1125899906842624 < tm
  · exact motionShifts_tmax _ _ _ _ _ _ _ _ _ et em en' eb p1 c3 w
  by_cases p2 : t < -1125899906842624
  · exact motionShifts_tlow _ _ _ _ _ _ _ _ _ et em en' eb (decide_eq_false p1) p2 c3 w
  by_cases p3 : 1125899906842624 < bm
  · exact motionShifts_bmax _ _ _ _ _ _ _ _ _ et em en' eb (decide_eq_false p1) (decide_eq_false p2) p3 c3 w
  by_cases p4 : b < -1125899906842624
  · exact motionShifts_blow _ _ _ _ _ _ _ _ _ et em en' eb (decide_eq_false p1) (decide_eq_false p2) (decide_eq_false p3) p4 c3 w
  have t1 : t ≤ 1125899906842624 := by
    have h : t ≤ tm := by rw [← em]; split <;> omega
    omega
  have b1 : b ≤ 1125899906842624 := by
    have h : b ≤ bm := by rw [← eb]; split <;> omega
    omega
  have u1 := mvh_bd (x := x1) (d := t - x2) ⟨by omega, by omega⟩ ⟨by omega, by omega⟩
  have u2 := mvs_bd (d := t - x2) ⟨by omega, by omega⟩
  have W : ∀ z : Int, -9223372036854775808 ≤ z → z ≤ 9223372036854775807 → IntKind.i64.wrap z = z := fun z h0 h1 => by rw [IntKind.wrap_i64]; omega
  have c : F3 x0 x1 x2 := ⟨⟨by omega, by omega⟩, ⟨by omega, by omega⟩, ⟨by omega, by omega⟩⟩
  have cb : F3 (x0 + b) x1 x2 := ⟨⟨by omega, by omega⟩, ⟨by omega, by omega⟩, ⟨by omega, by omega⟩⟩
  have cd : F3 x0 x1 (x2 + b) := ⟨⟨by omega, by omega⟩, ⟨by omega, by omega⟩, ⟨by omega, by omega⟩⟩
  refine motionShifts_in x0 x1 x2 t b tn tm bn bm (x0 + b) (x2 + b) (t + b) (x0 + mvh x1 (t - x2)) (x1 + mvs (t - x2)) (x0 + mvh x1 (t - x2) + b) et em en' eb (decide_eq_false p1) (decide_eq_false p2) (decide_eq_false p3) (decide_eq_false p4) c3 (W _ (by omega) (by omega)) (W _ (by omega) (by omega)) (W _ (by omega) (by omega)) (W _ (by omega) (by omega)) ?_ ?_ ?_ w
  · exact on_fit x0 x1 x2 t _ _ _ c ⟨by omega, by omega⟩ rfl ⟨by omega, by omega⟩ rfl ⟨by omega, by omega⟩ rfl ⟨by omega, by omega⟩
  · exact on_fit (x0 + b) x1 x2 t _ _ _ cb ⟨by omega, by omega⟩ rfl ⟨by omega, by omega⟩ (by omega) ⟨by omega, by omega⟩ rfl ⟨by omega, by omega⟩
  · exact on_fit x0 x1 (x2 + b) (t + b) (t - x2) _ _ cd ⟨by omega, by omega⟩ (by omega) ⟨by omega, by omega⟩ rfl ⟨by omega, by omega⟩ rfl ⟨by omega, by omega⟩

end Go.Proofs.Ytahpiakjhdnigaa
