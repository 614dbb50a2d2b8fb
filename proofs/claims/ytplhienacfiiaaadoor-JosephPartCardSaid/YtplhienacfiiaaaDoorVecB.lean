/- The program's function that is handed on for each place of a row: what it answers; and what 'each' makes of it. -/
import Derived.Test.YtplhienacfiiaaaDoorVecA
import Derived.Test.YtplhienacfiiaaaDoorRegion
namespace Go.Proofs.YtplhienacfiiaaaDoor
open Go.RowKit Go.Shelf

theorem clo_add_0 (A B : Nat) (r0 r1 r2 s0 s1 s2 x e : Int) (w : World) (kA : TC w A r0 r1 r2) (kB : TC w B s0 s1 s2)
    (cT : ∀ w, Calls Tryd.prog 34 #[.int .i64 r0, .int .i64 s0] w (RetV (.tuple #[.int .i64 x, .int .i64 e]) w)) :
    Calls Tryd.prog 33 #[.int .i64 0, .pointer (some ⟨A, 0, none⟩), .pointer (some ⟨B, 0, none⟩)] w (RetV (.tuple #[.int .i64 x, .int .i64 e]) w) := by
  go_enter Tryd.func33, Tryd.ntmps33
  go_wp2
  refine region_each [6, 7, 8, 9, 10, 11, 12, 13, 14] (fun i X_ U_ => match i with | 0 => X_ = .int .i64 0 | 1 => X_ = .pointer (some ⟨A, 0, none⟩) | 2 => X_ = .int .i64 r0 | 3 => X_ = .int .i64 0 | 4 => X_ = .pointer (some ⟨B, 0, none⟩) | 5 => X_ = .int .i64 s0 | 6 => X_ = .tuple #[.int .i64 x, .int .i64 e] | 7 => X_ = .int .i64 x | 8 => X_ = .int .i64 e | _ => True) (fun i => false) (by kernel_rfl) (by kernel_rfl) (by kernel_rfl) (by kernel_rfl) (by kernel_rfl) ?_ (fun i x w hi ha h => by cases ha) ?_ ?_
  · refine swp (upS (upS (upS (upS (upS (upS (upS (upS (upS up0 ?_) ?_) ?_) ?_) ?_) ?_) ?_) ?_) ?_)
    all_goals exact fun _ _ _ h _ => h
  · refine upS (upS (upS (upS (upS (upS (upS (upS (upS up0 ?_) ?_) ?_) ?_) ?_) ?_) ?_) ?_) ?_
    all_goals intro v f w' hb hv hB hd
    · have b0 : f.tmps[0]? = some (.int .i64 0) := (hb 0 (by decide)).trans rfl
      clear hb hv hd
      refine wpOp_step rfl fun K hK => ?_
      go_simp
      exact hK _ _ ⟨_, rfl, Below.refl _ _, rfl, fun h => absurd h (by decide)⟩
    · have b1 : f.tmps[1]? = some (.pointer (some ⟨A, 0, none⟩)) := (hb 1 (by decide)).trans rfl
      have d0 := got (hv 0 6 rfl) (hd 0 (by kernel_rfl))
      clear hb hv hd
      refine wpOp_step rfl fun K hK => ?_
      go_simp
      exact hK _ _ ⟨_, rfl, Below.refl _ _, rfl, fun h => absurd h (by decide)⟩
    · have d1 := got (hv 1 7 rfl) (hd 1 (by kernel_rfl))
      clear hb hv hd
      have c := tc_keep hB kA
      refine wpOp_step rfl fun K hK => ?_
      go_simp
      exact hK _ _ ⟨_, rfl, Below.refl _ _, rfl, fun h => absurd h (by decide)⟩
    · have b0 : f.tmps[0]? = some (.int .i64 0) := (hb 0 (by decide)).trans rfl
      clear hb hv hd
      refine wpOp_step rfl fun K hK => ?_
      go_simp
      exact hK _ _ ⟨_, rfl, Below.refl _ _, rfl, fun h => absurd h (by decide)⟩
    · have b2 : f.tmps[2]? = some (.pointer (some ⟨B, 0, none⟩)) := (hb 2 (by decide)).trans rfl
      have d3 := got (hv 3 9 rfl) (hd 3 (by kernel_rfl))
      clear hb hv hd
      refine wpOp_step rfl fun K hK => ?_
      go_simp
      exact hK _ _ ⟨_, rfl, Below.refl _ _, rfl, fun h => absurd h (by decide)⟩
    · have d4 := got (hv 4 10 rfl) (hd 4 (by kernel_rfl))
      clear hb hv hd
      have c := tc_keep hB kB
      refine wpOp_step rfl fun K hK => ?_
      go_simp
      exact hK _ _ ⟨_, rfl, Below.refl _ _, rfl, fun h => absurd h (by decide)⟩
    · have d2 := got (hv 2 8 rfl) (hd 2 (by kernel_rfl))
      have d5 := got (hv 5 11 rfl) (hd 5 (by kernel_rfl))
      clear hb hv hd
      refine wpOp_call rfl Tryd.call34 (args2 (eval_tmp d2) (eval_tmp d5)) (cT _) ?_
      rintro e5 w5 ⟨rfl, hb5⟩
      exact ⟨_, rfl, _, rfl, hb5, rfl, fun h => absurd h (by decide)⟩
    · have d6 := got (hv 6 12 rfl) (hd 6 (by kernel_rfl))
      clear hb hv hd
      refine wpOp_step rfl fun K hK => ?_
      go_simp
      exact hK _ _ ⟨_, rfl, Below.refl _ _, rfl, fun h => absurd h (by decide)⟩
    · have d6 := got (hv 6 12 rfl) (hd 6 (by kernel_rfl))
      clear hb hv hd
      refine wpOp_step rfl fun K hK => ?_
      go_simp
      exact hK _ _ ⟨_, rfl, Below.refl _ _, rfl, fun h => absurd h (by decide)⟩
  · intro v w' hB hF hD
    have F0 : v 0 = _ := hF 0 (by simp)
    have F1 : v 1 = _ := hF 1 (by simp)
    have F2 : v 2 = _ := hF 2 (by simp)
    have F3 : v 3 = _ := hF 3 (by simp)
    have F4 : v 4 = _ := hF 4 (by simp)
    have F5 : v 5 = _ := hF 5 (by simp)
    have F6 : v 6 = _ := hF 6 (by simp)
    have F7 : v 7 = _ := hF 7 (by simp)
    have F8 : v 8 = _ := hF 8 (by simp)
    clear hF
    simp only [frOf, frGo, Nat.zero_add, Nat.reduceAdd, F0, F1, F2, F3, F4, F5, F6, F7, F8]
    clear F0 F1 F2 F3 F4 F5 F6 F7 F8 hD cT
    go_wp2
    go_ret2
    exact ⟨rfl, hB⟩

theorem clo_add_1 (A B : Nat) (r0 r1 r2 s0 s1 s2 x e : Int) (w : World) (kA : TC w A r0 r1 r2) (kB : TC w B s0 s1 s2)
    (cT : ∀ w, Calls Tryd.prog 34 #[.int .i64 r1, .int .i64 s1] w (RetV (.tuple #[.int .i64 x, .int .i64 e]) w)) :
    Calls Tryd.prog 33 #[.int .i64 1, .pointer (some ⟨A, 0, none⟩), .pointer (some ⟨B, 0, none⟩)] w (RetV (.tuple #[.int .i64 x, .int .i64 e]) w) := by
  go_enter Tryd.func33, Tryd.ntmps33
  go_wp2
  refine region_each [6, 7, 8, 9, 10, 11, 12, 13, 14] (fun i X_ U_ => match i with | 0 => X_ = .int .i64 1 | 1 => X_ = .pointer (some ⟨A, 1, none⟩) | 2 => X_ = .int .i64 r1 | 3 => X_ = .int .i64 1 | 4 => X_ = .pointer (some ⟨B, 1, none⟩) | 5 => X_ = .int .i64 s1 | 6 => X_ = .tuple #[.int .i64 x, .int .i64 e] | 7 => X_ = .int .i64 x | 8 => X_ = .int .i64 e | _ => True) (fun i => false) (by kernel_rfl) (by kernel_rfl) (by kernel_rfl) (by kernel_rfl) (by kernel_rfl) ?_ (fun i x w hi ha h => by cases ha) ?_ ?_
  · refine swp (upS (upS (upS (upS (upS (upS (upS (upS (upS up0 ?_) ?_) ?_) ?_) ?_) ?_) ?_) ?_) ?_)
    all_goals exact fun _ _ _ h _ => h
  · refine upS (upS (upS (upS (upS (upS (upS (upS (upS up0 ?_) ?_) ?_) ?_) ?_) ?_) ?_) ?_) ?_
    all_goals intro v f w' hb hv hB hd
    · have b0 : f.tmps[0]? = some (.int .i64 1) := (hb 0 (by decide)).trans rfl
      clear hb hv hd
      refine wpOp_step rfl fun K hK => ?_
      go_simp
      exact hK _ _ ⟨_, rfl, Below.refl _ _, rfl, fun h => absurd h (by decide)⟩
    · have b1 : f.tmps[1]? = some (.pointer (some ⟨A, 0, none⟩)) := (hb 1 (by decide)).trans rfl
      have d0 := got (hv 0 6 rfl) (hd 0 (by kernel_rfl))
      clear hb hv hd
      refine wpOp_step rfl fun K hK => ?_
      go_simp
      exact hK _ _ ⟨_, rfl, Below.refl _ _, rfl, fun h => absurd h (by decide)⟩
    · have d1 := got (hv 1 7 rfl) (hd 1 (by kernel_rfl))
      clear hb hv hd
      have c := tc_keep hB kA
      refine wpOp_step rfl fun K hK => ?_
      go_simp
      exact hK _ _ ⟨_, rfl, Below.refl _ _, rfl, fun h => absurd h (by decide)⟩
    · have b0 : f.tmps[0]? = some (.int .i64 1) := (hb 0 (by decide)).trans rfl
      clear hb hv hd
      refine wpOp_step rfl fun K hK => ?_
      go_simp
      exact hK _ _ ⟨_, rfl, Below.refl _ _, rfl, fun h => absurd h (by decide)⟩
    · have b2 : f.tmps[2]? = some (.pointer (some ⟨B, 0, none⟩)) := (hb 2 (by decide)).trans rfl
      have d3 := got (hv 3 9 rfl) (hd 3 (by kernel_rfl))
      clear hb hv hd
      refine wpOp_step rfl fun K hK => ?_
      go_simp
      exact hK _ _ ⟨_, rfl, Below.refl _ _, rfl, fun h => absurd h (by decide)⟩
    · have d4 := got (hv 4 10 rfl) (hd 4 (by kernel_rfl))
      clear hb hv hd
      have c := tc_keep hB kB
      refine wpOp_step rfl fun K hK => ?_
      go_simp
      exact hK _ _ ⟨_, rfl, Below.refl _ _, rfl, fun h => absurd h (by decide)⟩
    · have d2 := got (hv 2 8 rfl) (hd 2 (by kernel_rfl))
      have d5 := got (hv 5 11 rfl) (hd 5 (by kernel_rfl))
      clear hb hv hd
      refine wpOp_call rfl Tryd.call34 (args2 (eval_tmp d2) (eval_tmp d5)) (cT _) ?_
      rintro e5 w5 ⟨rfl, hb5⟩
      exact ⟨_, rfl, _, rfl, hb5, rfl, fun h => absurd h (by decide)⟩
    · have d6 := got (hv 6 12 rfl) (hd 6 (by kernel_rfl))
      clear hb hv hd
      refine wpOp_step rfl fun K hK => ?_
      go_simp
      exact hK _ _ ⟨_, rfl, Below.refl _ _, rfl, fun h => absurd h (by decide)⟩
    · have d6 := got (hv 6 12 rfl) (hd 6 (by kernel_rfl))
      clear hb hv hd
      refine wpOp_step rfl fun K hK => ?_
      go_simp
      exact hK _ _ ⟨_, rfl, Below.refl _ _, rfl, fun h => absurd h (by decide)⟩
  · intro v w' hB hF hD
    have F0 : v 0 = _ := hF 0 (by simp)
    have F1 : v 1 = _ := hF 1 (by simp)
    have F2 : v 2 = _ := hF 2 (by simp)
    have F3 : v 3 = _ := hF 3 (by simp)
    have F4 : v 4 = _ := hF 4 (by simp)
    have F5 : v 5 = _ := hF 5 (by simp)
    have F6 : v 6 = _ := hF 6 (by simp)
    have F7 : v 7 = _ := hF 7 (by simp)
    have F8 : v 8 = _ := hF 8 (by simp)
    clear hF
    simp only [frOf, frGo, Nat.zero_add, Nat.reduceAdd, F0, F1, F2, F3, F4, F5, F6, F7, F8]
    clear F0 F1 F2 F3 F4 F5 F6 F7 F8 hD cT
    go_wp2
    go_ret2
    exact ⟨rfl, hB⟩

theorem clo_add_2 (A B : Nat) (r0 r1 r2 s0 s1 s2 x e : Int) (w : World) (kA : TC w A r0 r1 r2) (kB : TC w B s0 s1 s2)
    (cT : ∀ w, Calls Tryd.prog 34 #[.int .i64 r2, .int .i64 s2] w (RetV (.tuple #[.int .i64 x, .int .i64 e]) w)) :
    Calls Tryd.prog 33 #[.int .i64 2, .pointer (some ⟨A, 0, none⟩), .pointer (some ⟨B, 0, none⟩)] w (RetV (.tuple #[.int .i64 x, .int .i64 e]) w) := by
  go_enter Tryd.func33, Tryd.ntmps33
  go_wp2
  refine region_each [6, 7, 8, 9, 10, 11, 12, 13, 14] (fun i X_ U_ => match i with | 0 => X_ = .int .i64 2 | 1 => X_ = .pointer (some ⟨A, 2, none⟩) | 2 => X_ = .int .i64 r2 | 3 => X_ = .int .i64 2 | 4 => X_ = .pointer (some ⟨B, 2, none⟩) | 5 => X_ = .int .i64 s2 | 6 => X_ = .tuple #[.int .i64 x, .int .i64 e] | 7 => X_ = .int .i64 x | 8 => X_ = .int .i64 e | _ => True) (fun i => false) (by kernel_rfl) (by kernel_rfl) (by kernel_rfl) (by kernel_rfl) (by kernel_rfl) ?_ (fun i x w hi ha h => by cases ha) ?_ ?_
  · refine swp (upS (upS (upS (upS (upS (upS (upS (upS (upS up0 ?_) ?_) ?_) ?_) ?_) ?_) ?_) ?_) ?_)
    all_goals exact fun _ _ _ h _ => h
  · refine upS (upS (upS (upS (upS (upS (upS (upS (upS up0 ?_) ?_) ?_) ?_) ?_) ?_) ?_) ?_) ?_
    all_goals intro v f w' hb hv hB hd
    · have b0 : f.tmps[0]? = some (.int .i64 2) := (hb 0 (by decide)).trans rfl
      clear hb hv hd
      refine wpOp_step rfl fun K hK => ?_
      go_simp
      exact hK _ _ ⟨_, rfl, Below.refl _ _, rfl, fun h => absurd h (by decide)⟩
    · have b1 : f.tmps[1]? = some (.pointer (some ⟨A, 0, none⟩)) := (hb 1 (by decide)).trans rfl
      have d0 := got (hv 0 6 rfl) (hd 0 (by kernel_rfl))
      clear hb hv hd
      refine wpOp_step rfl fun K hK => ?_
      go_simp
      exact hK _ _ ⟨_, rfl, Below.refl _ _, rfl, fun h => absurd h (by decide)⟩
    · have d1 := got (hv 1 7 rfl) (hd 1 (by kernel_rfl))
      clear hb hv hd
      have c := tc_keep hB kA
      refine wpOp_step rfl fun K hK => ?_
      go_simp
      exact hK _ _ ⟨_, rfl, Below.refl _ _, rfl, fun h => absurd h (by decide)⟩
    · have b0 : f.tmps[0]? = some (.int .i64 2) := (hb 0 (by decide)).trans rfl
      clear hb hv hd
      refine wpOp_step rfl fun K hK => ?_
      go_simp
      exact hK _ _ ⟨_, rfl, Below.refl _ _, rfl, fun h => absurd h (by decide)⟩
    · have b2 : f.tmps[2]? = some (.pointer (some ⟨B, 0, none⟩)) := (hb 2 (by decide)).trans rfl
      have d3 := got (hv 3 9 rfl) (hd 3 (by kernel_rfl))
      clear hb hv hd
      refine wpOp_step rfl fun K hK => ?_
      go_simp
      exact hK _ _ ⟨_, rfl, Below.refl _ _, rfl, fun h => absurd h (by decide)⟩
    · have d4 := got (hv 4 10 rfl) (hd 4 (by kernel_rfl))
      clear hb hv hd
      have c := tc_keep hB kB
      refine wpOp_step rfl fun K hK => ?_
      go_simp
      exact hK _ _ ⟨_, rfl, Below.refl _ _, rfl, fun h => absurd h (by decide)⟩
    · have d2 := got (hv 2 8 rfl) (hd 2 (by kernel_rfl))
      have d5 := got (hv 5 11 rfl) (hd 5 (by kernel_rfl))
      clear hb hv hd
      refine wpOp_call rfl Tryd.call34 (args2 (eval_tmp d2) (eval_tmp d5)) (cT _) ?_
      rintro e5 w5 ⟨rfl, hb5⟩
      exact ⟨_, rfl, _, rfl, hb5, rfl, fun h => absurd h (by decide)⟩
    · have d6 := got (hv 6 12 rfl) (hd 6 (by kernel_rfl))
      clear hb hv hd
      refine wpOp_step rfl fun K hK => ?_
      go_simp
      exact hK _ _ ⟨_, rfl, Below.refl _ _, rfl, fun h => absurd h (by decide)⟩
    · have d6 := got (hv 6 12 rfl) (hd 6 (by kernel_rfl))
      clear hb hv hd
      refine wpOp_step rfl fun K hK => ?_
      go_simp
      exact hK _ _ ⟨_, rfl, Below.refl _ _, rfl, fun h => absurd h (by decide)⟩
  · intro v w' hB hF hD
    have F0 : v 0 = _ := hF 0 (by simp)
    have F1 : v 1 = _ := hF 1 (by simp)
    have F2 : v 2 = _ := hF 2 (by simp)
    have F3 : v 3 = _ := hF 3 (by simp)
    have F4 : v 4 = _ := hF 4 (by simp)
    have F5 : v 5 = _ := hF 5 (by simp)
    have F6 : v 6 = _ := hF 6 (by simp)
    have F7 : v 7 = _ := hF 7 (by simp)
    have F8 : v 8 = _ := hF 8 (by simp)
    clear hF
    simp only [frOf, frGo, Nat.zero_add, Nat.reduceAdd, F0, F1, F2, F3, F4, F5, F6, F7, F8]
    clear F0 F1 F2 F3 F4 F5 F6 F7 F8 hD cT
    go_wp2
    go_ret2
    exact ⟨rfl, hB⟩

theorem clo_scale_0 (A B : Nat) (r0 r1 r2 k x e : Int) (w : World) (kA : TC w A r0 r1 r2) (kB : w.cell? ⟨B, 0, none⟩ = some (.int .i64 k))
    (cT : ∀ w, Calls Tryd.prog 32 #[.int .i64 r0, .int .i64 k] w (RetV (.tuple #[.int .i64 x, .int .i64 e]) w)) :
    Calls Tryd.prog 31 #[.int .i64 0, .pointer (some ⟨A, 0, none⟩), .pointer (some ⟨B, 0, none⟩)] w (RetV (.tuple #[.int .i64 x, .int .i64 e]) w) := by
  go_enter Tryd.func31, Tryd.ntmps31
  go_wp2
  refine region_each [6, 7, 8, 9, 10, 11, 12] (fun i X_ U_ => match i with | 0 => X_ = .int .i64 0 | 1 => X_ = .pointer (some ⟨A, 0, none⟩) | 2 => X_ = .int .i64 r0 | 3 => X_ = .int .i64 k | 4 => X_ = .tuple #[.int .i64 x, .int .i64 e] | 5 => X_ = .int .i64 x | 6 => X_ = .int .i64 e | _ => True) (fun i => false) (by kernel_rfl) (by kernel_rfl) (by kernel_rfl) (by kernel_rfl) (by kernel_rfl) ?_ (fun i x w hi ha h => by cases ha) ?_ ?_
  · refine swp (upS (upS (upS (upS (upS (upS (upS up0 ?_) ?_) ?_) ?_) ?_) ?_) ?_)
    all_goals exact fun _ _ _ h _ => h
  · refine upS (upS (upS (upS (upS (upS (upS up0 ?_) ?_) ?_) ?_) ?_) ?_) ?_
    all_goals intro v f w' hb hv hB hd
    · have b0 : f.tmps[0]? = some (.int .i64 0) := (hb 0 (by decide)).trans rfl
      clear hb hv hd
      refine wpOp_step rfl fun K hK => ?_
      go_simp
      exact hK _ _ ⟨_, rfl, Below.refl _ _, rfl, fun h => absurd h (by decide)⟩
    · have b1 : f.tmps[1]? = some (.pointer (some ⟨A, 0, none⟩)) := (hb 1 (by decide)).trans rfl
      have d0 := got (hv 0 6 rfl) (hd 0 (by kernel_rfl))
      clear hb hv hd
      refine wpOp_step rfl fun K hK => ?_
      go_simp
      exact hK _ _ ⟨_, rfl, Below.refl _ _, rfl, fun h => absurd h (by decide)⟩
    · have d1 := got (hv 1 7 rfl) (hd 1 (by kernel_rfl))
      clear hb hv hd
      have c := tc_keep hB kA
      refine wpOp_step rfl fun K hK => ?_
      go_simp
      exact hK _ _ ⟨_, rfl, Below.refl _ _, rfl, fun h => absurd h (by decide)⟩
    · have b2 : f.tmps[2]? = some (.pointer (some ⟨B, 0, none⟩)) := (hb 2 (by decide)).trans rfl
      clear hb hv hd
      have c := cell_keep hB kB
      refine wpOp_step rfl fun K hK => ?_
      go_simp
      exact hK _ _ ⟨_, rfl, Below.refl _ _, rfl, fun h => absurd h (by decide)⟩
    · have d2 := got (hv 2 8 rfl) (hd 2 (by kernel_rfl))
      have d3 := got (hv 3 9 rfl) (hd 3 (by kernel_rfl))
      clear hb hv hd
      refine wpOp_call rfl Tryd.call32 (args2 (eval_tmp d2) (eval_tmp d3)) (cT _) ?_
      rintro e5 w5 ⟨rfl, hb5⟩
      exact ⟨_, rfl, _, rfl, hb5, rfl, fun h => absurd h (by decide)⟩
    · have d4 := got (hv 4 10 rfl) (hd 4 (by kernel_rfl))
      clear hb hv hd
      refine wpOp_step rfl fun K hK => ?_
      go_simp
      exact hK _ _ ⟨_, rfl, Below.refl _ _, rfl, fun h => absurd h (by decide)⟩
    · have d4 := got (hv 4 10 rfl) (hd 4 (by kernel_rfl))
      clear hb hv hd
      refine wpOp_step rfl fun K hK => ?_
      go_simp
      exact hK _ _ ⟨_, rfl, Below.refl _ _, rfl, fun h => absurd h (by decide)⟩
  · intro v w' hB hF hD
    have F0 : v 0 = _ := hF 0 (by simp)
    have F1 : v 1 = _ := hF 1 (by simp)
    have F2 : v 2 = _ := hF 2 (by simp)
    have F3 : v 3 = _ := hF 3 (by simp)
    have F4 : v 4 = _ := hF 4 (by simp)
    have F5 : v 5 = _ := hF 5 (by simp)
    have F6 : v 6 = _ := hF 6 (by simp)
    clear hF
    simp only [frOf, frGo, Nat.zero_add, Nat.reduceAdd, F0, F1, F2, F3, F4, F5, F6]
    clear F0 F1 F2 F3 F4 F5 F6 hD cT
    go_wp2
    go_ret2
    exact ⟨rfl, hB⟩

theorem clo_scale_1 (A B : Nat) (r0 r1 r2 k x e : Int) (w : World) (kA : TC w A r0 r1 r2) (kB : w.cell? ⟨B, 0, none⟩ = some (.int .i64 k))
    (cT : ∀ w, Calls Tryd.prog 32 #[.int .i64 r1, .int .i64 k] w (RetV (.tuple #[.int .i64 x, .int .i64 e]) w)) :
    Calls Tryd.prog 31 #[.int .i64 1, .pointer (some ⟨A, 0, none⟩), .pointer (some ⟨B, 0, none⟩)] w (RetV (.tuple #[.int .i64 x, .int .i64 e]) w) := by
  go_enter Tryd.func31, Tryd.ntmps31
  go_wp2
  refine region_each [6, 7, 8, 9, 10, 11, 12] (fun i X_ U_ => match i with | 0 => X_ = .int .i64 1 | 1 => X_ = .pointer (some ⟨A, 1, none⟩) | 2 => X_ = .int .i64 r1 | 3 => X_ = .int .i64 k | 4 => X_ = .tuple #[.int .i64 x, .int .i64 e] | 5 => X_ = .int .i64 x | 6 => X_ = .int .i64 e | _ => True) (fun i => false) (by kernel_rfl) (by kernel_rfl) (by kernel_rfl) (by kernel_rfl) (by kernel_rfl) ?_ (fun i x w hi ha h => by cases ha) ?_ ?_
  · refine swp (upS (upS (upS (upS (upS (upS (upS up0 ?_) ?_) ?_) ?_) ?_) ?_) ?_)
    all_goals exact fun _ _ _ h _ => h
  · refine upS (upS (upS (upS (upS (upS (upS up0 ?_) ?_) ?_) ?_) ?_) ?_) ?_
    all_goals intro v f w' hb hv hB hd
    · have b0 : f.tmps[0]? = some (.int .i64 1) := (hb 0 (by decide)).trans rfl
      clear hb hv hd
      refine wpOp_step rfl fun K hK => ?_
      go_simp
      exact hK _ _ ⟨_, rfl, Below.refl _ _, rfl, fun h => absurd h (by decide)⟩
    · have b1 : f.tmps[1]? = some (.pointer (some ⟨A, 0, none⟩)) := (hb 1 (by decide)).trans rfl
      have d0 := got (hv 0 6 rfl) (hd 0 (by kernel_rfl))
      clear hb hv hd
      refine wpOp_step rfl fun K hK => ?_
      go_simp
      exact hK _ _ ⟨_, rfl, Below.refl _ _, rfl, fun h => absurd h (by decide)⟩
    · have d1 := got (hv 1 7 rfl) (hd 1 (by kernel_rfl))
      clear hb hv hd
      have c := tc_keep hB kA
      refine wpOp_step rfl fun K hK => ?_
      go_simp
      exact hK _ _ ⟨_, rfl, Below.refl _ _, rfl, fun h => absurd h (by decide)⟩
    · have b2 : f.tmps[2]? = some (.pointer (some ⟨B, 0, none⟩)) := (hb 2 (by decide)).trans rfl
      clear hb hv hd
      have c := cell_keep hB kB
      refine wpOp_step rfl fun K hK => ?_
      go_simp
      exact hK _ _ ⟨_, rfl, Below.refl _ _, rfl, fun h => absurd h (by decide)⟩
    · have d2 := got (hv 2 8 rfl) (hd 2 (by kernel_rfl))
      have d3 := got (hv 3 9 rfl) (hd 3 (by kernel_rfl))
      clear hb hv hd
      refine wpOp_call rfl Tryd.call32 (args2 (eval_tmp d2) (eval_tmp d3)) (cT _) ?_
      rintro e5 w5 ⟨rfl, hb5⟩
      exact ⟨_, rfl, _, rfl, hb5, rfl, fun h => absurd h (by decide)⟩
    · have d4 := got (hv 4 10 rfl) (hd 4 (by kernel_rfl))
      clear hb hv hd
      refine wpOp_step rfl fun K hK => ?_
      go_simp
      exact hK _ _ ⟨_, rfl, Below.refl _ _, rfl, fun h => absurd h (by decide)⟩
    · have d4 := got (hv 4 10 rfl) (hd 4 (by kernel_rfl))
      clear hb hv hd
      refine wpOp_step rfl fun K hK => ?_
      go_simp
      exact hK _ _ ⟨_, rfl, Below.refl _ _, rfl, fun h => absurd h (by decide)⟩
  · intro v w' hB hF hD
    have F0 : v 0 = _ := hF 0 (by simp)
    have F1 : v 1 = _ := hF 1 (by simp)
    have F2 : v 2 = _ := hF 2 (by simp)
    have F3 : v 3 = _ := hF 3 (by simp)
    have F4 : v 4 = _ := hF 4 (by simp)
    have F5 : v 5 = _ := hF 5 (by simp)
    have F6 : v 6 = _ := hF 6 (by simp)
    clear hF
    simp only [frOf, frGo, Nat.zero_add, Nat.reduceAdd, F0, F1, F2, F3, F4, F5, F6]
    clear F0 F1 F2 F3 F4 F5 F6 hD cT
    go_wp2
    go_ret2
    exact ⟨rfl, hB⟩

theorem clo_scale_2 (A B : Nat) (r0 r1 r2 k x e : Int) (w : World) (kA : TC w A r0 r1 r2) (kB : w.cell? ⟨B, 0, none⟩ = some (.int .i64 k))
    (cT : ∀ w, Calls Tryd.prog 32 #[.int .i64 r2, .int .i64 k] w (RetV (.tuple #[.int .i64 x, .int .i64 e]) w)) :
    Calls Tryd.prog 31 #[.int .i64 2, .pointer (some ⟨A, 0, none⟩), .pointer (some ⟨B, 0, none⟩)] w (RetV (.tuple #[.int .i64 x, .int .i64 e]) w) := by
  go_enter Tryd.func31, Tryd.ntmps31
  go_wp2
  refine region_each [6, 7, 8, 9, 10, 11, 12] (fun i X_ U_ => match i with | 0 => X_ = .int .i64 2 | 1 => X_ = .pointer (some ⟨A, 2, none⟩) | 2 => X_ = .int .i64 r2 | 3 => X_ = .int .i64 k | 4 => X_ = .tuple #[.int .i64 x, .int .i64 e] | 5 => X_ = .int .i64 x | 6 => X_ = .int .i64 e | _ => True) (fun i => false) (by kernel_rfl) (by kernel_rfl) (by kernel_rfl) (by kernel_rfl) (by kernel_rfl) ?_ (fun i x w hi ha h => by cases ha) ?_ ?_
  · refine swp (upS (upS (upS (upS (upS (upS (upS up0 ?_) ?_) ?_) ?_) ?_) ?_) ?_)
    all_goals exact fun _ _ _ h _ => h
  · refine upS (upS (upS (upS (upS (upS (upS up0 ?_) ?_) ?_) ?_) ?_) ?_) ?_
    all_goals intro v f w' hb hv hB hd
    · have b0 : f.tmps[0]? = some (.int .i64 2) := (hb 0 (by decide)).trans rfl
      clear hb hv hd
      refine wpOp_step rfl fun K hK => ?_
      go_simp
      exact hK _ _ ⟨_, rfl, Below.refl _ _, rfl, fun h => absurd h (by decide)⟩
    · have b1 : f.tmps[1]? = some (.pointer (some ⟨A, 0, none⟩)) := (hb 1 (by decide)).trans rfl
      have d0 := got (hv 0 6 rfl) (hd 0 (by kernel_rfl))
      clear hb hv hd
      refine wpOp_step rfl fun K hK => ?_
      go_simp
      exact hK _ _ ⟨_, rfl, Below.refl _ _, rfl, fun h => absurd h (by decide)⟩
    · have d1 := got (hv 1 7 rfl) (hd 1 (by kernel_rfl))
      clear hb hv hd
      have c := tc_keep hB kA
      refine wpOp_step rfl fun K hK => ?_
      go_simp
      exact hK _ _ ⟨_, rfl, Below.refl _ _, rfl, fun h => absurd h (by decide)⟩
    · have b2 : f.tmps[2]? = some (.pointer (some ⟨B, 0, none⟩)) := (hb 2 (by decide)).trans rfl
      clear hb hv hd
      have c := cell_keep hB kB
      refine wpOp_step rfl fun K hK => ?_
      go_simp
      exact hK _ _ ⟨_, rfl, Below.refl _ _, rfl, fun h => absurd h (by decide)⟩
    · have d2 := got (hv 2 8 rfl) (hd 2 (by kernel_rfl))
      have d3 := got (hv 3 9 rfl) (hd 3 (by kernel_rfl))
      clear hb hv hd
      refine wpOp_call rfl Tryd.call32 (args2 (eval_tmp d2) (eval_tmp d3)) (cT _) ?_
      rintro e5 w5 ⟨rfl, hb5⟩
      exact ⟨_, rfl, _, rfl, hb5, rfl, fun h => absurd h (by decide)⟩
    · have d4 := got (hv 4 10 rfl) (hd 4 (by kernel_rfl))
      clear hb hv hd
      refine wpOp_step rfl fun K hK => ?_
      go_simp
      exact hK _ _ ⟨_, rfl, Below.refl _ _, rfl, fun h => absurd h (by decide)⟩
    · have d4 := got (hv 4 10 rfl) (hd 4 (by kernel_rfl))
      clear hb hv hd
      refine wpOp_step rfl fun K hK => ?_
      go_simp
      exact hK _ _ ⟨_, rfl, Below.refl _ _, rfl, fun h => absurd h (by decide)⟩
  · intro v w' hB hF hD
    have F0 : v 0 = _ := hF 0 (by simp)
    have F1 : v 1 = _ := hF 1 (by simp)
    have F2 : v 2 = _ := hF 2 (by simp)
    have F3 : v 3 = _ := hF 3 (by simp)
    have F4 : v 4 = _ := hF 4 (by simp)
    have F5 : v 5 = _ := hF 5 (by simp)
    have F6 : v 6 = _ := hF 6 (by simp)
    clear hF
    simp only [frOf, frGo, Nat.zero_add, Nat.reduceAdd, F0, F1, F2, F3, F4, F5, F6]
    clear F0 F1 F2 F3 F4 F5 F6 hD cT
    go_wp2
    go_ret2
    exact ⟨rfl, hB⟩

theorem clo_clamp_0 (A B : Nat) (r0 r1 r2 s0 s1 s2 x : Int) (w : World) (kA : TC w A r0 r1 r2) (kB : TC w B s0 s1 s2)
    (cT : ∀ w, Calls Tryd.prog 54 #[.int .i64 r0, .int .i64 s0] w fun e1 w' => e1 = .returned (.int .i64 x) ∧ w = w') :
    Calls Tryd.prog 53 #[.int .i64 0, .pointer (some ⟨A, 0, none⟩), .pointer (some ⟨B, 0, none⟩)] w (RetV (.tuple #[.int .i64 x, .int .i64 0]) w) := by
  go_enter Tryd.func53, Tryd.ntmps53
  go_wp2
  refine region_each [6, 7, 8, 9, 10, 11, 12] (fun i X_ U_ => match i with | 0 => X_ = .int .i64 0 | 1 => X_ = .pointer (some ⟨A, 0, none⟩) | 2 => X_ = .int .i64 r0 | 3 => X_ = .int .i64 0 | 4 => X_ = .pointer (some ⟨B, 0, none⟩) | 5 => X_ = .int .i64 s0 | 6 => X_ = .int .i64 x | _ => True) (fun i => false) (by kernel_rfl) (by kernel_rfl) (by kernel_rfl) (by kernel_rfl) (by kernel_rfl) ?_ (fun i x w hi ha h => by cases ha) ?_ ?_
  · refine swp (upS (upS (upS (upS (upS (upS (upS up0 ?_) ?_) ?_) ?_) ?_) ?_) ?_)
    all_goals exact fun _ _ _ h _ => h
  · refine upS (upS (upS (upS (upS (upS (upS up0 ?_) ?_) ?_) ?_) ?_) ?_) ?_
    all_goals intro v f w' hb hv hB hd
    · have b0 : f.tmps[0]? = some (.int .i64 0) := (hb 0 (by decide)).trans rfl
      clear hb hv hd
      refine wpOp_step rfl fun K hK => ?_
      go_simp
      exact hK _ _ ⟨_, rfl, Below.refl _ _, rfl, fun h => absurd h (by decide)⟩
    · have b1 : f.tmps[1]? = some (.pointer (some ⟨A, 0, none⟩)) := (hb 1 (by decide)).trans rfl
      have d0 := got (hv 0 6 rfl) (hd 0 (by kernel_rfl))
      clear hb hv hd
      refine wpOp_step rfl fun K hK => ?_
      go_simp
      exact hK _ _ ⟨_, rfl, Below.refl _ _, rfl, fun h => absurd h (by decide)⟩
    · have d1 := got (hv 1 7 rfl) (hd 1 (by kernel_rfl))
      clear hb hv hd
      have c := tc_keep hB kA
      refine wpOp_step rfl fun K hK => ?_
      go_simp
      exact hK _ _ ⟨_, rfl, Below.refl _ _, rfl, fun h => absurd h (by decide)⟩
    · have b0 : f.tmps[0]? = some (.int .i64 0) := (hb 0 (by decide)).trans rfl
      clear hb hv hd
      refine wpOp_step rfl fun K hK => ?_
      go_simp
      exact hK _ _ ⟨_, rfl, Below.refl _ _, rfl, fun h => absurd h (by decide)⟩
    · have b2 : f.tmps[2]? = some (.pointer (some ⟨B, 0, none⟩)) := (hb 2 (by decide)).trans rfl
      have d3 := got (hv 3 9 rfl) (hd 3 (by kernel_rfl))
      clear hb hv hd
      refine wpOp_step rfl fun K hK => ?_
      go_simp
      exact hK _ _ ⟨_, rfl, Below.refl _ _, rfl, fun h => absurd h (by decide)⟩
    · have d4 := got (hv 4 10 rfl) (hd 4 (by kernel_rfl))
      clear hb hv hd
      have c := tc_keep hB kB
      refine wpOp_step rfl fun K hK => ?_
      go_simp
      exact hK _ _ ⟨_, rfl, Below.refl _ _, rfl, fun h => absurd h (by decide)⟩
    · have d2 := got (hv 2 8 rfl) (hd 2 (by kernel_rfl))
      have d5 := got (hv 5 11 rfl) (hd 5 (by kernel_rfl))
      clear hb hv hd
      refine wpOp_call rfl Tryd.call54 (args2 (eval_tmp d2) (eval_tmp d5)) (cT _) ?_
      rintro e5 w5 ⟨rfl, rfl⟩
      exact ⟨_, rfl, _, rfl, Below.refl _ _, rfl, fun h => absurd h (by decide)⟩
  · intro v w' hB hF hD
    have F0 : v 0 = _ := hF 0 (by simp)
    have F1 : v 1 = _ := hF 1 (by simp)
    have F2 : v 2 = _ := hF 2 (by simp)
    have F3 : v 3 = _ := hF 3 (by simp)
    have F4 : v 4 = _ := hF 4 (by simp)
    have F5 : v 5 = _ := hF 5 (by simp)
    have F6 : v 6 = _ := hF 6 (by simp)
    clear hF
    simp only [frOf, frGo, Nat.zero_add, Nat.reduceAdd, F0, F1, F2, F3, F4, F5, F6]
    clear F0 F1 F2 F3 F4 F5 F6 hD cT
    go_wp2
    go_ret2
    exact ⟨rfl, hB⟩

theorem clo_clamp_1 (A B : Nat) (r0 r1 r2 s0 s1 s2 x : Int) (w : World) (kA : TC w A r0 r1 r2) (kB : TC w B s0 s1 s2)
    (cT : ∀ w, Calls Tryd.prog 54 #[.int .i64 r1, .int .i64 s1] w fun e1 w' => e1 = .returned (.int .i64 x) ∧ w = w') :
    Calls Tryd.prog 53 #[.int .i64 1, .pointer (some ⟨A, 0, none⟩), .pointer (some ⟨B, 0, none⟩)] w (RetV (.tuple #[.int .i64 x, .int .i64 0]) w) := by
  go_enter Tryd.func53, Tryd.ntmps53
  go_wp2
  refine region_each [6, 7, 8, 9, 10, 11, 12] (fun i X_ U_ => match i with | 0 => X_ = .int .i64 1 | 1 => X_ = .pointer (some ⟨A, 1, none⟩) | 2 => X_ = .int .i64 r1 | 3 => X_ = .int .i64 1 | 4 => X_ = .pointer (some ⟨B, 1, none⟩) | 5 => X_ = .int .i64 s1 | 6 => X_ = .int .i64 x | _ => True) (fun i => false) (by kernel_rfl) (by kernel_rfl) (by kernel_rfl) (by kernel_rfl) (by kernel_rfl) ?_ (fun i x w hi ha h => by cases ha) ?_ ?_
  · refine swp (upS (upS (upS (upS (upS (upS (upS up0 ?_) ?_) ?_) ?_) ?_) ?_) ?_)
    all_goals exact fun _ _ _ h _ => h
  · refine upS (upS (upS (upS (upS (upS (upS up0 ?_) ?_) ?_) ?_) ?_) ?_) ?_
    all_goals intro v f w' hb hv hB hd
    · have b0 : f.tmps[0]? = some (.int .i64 1) := (hb 0 (by decide)).trans rfl
      clear hb hv hd
      refine wpOp_step rfl fun K hK => ?_
      go_simp
      exact hK _ _ ⟨_, rfl, Below.refl _ _, rfl, fun h => absurd h (by decide)⟩
    · have b1 : f.tmps[1]? = some (.pointer (some ⟨A, 0, none⟩)) := (hb 1 (by decide)).trans rfl
      have d0 := got (hv 0 6 rfl) (hd 0 (by kernel_rfl))
      clear hb hv hd
      refine wpOp_step rfl fun K hK => ?_
      go_simp
      exact hK _ _ ⟨_, rfl, Below.refl _ _, rfl, fun h => absurd h (by decide)⟩
    · have d1 := got (hv 1 7 rfl) (hd 1 (by kernel_rfl))
      clear hb hv hd
      have c := tc_keep hB kA
      refine wpOp_step rfl fun K hK => ?_
      go_simp
      exact hK _ _ ⟨_, rfl, Below.refl _ _, rfl, fun h => absurd h (by decide)⟩
    · have b0 : f.tmps[0]? = some (.int .i64 1) := (hb 0 (by decide)).trans rfl
      clear hb hv hd
      refine wpOp_step rfl fun K hK => ?_
      go_simp
      exact hK _ _ ⟨_, rfl, Below.refl _ _, rfl, fun h => absurd h (by decide)⟩
    · have b2 : f.tmps[2]? = some (.pointer (some ⟨B, 0, none⟩)) := (hb 2 (by decide)).trans rfl
      have d3 := got (hv 3 9 rfl) (hd 3 (by kernel_rfl))
      clear hb hv hd
      refine wpOp_step rfl fun K hK => ?_
      go_simp
      exact hK _ _ ⟨_, rfl, Below.refl _ _, rfl, fun h => absurd h (by decide)⟩
    · have d4 := got (hv 4 10 rfl) (hd 4 (by kernel_rfl))
      clear hb hv hd
      have c := tc_keep hB kB
      refine wpOp_step rfl fun K hK => ?_
      go_simp
      exact hK _ _ ⟨_, rfl, Below.refl _ _, rfl, fun h => absurd h (by decide)⟩
    · have d2 := got (hv 2 8 rfl) (hd 2 (by kernel_rfl))
      have d5 := got (hv 5 11 rfl) (hd 5 (by kernel_rfl))
      clear hb hv hd
      refine wpOp_call rfl Tryd.call54 (args2 (eval_tmp d2) (eval_tmp d5)) (cT _) ?_
      rintro e5 w5 ⟨rfl, rfl⟩
      exact ⟨_, rfl, _, rfl, Below.refl _ _, rfl, fun h => absurd h (by decide)⟩
  · intro v w' hB hF hD
    have F0 : v 0 = _ := hF 0 (by simp)
    have F1 : v 1 = _ := hF 1 (by simp)
    have F2 : v 2 = _ := hF 2 (by simp)
    have F3 : v 3 = _ := hF 3 (by simp)
    have F4 : v 4 = _ := hF 4 (by simp)
    have F5 : v 5 = _ := hF 5 (by simp)
    have F6 : v 6 = _ := hF 6 (by simp)
    clear hF
    simp only [frOf, frGo, Nat.zero_add, Nat.reduceAdd, F0, F1, F2, F3, F4, F5, F6]
    clear F0 F1 F2 F3 F4 F5 F6 hD cT
    go_wp2
    go_ret2
    exact ⟨rfl, hB⟩

theorem clo_clamp_2 (A B : Nat) (r0 r1 r2 s0 s1 s2 x : Int) (w : World) (kA : TC w A r0 r1 r2) (kB : TC w B s0 s1 s2)
    (cT : ∀ w, Calls Tryd.prog 54 #[.int .i64 r2, .int .i64 s2] w fun e1 w' => e1 = .returned (.int .i64 x) ∧ w = w') :
    Calls Tryd.prog 53 #[.int .i64 2, .pointer (some ⟨A, 0, none⟩), .pointer (some ⟨B, 0, none⟩)] w (RetV (.tuple #[.int .i64 x, .int .i64 0]) w) := by
  go_enter Tryd.func53, Tryd.ntmps53
  go_wp2
  refine region_each [6, 7, 8, 9, 10, 11, 12] (fun i X_ U_ => match i with | 0 => X_ = .int .i64 2 | 1 => X_ = .pointer (some ⟨A, 2, none⟩) | 2 => X_ = .int .i64 r2 | 3 => X_ = .int .i64 2 | 4 => X_ = .pointer (some ⟨B, 2, none⟩) | 5 => X_ = .int .i64 s2 | 6 => X_ = .int .i64 x | _ => True) (fun i => false) (by kernel_rfl) (by kernel_rfl) (by kernel_rfl) (by kernel_rfl) (by kernel_rfl) ?_ (fun i x w hi ha h => by cases ha) ?_ ?_
  · refine swp (upS (upS (upS (upS (upS (upS (upS up0 ?_) ?_) ?_) ?_) ?_) ?_) ?_)
    all_goals exact fun _ _ _ h _ => h
  · refine upS (upS (upS (upS (upS (upS (upS up0 ?_) ?_) ?_) ?_) ?_) ?_) ?_
    all_goals intro v f w' hb hv hB hd
    · have b0 : f.tmps[0]? = some (.int .i64 2) := (hb 0 (by decide)).trans rfl
      clear hb hv hd
      refine wpOp_step rfl fun K hK => ?_
      go_simp
      exact hK _ _ ⟨_, rfl, Below.refl _ _, rfl, fun h => absurd h (by decide)⟩
    · have b1 : f.tmps[1]? = some (.pointer (some ⟨A, 0, none⟩)) := (hb 1 (by decide)).trans rfl
      have d0 := got (hv 0 6 rfl) (hd 0 (by kernel_rfl))
      clear hb hv hd
      refine wpOp_step rfl fun K hK => ?_
      go_simp
      exact hK _ _ ⟨_, rfl, Below.refl _ _, rfl, fun h => absurd h (by decide)⟩
    · have d1 := got (hv 1 7 rfl) (hd 1 (by kernel_rfl))
      clear hb hv hd
      have c := tc_keep hB kA
      refine wpOp_step rfl fun K hK => ?_
      go_simp
      exact hK _ _ ⟨_, rfl, Below.refl _ _, rfl, fun h => absurd h (by decide)⟩
    · have b0 : f.tmps[0]? = some (.int .i64 2) := (hb 0 (by decide)).trans rfl
      clear hb hv hd
      refine wpOp_step rfl fun K hK => ?_
      go_simp
      exact hK _ _ ⟨_, rfl, Below.refl _ _, rfl, fun h => absurd h (by decide)⟩
    · have b2 : f.tmps[2]? = some (.pointer (some ⟨B, 0, none⟩)) := (hb 2 (by decide)).trans rfl
      have d3 := got (hv 3 9 rfl) (hd 3 (by kernel_rfl))
      clear hb hv hd
      refine wpOp_step rfl fun K hK => ?_
      go_simp
      exact hK _ _ ⟨_, rfl, Below.refl _ _, rfl, fun h => absurd h (by decide)⟩
    · have d4 := got (hv 4 10 rfl) (hd 4 (by kernel_rfl))
      clear hb hv hd
      have c := tc_keep hB kB
      refine wpOp_step rfl fun K hK => ?_
      go_simp
      exact hK _ _ ⟨_, rfl, Below.refl _ _, rfl, fun h => absurd h (by decide)⟩
    · have d2 := got (hv 2 8 rfl) (hd 2 (by kernel_rfl))
      have d5 := got (hv 5 11 rfl) (hd 5 (by kernel_rfl))
      clear hb hv hd
      refine wpOp_call rfl Tryd.call54 (args2 (eval_tmp d2) (eval_tmp d5)) (cT _) ?_
      rintro e5 w5 ⟨rfl, rfl⟩
      exact ⟨_, rfl, _, rfl, Below.refl _ _, rfl, fun h => absurd h (by decide)⟩
  · intro v w' hB hF hD
    have F0 : v 0 = _ := hF 0 (by simp)
    have F1 : v 1 = _ := hF 1 (by simp)
    have F2 : v 2 = _ := hF 2 (by simp)
    have F3 : v 3 = _ := hF 3 (by simp)
    have F4 : v 4 = _ := hF 4 (by simp)
    have F5 : v 5 = _ := hF 5 (by simp)
    have F6 : v 6 = _ := hF 6 (by simp)
    clear hF
    simp only [frOf, frGo, Nat.zero_add, Nat.reduceAdd, F0, F1, F2, F3, F4, F5, F6]
    clear F0 F1 F2 F3 F4 F5 F6 hD cT
    go_wp2
    go_ret2
    exact ⟨rfl, hB⟩


end Go.Proofs.YtplhienacfiiaaaDoor
