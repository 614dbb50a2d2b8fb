/- The program's function that is handed on for each place of a row: what it answers; and what 'each' makes of it. -/
import Derived.Test.YtokjljmamiipbaaVecA
import Derived.Test.YtokjljmamiipbaaRegion
namespace Go.Proofs.Ytokjljmamiipbaa
open Go.RowKit Go.Shelf

theorem clo_add_0 (A B : Nat) (r0 r1 r2 s0 s1 s2 x e : Int) (w : World) (kA : TC w A r0 r1 r2) (kB : TC w B s0 s1 s2)
    (cT : ∀ w, Calls Try.prog 20 #[.int .i64 r0, .int .i64 s0] w (RetV (.tuple #[.int .i64 x, .int .i64 e]) w)) :
    Calls Try.prog 19 #[.int .i64 0, .pointer (some ⟨A, 0, none⟩), .pointer (some ⟨B, 0, none⟩)] w (RetV (.tuple #[.int .i64 x, .int .i64 e]) w) := by
  go_enter Try.func19, Try.ntmps19
  go_wp2
  refine region_each [6, 7, 8, 9, 10, 11, 12, 13, 14] (fun i X_ U_ => match i with | 0 => X_ = .int .i64 0 | 1 => X_ = .pointer (some ⟨A, 0, none⟩) | 2 => X_ = .int .i64 r0 | 3 => X_ = .int .i64 0 | 4 => X_ = .pointer (some ⟨B, 0, none⟩) | 5 => X_ = .int .i64 s0 | 6 => X_ = .tuple #[.int .i64 x, .int .i64 e] | 7 => X_ = .int .i64 x | 8 => X_ = .int .i64 e | _ => True) (fun i => false) (by kernel_rfl) (by kernel_rfl) (by kernel_rfl) (by kernel_rfl) (by kernel_rfl) ?_ ?_ ?_ ?_
  · intro i x w w' hi h hb
    match i, hi with
    | 0, _ => exact h
    | 1, _ => exact h
    | 2, _ => exact h
    | 3, _ => exact h
    | 4, _ => exact h
    | 5, _ => exact h
    | 6, _ => exact h
    | 7, _ => exact h
    | 8, _ => exact h
    | k + 9, hk => exact absurd hk (by simp)
  · intro i x w hi ha h
    cases ha
  · intro i hi v f w' hb hv hB hd
    match i, hi with
    | 0, _ =>
      have b0 : f.tmps[0]? = some (.int .i64 0) := (hb 0 (by decide)).trans rfl
      clear hb hv hd
      refine wpOp_step rfl (fun K hK => ?_)
      go_simp
      exact hK _ _ ⟨_, rfl, Below.refl _ _, rfl, fun h => absurd h (by decide)⟩
    | 1, _ =>
      have b1 : f.tmps[1]? = some (.pointer (some ⟨A, 0, none⟩)) := (hb 1 (by decide)).trans rfl
      have h0 : (v 0) = .int .i64 0 := hd 0 (by kernel_rfl)
      have d0 : f.tmps[6]? = some (.int .i64 0) := (hv 0 6 rfl).trans (congrArg some h0)
      clear h0
      clear hb hv hd
      refine wpOp_step rfl (fun K hK => ?_)
      go_simp
      exact hK _ _ ⟨_, rfl, Below.refl _ _, rfl, fun h => absurd h (by decide)⟩
    | 2, _ =>
      have h1 : (v 1) = .pointer (some ⟨A, 0, none⟩) := hd 1 (by kernel_rfl)
      have d1 : f.tmps[7]? = some (.pointer (some ⟨A, 0, none⟩)) := (hv 1 7 rfl).trans (congrArg some h1)
      clear h1
      clear hb hv hd
      have c := tc_keep hB kA
      refine wpOp_step rfl (fun K hK => ?_)
      go_simp
      exact hK _ _ ⟨_, rfl, Below.refl _ _, rfl, fun h => absurd h (by decide)⟩
    | 3, _ =>
      have b0 : f.tmps[0]? = some (.int .i64 0) := (hb 0 (by decide)).trans rfl
      clear hb hv hd
      refine wpOp_step rfl (fun K hK => ?_)
      go_simp
      exact hK _ _ ⟨_, rfl, Below.refl _ _, rfl, fun h => absurd h (by decide)⟩
    | 4, _ =>
      have b2 : f.tmps[2]? = some (.pointer (some ⟨B, 0, none⟩)) := (hb 2 (by decide)).trans rfl
      have h3 : (v 3) = .int .i64 0 := hd 3 (by kernel_rfl)
      have d3 : f.tmps[9]? = some (.int .i64 0) := (hv 3 9 rfl).trans (congrArg some h3)
      clear h3
      clear hb hv hd
      refine wpOp_step rfl (fun K hK => ?_)
      go_simp
      exact hK _ _ ⟨_, rfl, Below.refl _ _, rfl, fun h => absurd h (by decide)⟩
    | 5, _ =>
      have h4 : (v 4) = .pointer (some ⟨B, 0, none⟩) := hd 4 (by kernel_rfl)
      have d4 : f.tmps[10]? = some (.pointer (some ⟨B, 0, none⟩)) := (hv 4 10 rfl).trans (congrArg some h4)
      clear h4
      clear hb hv hd
      have c := tc_keep hB kB
      refine wpOp_step rfl (fun K hK => ?_)
      go_simp
      exact hK _ _ ⟨_, rfl, Below.refl _ _, rfl, fun h => absurd h (by decide)⟩
    | 6, _ =>
      have h2 : (v 2) = .int .i64 r0 := hd 2 (by kernel_rfl)
      have d2 : f.tmps[8]? = some (.int .i64 r0) := (hv 2 8 rfl).trans (congrArg some h2)
      clear h2
      have h5 : (v 5) = .int .i64 s0 := hd 5 (by kernel_rfl)
      have d5 : f.tmps[11]? = some (.int .i64 s0) := (hv 5 11 rfl).trans (congrArg some h5)
      clear h5
      clear hb hv hd
      refine wpOp_step rfl (fun K hK => ?_)
      go_simp
      refine (cT _).mono ?_
      rintro e5 w5 ⟨rfl, hb5⟩
      exact hK _ _ ⟨_, rfl, hb5, rfl, fun h => absurd h (by decide)⟩
    | 7, _ =>
      have h6 : (v 6) = .tuple #[.int .i64 x, .int .i64 e] := hd 6 (by kernel_rfl)
      have d6 : f.tmps[12]? = some (.tuple #[.int .i64 x, .int .i64 e]) := (hv 6 12 rfl).trans (congrArg some h6)
      clear h6
      clear hb hv hd
      refine wpOp_step rfl (fun K hK => ?_)
      go_simp
      exact hK _ _ ⟨_, rfl, Below.refl _ _, rfl, fun h => absurd h (by decide)⟩
    | 8, _ =>
      have h6 : (v 6) = .tuple #[.int .i64 x, .int .i64 e] := hd 6 (by kernel_rfl)
      have d6 : f.tmps[12]? = some (.tuple #[.int .i64 x, .int .i64 e]) := (hv 6 12 rfl).trans (congrArg some h6)
      clear h6
      clear hb hv hd
      refine wpOp_step rfl (fun K hK => ?_)
      go_simp
      exact hK _ _ ⟨_, rfl, Below.refl _ _, rfl, fun h => absurd h (by decide)⟩
    | k + 9, hk => exact absurd hk (by simp)
  · intro v w' hB hF hD
    have F0 : (v 0) = .int .i64 0 := hF 0 (by simp)
    have F1 : (v 1) = .pointer (some ⟨A, 0, none⟩) := hF 1 (by simp)
    have F2 : (v 2) = .int .i64 r0 := hF 2 (by simp)
    have F3 : (v 3) = .int .i64 0 := hF 3 (by simp)
    have F4 : (v 4) = .pointer (some ⟨B, 0, none⟩) := hF 4 (by simp)
    have F5 : (v 5) = .int .i64 s0 := hF 5 (by simp)
    have F6 : (v 6) = .tuple #[.int .i64 x, .int .i64 e] := hF 6 (by simp)
    have F7 : (v 7) = .int .i64 x := hF 7 (by simp)
    have F8 : (v 8) = .int .i64 e := hF 8 (by simp)
    clear hF
    simp only [frOf, frGo, Nat.zero_add, Nat.reduceAdd, F0, F1, F2, F3, F4, F5, F6, F7, F8]
    clear F0 F1 F2 F3 F4 F5 F6 F7 F8 hD cT
    go_wp2
    go_ret2
    exact ⟨rfl, hB⟩

theorem clo_add_1 (A B : Nat) (r0 r1 r2 s0 s1 s2 x e : Int) (w : World) (kA : TC w A r0 r1 r2) (kB : TC w B s0 s1 s2)
    (cT : ∀ w, Calls Try.prog 20 #[.int .i64 r1, .int .i64 s1] w (RetV (.tuple #[.int .i64 x, .int .i64 e]) w)) :
    Calls Try.prog 19 #[.int .i64 1, .pointer (some ⟨A, 0, none⟩), .pointer (some ⟨B, 0, none⟩)] w (RetV (.tuple #[.int .i64 x, .int .i64 e]) w) := by
  go_enter Try.func19, Try.ntmps19
  go_wp2
  refine region_each [6, 7, 8, 9, 10, 11, 12, 13, 14] (fun i X_ U_ => match i with | 0 => X_ = .int .i64 1 | 1 => X_ = .pointer (some ⟨A, 1, none⟩) | 2 => X_ = .int .i64 r1 | 3 => X_ = .int .i64 1 | 4 => X_ = .pointer (some ⟨B, 1, none⟩) | 5 => X_ = .int .i64 s1 | 6 => X_ = .tuple #[.int .i64 x, .int .i64 e] | 7 => X_ = .int .i64 x | 8 => X_ = .int .i64 e | _ => True) (fun i => false) (by kernel_rfl) (by kernel_rfl) (by kernel_rfl) (by kernel_rfl) (by kernel_rfl) ?_ ?_ ?_ ?_
  · intro i x w w' hi h hb
    match i, hi with
    | 0, _ => exact h
    | 1, _ => exact h
    | 2, _ => exact h
    | 3, _ => exact h
    | 4, _ => exact h
    | 5, _ => exact h
    | 6, _ => exact h
    | 7, _ => exact h
    | 8, _ => exact h
    | k + 9, hk => exact absurd hk (by simp)
  · intro i x w hi ha h
    cases ha
  · intro i hi v f w' hb hv hB hd
    match i, hi with
    | 0, _ =>
      have b0 : f.tmps[0]? = some (.int .i64 1) := (hb 0 (by decide)).trans rfl
      clear hb hv hd
      refine wpOp_step rfl (fun K hK => ?_)
      go_simp
      exact hK _ _ ⟨_, rfl, Below.refl _ _, rfl, fun h => absurd h (by decide)⟩
    | 1, _ =>
      have b1 : f.tmps[1]? = some (.pointer (some ⟨A, 0, none⟩)) := (hb 1 (by decide)).trans rfl
      have h0 : (v 0) = .int .i64 1 := hd 0 (by kernel_rfl)
      have d0 : f.tmps[6]? = some (.int .i64 1) := (hv 0 6 rfl).trans (congrArg some h0)
      clear h0
      clear hb hv hd
      refine wpOp_step rfl (fun K hK => ?_)
      go_simp
      exact hK _ _ ⟨_, rfl, Below.refl _ _, rfl, fun h => absurd h (by decide)⟩
    | 2, _ =>
      have h1 : (v 1) = .pointer (some ⟨A, 1, none⟩) := hd 1 (by kernel_rfl)
      have d1 : f.tmps[7]? = some (.pointer (some ⟨A, 1, none⟩)) := (hv 1 7 rfl).trans (congrArg some h1)
      clear h1
      clear hb hv hd
      have c := tc_keep hB kA
      refine wpOp_step rfl (fun K hK => ?_)
      go_simp
      exact hK _ _ ⟨_, rfl, Below.refl _ _, rfl, fun h => absurd h (by decide)⟩
    | 3, _ =>
      have b0 : f.tmps[0]? = some (.int .i64 1) := (hb 0 (by decide)).trans rfl
      clear hb hv hd
      refine wpOp_step rfl (fun K hK => ?_)
      go_simp
      exact hK _ _ ⟨_, rfl, Below.refl _ _, rfl, fun h => absurd h (by decide)⟩
    | 4, _ =>
      have b2 : f.tmps[2]? = some (.pointer (some ⟨B, 0, none⟩)) := (hb 2 (by decide)).trans rfl
      have h3 : (v 3) = .int .i64 1 := hd 3 (by kernel_rfl)
      have d3 : f.tmps[9]? = some (.int .i64 1) := (hv 3 9 rfl).trans (congrArg some h3)
      clear h3
      clear hb hv hd
      refine wpOp_step rfl (fun K hK => ?_)
      go_simp
      exact hK _ _ ⟨_, rfl, Below.refl _ _, rfl, fun h => absurd h (by decide)⟩
    | 5, _ =>
      have h4 : (v 4) = .pointer (some ⟨B, 1, none⟩) := hd 4 (by kernel_rfl)
      have d4 : f.tmps[10]? = some (.pointer (some ⟨B, 1, none⟩)) := (hv 4 10 rfl).trans (congrArg some h4)
      clear h4
      clear hb hv hd
      have c := tc_keep hB kB
      refine wpOp_step rfl (fun K hK => ?_)
      go_simp
      exact hK _ _ ⟨_, rfl, Below.refl _ _, rfl, fun h => absurd h (by decide)⟩
    | 6, _ =>
      have h2 : (v 2) = .int .i64 r1 := hd 2 (by kernel_rfl)
      have d2 : f.tmps[8]? = some (.int .i64 r1) := (hv 2 8 rfl).trans (congrArg some h2)
      clear h2
      have h5 : (v 5) = .int .i64 s1 := hd 5 (by kernel_rfl)
      have d5 : f.tmps[11]? = some (.int .i64 s1) := (hv 5 11 rfl).trans (congrArg some h5)
      clear h5
      clear hb hv hd
      refine wpOp_step rfl (fun K hK => ?_)
      go_simp
      refine (cT _).mono ?_
      rintro e5 w5 ⟨rfl, hb5⟩
      exact hK _ _ ⟨_, rfl, hb5, rfl, fun h => absurd h (by decide)⟩
    | 7, _ =>
      have h6 : (v 6) = .tuple #[.int .i64 x, .int .i64 e] := hd 6 (by kernel_rfl)
      have d6 : f.tmps[12]? = some (.tuple #[.int .i64 x, .int .i64 e]) := (hv 6 12 rfl).trans (congrArg some h6)
      clear h6
      clear hb hv hd
      refine wpOp_step rfl (fun K hK => ?_)
      go_simp
      exact hK _ _ ⟨_, rfl, Below.refl _ _, rfl, fun h => absurd h (by decide)⟩
    | 8, _ =>
      have h6 : (v 6) = .tuple #[.int .i64 x, .int .i64 e] := hd 6 (by kernel_rfl)
      have d6 : f.tmps[12]? = some (.tuple #[.int .i64 x, .int .i64 e]) := (hv 6 12 rfl).trans (congrArg some h6)
      clear h6
      clear hb hv hd
      refine wpOp_step rfl (fun K hK => ?_)
      go_simp
      exact hK _ _ ⟨_, rfl, Below.refl _ _, rfl, fun h => absurd h (by decide)⟩
    | k + 9, hk => exact absurd hk (by simp)
  · intro v w' hB hF hD
    have F0 : (v 0) = .int .i64 1 := hF 0 (by simp)
    have F1 : (v 1) = .pointer (some ⟨A, 1, none⟩) := hF 1 (by simp)
    have F2 : (v 2) = .int .i64 r1 := hF 2 (by simp)
    have F3 : (v 3) = .int .i64 1 := hF 3 (by simp)
    have F4 : (v 4) = .pointer (some ⟨B, 1, none⟩) := hF 4 (by simp)
    have F5 : (v 5) = .int .i64 s1 := hF 5 (by simp)
    have F6 : (v 6) = .tuple #[.int .i64 x, .int .i64 e] := hF 6 (by simp)
    have F7 : (v 7) = .int .i64 x := hF 7 (by simp)
    have F8 : (v 8) = .int .i64 e := hF 8 (by simp)
    clear hF
    simp only [frOf, frGo, Nat.zero_add, Nat.reduceAdd, F0, F1, F2, F3, F4, F5, F6, F7, F8]
    clear F0 F1 F2 F3 F4 F5 F6 F7 F8 hD cT
    go_wp2
    go_ret2
    exact ⟨rfl, hB⟩

theorem clo_add_2 (A B : Nat) (r0 r1 r2 s0 s1 s2 x e : Int) (w : World) (kA : TC w A r0 r1 r2) (kB : TC w B s0 s1 s2)
    (cT : ∀ w, Calls Try.prog 20 #[.int .i64 r2, .int .i64 s2] w (RetV (.tuple #[.int .i64 x, .int .i64 e]) w)) :
    Calls Try.prog 19 #[.int .i64 2, .pointer (some ⟨A, 0, none⟩), .pointer (some ⟨B, 0, none⟩)] w (RetV (.tuple #[.int .i64 x, .int .i64 e]) w) := by
  go_enter Try.func19, Try.ntmps19
  go_wp2
  refine region_each [6, 7, 8, 9, 10, 11, 12, 13, 14] (fun i X_ U_ => match i with | 0 => X_ = .int .i64 2 | 1 => X_ = .pointer (some ⟨A, 2, none⟩) | 2 => X_ = .int .i64 r2 | 3 => X_ = .int .i64 2 | 4 => X_ = .pointer (some ⟨B, 2, none⟩) | 5 => X_ = .int .i64 s2 | 6 => X_ = .tuple #[.int .i64 x, .int .i64 e] | 7 => X_ = .int .i64 x | 8 => X_ = .int .i64 e | _ => True) (fun i => false) (by kernel_rfl) (by kernel_rfl) (by kernel_rfl) (by kernel_rfl) (by kernel_rfl) ?_ ?_ ?_ ?_
  · intro i x w w' hi h hb
    match i, hi with
    | 0, _ => exact h
    | 1, _ => exact h
    | 2, _ => exact h
    | 3, _ => exact h
    | 4, _ => exact h
    | 5, _ => exact h
    | 6, _ => exact h
    | 7, _ => exact h
    | 8, _ => exact h
    | k + 9, hk => exact absurd hk (by simp)
  · intro i x w hi ha h
    cases ha
  · intro i hi v f w' hb hv hB hd
    match i, hi with
    | 0, _ =>
      have b0 : f.tmps[0]? = some (.int .i64 2) := (hb 0 (by decide)).trans rfl
      clear hb hv hd
      refine wpOp_step rfl (fun K hK => ?_)
      go_simp
      exact hK _ _ ⟨_, rfl, Below.refl _ _, rfl, fun h => absurd h (by decide)⟩
    | 1, _ =>
      have b1 : f.tmps[1]? = some (.pointer (some ⟨A, 0, none⟩)) := (hb 1 (by decide)).trans rfl
      have h0 : (v 0) = .int .i64 2 := hd 0 (by kernel_rfl)
      have d0 : f.tmps[6]? = some (.int .i64 2) := (hv 0 6 rfl).trans (congrArg some h0)
      clear h0
      clear hb hv hd
      refine wpOp_step rfl (fun K hK => ?_)
      go_simp
      exact hK _ _ ⟨_, rfl, Below.refl _ _, rfl, fun h => absurd h (by decide)⟩
    | 2, _ =>
      have h1 : (v 1) = .pointer (some ⟨A, 2, none⟩) := hd 1 (by kernel_rfl)
      have d1 : f.tmps[7]? = some (.pointer (some ⟨A, 2, none⟩)) := (hv 1 7 rfl).trans (congrArg some h1)
      clear h1
      clear hb hv hd
      have c := tc_keep hB kA
      refine wpOp_step rfl (fun K hK => ?_)
      go_simp
      exact hK _ _ ⟨_, rfl, Below.refl _ _, rfl, fun h => absurd h (by decide)⟩
    | 3, _ =>
      have b0 : f.tmps[0]? = some (.int .i64 2) := (hb 0 (by decide)).trans rfl
      clear hb hv hd
      refine wpOp_step rfl (fun K hK => ?_)
      go_simp
      exact hK _ _ ⟨_, rfl, Below.refl _ _, rfl, fun h => absurd h (by decide)⟩
    | 4, _ =>
      have b2 : f.tmps[2]? = some (.pointer (some ⟨B, 0, none⟩)) := (hb 2 (by decide)).trans rfl
      have h3 : (v 3) = .int .i64 2 := hd 3 (by kernel_rfl)
      have d3 : f.tmps[9]? = some (.int .i64 2) := (hv 3 9 rfl).trans (congrArg some h3)
      clear h3
      clear hb hv hd
      refine wpOp_step rfl (fun K hK => ?_)
      go_simp
      exact hK _ _ ⟨_, rfl, Below.refl _ _, rfl, fun h => absurd h (by decide)⟩
    | 5, _ =>
      have h4 : (v 4) = .pointer (some ⟨B, 2, none⟩) := hd 4 (by kernel_rfl)
      have d4 : f.tmps[10]? = some (.pointer (some ⟨B, 2, none⟩)) := (hv 4 10 rfl).trans (congrArg some h4)
      clear h4
      clear hb hv hd
      have c := tc_keep hB kB
      refine wpOp_step rfl (fun K hK => ?_)
      go_simp
      exact hK _ _ ⟨_, rfl, Below.refl _ _, rfl, fun h => absurd h (by decide)⟩
    | 6, _ =>
      have h2 : (v 2) = .int .i64 r2 := hd 2 (by kernel_rfl)
      have d2 : f.tmps[8]? = some (.int .i64 r2) := (hv 2 8 rfl).trans (congrArg some h2)
      clear h2
      have h5 : (v 5) = .int .i64 s2 := hd 5 (by kernel_rfl)
      have d5 : f.tmps[11]? = some (.int .i64 s2) := (hv 5 11 rfl).trans (congrArg some h5)
      clear h5
      clear hb hv hd
      refine wpOp_step rfl (fun K hK => ?_)
      go_simp
      refine (cT _).mono ?_
      rintro e5 w5 ⟨rfl, hb5⟩
      exact hK _ _ ⟨_, rfl, hb5, rfl, fun h => absurd h (by decide)⟩
    | 7, _ =>
      have h6 : (v 6) = .tuple #[.int .i64 x, .int .i64 e] := hd 6 (by kernel_rfl)
      have d6 : f.tmps[12]? = some (.tuple #[.int .i64 x, .int .i64 e]) := (hv 6 12 rfl).trans (congrArg some h6)
      clear h6
      clear hb hv hd
      refine wpOp_step rfl (fun K hK => ?_)
      go_simp
      exact hK _ _ ⟨_, rfl, Below.refl _ _, rfl, fun h => absurd h (by decide)⟩
    | 8, _ =>
      have h6 : (v 6) = .tuple #[.int .i64 x, .int .i64 e] := hd 6 (by kernel_rfl)
      have d6 : f.tmps[12]? = some (.tuple #[.int .i64 x, .int .i64 e]) := (hv 6 12 rfl).trans (congrArg some h6)
      clear h6
      clear hb hv hd
      refine wpOp_step rfl (fun K hK => ?_)
      go_simp
      exact hK _ _ ⟨_, rfl, Below.refl _ _, rfl, fun h => absurd h (by decide)⟩
    | k + 9, hk => exact absurd hk (by simp)
  · intro v w' hB hF hD
    have F0 : (v 0) = .int .i64 2 := hF 0 (by simp)
    have F1 : (v 1) = .pointer (some ⟨A, 2, none⟩) := hF 1 (by simp)
    have F2 : (v 2) = .int .i64 r2 := hF 2 (by simp)
    have F3 : (v 3) = .int .i64 2 := hF 3 (by simp)
    have F4 : (v 4) = .pointer (some ⟨B, 2, none⟩) := hF 4 (by simp)
    have F5 : (v 5) = .int .i64 s2 := hF 5 (by simp)
    have F6 : (v 6) = .tuple #[.int .i64 x, .int .i64 e] := hF 6 (by simp)
    have F7 : (v 7) = .int .i64 x := hF 7 (by simp)
    have F8 : (v 8) = .int .i64 e := hF 8 (by simp)
    clear hF
    simp only [frOf, frGo, Nat.zero_add, Nat.reduceAdd, F0, F1, F2, F3, F4, F5, F6, F7, F8]
    clear F0 F1 F2 F3 F4 F5 F6 F7 F8 hD cT
    go_wp2
    go_ret2
    exact ⟨rfl, hB⟩

theorem clo_scale_0 (A B : Nat) (r0 r1 r2 k x e : Int) (w : World) (kA : TC w A r0 r1 r2) (kB : w.cell? ⟨B, 0, none⟩ = some (.int .i64 k))
    (cT : ∀ w, Calls Try.prog 28 #[.int .i64 r0, .int .i64 k] w (RetV (.tuple #[.int .i64 x, .int .i64 e]) w)) :
    Calls Try.prog 27 #[.int .i64 0, .pointer (some ⟨A, 0, none⟩), .pointer (some ⟨B, 0, none⟩)] w (RetV (.tuple #[.int .i64 x, .int .i64 e]) w) := by
  go_enter Try.func27, Try.ntmps27
  go_wp2
  refine region_each [6, 7, 8, 9, 10, 11, 12] (fun i X_ U_ => match i with | 0 => X_ = .int .i64 0 | 1 => X_ = .pointer (some ⟨A, 0, none⟩) | 2 => X_ = .int .i64 r0 | 3 => X_ = .int .i64 k | 4 => X_ = .tuple #[.int .i64 x, .int .i64 e] | 5 => X_ = .int .i64 x | 6 => X_ = .int .i64 e | _ => True) (fun i => false) (by kernel_rfl) (by kernel_rfl) (by kernel_rfl) (by kernel_rfl) (by kernel_rfl) ?_ ?_ ?_ ?_
  · intro i x w w' hi h hb
    match i, hi with
    | 0, _ => exact h
    | 1, _ => exact h
    | 2, _ => exact h
    | 3, _ => exact h
    | 4, _ => exact h
    | 5, _ => exact h
    | 6, _ => exact h
    | k + 7, hk => exact absurd hk (by simp)
  · intro i x w hi ha h
    cases ha
  · intro i hi v f w' hb hv hB hd
    match i, hi with
    | 0, _ =>
      have b0 : f.tmps[0]? = some (.int .i64 0) := (hb 0 (by decide)).trans rfl
      clear hb hv hd
      refine wpOp_step rfl (fun K hK => ?_)
      go_simp
      exact hK _ _ ⟨_, rfl, Below.refl _ _, rfl, fun h => absurd h (by decide)⟩
    | 1, _ =>
      have b1 : f.tmps[1]? = some (.pointer (some ⟨A, 0, none⟩)) := (hb 1 (by decide)).trans rfl
      have h0 : (v 0) = .int .i64 0 := hd 0 (by kernel_rfl)
      have d0 : f.tmps[6]? = some (.int .i64 0) := (hv 0 6 rfl).trans (congrArg some h0)
      clear h0
      clear hb hv hd
      refine wpOp_step rfl (fun K hK => ?_)
      go_simp
      exact hK _ _ ⟨_, rfl, Below.refl _ _, rfl, fun h => absurd h (by decide)⟩
    | 2, _ =>
      have h1 : (v 1) = .pointer (some ⟨A, 0, none⟩) := hd 1 (by kernel_rfl)
      have d1 : f.tmps[7]? = some (.pointer (some ⟨A, 0, none⟩)) := (hv 1 7 rfl).trans (congrArg some h1)
      clear h1
      clear hb hv hd
      have c := tc_keep hB kA
      refine wpOp_step rfl (fun K hK => ?_)
      go_simp
      exact hK _ _ ⟨_, rfl, Below.refl _ _, rfl, fun h => absurd h (by decide)⟩
    | 3, _ =>
      have b2 : f.tmps[2]? = some (.pointer (some ⟨B, 0, none⟩)) := (hb 2 (by decide)).trans rfl
      clear hb hv hd
      have c := cell_keep hB kB
      refine wpOp_step rfl (fun K hK => ?_)
      go_simp
      exact hK _ _ ⟨_, rfl, Below.refl _ _, rfl, fun h => absurd h (by decide)⟩
    | 4, _ =>
      have h2 : (v 2) = .int .i64 r0 := hd 2 (by kernel_rfl)
      have d2 : f.tmps[8]? = some (.int .i64 r0) := (hv 2 8 rfl).trans (congrArg some h2)
      clear h2
      have h3 : (v 3) = .int .i64 k := hd 3 (by kernel_rfl)
      have d3 : f.tmps[9]? = some (.int .i64 k) := (hv 3 9 rfl).trans (congrArg some h3)
      clear h3
      clear hb hv hd
      refine wpOp_step rfl (fun K hK => ?_)
      go_simp
      refine (cT _).mono ?_
      rintro e5 w5 ⟨rfl, hb5⟩
      exact hK _ _ ⟨_, rfl, hb5, rfl, fun h => absurd h (by decide)⟩
    | 5, _ =>
      have h4 : (v 4) = .tuple #[.int .i64 x, .int .i64 e] := hd 4 (by kernel_rfl)
      have d4 : f.tmps[10]? = some (.tuple #[.int .i64 x, .int .i64 e]) := (hv 4 10 rfl).trans (congrArg some h4)
      clear h4
      clear hb hv hd
      refine wpOp_step rfl (fun K hK => ?_)
      go_simp
      exact hK _ _ ⟨_, rfl, Below.refl _ _, rfl, fun h => absurd h (by decide)⟩
    | 6, _ =>
      have h4 : (v 4) = .tuple #[.int .i64 x, .int .i64 e] := hd 4 (by kernel_rfl)
      have d4 : f.tmps[10]? = some (.tuple #[.int .i64 x, .int .i64 e]) := (hv 4 10 rfl).trans (congrArg some h4)
      clear h4
      clear hb hv hd
      refine wpOp_step rfl (fun K hK => ?_)
      go_simp
      exact hK _ _ ⟨_, rfl, Below.refl _ _, rfl, fun h => absurd h (by decide)⟩
    | k + 7, hk => exact absurd hk (by simp)
  · intro v w' hB hF hD
    have F0 : (v 0) = .int .i64 0 := hF 0 (by simp)
    have F1 : (v 1) = .pointer (some ⟨A, 0, none⟩) := hF 1 (by simp)
    have F2 : (v 2) = .int .i64 r0 := hF 2 (by simp)
    have F3 : (v 3) = .int .i64 k := hF 3 (by simp)
    have F4 : (v 4) = .tuple #[.int .i64 x, .int .i64 e] := hF 4 (by simp)
    have F5 : (v 5) = .int .i64 x := hF 5 (by simp)
    have F6 : (v 6) = .int .i64 e := hF 6 (by simp)
    clear hF
    simp only [frOf, frGo, Nat.zero_add, Nat.reduceAdd, F0, F1, F2, F3, F4, F5, F6]
    clear F0 F1 F2 F3 F4 F5 F6 hD cT
    go_wp2
    go_ret2
    exact ⟨rfl, hB⟩

theorem clo_scale_1 (A B : Nat) (r0 r1 r2 k x e : Int) (w : World) (kA : TC w A r0 r1 r2) (kB : w.cell? ⟨B, 0, none⟩ = some (.int .i64 k))
    (cT : ∀ w, Calls Try.prog 28 #[.int .i64 r1, .int .i64 k] w (RetV (.tuple #[.int .i64 x, .int .i64 e]) w)) :
    Calls Try.prog 27 #[.int .i64 1, .pointer (some ⟨A, 0, none⟩), .pointer (some ⟨B, 0, none⟩)] w (RetV (.tuple #[.int .i64 x, .int .i64 e]) w) := by
  go_enter Try.func27, Try.ntmps27
  go_wp2
  refine region_each [6, 7, 8, 9, 10, 11, 12] (fun i X_ U_ => match i with | 0 => X_ = .int .i64 1 | 1 => X_ = .pointer (some ⟨A, 1, none⟩) | 2 => X_ = .int .i64 r1 | 3 => X_ = .int .i64 k | 4 => X_ = .tuple #[.int .i64 x, .int .i64 e] | 5 => X_ = .int .i64 x | 6 => X_ = .int .i64 e | _ => True) (fun i => false) (by kernel_rfl) (by kernel_rfl) (by kernel_rfl) (by kernel_rfl) (by kernel_rfl) ?_ ?_ ?_ ?_
  · intro i x w w' hi h hb
    match i, hi with
    | 0, _ => exact h
    | 1, _ => exact h
    | 2, _ => exact h
    | 3, _ => exact h
    | 4, _ => exact h
    | 5, _ => exact h
    | 6, _ => exact h
    | k + 7, hk => exact absurd hk (by simp)
  · intro i x w hi ha h
    cases ha
  · intro i hi v f w' hb hv hB hd
    match i, hi with
    | 0, _ =>
      have b0 : f.tmps[0]? = some (.int .i64 1) := (hb 0 (by decide)).trans rfl
      clear hb hv hd
      refine wpOp_step rfl (fun K hK => ?_)
      go_simp
      exact hK _ _ ⟨_, rfl, Below.refl _ _, rfl, fun h => absurd h (by decide)⟩
    | 1, _ =>
      have b1 : f.tmps[1]? = some (.pointer (some ⟨A, 0, none⟩)) := (hb 1 (by decide)).trans rfl
      have h0 : (v 0) = .int .i64 1 := hd 0 (by kernel_rfl)
      have d0 : f.tmps[6]? = some (.int .i64 1) := (hv 0 6 rfl).trans (congrArg some h0)
      clear h0
      clear hb hv hd
      refine wpOp_step rfl (fun K hK => ?_)
      go_simp
      exact hK _ _ ⟨_, rfl, Below.refl _ _, rfl, fun h => absurd h (by decide)⟩
    | 2, _ =>
      have h1 : (v 1) = .pointer (some ⟨A, 1, none⟩) := hd 1 (by kernel_rfl)
      have d1 : f.tmps[7]? = some (.pointer (some ⟨A, 1, none⟩)) := (hv 1 7 rfl).trans (congrArg some h1)
      clear h1
      clear hb hv hd
      have c := tc_keep hB kA
      refine wpOp_step rfl (fun K hK => ?_)
      go_simp
      exact hK _ _ ⟨_, rfl, Below.refl _ _, rfl, fun h => absurd h (by decide)⟩
    | 3, _ =>
      have b2 : f.tmps[2]? = some (.pointer (some ⟨B, 0, none⟩)) := (hb 2 (by decide)).trans rfl
      clear hb hv hd
      have c := cell_keep hB kB
      refine wpOp_step rfl (fun K hK => ?_)
      go_simp
      exact hK _ _ ⟨_, rfl, Below.refl _ _, rfl, fun h => absurd h (by decide)⟩
    | 4, _ =>
      have h2 : (v 2) = .int .i64 r1 := hd 2 (by kernel_rfl)
      have d2 : f.tmps[8]? = some (.int .i64 r1) := (hv 2 8 rfl).trans (congrArg some h2)
      clear h2
      have h3 : (v 3) = .int .i64 k := hd 3 (by kernel_rfl)
      have d3 : f.tmps[9]? = some (.int .i64 k) := (hv 3 9 rfl).trans (congrArg some h3)
      clear h3
      clear hb hv hd
      refine wpOp_step rfl (fun K hK => ?_)
      go_simp
      refine (cT _).mono ?_
      rintro e5 w5 ⟨rfl, hb5⟩
      exact hK _ _ ⟨_, rfl, hb5, rfl, fun h => absurd h (by decide)⟩
    | 5, _ =>
      have h4 : (v 4) = .tuple #[.int .i64 x, .int .i64 e] := hd 4 (by kernel_rfl)
      have d4 : f.tmps[10]? = some (.tuple #[.int .i64 x, .int .i64 e]) := (hv 4 10 rfl).trans (congrArg some h4)
      clear h4
      clear hb hv hd
      refine wpOp_step rfl (fun K hK => ?_)
      go_simp
      exact hK _ _ ⟨_, rfl, Below.refl _ _, rfl, fun h => absurd h (by decide)⟩
    | 6, _ =>
      have h4 : (v 4) = .tuple #[.int .i64 x, .int .i64 e] := hd 4 (by kernel_rfl)
      have d4 : f.tmps[10]? = some (.tuple #[.int .i64 x, .int .i64 e]) := (hv 4 10 rfl).trans (congrArg some h4)
      clear h4
      clear hb hv hd
      refine wpOp_step rfl (fun K hK => ?_)
      go_simp
      exact hK _ _ ⟨_, rfl, Below.refl _ _, rfl, fun h => absurd h (by decide)⟩
    | k + 7, hk => exact absurd hk (by simp)
  · intro v w' hB hF hD
    have F0 : (v 0) = .int .i64 1 := hF 0 (by simp)
    have F1 : (v 1) = .pointer (some ⟨A, 1, none⟩) := hF 1 (by simp)
    have F2 : (v 2) = .int .i64 r1 := hF 2 (by simp)
    have F3 : (v 3) = .int .i64 k := hF 3 (by simp)
    have F4 : (v 4) = .tuple #[.int .i64 x, .int .i64 e] := hF 4 (by simp)
    have F5 : (v 5) = .int .i64 x := hF 5 (by simp)
    have F6 : (v 6) = .int .i64 e := hF 6 (by simp)
    clear hF
    simp only [frOf, frGo, Nat.zero_add, Nat.reduceAdd, F0, F1, F2, F3, F4, F5, F6]
    clear F0 F1 F2 F3 F4 F5 F6 hD cT
    go_wp2
    go_ret2
    exact ⟨rfl, hB⟩

theorem clo_scale_2 (A B : Nat) (r0 r1 r2 k x e : Int) (w : World) (kA : TC w A r0 r1 r2) (kB : w.cell? ⟨B, 0, none⟩ = some (.int .i64 k))
    (cT : ∀ w, Calls Try.prog 28 #[.int .i64 r2, .int .i64 k] w (RetV (.tuple #[.int .i64 x, .int .i64 e]) w)) :
    Calls Try.prog 27 #[.int .i64 2, .pointer (some ⟨A, 0, none⟩), .pointer (some ⟨B, 0, none⟩)] w (RetV (.tuple #[.int .i64 x, .int .i64 e]) w) := by
  go_enter Try.func27, Try.ntmps27
  go_wp2
  refine region_each [6, 7, 8, 9, 10, 11, 12] (fun i X_ U_ => match i with | 0 => X_ = .int .i64 2 | 1 => X_ = .pointer (some ⟨A, 2, none⟩) | 2 => X_ = .int .i64 r2 | 3 => X_ = .int .i64 k | 4 => X_ = .tuple #[.int .i64 x, .int .i64 e] | 5 => X_ = .int .i64 x | 6 => X_ = .int .i64 e | _ => True) (fun i => false) (by kernel_rfl) (by kernel_rfl) (by kernel_rfl) (by kernel_rfl) (by kernel_rfl) ?_ ?_ ?_ ?_
  · intro i x w w' hi h hb
    match i, hi with
    | 0, _ => exact h
    | 1, _ => exact h
    | 2, _ => exact h
    | 3, _ => exact h
    | 4, _ => exact h
    | 5, _ => exact h
    | 6, _ => exact h
    | k + 7, hk => exact absurd hk (by simp)
  · intro i x w hi ha h
    cases ha
  · intro i hi v f w' hb hv hB hd
    match i, hi with
    | 0, _ =>
      have b0 : f.tmps[0]? = some (.int .i64 2) := (hb 0 (by decide)).trans rfl
      clear hb hv hd
      refine wpOp_step rfl (fun K hK => ?_)
      go_simp
      exact hK _ _ ⟨_, rfl, Below.refl _ _, rfl, fun h => absurd h (by decide)⟩
    | 1, _ =>
      have b1 : f.tmps[1]? = some (.pointer (some ⟨A, 0, none⟩)) := (hb 1 (by decide)).trans rfl
      have h0 : (v 0) = .int .i64 2 := hd 0 (by kernel_rfl)
      have d0 : f.tmps[6]? = some (.int .i64 2) := (hv 0 6 rfl).trans (congrArg some h0)
      clear h0
      clear hb hv hd
      refine wpOp_step rfl (fun K hK => ?_)
      go_simp
      exact hK _ _ ⟨_, rfl, Below.refl _ _, rfl, fun h => absurd h (by decide)⟩
    | 2, _ =>
      have h1 : (v 1) = .pointer (some ⟨A, 2, none⟩) := hd 1 (by kernel_rfl)
      have d1 : f.tmps[7]? = some (.pointer (some ⟨A, 2, none⟩)) := (hv 1 7 rfl).trans (congrArg some h1)
      clear h1
      clear hb hv hd
      have c := tc_keep hB kA
      refine wpOp_step rfl (fun K hK => ?_)
      go_simp
      exact hK _ _ ⟨_, rfl, Below.refl _ _, rfl, fun h => absurd h (by decide)⟩
    | 3, _ =>
      have b2 : f.tmps[2]? = some (.pointer (some ⟨B, 0, none⟩)) := (hb 2 (by decide)).trans rfl
      clear hb hv hd
      have c := cell_keep hB kB
      refine wpOp_step rfl (fun K hK => ?_)
      go_simp
      exact hK _ _ ⟨_, rfl, Below.refl _ _, rfl, fun h => absurd h (by decide)⟩
    | 4, _ =>
      have h2 : (v 2) = .int .i64 r2 := hd 2 (by kernel_rfl)
      have d2 : f.tmps[8]? = some (.int .i64 r2) := (hv 2 8 rfl).trans (congrArg some h2)
      clear h2
      have h3 : (v 3) = .int .i64 k := hd 3 (by kernel_rfl)
      have d3 : f.tmps[9]? = some (.int .i64 k) := (hv 3 9 rfl).trans (congrArg some h3)
      clear h3
      clear hb hv hd
      refine wpOp_step rfl (fun K hK => ?_)
      go_simp
      refine (cT _).mono ?_
      rintro e5 w5 ⟨rfl, hb5⟩
      exact hK _ _ ⟨_, rfl, hb5, rfl, fun h => absurd h (by decide)⟩
    | 5, _ =>
      have h4 : (v 4) = .tuple #[.int .i64 x, .int .i64 e] := hd 4 (by kernel_rfl)
      have d4 : f.tmps[10]? = some (.tuple #[.int .i64 x, .int .i64 e]) := (hv 4 10 rfl).trans (congrArg some h4)
      clear h4
      clear hb hv hd
      refine wpOp_step rfl (fun K hK => ?_)
      go_simp
      exact hK _ _ ⟨_, rfl, Below.refl _ _, rfl, fun h => absurd h (by decide)⟩
    | 6, _ =>
      have h4 : (v 4) = .tuple #[.int .i64 x, .int .i64 e] := hd 4 (by kernel_rfl)
      have d4 : f.tmps[10]? = some (.tuple #[.int .i64 x, .int .i64 e]) := (hv 4 10 rfl).trans (congrArg some h4)
      clear h4
      clear hb hv hd
      refine wpOp_step rfl (fun K hK => ?_)
      go_simp
      exact hK _ _ ⟨_, rfl, Below.refl _ _, rfl, fun h => absurd h (by decide)⟩
    | k + 7, hk => exact absurd hk (by simp)
  · intro v w' hB hF hD
    have F0 : (v 0) = .int .i64 2 := hF 0 (by simp)
    have F1 : (v 1) = .pointer (some ⟨A, 2, none⟩) := hF 1 (by simp)
    have F2 : (v 2) = .int .i64 r2 := hF 2 (by simp)
    have F3 : (v 3) = .int .i64 k := hF 3 (by simp)
    have F4 : (v 4) = .tuple #[.int .i64 x, .int .i64 e] := hF 4 (by simp)
    have F5 : (v 5) = .int .i64 x := hF 5 (by simp)
    have F6 : (v 6) = .int .i64 e := hF 6 (by simp)
    clear hF
    simp only [frOf, frGo, Nat.zero_add, Nat.reduceAdd, F0, F1, F2, F3, F4, F5, F6]
    clear F0 F1 F2 F3 F4 F5 F6 hD cT
    go_wp2
    go_ret2
    exact ⟨rfl, hB⟩

theorem clo_clamp_0 (A B : Nat) (r0 r1 r2 s0 s1 s2 x : Int) (w : World) (kA : TC w A r0 r1 r2) (kB : TC w B s0 s1 s2)
    (cT : ∀ w, Calls Try.prog 23 #[.int .i64 r0, .int .i64 s0] w fun e1 w' => e1 = .returned (.int .i64 x) ∧ w = w') :
    Calls Try.prog 22 #[.int .i64 0, .pointer (some ⟨A, 0, none⟩), .pointer (some ⟨B, 0, none⟩)] w (RetV (.tuple #[.int .i64 x, .int .i64 0]) w) := by
  go_enter Try.func22, Try.ntmps22
  go_wp2
  refine region_each [6, 7, 8, 9, 10, 11, 12] (fun i X_ U_ => match i with | 0 => X_ = .int .i64 0 | 1 => X_ = .pointer (some ⟨A, 0, none⟩) | 2 => X_ = .int .i64 r0 | 3 => X_ = .int .i64 0 | 4 => X_ = .pointer (some ⟨B, 0, none⟩) | 5 => X_ = .int .i64 s0 | 6 => X_ = .int .i64 x | _ => True) (fun i => false) (by kernel_rfl) (by kernel_rfl) (by kernel_rfl) (by kernel_rfl) (by kernel_rfl) ?_ ?_ ?_ ?_
  · intro i x w w' hi h hb
    match i, hi with
    | 0, _ => exact h
    | 1, _ => exact h
    | 2, _ => exact h
    | 3, _ => exact h
    | 4, _ => exact h
    | 5, _ => exact h
    | 6, _ => exact h
    | k + 7, hk => exact absurd hk (by simp)
  · intro i x w hi ha h
    cases ha
  · intro i hi v f w' hb hv hB hd
    match i, hi with
    | 0, _ =>
      have b0 : f.tmps[0]? = some (.int .i64 0) := (hb 0 (by decide)).trans rfl
      clear hb hv hd
      refine wpOp_step rfl (fun K hK => ?_)
      go_simp
      exact hK _ _ ⟨_, rfl, Below.refl _ _, rfl, fun h => absurd h (by decide)⟩
    | 1, _ =>
      have b1 : f.tmps[1]? = some (.pointer (some ⟨A, 0, none⟩)) := (hb 1 (by decide)).trans rfl
      have h0 : (v 0) = .int .i64 0 := hd 0 (by kernel_rfl)
      have d0 : f.tmps[6]? = some (.int .i64 0) := (hv 0 6 rfl).trans (congrArg some h0)
      clear h0
      clear hb hv hd
      refine wpOp_step rfl (fun K hK => ?_)
      go_simp
      exact hK _ _ ⟨_, rfl, Below.refl _ _, rfl, fun h => absurd h (by decide)⟩
    | 2, _ =>
      have h1 : (v 1) = .pointer (some ⟨A, 0, none⟩) := hd 1 (by kernel_rfl)
      have d1 : f.tmps[7]? = some (.pointer (some ⟨A, 0, none⟩)) := (hv 1 7 rfl).trans (congrArg some h1)
      clear h1
      clear hb hv hd
      have c := tc_keep hB kA
      refine wpOp_step rfl (fun K hK => ?_)
      go_simp
      exact hK _ _ ⟨_, rfl, Below.refl _ _, rfl, fun h => absurd h (by decide)⟩
    | 3, _ =>
      have b0 : f.tmps[0]? = some (.int .i64 0) := (hb 0 (by decide)).trans rfl
      clear hb hv hd
      refine wpOp_step rfl (fun K hK => ?_)
      go_simp
      exact hK _ _ ⟨_, rfl, Below.refl _ _, rfl, fun h => absurd h (by decide)⟩
    | 4, _ =>
      have b2 : f.tmps[2]? = some (.pointer (some ⟨B, 0, none⟩)) := (hb 2 (by decide)).trans rfl
      have h3 : (v 3) = .int .i64 0 := hd 3 (by kernel_rfl)
      have d3 : f.tmps[9]? = some (.int .i64 0) := (hv 3 9 rfl).trans (congrArg some h3)
      clear h3
      clear hb hv hd
      refine wpOp_step rfl (fun K hK => ?_)
      go_simp
      exact hK _ _ ⟨_, rfl, Below.refl _ _, rfl, fun h => absurd h (by decide)⟩
    | 5, _ =>
      have h4 : (v 4) = .pointer (some ⟨B, 0, none⟩) := hd 4 (by kernel_rfl)
      have d4 : f.tmps[10]? = some (.pointer (some ⟨B, 0, none⟩)) := (hv 4 10 rfl).trans (congrArg some h4)
      clear h4
      clear hb hv hd
      have c := tc_keep hB kB
      refine wpOp_step rfl (fun K hK => ?_)
      go_simp
      exact hK _ _ ⟨_, rfl, Below.refl _ _, rfl, fun h => absurd h (by decide)⟩
    | 6, _ =>
      have h2 : (v 2) = .int .i64 r0 := hd 2 (by kernel_rfl)
      have d2 : f.tmps[8]? = some (.int .i64 r0) := (hv 2 8 rfl).trans (congrArg some h2)
      clear h2
      have h5 : (v 5) = .int .i64 s0 := hd 5 (by kernel_rfl)
      have d5 : f.tmps[11]? = some (.int .i64 s0) := (hv 5 11 rfl).trans (congrArg some h5)
      clear h5
      clear hb hv hd
      refine wpOp_step rfl (fun K hK => ?_)
      go_simp
      refine (cT _).mono ?_
      rintro e5 w5 ⟨rfl, rfl⟩
      exact hK _ _ ⟨_, rfl, Below.refl _ _, rfl, fun h => absurd h (by decide)⟩
    | k + 7, hk => exact absurd hk (by simp)
  · intro v w' hB hF hD
    have F0 : (v 0) = .int .i64 0 := hF 0 (by simp)
    have F1 : (v 1) = .pointer (some ⟨A, 0, none⟩) := hF 1 (by simp)
    have F2 : (v 2) = .int .i64 r0 := hF 2 (by simp)
    have F3 : (v 3) = .int .i64 0 := hF 3 (by simp)
    have F4 : (v 4) = .pointer (some ⟨B, 0, none⟩) := hF 4 (by simp)
    have F5 : (v 5) = .int .i64 s0 := hF 5 (by simp)
    have F6 : (v 6) = .int .i64 x := hF 6 (by simp)
    clear hF
    simp only [frOf, frGo, Nat.zero_add, Nat.reduceAdd, F0, F1, F2, F3, F4, F5, F6]
    clear F0 F1 F2 F3 F4 F5 F6 hD cT
    go_wp2
    go_ret2
    exact ⟨rfl, hB⟩

theorem clo_clamp_1 (A B : Nat) (r0 r1 r2 s0 s1 s2 x : Int) (w : World) (kA : TC w A r0 r1 r2) (kB : TC w B s0 s1 s2)
    (cT : ∀ w, Calls Try.prog 23 #[.int .i64 r1, .int .i64 s1] w fun e1 w' => e1 = .returned (.int .i64 x) ∧ w = w') :
    Calls Try.prog 22 #[.int .i64 1, .pointer (some ⟨A, 0, none⟩), .pointer (some ⟨B, 0, none⟩)] w (RetV (.tuple #[.int .i64 x, .int .i64 0]) w) := by
  go_enter Try.func22, Try.ntmps22
  go_wp2
  refine region_each [6, 7, 8, 9, 10, 11, 12] (fun i X_ U_ => match i with | 0 => X_ = .int .i64 1 | 1 => X_ = .pointer (some ⟨A, 1, none⟩) | 2 => X_ = .int .i64 r1 | 3 => X_ = .int .i64 1 | 4 => X_ = .pointer (some ⟨B, 1, none⟩) | 5 => X_ = .int .i64 s1 | 6 => X_ = .int .i64 x | _ => True) (fun i => false) (by kernel_rfl) (by kernel_rfl) (by kernel_rfl) (by kernel_rfl) (by kernel_rfl) ?_ ?_ ?_ ?_
  · intro i x w w' hi h hb
    match i, hi with
    | 0, _ => exact h
    | 1, _ => exact h
    | 2, _ => exact h
    | 3, _ => exact h
    | 4, _ => exact h
    | 5, _ => exact h
    | 6, _ => exact h
    | k + 7, hk => exact absurd hk (by simp)
  · intro i x w hi ha h
    cases ha
  · intro i hi v f w' hb hv hB hd
    match i, hi with
    | 0, _ =>
      have b0 : f.tmps[0]? = some (.int .i64 1) := (hb 0 (by decide)).trans rfl
      clear hb hv hd
      refine wpOp_step rfl (fun K hK => ?_)
      go_simp
      exact hK _ _ ⟨_, rfl, Below.refl _ _, rfl, fun h => absurd h (by decide)⟩
    | 1, _ =>
      have b1 : f.tmps[1]? = some (.pointer (some ⟨A, 0, none⟩)) := (hb 1 (by decide)).trans rfl
      have h0 : (v 0) = .int .i64 1 := hd 0 (by kernel_rfl)
      have d0 : f.tmps[6]? = some (.int .i64 1) := (hv 0 6 rfl).trans (congrArg some h0)
      clear h0
      clear hb hv hd
      refine wpOp_step rfl (fun K hK => ?_)
      go_simp
      exact hK _ _ ⟨_, rfl, Below.refl _ _, rfl, fun h => absurd h (by decide)⟩
    | 2, _ =>
      have h1 : (v 1) = .pointer (some ⟨A, 1, none⟩) := hd 1 (by kernel_rfl)
      have d1 : f.tmps[7]? = some (.pointer (some ⟨A, 1, none⟩)) := (hv 1 7 rfl).trans (congrArg some h1)
      clear h1
      clear hb hv hd
      have c := tc_keep hB kA
      refine wpOp_step rfl (fun K hK => ?_)
      go_simp
      exact hK _ _ ⟨_, rfl, Below.refl _ _, rfl, fun h => absurd h (by decide)⟩
    | 3, _ =>
      have b0 : f.tmps[0]? = some (.int .i64 1) := (hb 0 (by decide)).trans rfl
      clear hb hv hd
      refine wpOp_step rfl (fun K hK => ?_)
      go_simp
      exact hK _ _ ⟨_, rfl, Below.refl _ _, rfl, fun h => absurd h (by decide)⟩
    | 4, _ =>
      have b2 : f.tmps[2]? = some (.pointer (some ⟨B, 0, none⟩)) := (hb 2 (by decide)).trans rfl
      have h3 : (v 3) = .int .i64 1 := hd 3 (by kernel_rfl)
      have d3 : f.tmps[9]? = some (.int .i64 1) := (hv 3 9 rfl).trans (congrArg some h3)
      clear h3
      clear hb hv hd
      refine wpOp_step rfl (fun K hK => ?_)
      go_simp
      exact hK _ _ ⟨_, rfl, Below.refl _ _, rfl, fun h => absurd h (by decide)⟩
    | 5, _ =>
      have h4 : (v 4) = .pointer (some ⟨B, 1, none⟩) := hd 4 (by kernel_rfl)
      have d4 : f.tmps[10]? = some (.pointer (some ⟨B, 1, none⟩)) := (hv 4 10 rfl).trans (congrArg some h4)
      clear h4
      clear hb hv hd
      have c := tc_keep hB kB
      refine wpOp_step rfl (fun K hK => ?_)
      go_simp
      exact hK _ _ ⟨_, rfl, Below.refl _ _, rfl, fun h => absurd h (by decide)⟩
    | 6, _ =>
      have h2 : (v 2) = .int .i64 r1 := hd 2 (by kernel_rfl)
      have d2 : f.tmps[8]? = some (.int .i64 r1) := (hv 2 8 rfl).trans (congrArg some h2)
      clear h2
      have h5 : (v 5) = .int .i64 s1 := hd 5 (by kernel_rfl)
      have d5 : f.tmps[11]? = some (.int .i64 s1) := (hv 5 11 rfl).trans (congrArg some h5)
      clear h5
      clear hb hv hd
      refine wpOp_step rfl (fun K hK => ?_)
      go_simp
      refine (cT _).mono ?_
      rintro e5 w5 ⟨rfl, rfl⟩
      exact hK _ _ ⟨_, rfl, Below.refl _ _, rfl, fun h => absurd h (by decide)⟩
    | k + 7, hk => exact absurd hk (by simp)
  · intro v w' hB hF hD
    have F0 : (v 0) = .int .i64 1 := hF 0 (by simp)
    have F1 : (v 1) = .pointer (some ⟨A, 1, none⟩) := hF 1 (by simp)
    have F2 : (v 2) = .int .i64 r1 := hF 2 (by simp)
    have F3 : (v 3) = .int .i64 1 := hF 3 (by simp)
    have F4 : (v 4) = .pointer (some ⟨B, 1, none⟩) := hF 4 (by simp)
    have F5 : (v 5) = .int .i64 s1 := hF 5 (by simp)
    have F6 : (v 6) = .int .i64 x := hF 6 (by simp)
    clear hF
    simp only [frOf, frGo, Nat.zero_add, Nat.reduceAdd, F0, F1, F2, F3, F4, F5, F6]
    clear F0 F1 F2 F3 F4 F5 F6 hD cT
    go_wp2
    go_ret2
    exact ⟨rfl, hB⟩

theorem clo_clamp_2 (A B : Nat) (r0 r1 r2 s0 s1 s2 x : Int) (w : World) (kA : TC w A r0 r1 r2) (kB : TC w B s0 s1 s2)
    (cT : ∀ w, Calls Try.prog 23 #[.int .i64 r2, .int .i64 s2] w fun e1 w' => e1 = .returned (.int .i64 x) ∧ w = w') :
    Calls Try.prog 22 #[.int .i64 2, .pointer (some ⟨A, 0, none⟩), .pointer (some ⟨B, 0, none⟩)] w (RetV (.tuple #[.int .i64 x, .int .i64 0]) w) := by
  go_enter Try.func22, Try.ntmps22
  go_wp2
  refine region_each [6, 7, 8, 9, 10, 11, 12] (fun i X_ U_ => match i with | 0 => X_ = .int .i64 2 | 1 => X_ = .pointer (some ⟨A, 2, none⟩) | 2 => X_ = .int .i64 r2 | 3 => X_ = .int .i64 2 | 4 => X_ = .pointer (some ⟨B, 2, none⟩) | 5 => X_ = .int .i64 s2 | 6 => X_ = .int .i64 x | _ => True) (fun i => false) (by kernel_rfl) (by kernel_rfl) (by kernel_rfl) (by kernel_rfl) (by kernel_rfl) ?_ ?_ ?_ ?_
  · intro i x w w' hi h hb
    match i, hi with
    | 0, _ => exact h
    | 1, _ => exact h
    | 2, _ => exact h
    | 3, _ => exact h
    | 4, _ => exact h
    | 5, _ => exact h
    | 6, _ => exact h
    | k + 7, hk => exact absurd hk (by simp)
  · intro i x w hi ha h
    cases ha
  · intro i hi v f w' hb hv hB hd
    match i, hi with
    | 0, _ =>
      have b0 : f.tmps[0]? = some (.int .i64 2) := (hb 0 (by decide)).trans rfl
      clear hb hv hd
      refine wpOp_step rfl (fun K hK => ?_)
      go_simp
      exact hK _ _ ⟨_, rfl, Below.refl _ _, rfl, fun h => absurd h (by decide)⟩
    | 1, _ =>
      have b1 : f.tmps[1]? = some (.pointer (some ⟨A, 0, none⟩)) := (hb 1 (by decide)).trans rfl
      have h0 : (v 0) = .int .i64 2 := hd 0 (by kernel_rfl)
      have d0 : f.tmps[6]? = some (.int .i64 2) := (hv 0 6 rfl).trans (congrArg some h0)
      clear h0
      clear hb hv hd
      refine wpOp_step rfl (fun K hK => ?_)
      go_simp
      exact hK _ _ ⟨_, rfl, Below.refl _ _, rfl, fun h => absurd h (by decide)⟩
    | 2, _ =>
      have h1 : (v 1) = .pointer (some ⟨A, 2, none⟩) := hd 1 (by kernel_rfl)
      have d1 : f.tmps[7]? = some (.pointer (some ⟨A, 2, none⟩)) := (hv 1 7 rfl).trans (congrArg some h1)
      clear h1
      clear hb hv hd
      have c := tc_keep hB kA
      refine wpOp_step rfl (fun K hK => ?_)
      go_simp
      exact hK _ _ ⟨_, rfl, Below.refl _ _, rfl, fun h => absurd h (by decide)⟩
    | 3, _ =>
      have b0 : f.tmps[0]? = some (.int .i64 2) := (hb 0 (by decide)).trans rfl
      clear hb hv hd
      refine wpOp_step rfl (fun K hK => ?_)
      go_simp
      exact hK _ _ ⟨_, rfl, Below.refl _ _, rfl, fun h => absurd h (by decide)⟩
    | 4, _ =>
      have b2 : f.tmps[2]? = some (.pointer (some ⟨B, 0, none⟩)) := (hb 2 (by decide)).trans rfl
      have h3 : (v 3) = .int .i64 2 := hd 3 (by kernel_rfl)
      have d3 : f.tmps[9]? = some (.int .i64 2) := (hv 3 9 rfl).trans (congrArg some h3)
      clear h3
      clear hb hv hd
      refine wpOp_step rfl (fun K hK => ?_)
      go_simp
      exact hK _ _ ⟨_, rfl, Below.refl _ _, rfl, fun h => absurd h (by decide)⟩
    | 5, _ =>
      have h4 : (v 4) = .pointer (some ⟨B, 2, none⟩) := hd 4 (by kernel_rfl)
      have d4 : f.tmps[10]? = some (.pointer (some ⟨B, 2, none⟩)) := (hv 4 10 rfl).trans (congrArg some h4)
      clear h4
      clear hb hv hd
      have c := tc_keep hB kB
      refine wpOp_step rfl (fun K hK => ?_)
      go_simp
      exact hK _ _ ⟨_, rfl, Below.refl _ _, rfl, fun h => absurd h (by decide)⟩
    | 6, _ =>
      have h2 : (v 2) = .int .i64 r2 := hd 2 (by kernel_rfl)
      have d2 : f.tmps[8]? = some (.int .i64 r2) := (hv 2 8 rfl).trans (congrArg some h2)
      clear h2
      have h5 : (v 5) = .int .i64 s2 := hd 5 (by kernel_rfl)
      have d5 : f.tmps[11]? = some (.int .i64 s2) := (hv 5 11 rfl).trans (congrArg some h5)
      clear h5
      clear hb hv hd
      refine wpOp_step rfl (fun K hK => ?_)
      go_simp
      refine (cT _).mono ?_
      rintro e5 w5 ⟨rfl, rfl⟩
      exact hK _ _ ⟨_, rfl, Below.refl _ _, rfl, fun h => absurd h (by decide)⟩
    | k + 7, hk => exact absurd hk (by simp)
  · intro v w' hB hF hD
    have F0 : (v 0) = .int .i64 2 := hF 0 (by simp)
    have F1 : (v 1) = .pointer (some ⟨A, 2, none⟩) := hF 1 (by simp)
    have F2 : (v 2) = .int .i64 r2 := hF 2 (by simp)
    have F3 : (v 3) = .int .i64 2 := hF 3 (by simp)
    have F4 : (v 4) = .pointer (some ⟨B, 2, none⟩) := hF 4 (by simp)
    have F5 : (v 5) = .int .i64 s2 := hF 5 (by simp)
    have F6 : (v 6) = .int .i64 x := hF 6 (by simp)
    clear hF
    simp only [frOf, frGo, Nat.zero_add, Nat.reduceAdd, F0, F1, F2, F3, F4, F5, F6]
    clear F0 F1 F2 F3 F4 F5 F6 hD cT
    go_wp2
    go_ret2
    exact ⟨rfl, hB⟩


end Go.Proofs.Ytokjljmamiipbaa
