/- The document's whole numbers: Wide: the call's answer. -/
import Derived.Test.YtlpmmnfijfljoaaDoorBigG
namespace Go.Proofs.YtlpmmnfijfljoaaDoor
open Go.RowKit Go.Shelf Go.Joins

theorem qd_pos (x : Int) {y : Int} (h : 0 ≤ y) : qd x y = x / y := if_neg (by omega)
theorem bc_set2 {w : World} {b b1 : Nat} {n : Bool} {d u u' : Value} (c : BC w b n d) (hb : b1 ≠ b) : BC ((w.setCell ⟨b1, 0, none⟩ u).setCell ⟨b1, 1, none⟩ u') b n d :=
  ⟨by rw [World.cell?_setCell_far _ _ _ _ hb, World.cell?_setCell_far _ _ _ _ hb]; exact c.1, by rw [World.cell?_setCell_far _ _ _ _ hb, World.cell?_setCell_far _ _ _ _ hb]; exact c.2⟩

set_option maxHeartbeats 4000000 in
set_option maxRecDepth 10000 in
theorem wide_big (v : Value) (z : Int) (w : World) (hz : BG w v z) (tz : Tiny z) : Calls Tryd.prog 10 #[v] w (RetWE (fz z) (fe z) w) := by
  have sz := tiny_small tz
  obtain ⟨n1, aa, ka, ca, rfl⟩ := bg_form hz
  by_cases c1 : 170141183460469231731687303715884105728 ≤ z
  · have E := Lib.hid (And.intro (fz_no (z := z) (by omega)) (fe_no (z := z) (by omega)))
    have ge1 := ge_true c1
    go_enter Tryd.func10, Tryd.ntmps10
    go_wp2_with fail
    have B1 : Below w.heap.size w ((w.alloc (Obj.cells #[.bool n1, .slice aa ka ca] 42)).alloc (Obj.cells #[.int .i64 0, .int .u64 0] 33)) := b_alloc (b_alloc (Below.refl _ _))
    have k1 : BC ((w.alloc (Obj.cells #[.bool n1, .slice aa ka ca] 42)).alloc (Obj.cells #[.int .i64 0, .int .u64 0] 33)) w.heap.size n1 (.slice aa ka ca) := by simp [BC, go_sem, World.cell?_alloc_past]
    have r1 : WC ((w.alloc (Obj.cells #[.bool n1, .slice aa ka ca] 42)).alloc (Obj.cells #[.int .i64 0, .int .u64 0] 33)) (w.heap.size + 1) 0 0 := by simp [WC, go_sem]
    have f1 : WF ((w.alloc (Obj.cells #[.bool n1, .slice aa ka ca] 42)).alloc (Obj.cells #[.int .i64 0, .int .u64 0] 33)) (w.heap.size + 1) := by simp [WF, go_sem]
    have g1 := bg_keep hz B1
    generalize ((w.alloc (Obj.cells #[.bool n1, .slice aa ka ca] 42)).alloc (Obj.cells #[.int .i64 0, .int .u64 0] 33)) = W0 at *
    refine region_each [7, 8, 9, 10, 11, 12, 13, 14, 15, 16, 17] (fun i X_ U_ => match i with | 0 => X_ = .agg #[.bool n1, .slice aa ka ca] | 1 => BG U_ X_ (170141183460469231731687303715884105728) | 2 => X_ = .int .i64 (cmp3 z 170141183460469231731687303715884105728) | 3 => X_ = .bool true | 4 => X_ = .bool true | 5 => X_ = undef | 6 => X_ = undef | 7 => X_ = undef | 8 => X_ = undef | 9 => X_ = undef | 10 => X_ = .bool true | _ => True) (fun i => false) (by kernel_rfl) (by kernel_rfl) (by kernel_rfl) (by kernel_rfl) (by kernel_rfl) ?_ ?_ ?_ ?_
    · intro i x w w' hi h hb
      match i, hi with
      | 0, _ => exact h
      | 1, _ => exact bg_keep h hb
      | 2, _ => exact h
      | 3, _ => exact h
      | 4, _ => exact h
      | 5, _ => exact h
      | 6, _ => exact h
      | 7, _ => exact h
      | 8, _ => exact h
      | 9, _ => exact h
      | 10, _ => exact h
      | k + 11, hk => exact absurd hk (by simp)
    · intro i x w hi ha h
      cases ha
    · intro i hi v f w' hb hv hB hd
      match i, hi with
      | 0, _ =>
        have b1 : f.tmps[1]? = some (.pointer (some ⟨w.heap.size, 0, none⟩)) := (hb 1 (by decide)).trans rfl
        clear hb hv hd
        have c := bc_keep hB k1
        refine wpOp_step rfl (fun K hK => ?_)
        go_simp
        exact hK _ _ ⟨_, rfl, Below.refl _ _, rfl, fun h => absurd h (by decide)⟩
      | 1, _ =>
        clear hb hv hd
        refine wpOp_step rfl (fun K hK => ?_)
        go_simp
        refine (power_127 _).mono ?_
        rintro e w5 ⟨v5, rfl, h5, hb5⟩
        exact hK _ _ ⟨_, rfl, hb5, h5, fun h => absurd h (by decide)⟩
      | 2, _ =>
        have h0 : (v 0) = .agg #[.bool n1, .slice aa ka ca] := hd 0 (by kernel_rfl)
        have d0 : f.tmps[7]? = some (.agg #[.bool n1, .slice aa ka ca]) := (hv 0 7 rfl).trans (congrArg some h0)
        clear h0
        have h1 : BG w' (v 1) (170141183460469231731687303715884105728) := hd 1 (by kernel_rfl)
        have d1 : f.tmps[8]? = some (v 1) := hv 1 8 rfl
        clear hb hv hd
        refine wpOp_step rfl (fun K hK => ?_)
        go_simp
        refine (cmp_big _ _ z 170141183460469231731687303715884105728 _ (bg_keep g1 hB) h1 sz (small_of (by decide) (by decide))).mono ?_
        rintro e w5 ⟨rfl, hb5⟩
        exact hK _ _ ⟨_, rfl, hb5, rfl, fun h => absurd h (by decide)⟩
      | 3, _ =>
        have h2 : (v 2) = .int .i64 (cmp3 z 170141183460469231731687303715884105728) := hd 2 (by kernel_rfl)
        have d2 : f.tmps[9]? = some (.int .i64 (cmp3 z 170141183460469231731687303715884105728)) := (hv 2 9 rfl).trans (congrArg some h2)
        clear h2
        clear hb hv hd
        refine wpOp_step rfl (fun K hK => ?_)
        go_simp
        exact hK _ _ ⟨_, rfl, Below.refl _ _, rfl, fun h => absurd h (by decide)⟩
      | 4, _ =>
        have h3 : (v 3) = .bool true := hd 3 (by kernel_rfl)
        have d3 : f.tmps[10]? = some (.bool true) := (hv 3 10 rfl).trans (congrArg some h3)
        clear h3
        clear hb hv hd
        refine wpOp_step rfl (fun K hK => ?_)
        go_simp
        exact hK _ _ ⟨_, rfl, Below.refl _ _, rfl, fun h => absurd h (by decide)⟩
      | 5, _ =>
        have b1 : f.tmps[1]? = some (.pointer (some ⟨w.heap.size, 0, none⟩)) := (hb 1 (by decide)).trans rfl
        have h4 : (v 4) = .bool true := hd 4 (by kernel_rfl)
        have d4 : f.tmps[11]? = some (.bool true) := (hv 4 11 rfl).trans (congrArg some h4)
        clear h4
        clear hb hv hd
        refine wpOp_step rfl (fun K hK => ?_)
        go_simp
        exact hK _ _ ⟨_, rfl, Below.refl _ _, rfl, fun h => absurd h (by decide)⟩
      | 6, _ =>
        have h4 : (v 4) = .bool true := hd 4 (by kernel_rfl)
        have d4 : f.tmps[11]? = some (.bool true) := (hv 4 11 rfl).trans (congrArg some h4)
        clear h4
        clear hb hv hd
        refine wpOp_step rfl (fun K hK => ?_)
        go_simp
        exact hK _ _ ⟨_, rfl, Below.refl _ _, rfl, fun h => absurd h (by decide)⟩
      | 7, _ =>
        have h6 : (v 6) = undef := hd 6 (by kernel_rfl)
        have d6 : f.tmps[13]? = some (undef) := (hv 6 13 rfl).trans (congrArg some h6)
        clear h6
        have h4 : (v 4) = .bool true := hd 4 (by kernel_rfl)
        have d4 : f.tmps[11]? = some (.bool true) := (hv 4 11 rfl).trans (congrArg some h4)
        clear h4
        clear hb hv hd
        refine wpOp_step rfl (fun K hK => ?_)
        go_simp
        exact hK _ _ ⟨_, rfl, Below.refl _ _, rfl, fun h => absurd h (by decide)⟩
      | 8, _ =>
        have h5 : (v 5) = undef := hd 5 (by kernel_rfl)
        have d5 : f.tmps[12]? = some (undef) := (hv 5 12 rfl).trans (congrArg some h5)
        clear h5
        have h7 : (v 7) = undef := hd 7 (by kernel_rfl)
        have d7 : f.tmps[14]? = some (undef) := (hv 7 14 rfl).trans (congrArg some h7)
        clear h7
        have h4 : (v 4) = .bool true := hd 4 (by kernel_rfl)
        have d4 : f.tmps[11]? = some (.bool true) := (hv 4 11 rfl).trans (congrArg some h4)
        clear h4
        clear hb hv hd
        refine wpOp_step rfl (fun K hK => ?_)
        go_simp
        exact hK _ _ ⟨_, rfl, Below.refl _ _, rfl, fun h => absurd h (by decide)⟩
      | 9, _ =>
        have h8 : (v 8) = undef := hd 8 (by kernel_rfl)
        have d8 : f.tmps[15]? = some (undef) := (hv 8 15 rfl).trans (congrArg some h8)
        clear h8
        have h4 : (v 4) = .bool true := hd 4 (by kernel_rfl)
        have d4 : f.tmps[11]? = some (.bool true) := (hv 4 11 rfl).trans (congrArg some h4)
        clear h4
        clear hb hv hd
        refine wpOp_step rfl (fun K hK => ?_)
        go_simp
        exact hK _ _ ⟨_, rfl, Below.refl _ _, rfl, fun h => absurd h (by decide)⟩
      | 10, _ =>
        have h4 : (v 4) = .bool true := hd 4 (by kernel_rfl)
        have d4 : f.tmps[11]? = some (.bool true) := (hv 4 11 rfl).trans (congrArg some h4)
        clear h4
        have h9 : (v 9) = undef := hd 9 (by kernel_rfl)
        have d9 : f.tmps[16]? = some (undef) := (hv 9 16 rfl).trans (congrArg some h9)
        clear h9
        clear hb hv hd
        refine wpOp_step rfl (fun K hK => ?_)
        go_simp
        exact hK _ _ ⟨_, rfl, Below.refl _ _, rfl, fun h => absurd h (by decide)⟩
      | k + 11, hk => exact absurd hk (by simp)
    · intro v w' hB hF hD
      have F0 : (v 0) = .agg #[.bool n1, .slice aa ka ca] := hF 0 (by simp)
      have F1 : BG w' (v 1) (170141183460469231731687303715884105728) := hF 1 (by simp)
      have F2 : (v 2) = .int .i64 (cmp3 z 170141183460469231731687303715884105728) := hF 2 (by simp)
      have F3 : (v 3) = .bool true := hF 3 (by simp)
      have F4 : (v 4) = .bool true := hF 4 (by simp)
      have F5 : (v 5) = undef := hF 5 (by simp)
      have F6 : (v 6) = undef := hF 6 (by simp)
      have F7 : (v 7) = undef := hF 7 (by simp)
      have F8 : (v 8) = undef := hF 8 (by simp)
      have F9 : (v 9) = undef := hF 9 (by simp)
      have F10 : (v 10) = .bool true := hF 10 (by simp)
      clear hF
      obtain ⟨n1_, a1_, k1_, c1_, e1⟩ := bg_form F1
      refine wpList_none (by kernel_rfl) ?_
      simp only [frOf, frGo, Nat.zero_add, Nat.reduceAdd, F0, e1, F2, F3, F4, F5, F6, F7, F8, F9, F10]
      clear F0 F1 F2 F3 F4 F5 F6 F7 F8 F9 F10 hD
      go_simp
      have B2 := b_trans B1 hB
      have r2 := wc_keep hB r1
      have f2 := wf_keep hB r1 f1
      clear hB r1 f1 B1 k1 g1
      go_wp2
      exact bodyPost_ret (v := .tuple #[wv 0 0, .int .i64 3]) (by simp [results, Tryd.results10, go_sem, r2]) rfl ⟨_, _, by rw [E.out.2], by rw [E.out.1]; exact isW_zero, b_set (b_set B2 (by simp)) (by simp)⟩
  · by_cases c2 : z < -170141183460469231731687303715884105728
    · have E := Lib.hid (And.intro (fz_no (z := z) (by omega)) (fe_no (z := z) (by omega)))
      have ge1 := ge_false (show z < 170141183460469231731687303715884105728 by omega)
      have lt1 := lt_true c2
      go_enter Tryd.func10, Tryd.ntmps10
      go_wp2_with fail
      have B1 : Below w.heap.size w ((w.alloc (Obj.cells #[.bool n1, .slice aa ka ca] 42)).alloc (Obj.cells #[.int .i64 0, .int .u64 0] 33)) := b_alloc (b_alloc (Below.refl _ _))
      have k1 : BC ((w.alloc (Obj.cells #[.bool n1, .slice aa ka ca] 42)).alloc (Obj.cells #[.int .i64 0, .int .u64 0] 33)) w.heap.size n1 (.slice aa ka ca) := by simp [BC, go_sem, World.cell?_alloc_past]
      have r1 : WC ((w.alloc (Obj.cells #[.bool n1, .slice aa ka ca] 42)).alloc (Obj.cells #[.int .i64 0, .int .u64 0] 33)) (w.heap.size + 1) 0 0 := by simp [WC, go_sem]
      have f1 : WF ((w.alloc (Obj.cells #[.bool n1, .slice aa ka ca] 42)).alloc (Obj.cells #[.int .i64 0, .int .u64 0] 33)) (w.heap.size + 1) := by simp [WF, go_sem]
      have g1 := bg_keep hz B1
      generalize ((w.alloc (Obj.cells #[.bool n1, .slice aa ka ca] 42)).alloc (Obj.cells #[.int .i64 0, .int .u64 0] 33)) = W0 at *
      refine region_each [7, 8, 9, 10, 11, 12, 13, 14, 15, 16, 17] (fun i X_ U_ => match i with | 0 => X_ = .agg #[.bool n1, .slice aa ka ca] | 1 => BG U_ X_ (170141183460469231731687303715884105728) | 2 => X_ = .int .i64 (cmp3 z 170141183460469231731687303715884105728) | 3 => X_ = .bool false | 4 => X_ = .bool false | 5 => X_ = .agg #[.bool n1, .slice aa ka ca] | 6 => BG U_ X_ (170141183460469231731687303715884105728) | 7 => BG U_ X_ (-170141183460469231731687303715884105728) | 8 => X_ = .int .i64 (cmp3 z (-170141183460469231731687303715884105728)) | 9 => X_ = .bool true | 10 => X_ = .bool true | _ => True) (fun i => false) (by kernel_rfl) (by kernel_rfl) (by kernel_rfl) (by kernel_rfl) (by kernel_rfl) ?_ ?_ ?_ ?_
      · intro i x w w' hi h hb
        match i, hi with
        | 0, _ => exact h
        | 1, _ => exact bg_keep h hb
        | 2, _ => exact h
        | 3, _ => exact h
        | 4, _ => exact h
        | 5, _ => exact h
        | 6, _ => exact bg_keep h hb
        | 7, _ => exact bg_keep h hb
        | 8, _ => exact h
        | 9, _ => exact h
        | 10, _ => exact h
        | k + 11, hk => exact absurd hk (by simp)
      · intro i x w hi ha h
        cases ha
      · intro i hi v f w' hb hv hB hd
        match i, hi with
        | 0, _ =>
          have b1 : f.tmps[1]? = some (.pointer (some ⟨w.heap.size, 0, none⟩)) := (hb 1 (by decide)).trans rfl
          clear hb hv hd
          have c := bc_keep hB k1
          refine wpOp_step rfl (fun K hK => ?_)
          go_simp
          exact hK _ _ ⟨_, rfl, Below.refl _ _, rfl, fun h => absurd h (by decide)⟩
        | 1, _ =>
          clear hb hv hd
          refine wpOp_step rfl (fun K hK => ?_)
          go_simp
          refine (power_127 _).mono ?_
          rintro e w5 ⟨v5, rfl, h5, hb5⟩
          exact hK _ _ ⟨_, rfl, hb5, h5, fun h => absurd h (by decide)⟩
        | 2, _ =>
          have h0 : (v 0) = .agg #[.bool n1, .slice aa ka ca] := hd 0 (by kernel_rfl)
          have d0 : f.tmps[7]? = some (.agg #[.bool n1, .slice aa ka ca]) := (hv 0 7 rfl).trans (congrArg some h0)
          clear h0
          have h1 : BG w' (v 1) (170141183460469231731687303715884105728) := hd 1 (by kernel_rfl)
          have d1 : f.tmps[8]? = some (v 1) := hv 1 8 rfl
          clear hb hv hd
          refine wpOp_step rfl (fun K hK => ?_)
          go_simp
          refine (cmp_big _ _ z 170141183460469231731687303715884105728 _ (bg_keep g1 hB) h1 sz (small_of (by decide) (by decide))).mono ?_
          rintro e w5 ⟨rfl, hb5⟩
          exact hK _ _ ⟨_, rfl, hb5, rfl, fun h => absurd h (by decide)⟩
        | 3, _ =>
          have h2 : (v 2) = .int .i64 (cmp3 z 170141183460469231731687303715884105728) := hd 2 (by kernel_rfl)
          have d2 : f.tmps[9]? = some (.int .i64 (cmp3 z 170141183460469231731687303715884105728)) := (hv 2 9 rfl).trans (congrArg some h2)
          clear h2
          clear hb hv hd
          refine wpOp_step rfl (fun K hK => ?_)
          go_simp
          exact hK _ _ ⟨_, rfl, Below.refl _ _, rfl, fun h => absurd h (by decide)⟩
        | 4, _ =>
          have h3 : (v 3) = .bool false := hd 3 (by kernel_rfl)
          have d3 : f.tmps[10]? = some (.bool false) := (hv 3 10 rfl).trans (congrArg some h3)
          clear h3
          clear hb hv hd
          refine wpOp_step rfl (fun K hK => ?_)
          go_simp
          exact hK _ _ ⟨_, rfl, Below.refl _ _, rfl, fun h => absurd h (by decide)⟩
        | 5, _ =>
          have b1 : f.tmps[1]? = some (.pointer (some ⟨w.heap.size, 0, none⟩)) := (hb 1 (by decide)).trans rfl
          have h4 : (v 4) = .bool false := hd 4 (by kernel_rfl)
          have d4 : f.tmps[11]? = some (.bool false) := (hv 4 11 rfl).trans (congrArg some h4)
          clear h4
          clear hb hv hd
          have c := bc_keep hB k1
          refine wpOp_step rfl (fun K hK => ?_)
          go_simp
          exact hK _ _ ⟨_, rfl, Below.refl _ _, rfl, fun h => absurd h (by decide)⟩
        | 6, _ =>
          have h4 : (v 4) = .bool false := hd 4 (by kernel_rfl)
          have d4 : f.tmps[11]? = some (.bool false) := (hv 4 11 rfl).trans (congrArg some h4)
          clear h4
          clear hb hv hd
          refine wpOp_step rfl (fun K hK => ?_)
          go_simp
          refine (power_127 _).mono ?_
          rintro e w5 ⟨v5, rfl, h5, hb5⟩
          exact hK _ _ ⟨_, rfl, hb5, h5, fun h => absurd h (by decide)⟩
        | 7, _ =>
          have h6 : BG w' (v 6) (170141183460469231731687303715884105728) := hd 6 (by kernel_rfl)
          have d6 : f.tmps[13]? = some (v 6) := hv 6 13 rfl
          have h4 : (v 4) = .bool false := hd 4 (by kernel_rfl)
          have d4 : f.tmps[11]? = some (.bool false) := (hv 4 11 rfl).trans (congrArg some h4)
          clear h4
          clear hb hv hd
          refine wpOp_step rfl (fun K hK => ?_)
          go_simp
          refine (turn_any _ 170141183460469231731687303715884105728 _ h6).mono ?_
          rintro e w5 ⟨v5, rfl, h5, hb5⟩
          exact hK _ _ ⟨_, rfl, hb5, h5, fun h => absurd h (by decide)⟩
        | 8, _ =>
          have h5 : (v 5) = .agg #[.bool n1, .slice aa ka ca] := hd 5 (by kernel_rfl)
          have d5 : f.tmps[12]? = some (.agg #[.bool n1, .slice aa ka ca]) := (hv 5 12 rfl).trans (congrArg some h5)
          clear h5
          have h7 : BG w' (v 7) (-170141183460469231731687303715884105728) := hd 7 (by kernel_rfl)
          have d7 : f.tmps[14]? = some (v 7) := hv 7 14 rfl
          have h4 : (v 4) = .bool false := hd 4 (by kernel_rfl)
          have d4 : f.tmps[11]? = some (.bool false) := (hv 4 11 rfl).trans (congrArg some h4)
          clear h4
          clear hb hv hd
          refine wpOp_step rfl (fun K hK => ?_)
          go_simp
          refine (cmp_big _ _ z (-170141183460469231731687303715884105728) _ (bg_keep g1 hB) h7 sz (small_of (by decide) (by decide))).mono ?_
          rintro e w5 ⟨rfl, hb5⟩
          exact hK _ _ ⟨_, rfl, hb5, rfl, fun h => absurd h (by decide)⟩
        | 9, _ =>
          have h8 : (v 8) = .int .i64 (cmp3 z (-170141183460469231731687303715884105728)) := hd 8 (by kernel_rfl)
          have d8 : f.tmps[15]? = some (.int .i64 (cmp3 z (-170141183460469231731687303715884105728))) := (hv 8 15 rfl).trans (congrArg some h8)
          clear h8
          have h4 : (v 4) = .bool false := hd 4 (by kernel_rfl)
          have d4 : f.tmps[11]? = some (.bool false) := (hv 4 11 rfl).trans (congrArg some h4)
          clear h4
          clear hb hv hd
          refine wpOp_step rfl (fun K hK => ?_)
          go_simp
          exact hK _ _ ⟨_, rfl, Below.refl _ _, rfl, fun h => absurd h (by decide)⟩
        | 10, _ =>
          have h4 : (v 4) = .bool false := hd 4 (by kernel_rfl)
          have d4 : f.tmps[11]? = some (.bool false) := (hv 4 11 rfl).trans (congrArg some h4)
          clear h4
          have h9 : (v 9) = .bool true := hd 9 (by kernel_rfl)
          have d9 : f.tmps[16]? = some (.bool true) := (hv 9 16 rfl).trans (congrArg some h9)
          clear h9
          clear hb hv hd
          refine wpOp_step rfl (fun K hK => ?_)
          go_simp
          exact hK _ _ ⟨_, rfl, Below.refl _ _, rfl, fun h => absurd h (by decide)⟩
        | k + 11, hk => exact absurd hk (by simp)
      · intro v w' hB hF hD
        have F0 : (v 0) = .agg #[.bool n1, .slice aa ka ca] := hF 0 (by simp)
        have F1 : BG w' (v 1) (170141183460469231731687303715884105728) := hF 1 (by simp)
        have F2 : (v 2) = .int .i64 (cmp3 z 170141183460469231731687303715884105728) := hF 2 (by simp)
        have F3 : (v 3) = .bool false := hF 3 (by simp)
        have F4 : (v 4) = .bool false := hF 4 (by simp)
        have F5 : (v 5) = .agg #[.bool n1, .slice aa ka ca] := hF 5 (by simp)
        have F6 : BG w' (v 6) (170141183460469231731687303715884105728) := hF 6 (by simp)
        have F7 : BG w' (v 7) (-170141183460469231731687303715884105728) := hF 7 (by simp)
        have F8 : (v 8) = .int .i64 (cmp3 z (-170141183460469231731687303715884105728)) := hF 8 (by simp)
        have F9 : (v 9) = .bool true := hF 9 (by simp)
        have F10 : (v 10) = .bool true := hF 10 (by simp)
        clear hF
        obtain ⟨n1_, a1_, k1_, c1_, e1⟩ := bg_form F1
        obtain ⟨n6_, a6_, k6_, c6_, e6⟩ := bg_form F6
        obtain ⟨n7_, a7_, k7_, c7_, e7⟩ := bg_form F7
        refine wpList_none (by kernel_rfl) ?_
        simp only [frOf, frGo, Nat.zero_add, Nat.reduceAdd, F0, e1, F2, F3, F4, F5, e6, e7, F8, F9, F10]
        clear F0 F1 F2 F3 F4 F5 F6 F7 F8 F9 F10 hD
        go_simp
        have B2 := b_trans B1 hB
        have r2 := wc_keep hB r1
        have f2 := wf_keep hB r1 f1
        clear hB r1 f1 B1 k1 g1
        go_wp2
        exact bodyPost_ret (v := .tuple #[wv 0 0, .int .i64 3]) (by simp [results, Tryd.results10, go_sem, r2]) rfl ⟨_, _, by rw [E.out.2], by rw [E.out.1]; exact isW_zero, b_set (b_set B2 (by simp)) (by simp)⟩
    · have fz' : Fits z := ⟨by omega, by omega⟩
      have E := Lib.hid (And.intro (fz_of fz') (fe_of fz'))
      have ge1 := ge_false (show z < 170141183460469231731687303715884105728 by omega)
      have lt1 := lt_false (show -170141183460469231731687303715884105728 ≤ z by omega)
      go_enter Tryd.func10, Tryd.ntmps10
      go_wp2_with fail
      have B1 : Below w.heap.size w ((w.alloc (Obj.cells #[.bool n1, .slice aa ka ca] 42)).alloc (Obj.cells #[.int .i64 0, .int .u64 0] 33)) := b_alloc (b_alloc (Below.refl _ _))
      have k1 : BC ((w.alloc (Obj.cells #[.bool n1, .slice aa ka ca] 42)).alloc (Obj.cells #[.int .i64 0, .int .u64 0] 33)) w.heap.size n1 (.slice aa ka ca) := by simp [BC, go_sem, World.cell?_alloc_past]
      have r1 : WC ((w.alloc (Obj.cells #[.bool n1, .slice aa ka ca] 42)).alloc (Obj.cells #[.int .i64 0, .int .u64 0] 33)) (w.heap.size + 1) 0 0 := by simp [WC, go_sem]
      have f1 : WF ((w.alloc (Obj.cells #[.bool n1, .slice aa ka ca] 42)).alloc (Obj.cells #[.int .i64 0, .int .u64 0] 33)) (w.heap.size + 1) := by simp [WF, go_sem]
      have g1 := bg_keep hz B1
      generalize ((w.alloc (Obj.cells #[.bool n1, .slice aa ka ca] 42)).alloc (Obj.cells #[.int .i64 0, .int .u64 0] 33)) = W0 at *
      refine region_each [7, 8, 9, 10, 11, 12, 13, 14, 15, 16, 17] (fun i X_ U_ => match i with | 0 => X_ = .agg #[.bool n1, .slice aa ka ca] | 1 => BG U_ X_ (170141183460469231731687303715884105728) | 2 => X_ = .int .i64 (cmp3 z 170141183460469231731687303715884105728) | 3 => X_ = .bool false | 4 => X_ = .bool false | 5 => X_ = .agg #[.bool n1, .slice aa ka ca] | 6 => BG U_ X_ (170141183460469231731687303715884105728) | 7 => BG U_ X_ (-170141183460469231731687303715884105728) | 8 => X_ = .int .i64 (cmp3 z (-170141183460469231731687303715884105728)) | 9 => X_ = .bool false | 10 => X_ = .bool false | _ => True) (fun i => false) (by kernel_rfl) (by kernel_rfl) (by kernel_rfl) (by kernel_rfl) (by kernel_rfl) ?_ ?_ ?_ ?_
      · intro i x w w' hi h hb
        match i, hi with
        | 0, _ => exact h
        | 1, _ => exact bg_keep h hb
        | 2, _ => exact h
        | 3, _ => exact h
        | 4, _ => exact h
        | 5, _ => exact h
        | 6, _ => exact bg_keep h hb
        | 7, _ => exact bg_keep h hb
        | 8, _ => exact h
        | 9, _ => exact h
        | 10, _ => exact h
        | k + 11, hk => exact absurd hk (by simp)
      · intro i x w hi ha h
        cases ha
      · intro i hi v f w' hb hv hB hd
        match i, hi with
        | 0, _ =>
          have b1 : f.tmps[1]? = some (.pointer (some ⟨w.heap.size, 0, none⟩)) := (hb 1 (by decide)).trans rfl
          clear hb hv hd
          have c := bc_keep hB k1
          refine wpOp_step rfl (fun K hK => ?_)
          go_simp
          exact hK _ _ ⟨_, rfl, Below.refl _ _, rfl, fun h => absurd h (by decide)⟩
        | 1, _ =>
          clear hb hv hd
          refine wpOp_step rfl (fun K hK => ?_)
          go_simp
          refine (power_127 _).mono ?_
          rintro e w5 ⟨v5, rfl, h5, hb5⟩
          exact hK _ _ ⟨_, rfl, hb5, h5, fun h => absurd h (by decide)⟩
        | 2, _ =>
          have h0 : (v 0) = .agg #[.bool n1, .slice aa ka ca] := hd 0 (by kernel_rfl)
          have d0 : f.tmps[7]? = some (.agg #[.bool n1, .slice aa ka ca]) := (hv 0 7 rfl).trans (congrArg some h0)
          clear h0
          have h1 : BG w' (v 1) (170141183460469231731687303715884105728) := hd 1 (by kernel_rfl)
          have d1 : f.tmps[8]? = some (v 1) := hv 1 8 rfl
          clear hb hv hd
          refine wpOp_step rfl (fun K hK => ?_)
          go_simp
          refine (cmp_big _ _ z 170141183460469231731687303715884105728 _ (bg_keep g1 hB) h1 sz (small_of (by decide) (by decide))).mono ?_
          rintro e w5 ⟨rfl, hb5⟩
          exact hK _ _ ⟨_, rfl, hb5, rfl, fun h => absurd h (by decide)⟩
        | 3, _ =>
          have h2 : (v 2) = .int .i64 (cmp3 z 170141183460469231731687303715884105728) := hd 2 (by kernel_rfl)
          have d2 : f.tmps[9]? = some (.int .i64 (cmp3 z 170141183460469231731687303715884105728)) := (hv 2 9 rfl).trans (congrArg some h2)
          clear h2
          clear hb hv hd
          refine wpOp_step rfl (fun K hK => ?_)
          go_simp
          exact hK _ _ ⟨_, rfl, Below.refl _ _, rfl, fun h => absurd h (by decide)⟩
        | 4, _ =>
          have h3 : (v 3) = .bool false := hd 3 (by kernel_rfl)
          have d3 : f.tmps[10]? = some (.bool false) := (hv 3 10 rfl).trans (congrArg some h3)
          clear h3
          clear hb hv hd
          refine wpOp_step rfl (fun K hK => ?_)
          go_simp
          exact hK _ _ ⟨_, rfl, Below.refl _ _, rfl, fun h => absurd h (by decide)⟩
        | 5, _ =>
          have b1 : f.tmps[1]? = some (.pointer (some ⟨w.heap.size, 0, none⟩)) := (hb 1 (by decide)).trans rfl
          have h4 : (v 4) = .bool false := hd 4 (by kernel_rfl)
          have d4 : f.tmps[11]? = some (.bool false) := (hv 4 11 rfl).trans (congrArg some h4)
          clear h4
          clear hb hv hd
          have c := bc_keep hB k1
          refine wpOp_step rfl (fun K hK => ?_)
          go_simp
          exact hK _ _ ⟨_, rfl, Below.refl _ _, rfl, fun h => absurd h (by decide)⟩
        | 6, _ =>
          have h4 : (v 4) = .bool false := hd 4 (by kernel_rfl)
          have d4 : f.tmps[11]? = some (.bool false) := (hv 4 11 rfl).trans (congrArg some h4)
          clear h4
          clear hb hv hd
          refine wpOp_step rfl (fun K hK => ?_)
          go_simp
          refine (power_127 _).mono ?_
          rintro e w5 ⟨v5, rfl, h5, hb5⟩
          exact hK _ _ ⟨_, rfl, hb5, h5, fun h => absurd h (by decide)⟩
        | 7, _ =>
          have h6 : BG w' (v 6) (170141183460469231731687303715884105728) := hd 6 (by kernel_rfl)
          have d6 : f.tmps[13]? = some (v 6) := hv 6 13 rfl
          have h4 : (v 4) = .bool false := hd 4 (by kernel_rfl)
          have d4 : f.tmps[11]? = some (.bool false) := (hv 4 11 rfl).trans (congrArg some h4)
          clear h4
          clear hb hv hd
          refine wpOp_step rfl (fun K hK => ?_)
          go_simp
          refine (turn_any _ 170141183460469231731687303715884105728 _ h6).mono ?_
          rintro e w5 ⟨v5, rfl, h5, hb5⟩
          exact hK _ _ ⟨_, rfl, hb5, h5, fun h => absurd h (by decide)⟩
        | 8, _ =>
          have h5 : (v 5) = .agg #[.bool n1, .slice aa ka ca] := hd 5 (by kernel_rfl)
          have d5 : f.tmps[12]? = some (.agg #[.bool n1, .slice aa ka ca]) := (hv 5 12 rfl).trans (congrArg some h5)
          clear h5
          have h7 : BG w' (v 7) (-170141183460469231731687303715884105728) := hd 7 (by kernel_rfl)
          have d7 : f.tmps[14]? = some (v 7) := hv 7 14 rfl
          have h4 : (v 4) = .bool false := hd 4 (by kernel_rfl)
          have d4 : f.tmps[11]? = some (.bool false) := (hv 4 11 rfl).trans (congrArg some h4)
          clear h4
          clear hb hv hd
          refine wpOp_step rfl (fun K hK => ?_)
          go_simp
          refine (cmp_big _ _ z (-170141183460469231731687303715884105728) _ (bg_keep g1 hB) h7 sz (small_of (by decide) (by decide))).mono ?_
          rintro e w5 ⟨rfl, hb5⟩
          exact hK _ _ ⟨_, rfl, hb5, rfl, fun h => absurd h (by decide)⟩
        | 9, _ =>
          have h8 : (v 8) = .int .i64 (cmp3 z (-170141183460469231731687303715884105728)) := hd 8 (by kernel_rfl)
          have d8 : f.tmps[15]? = some (.int .i64 (cmp3 z (-170141183460469231731687303715884105728))) := (hv 8 15 rfl).trans (congrArg some h8)
          clear h8
          have h4 : (v 4) = .bool false := hd 4 (by kernel_rfl)
          have d4 : f.tmps[11]? = some (.bool false) := (hv 4 11 rfl).trans (congrArg some h4)
          clear h4
          clear hb hv hd
          refine wpOp_step rfl (fun K hK => ?_)
          go_simp
          exact hK _ _ ⟨_, rfl, Below.refl _ _, rfl, fun h => absurd h (by decide)⟩
        | 10, _ =>
          have h4 : (v 4) = .bool false := hd 4 (by kernel_rfl)
          have d4 : f.tmps[11]? = some (.bool false) := (hv 4 11 rfl).trans (congrArg some h4)
          clear h4
          have h9 : (v 9) = .bool false := hd 9 (by kernel_rfl)
          have d9 : f.tmps[16]? = some (.bool false) := (hv 9 16 rfl).trans (congrArg some h9)
          clear h9
          clear hb hv hd
          refine wpOp_step rfl (fun K hK => ?_)
          go_simp
          exact hK _ _ ⟨_, rfl, Below.refl _ _, rfl, fun h => absurd h (by decide)⟩
        | k + 11, hk => exact absurd hk (by simp)
      · intro v w' hB hF hD
        have F0 : (v 0) = .agg #[.bool n1, .slice aa ka ca] := hF 0 (by simp)
        have F1 : BG w' (v 1) (170141183460469231731687303715884105728) := hF 1 (by simp)
        have F2 : (v 2) = .int .i64 (cmp3 z 170141183460469231731687303715884105728) := hF 2 (by simp)
        have F3 : (v 3) = .bool false := hF 3 (by simp)
        have F4 : (v 4) = .bool false := hF 4 (by simp)
        have F5 : (v 5) = .agg #[.bool n1, .slice aa ka ca] := hF 5 (by simp)
        have F6 : BG w' (v 6) (170141183460469231731687303715884105728) := hF 6 (by simp)
        have F7 : BG w' (v 7) (-170141183460469231731687303715884105728) := hF 7 (by simp)
        have F8 : (v 8) = .int .i64 (cmp3 z (-170141183460469231731687303715884105728)) := hF 8 (by simp)
        have F9 : (v 9) = .bool false := hF 9 (by simp)
        have F10 : (v 10) = .bool false := hF 10 (by simp)
        clear hF
        obtain ⟨n1_, a1_, k1_, c1_, e1⟩ := bg_form F1
        obtain ⟨n6_, a6_, k6_, c6_, e6⟩ := bg_form F6
        obtain ⟨n7_, a7_, k7_, c7_, e7⟩ := bg_form F7
        refine wpList_none (by kernel_rfl) ?_
        simp only [frOf, frGo, Nat.zero_add, Nat.reduceAdd, F0, e1, F2, F3, F4, F5, e6, e7, F8, F9, F10]
        clear F0 F1 F2 F3 F4 F5 F6 F7 F8 F9 F10 hD
        go_simp
        have k2 := bc_keep hB k1
        have g2 := bg_keep g1 hB
        have B2 := b_trans B1 hB
        have r2 := wc_keep hB r1
        have f2 := wf_keep hB r1 f1
        clear hB k1 g1 B1 f1 r1 ge1 lt1
        have k1 := k2
        have g1 := g2
        have r1 := r2
        have f1 := f2
        clear k2 g2 r2 f2 e1 e6 e7 v
        generalize w' = W1 at *
        go_wp2_with fail
        refine region_each [19, 20, 21, 4] (fun i X_ U_ => match i with | 0 => X_ = .agg #[.bool n1, .slice aa ka ca] | 1 => BG U_ X_ (18446744073709551616) | 2 => BG U_ X_ (z / 18446744073709551616) | 3 => ∃ g, X_ = .pointer (some ⟨g, 0, none⟩) ∧ W1.heap.size ≤ g ∧ BV U_ g ∧ True | _ => True) (fun i => i == 3) (by kernel_rfl) (by kernel_rfl) (by kernel_rfl) (by kernel_rfl) (by kernel_rfl) ?_ ?_ ?_ ?_
        · intro i x w w' hi h hb
          match i, hi with
          | 0, _ => exact h
          | 1, _ => exact bg_keep h hb
          | 2, _ => exact bg_keep h hb
          | 3, _ => obtain ⟨g, e, hg, hc, _⟩ := h; exact ⟨g, e, hg, bv_keep hb hc, trivial⟩
          | k + 4, hk => exact absurd hk (by simp)
        · intro i x w hi ha h
          match i, hi with
          | 0, _ => exact absurd ha (by decide)
          | 1, _ => exact absurd ha (by decide)
          | 2, _ => exact absurd ha (by decide)
          | 3, _ => obtain ⟨g, rfl, _, hg, _⟩ := h; exact bv_lt hg
          | k + 4, hk => exact absurd hk (by simp)
        · intro i hi v f w' hb hv hB hd
          match i, hi with
          | 0, _ =>
            have b1 : f.tmps[1]? = some (.pointer (some ⟨w.heap.size, 0, none⟩)) := (hb 1 (by decide)).trans rfl
            clear hb hv hd
            have c := bc_keep hB k1
            refine wpOp_step rfl (fun K hK => ?_)
            go_simp
            exact hK _ _ ⟨_, rfl, Below.refl _ _, rfl, fun h => absurd h (by decide)⟩
          | 1, _ =>
            clear hb hv hd
            refine wpOp_step rfl (fun K hK => ?_)
            go_simp
            refine (power_64 _).mono ?_
            rintro e w5 ⟨v5, rfl, h5, hb5⟩
            exact hK _ _ ⟨_, rfl, hb5, h5, fun h => absurd h (by decide)⟩
          | 2, _ =>
            have h0 : (v 0) = .agg #[.bool n1, .slice aa ka ca] := hd 0 (by kernel_rfl)
            have d0 : f.tmps[19]? = some (.agg #[.bool n1, .slice aa ka ca]) := (hv 0 19 rfl).trans (congrArg some h0)
            clear h0
            have h1 : BG w' (v 1) (18446744073709551616) := hd 1 (by kernel_rfl)
            have d1 : f.tmps[20]? = some (v 1) := hv 1 20 rfl
            clear hb hv hd
            refine wpOp_step rfl (fun K hK => ?_)
            go_simp
            refine (div_big _ _ z 18446744073709551616 _ (bg_keep g1 hB) h1 (by decide) tz (by exact ⟨by decide, by decide⟩)).mono ?_
            rintro e w5 ⟨v5, rfl, h5, hb5⟩
            exact hK _ _ ⟨_, rfl, hb5, by rwa [qd_pos _ (by decide)] at h5, fun h => absurd h (by decide)⟩
          | 3, _ =>
            clear hb hv hd
            refine wpOp_step rfl (fun K hK => ?_)
            go_simp
            exact hK _ _ ⟨_, rfl, b_alloc (Below.refl _ _), ⟨_, rfl, hB.size, bv_new _ _ _ _ rfl, trivial⟩, fun _ => Nat.le_refl _⟩
          | k + 4, hk => exact absurd hk (by simp)
        · intro v w' hB hF hD
          have F0 : (v 0) = .agg #[.bool n1, .slice aa ka ca] := hF 0 (by simp)
          have F1 : BG w' (v 1) (18446744073709551616) := hF 1 (by simp)
          have F2 : BG w' (v 2) (z / 18446744073709551616) := hF 2 (by simp)
          have F3 : ∃ g, (v 3) = .pointer (some ⟨g, 0, none⟩) ∧ W1.heap.size ≤ g ∧ BV w' g ∧ True := hF 3 (by simp)
          clear hF
          obtain ⟨n2_, a2_, k2_, c2_, e2⟩ := bg_form F2
          obtain ⟨n1_, a1_, k1_, c1_, e1⟩ := bg_form F1
          obtain ⟨g, e3, hg, hv, _⟩ := F3
          rw [e2] at F2
          simp only [frOf, frGo, Nat.zero_add, Nat.reduceAdd, F0, e1, e2, e3]
          have B3 := b_trans B2 hB
          have k3 := bc_keep hB k1
          have r3 := wc_keep hB r1
          have f3 := wf_keep hB r1 f1
          have g3 := bg_keep g1 hB
          have gn : g ≠ w.heap.size ∧ g ≠ w.heap.size + 1 ∧ w.heap.size ≤ g := by have := B2.size; have := wc_lt r1; omega
          obtain ⟨n', a', k', c', u1, u2⟩ := bv_use hv
          have V3 := Lib.hid (vb_store hv F2)
          have G3 := Lib.hid (bg_store (u := .bool n2_) (u' := .slice a2_ k2_ c2_) hv g3)
          have g2 := Lib.hid (bg_store (u := .bool n2_) (u' := .slice a2_ k2_ c2_) hv F2)
          have k4 : BC ((w'.setCell ⟨g, 0, none⟩ (.bool n2_)).setCell ⟨g, 1, none⟩ (.slice a2_ k2_ c2_)) w.heap.size n1 (.slice aa ka ca) := bc_set2 k3 gn.1
          have r4 := wc_set (o := 1) (v := .slice a2_ k2_ c2_) (wc_set (o := 0) (v := .bool n2_) r3 gn.2.1) gn.2.1
          have f4 := wf_set (b1 := g) (o := 1) (v := .slice a2_ k2_ c2_) (wf_set (b1 := g) (o := 0) (v := .bool n2_) f3)
          have B4 := b_set (p := ⟨g, 1, none⟩) (v := .slice a2_ k2_ c2_) (b_set (p := ⟨g, 0, none⟩) (v := .bool n2_) B3 gn.2.2) gn.2.2
          have K4 := Lib.hid (And.intro k4 (And.intro r4 (And.intro f4 B4)))
          clear F0 F1 F2 e1 e2 e3 hB hD B2 k1 r1 f1 g1 k3 r3 f3 g3 B3 k4 r4 f4 B4
          go_wp2_with fail
          refine (int_big _ (z / 18446744073709551616) _ g2.out (by exact ⟨by omega, by omega⟩)).mono ?_
          rintro e w3 ⟨rfl, hb3⟩
          rw [(iz_of (z := z / 18446744073709551616) (by omega)).1, (iz_of (z := z / 18446744073709551616) (by omega)).2]
          have V5 := vb_keep V3.out hb3
          have g1 := bg_keep G3.out hb3
          have k1 := bc_keep hb3 K4.out.1
          have r1 := wc_keep hb3 K4.out.2.1
          have f1 := wf_keep hb3 K4.out.2.1 K4.out.2.2.1
          have B1 := b_trans K4.out.2.2.2 hb3
          clear V3 G3 g2 K4 hb3 hv u1 u2
          obtain ⟨n4, a4, l4, c4, k4, f4, g4⟩ := vb_use V5
          clear V5 f4
          go_wp2_with fail
          refine region_each [27, 28, 29, 30, 31, 32, 33, 34, 35] (fun i X_ U_ => match i with | 0 => X_ = .int .i64 (z / 18446744073709551616) | 1 => X_ = .agg #[.bool n1, .slice aa ka ca] | 2 => X_ = .agg #[.bool n4, .slice a4 l4 c4] | 3 => BG U_ X_ (18446744073709551616) | 4 => BG U_ X_ (z / 18446744073709551616 * 18446744073709551616) | 5 => BG U_ X_ (z % 18446744073709551616) | 6 => ∃ l, DG U_ X_ l ∧ Dig l ∧ val (l.take 4) = z % 18446744073709551616 | 7 => X_ = .int .u64 (z % 18446744073709551616) | 8 => X_ = wv (z / 18446744073709551616) (z % 18446744073709551616) | _ => True) (fun i => false) (by kernel_rfl) (by kernel_rfl) (by kernel_rfl) (by kernel_rfl) (by kernel_rfl) ?_ ?_ ?_ ?_
          · intro i x w w' hi h hb
            match i, hi with
            | 0, _ => exact h
            | 1, _ => exact h
            | 2, _ => exact h
            | 3, _ => exact bg_keep h hb
            | 4, _ => exact bg_keep h hb
            | 5, _ => exact bg_keep h hb
            | 6, _ => obtain ⟨l, h1, h2⟩ := h; exact ⟨l, dg_keep h1 hb, h2⟩
            | 7, _ => exact h
            | 8, _ => exact h
            | k + 9, hk => exact absurd hk (by simp)
          · intro i x w hi ha h
            cases ha
          · intro i hi v f w' hb hv hB hd
            match i, hi with
            | 0, _ =>
              have b5 : f.tmps[5]? = some (.int .i64 (z / 18446744073709551616)) := (hb 5 (by decide)).trans rfl
              clear hb hv hd
              refine wpOp_step rfl (fun K hK => ?_)
              go_simp
              exact hK _ _ ⟨_, rfl, Below.refl _ _, rfl, fun h => absurd h (by decide)⟩
            | 1, _ =>
              have b1 : f.tmps[1]? = some (.pointer (some ⟨w.heap.size, 0, none⟩)) := (hb 1 (by decide)).trans rfl
              clear hb hv hd
              have c := bc_keep hB k1
              refine wpOp_step rfl (fun K hK => ?_)
              go_simp
              exact hK _ _ ⟨_, rfl, Below.refl _ _, rfl, fun h => absurd h (by decide)⟩
            | 2, _ =>
              have b4 : f.tmps[4]? = some (.pointer (some ⟨g, 0, none⟩)) := (hb 4 (by decide)).trans rfl
              clear hb hv hd
              have c := bc_keep hB k4
              refine wpOp_step rfl (fun K hK => ?_)
              go_simp
              exact hK _ _ ⟨_, rfl, Below.refl _ _, rfl, fun h => absurd h (by decide)⟩
            | 3, _ =>
              clear hb hv hd
              refine wpOp_step rfl (fun K hK => ?_)
              go_simp
              refine (power_64 _).mono ?_
              rintro e w5 ⟨v5, rfl, h5, hb5⟩
              exact hK _ _ ⟨_, rfl, hb5, h5, fun h => absurd h (by decide)⟩
            | 4, _ =>
              have h2 : (v 2) = .agg #[.bool n4, .slice a4 l4 c4] := hd 2 (by kernel_rfl)
              have d2 : f.tmps[29]? = some (.agg #[.bool n4, .slice a4 l4 c4]) := (hv 2 29 rfl).trans (congrArg some h2)
              clear h2
              have h3 : BG w' (v 3) (18446744073709551616) := hd 3 (by kernel_rfl)
              have d3 : f.tmps[30]? = some (v 3) := hv 3 30 rfl
              clear hb hv hd
              refine wpOp_step rfl (fun K hK => ?_)
              go_simp
              refine (mul_big _ _ (z / 18446744073709551616) 18446744073709551616 _ (bg_keep g4 hB) h3 (small_of (by omega) (by omega)) (small_of (by decide) (by decide))).mono ?_
              rintro e w5 ⟨v5, rfl, h5, hb5⟩
              exact hK _ _ ⟨_, rfl, hb5, h5, fun h => absurd h (by decide)⟩
            | 5, _ =>
              have h1 : (v 1) = .agg #[.bool n1, .slice aa ka ca] := hd 1 (by kernel_rfl)
              have d1 : f.tmps[28]? = some (.agg #[.bool n1, .slice aa ka ca]) := (hv 1 28 rfl).trans (congrArg some h1)
              clear h1
              have h4 : BG w' (v 4) (z / 18446744073709551616 * 18446744073709551616) := hd 4 (by kernel_rfl)
              have d4 : f.tmps[31]? = some (v 4) := hv 4 31 rfl
              clear hb hv hd
              refine wpOp_step rfl (fun K hK => ?_)
              go_simp
              refine (sub_big _ _ z (z / 18446744073709551616 * 18446744073709551616) _ (bg_keep g1 hB) h4 (small_of (by omega) (by omega)) (small_of (by omega) (by omega))).mono ?_
              rintro e w5 ⟨v5, rfl, h5, hb5⟩
              exact hK _ _ ⟨_, rfl, hb5, by rwa [show z - z / 18446744073709551616 * 18446744073709551616 = z % 18446744073709551616 by omega] at h5, fun h => absurd h (by decide)⟩
            | 6, _ =>
              have h5 : BG w' (v 5) (z % 18446744073709551616) := hd 5 (by kernel_rfl)
              have d5 : f.tmps[32]? = some (v 5) := hv 5 32 rfl
              clear hb hv hd
              obtain ⟨n8, a8, l8, c8, e8, hD8, d8, m8, p8, z8, _, _⟩ := bg_open h5
              rw [e8] at d5
              have t8 := (sgn_neg d8 m8 p8).2.2
              rw [← z8] at t8
              have v8 : val (l8.take 4) = z % 18446744073709551616 := by rw [val_four d8 m8 (by omega)]; omega
              clear m8 p8 z8 t8 h5 e8
              generalize hl8 : l8.length = ll8 at *
              have HL := Lib.hid hl8
              clear hl8
              have hfld : ∀ (w : World) (b : Bool) (o : Option Addr) (i j : Nat), (Instr.field 42 (.agg #[.bool b, .slice o i j]) 1).run Tryd.prog w = .ok (.slice o i j) w := fun _ _ _ _ _ => by kernel_rfl
              refine wpOp_step rfl (fun K hK => ?_)
              go_simp
              exact hK _ _ ⟨_, rfl, Below.refl _ _, ⟨l8, hD8, d8, v8⟩, fun h => absurd h (by decide)⟩
            | 7, _ =>
              have h6 : ∃ l, DG w' (v 6) l ∧ Dig l ∧ val (l.take 4) = z % 18446744073709551616 := hd 6 (by kernel_rfl)
              have d6 : f.tmps[33]? = some (v 6) := hv 6 33 rfl
              clear hb hv hd
              obtain ⟨l, hD, dl, vl⟩ := h6
              refine wpOp_step rfl (fun K hK => ?_)
              go_simp
              refine (low_any _ l _ hD dl).mono ?_
              rintro e w5 ⟨rfl, rfl⟩
              exact hK _ _ ⟨_, rfl, Below.refl _ _, by rw [vl]; rfl, fun h => absurd h (by decide)⟩
            | 8, _ =>
              have h0 : (v 0) = .int .i64 (z / 18446744073709551616) := hd 0 (by kernel_rfl)
              have d0 : f.tmps[27]? = some (.int .i64 (z / 18446744073709551616)) := (hv 0 27 rfl).trans (congrArg some h0)
              clear h0
              have h7 : (v 7) = .int .u64 (z % 18446744073709551616) := hd 7 (by kernel_rfl)
              have d7 : f.tmps[34]? = some (.int .u64 (z % 18446744073709551616)) := (hv 7 34 rfl).trans (congrArg some h7)
              clear h7
              clear hb hv hd
              refine wpOp_step rfl (fun K hK => ?_)
              go_simp
              exact hK _ _ ⟨_, rfl, Below.refl _ _, rfl, fun h => absurd h (by decide)⟩
            | k + 9, hk => exact absurd hk (by simp)
          · intro v w' hB hF hD
            have F0 : (v 0) = .int .i64 (z / 18446744073709551616) := hF 0 (by simp)
            have F1 : (v 1) = .agg #[.bool n1, .slice aa ka ca] := hF 1 (by simp)
            have F2 : (v 2) = .agg #[.bool n4, .slice a4 l4 c4] := hF 2 (by simp)
            have F3 : BG w' (v 3) (18446744073709551616) := hF 3 (by simp)
            have F4 : BG w' (v 4) (z / 18446744073709551616 * 18446744073709551616) := hF 4 (by simp)
            have F5 : BG w' (v 5) (z % 18446744073709551616) := hF 5 (by simp)
            have F6 : ∃ l, DG w' (v 6) l ∧ Dig l ∧ val (l.take 4) = z % 18446744073709551616 := hF 6 (by simp)
            have F7 : (v 7) = .int .u64 (z % 18446744073709551616) := hF 7 (by simp)
            have F8 : (v 8) = wv (z / 18446744073709551616) (z % 18446744073709551616) := hF 8 (by simp)
            clear hF
            obtain ⟨n3_, a3_, k3_, c3_, e3⟩ := bg_form F3
            obtain ⟨n4_, a4_, k4_, c4_, e4⟩ := bg_form F4
            obtain ⟨n5_, a5_, k5_, c5_, e5⟩ := bg_form F5
            obtain ⟨l6, D6, d6, v6⟩ := F6
            obtain ⟨a6, c6, e6, _⟩ := dg_len D6
            simp only [frOf, frGo, Nat.zero_add, Nat.reduceAdd, F0, F1, F2, e3, e4, e5, e6, F7, F8]
            have B2 := b_trans B1 hB
            have r2 := wc_keep hB r1
            have f2 := wf_keep hB r1 f1
            clear F0 F1 F2 F3 F4 F5 F7 F8 D6 d6 v6 e3 e4 e5 e6 hB hD B1 r1 f1 k1 k4 g1 g4
            generalize hq : z / 18446744073709551616 = qq at *
            generalize hm : z % 18446744073709551616 = rr at *
            have HQ := Lib.hid hq
            have HM := Lib.hid hm
            clear hq hm
            go_wp2
            exact bodyPost_ret (v := .tuple #[wv qq rr, .int .i64 0]) (by simp [results, Tryd.results10, go_sem, r2]) rfl ⟨_, _, by rw [E.out.2], by rw [E.out.1, ← HQ.out, ← HM.out]; exact IsW.mk' fz', b_set (b_set B2 (by simp)) (by simp)⟩

end Go.Proofs.YtlpmmnfijfljoaaDoor
