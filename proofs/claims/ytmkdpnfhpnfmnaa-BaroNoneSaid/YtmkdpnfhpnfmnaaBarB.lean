/- Layer 16: a log: what the program's calls on it answer. -/
import Derived.Test.YtmkdpnfhpnfmnaaBarA
import Derived.Test.YtmkdpnfhpnfmnaaRegion
namespace Go.Proofs.Ytmkdpnfhpnfmnaa
open Go.RowKit Go.Shelf Go.Joins

/-- Block b is a log: how many ticks of each kind, the last count. -/
abbrev LR (w : World) (b : Nat) (x y z l : Int) : Prop := w.heap[b]? = some (.cells #[.int .i64 x, .int .i64 y, .int .i64 z, .int .i64 l] 39 (0, 0))
theorem lr_0 {w : World} {b : Nat} {x y z l v : Int} (h : LR w b x y z l) : LR (w.setCell ⟨b, 0, none⟩ (.int .i64 v)) b v y z l := (heap_setCell_same w b 0 _ _ _ h).trans rfl
theorem lr_1 {w : World} {b : Nat} {x y z l v : Int} (h : LR w b x y z l) : LR (w.setCell ⟨b, 1, none⟩ (.int .i64 v)) b x v z l := (heap_setCell_same w b 1 _ _ _ h).trans rfl
theorem lr_2 {w : World} {b : Nat} {x y z l v : Int} (h : LR w b x y z l) : LR (w.setCell ⟨b, 2, none⟩ (.int .i64 v)) b x y v l := (heap_setCell_same w b 2 _ _ _ h).trans rfl
theorem lr_3 {w : World} {b : Nat} {x y z l v : Int} (h : LR w b x y z l) : LR (w.setCell ⟨b, 3, none⟩ (.int .i64 v)) b x y z v := (heap_setCell_same w b 3 _ _ _ h).trans rfl

set_option maxHeartbeats 4000000 in
set_option maxRecDepth 10000 in
theorem newlog_any (w : World) : Calls Try.prog 6 #[] w fun e w' => ∃ b, e = .returned (.pointer (some ⟨b, 0, none⟩)) ∧ w.heap.size ≤ b ∧ LR w' b 0 0 0 0 ∧ Below w.heap.size w w' := by
  go_enter Try.func6, Try.ntmps6
  go_wp2
  go_ret
  exact ⟨_, rfl, Nat.le_refl _, heap_alloc_last _ _, b_alloc (Below.refl _ _)⟩
set_option maxHeartbeats 4000000 in
set_option maxRecDepth 10000 in
theorem last_any (b : Nat) (x y z l : Int) (w : World) (h : LR w b x y z l) : Calls Try.prog 12 #[.pointer (some ⟨b, 0, none⟩)] w (RetV (.int .i64 l) w) := by
  have g3 : w.cell? ⟨b, 3, none⟩ = some (.int .i64 l) := (cell_of_row _ _ 3 _ _ _ h).trans rfl
  clear h
  go_enter Try.func12, Try.ntmps12
  go_wp2
  go_ret
  exact ⟨rfl, Below.refl _ _⟩
set_option maxHeartbeats 4000000 in
set_option maxRecDepth 10000 in
theorem counts_any (b : Nat) (x y z l : Int) (w : World) (h : LR w b x y z l) : Calls Try.prog 10 #[.pointer (some ⟨b, 0, none⟩)] w (RetV (.tuple #[.int .i64 x, .int .i64 y, .int .i64 z]) w) := by
  go_enter Try.func10, Try.ntmps10
  have q0 := cell_regrown (show w.cell? ⟨b, 0, none⟩ = some (.int .i64 x) from (cell_of_row _ _ 0 _ _ _ h).trans rfl)
  have q1 := cell_regrown (show w.cell? ⟨b, 1, none⟩ = some (.int .i64 y) from (cell_of_row _ _ 1 _ _ _ h).trans rfl)
  have q2 := cell_regrown (show w.cell? ⟨b, 2, none⟩ = some (.int .i64 z) from (cell_of_row _ _ 2 _ _ _ h).trans rfl)
  clear h
  go_wp2
  refine wp_region_quiet_below (by kernel_rfl) (by kernel_rfl) ?_
  repeat (with_reducible refine wpQuiet_step (fun KQ hKQ => ?_); go_simp; with_reducible refine hKQ _ ?_; clear hKQ KQ)
  refine wpQuiet_nil ?_
  intro _ hw'
  obtain ⟨⟨dq, osq⟩, hw''⟩ := hw'
  subst hw''
  have E := below_regrown w dq osq
  clear q0 q1 q2
  generalize Sort.grow (redrawn w dq) osq = y1 at *
  go_wp2
  go_ret3
  exact ⟨rfl, E⟩
set_option maxHeartbeats 4000000 in
set_option maxRecDepth 10000 in
theorem in_good (b : Nat) (x y z l a : Int) (h : Bool) (p : Int) (s : Bool) (k : kd h p = 0) (k1 : br h p = true) (k2 : bv h p = p) (x0 : 0 ≤ x) (x1 : x ≤ 1000000) (w : World) (hl : LR w b x y z l) :
    Calls Try.prog 7 #[.pointer (some ⟨b, 0, none⟩), tk a h p s] w fun e w' => e = .returned (.tuple #[.int .i64 p, .bool true]) ∧ LR w' b (x + 1) y z p ∧ But b w w' := by
  have ck := kind_any a h p s
  have cb := brings_any a h p s
  rw [k] at ck
  rw [k1, k2] at cb
  clear k k1 k2
  have tw : TW (w.alloc (Obj.cells #[.int .i64 a, .bool h, .int .i64 p, .bool s] 27)) w.heap.size 0 a h p s := tw_new
  have E : Below w.heap.size w (w.alloc (Obj.cells #[.int .i64 a, .bool h, .int .i64 p, .bool s] 27)) := b_alloc (Below.refl _ _)
  have gb : b < w.heap.size := (Array.getElem?_eq_some_iff.1 hl).1
  replace hl := row_keep E hl
  have wx : IntKind.i64.wrap (x + 1) = x + 1 := by rw [IntKind.wrap_i64]; omega
  go_enter Try.func7, Try.ntmps7
  go_wp2
  refine region_each [8, 9, 10, 11, 12, 13, 14, 15, 16, 17, 18] (fun i_ X_ U_ => match i_ with | 0 => X_ = .pointer (some ⟨b, 0, none⟩) | 1 => X_ = tk a h p s | 2 => X_ = .int .i64 0 | 3 => X_ = .pointer (some ⟨b, 0, none⟩) | 4 => X_ = .pointer (some ⟨b, 0, none⟩) | 5 => X_ = .pointer (some ⟨b, 0, none⟩) | 6 => X_ = .int .i64 x | 7 => X_ = .int .i64 (x + 1) | 8 => X_ = .pointer (some ⟨b, 0, none⟩) | 9 => X_ = .pointer (some ⟨b, 0, none⟩) | 10 => X_ = .pointer (some ⟨b, 0, none⟩) | _ => True) (fun i_ => false) (by kernel_rfl) (by kernel_rfl) (by kernel_rfl) (by kernel_rfl) (by kernel_rfl) ?_ (fun i x w hi ha h => by cases ha) ?_ ?_
  · refine swp (upS (upS (upS (upS (upS (upS (upS (upS (upS (upS (upS up0 ?_) ?_) ?_) ?_) ?_) ?_) ?_) ?_) ?_) ?_) ?_)
    all_goals exact fun _ _ _ h _ => h
  · refine upS (upS (upS (upS (upS (upS (upS (upS (upS (upS (upS up0 ?_) ?_) ?_) ?_) ?_) ?_) ?_) ?_) ?_) ?_) ?_
    all_goals intro v f w' hb hv hB hd
    · have b0 : f.tmps[0]? = some (.pointer (some ⟨b, 0, none⟩)) := (hb 0 (by decide)).trans rfl
      clear hb hv hd
      refine wpOp_step rfl fun K hK => ?_
      go_simp
      exact hK _ _ ⟨_, rfl, Below.refl _ _, rfl, fun h => absurd h (by decide)⟩
    · have b3 : f.tmps[3]? = some (.pointer (some ⟨w.heap.size, 0, none⟩)) := (hb 3 (by decide)).trans rfl
      clear hb hv hd
      obtain ⟨q0, q1, q2, q3⟩ := tw_keep hB tw
      refine wpOp_step rfl fun K hK => ?_
      go_simp
      exact hK _ _ ⟨_, rfl, Below.refl _ _, rfl, fun h => absurd h (by decide)⟩
    · have d1 := got (hv 1 9 rfl) (hd 1 (by kernel_rfl))
      clear hb hv hd
      refine wpOp_call rfl Try.call13 (args1 (eval_tmp d1)) (ck _) ?_
      rintro e w5 ⟨rfl, hb5⟩
      exact ⟨_, rfl, _, rfl, hb5, rfl, fun h => absurd h (by decide)⟩
    · have d0 := got (hv 0 8 rfl) (hd 0 (by kernel_rfl))
      clear hb hv hd
      refine wpOp_step rfl fun K hK => ?_
      go_simp
      exact hK _ _ ⟨_, rfl, Below.refl _ _, rfl, fun h => absurd h (by decide)⟩
    · have d3 := got (hv 3 11 rfl) (hd 3 (by kernel_rfl))
      clear hb hv hd
      refine wpOp_step rfl fun K hK => ?_
      go_simp
      exact hK _ _ ⟨_, rfl, Below.refl _ _, rfl, fun h => absurd h (by decide)⟩
    · have d4 := got (hv 4 12 rfl) (hd 4 (by kernel_rfl))
      have d2 := got (hv 2 10 rfl) (hd 2 (by kernel_rfl))
      clear hb hv hd
      refine wpOp_step rfl fun K hK => ?_
      go_simp
      exact hK _ _ ⟨_, rfl, Below.refl _ _, rfl, fun h => absurd h (by decide)⟩
    · have d5 := got (hv 5 13 rfl) (hd 5 (by kernel_rfl))
      clear hb hv hd
      have q0 : w'.cell? ⟨b, 0, none⟩ = some (.int .i64 x) := (cell_of_row _ _ 0 _ _ _ (row_keep hB hl)).trans rfl
      refine wpOp_step rfl fun K hK => ?_
      go_simp
      exact hK _ _ ⟨_, rfl, Below.refl _ _, rfl, fun h => absurd h (by decide)⟩
    · have d6 := got (hv 6 14 rfl) (hd 6 (by kernel_rfl))
      clear hb hv hd
      refine wpOp_step rfl fun K hK => ?_
      go_simp
      exact hK _ _ ⟨_, rfl, Below.refl _ _, rfl, fun h => absurd h (by decide)⟩
    · have d0 := got (hv 0 8 rfl) (hd 0 (by kernel_rfl))
      clear hb hv hd
      refine wpOp_step rfl fun K hK => ?_
      go_simp
      exact hK _ _ ⟨_, rfl, Below.refl _ _, rfl, fun h => absurd h (by decide)⟩
    · have d8 := got (hv 8 16 rfl) (hd 8 (by kernel_rfl))
      clear hb hv hd
      refine wpOp_step rfl fun K hK => ?_
      go_simp
      exact hK _ _ ⟨_, rfl, Below.refl _ _, rfl, fun h => absurd h (by decide)⟩
    · have d9 := got (hv 9 17 rfl) (hd 9 (by kernel_rfl))
      have d2 := got (hv 2 10 rfl) (hd 2 (by kernel_rfl))
      clear hb hv hd
      refine wpOp_step rfl fun K hK => ?_
      go_simp
      exact hK _ _ ⟨_, rfl, Below.refl _ _, rfl, fun h => absurd h (by decide)⟩
  · intro v w' hB hF hD
    have F0 : v 0 = _ := hF 0 (by simp)
    have F1 : v 1 = _ := hF 1 (by simp)
    have F2 : v 2 = _ := hF 2 (by simp)
    have F3 : v 3 = _ := hF 3 (by simp)
    have F4 : v 4 = _ := hF 4 (by simp)
    have F5 : v 5 = _ := hF 5 (by simp)
    have F6 : v 6 = _ := hF 6 (by simp)
    have F7 : v 7 = _ := hF 7 (by simp)
    have F8 : v 8 = _ := hF 8 (by simp)
    have F9 : v 9 = _ := hF 9 (by simp)
    have F10 : v 10 = _ := hF 10 (by simp)
    clear hF
    simp only [frOf, frGo, Nat.zero_add, Nat.reduceAdd, F0, F1, F2, F3, F4, F5, F6, F7, F8, F9, F10]
    clear F0 F1 F2 F3 F4 F5 F6 F7 F8 F9 F10 hD ck wx
    replace tw := tw_keep hB tw
    replace hl := row_keep hB hl
    have B : But b w w' := but_trans (but_below E) (but_below hB)
    have g0 : w'.cell? ⟨b, 0, none⟩ = some (.int .i64 x) := (cell_of_row _ _ 0 _ _ _ hl).trans rfl
    have z0 := frozen_of_row w' b 0 _ _ hl
    go_wp2_with (with_reducible refine stop_at (some 20) rfl ?_)
    replace hl := lr_0 (v := x + 1) hl
    replace B := but_trans B (but_set (i := 0) (v := .int .i64 (x + 1)))
    replace tw := tw_but (but_set (b := b) (i := 0) (v := .int .i64 (x + 1))) (by omega) tw
    clear g0 z0
    generalize w'.setCell ⟨b, 0, none⟩ (.int .i64 (x + 1)) = y1 at *
    refine unstop ?_
    obtain ⟨q0, q1, q2, q3⟩ := tw
    go_wp2_with fail
    refine (cb _).mono ?_
    rintro e y2 ⟨rfl, hb⟩
    replace hl := row_keep hb hl
    replace B := but_trans B (but_below hb)
    clear hb cb q0 q1 q2 q3
    have z3 := frozen_of_row y2 b 3 _ _ hl
    have g3 : y2.cell? ⟨b, 3, none⟩ = some (.int .i64 l) := (cell_of_row _ _ 3 _ _ _ hl).trans rfl
    go_wp2
    go_ret2
    exact ⟨rfl, lr_3 hl, but_trans B but_set⟩
set_option maxHeartbeats 4000000 in
set_option maxRecDepth 10000 in
theorem in_bad (b : Nat) (x y z l a : Int) (h : Bool) (p : Int) (s : Bool) (k : kd h p = 1) (k1 : br h p = false) (k2 : bv h p = 0) (x0 : 0 ≤ y) (x1 : y ≤ 1000000) (w : World) (hl : LR w b x y z l) :
    Calls Try.prog 7 #[.pointer (some ⟨b, 0, none⟩), tk a h p s] w fun e w' => e = .returned (.tuple #[.int .i64 0, .bool false]) ∧ LR w' b x (y + 1) z l ∧ But b w w' := by
  have ck := kind_any a h p s
  have cb := brings_any a h p s
  rw [k] at ck
  rw [k1, k2] at cb
  clear k k1 k2
  have tw : TW (w.alloc (Obj.cells #[.int .i64 a, .bool h, .int .i64 p, .bool s] 27)) w.heap.size 0 a h p s := tw_new
  have E : Below w.heap.size w (w.alloc (Obj.cells #[.int .i64 a, .bool h, .int .i64 p, .bool s] 27)) := b_alloc (Below.refl _ _)
  have gb : b < w.heap.size := (Array.getElem?_eq_some_iff.1 hl).1
  replace hl := row_keep E hl
  have wx : IntKind.i64.wrap (y + 1) = y + 1 := by rw [IntKind.wrap_i64]; omega
  go_enter Try.func7, Try.ntmps7
  go_wp2
  refine region_each [8, 9, 10, 11, 12, 13, 14, 15, 16, 17, 18] (fun i_ X_ U_ => match i_ with | 0 => X_ = .pointer (some ⟨b, 0, none⟩) | 1 => X_ = tk a h p s | 2 => X_ = .int .i64 1 | 3 => X_ = .pointer (some ⟨b, 0, none⟩) | 4 => X_ = .pointer (some ⟨b, 0, none⟩) | 5 => X_ = .pointer (some ⟨b, 1, none⟩) | 6 => X_ = .int .i64 y | 7 => X_ = .int .i64 (y + 1) | 8 => X_ = .pointer (some ⟨b, 0, none⟩) | 9 => X_ = .pointer (some ⟨b, 0, none⟩) | 10 => X_ = .pointer (some ⟨b, 1, none⟩) | _ => True) (fun i_ => false) (by kernel_rfl) (by kernel_rfl) (by kernel_rfl) (by kernel_rfl) (by kernel_rfl) ?_ (fun i x w hi ha h => by cases ha) ?_ ?_
  · refine swp (upS (upS (upS (upS (upS (upS (upS (upS (upS (upS (upS up0 ?_) ?_) ?_) ?_) ?_) ?_) ?_) ?_) ?_) ?_) ?_)
    all_goals exact fun _ _ _ h _ => h
  · refine upS (upS (upS (upS (upS (upS (upS (upS (upS (upS (upS up0 ?_) ?_) ?_) ?_) ?_) ?_) ?_) ?_) ?_) ?_) ?_
    all_goals intro v f w' hb hv hB hd
    · have b0 : f.tmps[0]? = some (.pointer (some ⟨b, 0, none⟩)) := (hb 0 (by decide)).trans rfl
      clear hb hv hd
      refine wpOp_step rfl fun K hK => ?_
      go_simp
      exact hK _ _ ⟨_, rfl, Below.refl _ _, rfl, fun h => absurd h (by decide)⟩
    · have b3 : f.tmps[3]? = some (.pointer (some ⟨w.heap.size, 0, none⟩)) := (hb 3 (by decide)).trans rfl
      clear hb hv hd
      obtain ⟨q0, q1, q2, q3⟩ := tw_keep hB tw
      refine wpOp_step rfl fun K hK => ?_
      go_simp
      exact hK _ _ ⟨_, rfl, Below.refl _ _, rfl, fun h => absurd h (by decide)⟩
    · have d1 := got (hv 1 9 rfl) (hd 1 (by kernel_rfl))
      clear hb hv hd
      refine wpOp_call rfl Try.call13 (args1 (eval_tmp d1)) (ck _) ?_
      rintro e w5 ⟨rfl, hb5⟩
      exact ⟨_, rfl, _, rfl, hb5, rfl, fun h => absurd h (by decide)⟩
    · have d0 := got (hv 0 8 rfl) (hd 0 (by kernel_rfl))
      clear hb hv hd
      refine wpOp_step rfl fun K hK => ?_
      go_simp
      exact hK _ _ ⟨_, rfl, Below.refl _ _, rfl, fun h => absurd h (by decide)⟩
    · have d3 := got (hv 3 11 rfl) (hd 3 (by kernel_rfl))
      clear hb hv hd
      refine wpOp_step rfl fun K hK => ?_
      go_simp
      exact hK _ _ ⟨_, rfl, Below.refl _ _, rfl, fun h => absurd h (by decide)⟩
    · have d4 := got (hv 4 12 rfl) (hd 4 (by kernel_rfl))
      have d2 := got (hv 2 10 rfl) (hd 2 (by kernel_rfl))
      clear hb hv hd
      refine wpOp_step rfl fun K hK => ?_
      go_simp
      exact hK _ _ ⟨_, rfl, Below.refl _ _, rfl, fun h => absurd h (by decide)⟩
    · have d5 := got (hv 5 13 rfl) (hd 5 (by kernel_rfl))
      clear hb hv hd
      have q0 : w'.cell? ⟨b, 1, none⟩ = some (.int .i64 y) := (cell_of_row _ _ 1 _ _ _ (row_keep hB hl)).trans rfl
      refine wpOp_step rfl fun K hK => ?_
      go_simp
      exact hK _ _ ⟨_, rfl, Below.refl _ _, rfl, fun h => absurd h (by decide)⟩
    · have d6 := got (hv 6 14 rfl) (hd 6 (by kernel_rfl))
      clear hb hv hd
      refine wpOp_step rfl fun K hK => ?_
      go_simp
      exact hK _ _ ⟨_, rfl, Below.refl _ _, rfl, fun h => absurd h (by decide)⟩
    · have d0 := got (hv 0 8 rfl) (hd 0 (by kernel_rfl))
      clear hb hv hd
      refine wpOp_step rfl fun K hK => ?_
      go_simp
      exact hK _ _ ⟨_, rfl, Below.refl _ _, rfl, fun h => absurd h (by decide)⟩
    · have d8 := got (hv 8 16 rfl) (hd 8 (by kernel_rfl))
      clear hb hv hd
      refine wpOp_step rfl fun K hK => ?_
      go_simp
      exact hK _ _ ⟨_, rfl, Below.refl _ _, rfl, fun h => absurd h (by decide)⟩
    · have d9 := got (hv 9 17 rfl) (hd 9 (by kernel_rfl))
      have d2 := got (hv 2 10 rfl) (hd 2 (by kernel_rfl))
      clear hb hv hd
      refine wpOp_step rfl fun K hK => ?_
      go_simp
      exact hK _ _ ⟨_, rfl, Below.refl _ _, rfl, fun h => absurd h (by decide)⟩
  · intro v w' hB hF hD
    have F0 : v 0 = _ := hF 0 (by simp)
    have F1 : v 1 = _ := hF 1 (by simp)
    have F2 : v 2 = _ := hF 2 (by simp)
    have F3 : v 3 = _ := hF 3 (by simp)
    have F4 : v 4 = _ := hF 4 (by simp)
    have F5 : v 5 = _ := hF 5 (by simp)
    have F6 : v 6 = _ := hF 6 (by simp)
    have F7 : v 7 = _ := hF 7 (by simp)
    have F8 : v 8 = _ := hF 8 (by simp)
    have F9 : v 9 = _ := hF 9 (by simp)
    have F10 : v 10 = _ := hF 10 (by simp)
    clear hF
    simp only [frOf, frGo, Nat.zero_add, Nat.reduceAdd, F0, F1, F2, F3, F4, F5, F6, F7, F8, F9, F10]
    clear F0 F1 F2 F3 F4 F5 F6 F7 F8 F9 F10 hD ck wx
    replace tw := tw_keep hB tw
    replace hl := row_keep hB hl
    have B : But b w w' := but_trans (but_below E) (but_below hB)
    have g0 : w'.cell? ⟨b, 1, none⟩ = some (.int .i64 y) := (cell_of_row _ _ 1 _ _ _ hl).trans rfl
    have z0 := frozen_of_row w' b 1 _ _ hl
    go_wp2_with (with_reducible refine stop_at (some 20) rfl ?_)
    replace hl := lr_1 (v := y + 1) hl
    replace B := but_trans B (but_set (i := 1) (v := .int .i64 (y + 1)))
    replace tw := tw_but (but_set (b := b) (i := 1) (v := .int .i64 (y + 1))) (by omega) tw
    clear g0 z0
    generalize w'.setCell ⟨b, 1, none⟩ (.int .i64 (y + 1)) = y1 at *
    refine unstop ?_
    obtain ⟨q0, q1, q2, q3⟩ := tw
    go_wp2_with fail
    refine (cb _).mono ?_
    rintro e y2 ⟨rfl, hb⟩
    replace hl := row_keep hb hl
    replace B := but_trans B (but_below hb)
    clear hb cb q0 q1 q2 q3
    go_wp2
    go_ret2
    exact ⟨rfl, hl, B⟩
set_option maxHeartbeats 4000000 in
set_option maxRecDepth 10000 in
theorem in_none (b : Nat) (x y z l a : Int) (h : Bool) (p : Int) (s : Bool) (k : kd h p = 2) (k1 : br h p = false) (k2 : bv h p = 0) (x0 : 0 ≤ z) (x1 : z ≤ 1000000) (w : World) (hl : LR w b x y z l) :
    Calls Try.prog 7 #[.pointer (some ⟨b, 0, none⟩), tk a h p s] w fun e w' => e = .returned (.tuple #[.int .i64 0, .bool false]) ∧ LR w' b x y (z + 1) l ∧ But b w w' := by
  have ck := kind_any a h p s
  have cb := brings_any a h p s
  rw [k] at ck
  rw [k1, k2] at cb
  clear k k1 k2
  have tw : TW (w.alloc (Obj.cells #[.int .i64 a, .bool h, .int .i64 p, .bool s] 27)) w.heap.size 0 a h p s := tw_new
  have E : Below w.heap.size w (w.alloc (Obj.cells #[.int .i64 a, .bool h, .int .i64 p, .bool s] 27)) := b_alloc (Below.refl _ _)
  have gb : b < w.heap.size := (Array.getElem?_eq_some_iff.1 hl).1
  replace hl := row_keep E hl
  have wx : IntKind.i64.wrap (z + 1) = z + 1 := by rw [IntKind.wrap_i64]; omega
  go_enter Try.func7, Try.ntmps7
  go_wp2
  refine region_each [8, 9, 10, 11, 12, 13, 14, 15, 16, 17, 18] (fun i_ X_ U_ => match i_ with | 0 => X_ = .pointer (some ⟨b, 0, none⟩) | 1 => X_ = tk a h p s | 2 => X_ = .int .i64 2 | 3 => X_ = .pointer (some ⟨b, 0, none⟩) | 4 => X_ = .pointer (some ⟨b, 0, none⟩) | 5 => X_ = .pointer (some ⟨b, 2, none⟩) | 6 => X_ = .int .i64 z | 7 => X_ = .int .i64 (z + 1) | 8 => X_ = .pointer (some ⟨b, 0, none⟩) | 9 => X_ = .pointer (some ⟨b, 0, none⟩) | 10 => X_ = .pointer (some ⟨b, 2, none⟩) | _ => True) (fun i_ => false) (by kernel_rfl) (by kernel_rfl) (by kernel_rfl) (by kernel_rfl) (by kernel_rfl) ?_ (fun i x w hi ha h => by cases ha) ?_ ?_
  · refine swp (upS (upS (upS (upS (upS (upS (upS (upS (upS (upS (upS up0 ?_) ?_) ?_) ?_) ?_) ?_) ?_) ?_) ?_) ?_) ?_)
    all_goals exact fun _ _ _ h _ => h
  · refine upS (upS (upS (upS (upS (upS (upS (upS (upS (upS (upS up0 ?_) ?_) ?_) ?_) ?_) ?_) ?_) ?_) ?_) ?_) ?_
    all_goals intro v f w' hb hv hB hd
    · have b0 : f.tmps[0]? = some (.pointer (some ⟨b, 0, none⟩)) := (hb 0 (by decide)).trans rfl
      clear hb hv hd
      refine wpOp_step rfl fun K hK => ?_
      go_simp
      exact hK _ _ ⟨_, rfl, Below.refl _ _, rfl, fun h => absurd h (by decide)⟩
    · have b3 : f.tmps[3]? = some (.pointer (some ⟨w.heap.size, 0, none⟩)) := (hb 3 (by decide)).trans rfl
      clear hb hv hd
      obtain ⟨q0, q1, q2, q3⟩ := tw_keep hB tw
      refine wpOp_step rfl fun K hK => ?_
      go_simp
      exact hK _ _ ⟨_, rfl, Below.refl _ _, rfl, fun h => absurd h (by decide)⟩
    · have d1 := got (hv 1 9 rfl) (hd 1 (by kernel_rfl))
      clear hb hv hd
      refine wpOp_call rfl Try.call13 (args1 (eval_tmp d1)) (ck _) ?_
      rintro e w5 ⟨rfl, hb5⟩
      exact ⟨_, rfl, _, rfl, hb5, rfl, fun h => absurd h (by decide)⟩
    · have d0 := got (hv 0 8 rfl) (hd 0 (by kernel_rfl))
      clear hb hv hd
      refine wpOp_step rfl fun K hK => ?_
      go_simp
      exact hK _ _ ⟨_, rfl, Below.refl _ _, rfl, fun h => absurd h (by decide)⟩
    · have d3 := got (hv 3 11 rfl) (hd 3 (by kernel_rfl))
      clear hb hv hd
      refine wpOp_step rfl fun K hK => ?_
      go_simp
      exact hK _ _ ⟨_, rfl, Below.refl _ _, rfl, fun h => absurd h (by decide)⟩
    · have d4 := got (hv 4 12 rfl) (hd 4 (by kernel_rfl))
      have d2 := got (hv 2 10 rfl) (hd 2 (by kernel_rfl))
      clear hb hv hd
      refine wpOp_step rfl fun K hK => ?_
      go_simp
      exact hK _ _ ⟨_, rfl, Below.refl _ _, rfl, fun h => absurd h (by decide)⟩
    · have d5 := got (hv 5 13 rfl) (hd 5 (by kernel_rfl))
      clear hb hv hd
      have q0 : w'.cell? ⟨b, 2, none⟩ = some (.int .i64 z) := (cell_of_row _ _ 2 _ _ _ (row_keep hB hl)).trans rfl
      refine wpOp_step rfl fun K hK => ?_
      go_simp
      exact hK _ _ ⟨_, rfl, Below.refl _ _, rfl, fun h => absurd h (by decide)⟩
    · have d6 := got (hv 6 14 rfl) (hd 6 (by kernel_rfl))
      clear hb hv hd
      refine wpOp_step rfl fun K hK => ?_
      go_simp
      exact hK _ _ ⟨_, rfl, Below.refl _ _, rfl, fun h => absurd h (by decide)⟩
    · have d0 := got (hv 0 8 rfl) (hd 0 (by kernel_rfl))
      clear hb hv hd
      refine wpOp_step rfl fun K hK => ?_
      go_simp
      exact hK _ _ ⟨_, rfl, Below.refl _ _, rfl, fun h => absurd h (by decide)⟩
    · have d8 := got (hv 8 16 rfl) (hd 8 (by kernel_rfl))
      clear hb hv hd
      refine wpOp_step rfl fun K hK => ?_
      go_simp
      exact hK _ _ ⟨_, rfl, Below.refl _ _, rfl, fun h => absurd h (by decide)⟩
    · have d9 := got (hv 9 17 rfl) (hd 9 (by kernel_rfl))
      have d2 := got (hv 2 10 rfl) (hd 2 (by kernel_rfl))
      clear hb hv hd
      refine wpOp_step rfl fun K hK => ?_
      go_simp
      exact hK _ _ ⟨_, rfl, Below.refl _ _, rfl, fun h => absurd h (by decide)⟩
  · intro v w' hB hF hD
    have F0 : v 0 = _ := hF 0 (by simp)
    have F1 : v 1 = _ := hF 1 (by simp)
    have F2 : v 2 = _ := hF 2 (by simp)
    have F3 : v 3 = _ := hF 3 (by simp)
    have F4 : v 4 = _ := hF 4 (by simp)
    have F5 : v 5 = _ := hF 5 (by simp)
    have F6 : v 6 = _ := hF 6 (by simp)
    have F7 : v 7 = _ := hF 7 (by simp)
    have F8 : v 8 = _ := hF 8 (by simp)
    have F9 : v 9 = _ := hF 9 (by simp)
    have F10 : v 10 = _ := hF 10 (by simp)
    clear hF
    simp only [frOf, frGo, Nat.zero_add, Nat.reduceAdd, F0, F1, F2, F3, F4, F5, F6, F7, F8, F9, F10]
    clear F0 F1 F2 F3 F4 F5 F6 F7 F8 F9 F10 hD ck wx
    replace tw := tw_keep hB tw
    replace hl := row_keep hB hl
    have B : But b w w' := but_trans (but_below E) (but_below hB)
    have g0 : w'.cell? ⟨b, 2, none⟩ = some (.int .i64 z) := (cell_of_row _ _ 2 _ _ _ hl).trans rfl
    have z0 := frozen_of_row w' b 2 _ _ hl
    go_wp2_with (with_reducible refine stop_at (some 20) rfl ?_)
    replace hl := lr_2 (v := z + 1) hl
    replace B := but_trans B (but_set (i := 2) (v := .int .i64 (z + 1)))
    replace tw := tw_but (but_set (b := b) (i := 2) (v := .int .i64 (z + 1))) (by omega) tw
    clear g0 z0
    generalize w'.setCell ⟨b, 2, none⟩ (.int .i64 (z + 1)) = y1 at *
    refine unstop ?_
    obtain ⟨q0, q1, q2, q3⟩ := tw
    go_wp2_with fail
    refine (cb _).mono ?_
    rintro e y2 ⟨rfl, hb⟩
    replace hl := row_keep hb hl
    replace B := but_trans B (but_below hb)
    clear hb cb q0 q1 q2 q3
    go_wp2
    go_ret2
    exact ⟨rfl, hl, B⟩
end Go.Proofs.Ytmkdpnfhpnfmnaa
