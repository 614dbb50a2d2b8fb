/- TamePlays: what the law's call answers: true, for every matrix and every two rows. -/
import Derived.Test.YtjafcnbghbfehaaDoorTamG
namespace Go.Proofs.YtjafcnbghbfehaaDoor
open Go.RowKit Go.Shelf

/-- What the law keeps: its arguments, the table. -/
structure PM (W : World) (m : Nat → Int) (f0 f1 f2 c0 c1 c2 : Int) (U : World) : Prop where
  b : Below W.heap.size W U
  ka : SC U W.heap.size m
  kf : TC U (W.heap.size + 1) f0 f1 f2
  kc : TC U (W.heap.size + 1 + 1) c0 c1 c2
  pl : PL U
theorem pm_keep {W U U' : World} {m : Nat → Int} {f0 f1 f2 c0 c1 c2 : Int} (h : PM W m f0 f1 f2 c0 c1 c2 U) (hb : Below U.heap.size U U') : PM W m f0 f1 f2 c0 c1 c2 U' :=
  ⟨b_trans h.b hb, sc_keep hb h.ka, tc_keep hb h.kf, tc_keep hb h.kc, pl_keep hb h.pl⟩

set_option maxHeartbeats 8000000 in
set_option maxRecDepth 10000 in
theorem tamePlays_go (m x : Nat → Int) (f0 f1 f2 c0 c1 c2 : Int) (b : Bool)
    (cT : ∀ w, PL w → Calls Tryd.prog 6 #[sv m, tv f0 f1 f2, tv c0 c1 c2] w (RetV (.tuple #[sv x, .int .i64 0]) w))
    (cR : ∀ w, Calls Tryd.prog 7 #[sv m, tv f0 f1 f2, tv c0 c1 c2] w (RetV (.tuple #[sv x, .int .i64 0]) w))
    (cM : ∀ w, Calls Tryd.prog 9 #[tv f0 f1 f2, tv c0 c1 c2] w (RetV (.bool true) w))
    (cN : ∀ w, Calls Tryd.prog 10 #[tv f0 f1 f2, tv c0 c1 c2] w (RetV (.bool true) w))
    (cI : ∀ w, PL w → Calls Tryd.prog 11 #[sv m, tv f0 f1 f2, tv c0 c1 c2] w (RetV (.bool b) w))
    (hxx : Hid (∀ w, (Op.equalIn 10000 23 (.agg #[.int .i64 (x 0), .int .i64 (x 1), .int .i64 (x 2), .int .i64 (x 3), .int .i64 (x 4), .int .i64 (x 5)]) (.agg #[.int .i64 (x 0), .int .i64 (x 1), .int .i64 (x 2), .int .i64 (x 3), .int .i64 (x 4), .int .i64 (x 5)])).run Tryd.prog w = .ok true w))
    (hxm : Hid (∀ w, (Op.equalIn 10000 23 (.agg #[.int .i64 (x 0), .int .i64 (x 1), .int .i64 (x 2), .int .i64 (x 3), .int .i64 (x 4), .int .i64 (x 5)]) (.agg #[.int .i64 (m 0), .int .i64 (m 1), .int .i64 (m 2), .int .i64 (m 3), .int .i64 (m 4), .int .i64 (m 5)])).run Tryd.prog w = .ok b w)) (w : World) (hp : PL w) :
    Calls Tryd.prog 3 #[sv m, tv f0 f1 f2, tv c0 c1 c2] w (RetV (.bool true) w) := by
  have s : PM w m f0 f1 f2 c0 c1 c2 (((w.alloc (Obj.cells #[.int .i64 (m 0), .int .i64 (m 1), .int .i64 (m 2), .int .i64 (m 3), .int .i64 (m 4), .int .i64 (m 5)] 23)).alloc (Obj.cells #[.int .i64 f0, .int .i64 f1, .int .i64 f2] 25)).alloc (Obj.cells #[.int .i64 c0, .int .i64 c1, .int .i64 c2] 25)) := ⟨b_alloc (b_alloc (b_alloc (Below.refl _ _))), sc_alloc (sc_alloc (sc_new (m := m) rfl)), tc_alloc (tc_new (by simp)), tc_new (by simp), pl_keep (b_alloc (b_alloc (b_alloc (Below.refl _ _)))) hp⟩
  clear hp
  have l6 := sc_six s.ka
  have lf := s.kf
  have lc := s.kc
  go_enter Tryd.func3, Tryd.ntmps3
  go_wp2_with fail
  generalize (((w.alloc (Obj.cells #[.int .i64 (m 0), .int .i64 (m 1), .int .i64 (m 2), .int .i64 (m 3), .int .i64 (m 4), .int .i64 (m 5)] 23)).alloc (Obj.cells #[.int .i64 f0, .int .i64 f1, .int .i64 f2] 25)).alloc (Obj.cells #[.int .i64 c0, .int .i64 c1, .int .i64 c2] 25)) = y0 at *
  refine (cT _ s.pl).mono ?_
  rintro e1 y1 ⟨rfl, hb⟩
  replace s := pm_keep s hb
  clear hb l6 lf lc cT
  have kX : SC (y1.alloc (Obj.cells #[.int .i64 (x 0), .int .i64 (x 1), .int .i64 (x 2), .int .i64 (x 3), .int .i64 (x 4), .int .i64 (x 5)] 23)) y1.heap.size x := sc_new (m := x) rfl
  replace s := pm_keep s (b_alloc (o := (Obj.cells #[.int .i64 (x 0), .int .i64 (x 1), .int .i64 (x 2), .int .i64 (x 3), .int .i64 (x 4), .int .i64 (x 5)] 23)) (Below.refl _ _))
  have l6 := sc_six s.ka
  have lf := s.kf
  have lc := s.kc
  go_wp2_with fail
  generalize y1.alloc (Obj.cells #[.int .i64 (x 0), .int .i64 (x 1), .int .i64 (x 2), .int .i64 (x 3), .int .i64 (x 4), .int .i64 (x 5)] 23) = y2 at *
  generalize y1.heap.size = X at *
  refine (cR _).mono ?_
  rintro e2 y3 ⟨rfl, hb⟩
  replace s := pm_keep s hb
  replace kX := sc_keep hb kX
  clear hb l6 lf lc cR
  have kY : SC (y3.alloc (Obj.cells #[.int .i64 (x 0), .int .i64 (x 1), .int .i64 (x 2), .int .i64 (x 3), .int .i64 (x 4), .int .i64 (x 5)] 23)) y3.heap.size x := sc_new (m := x) rfl
  replace s := pm_keep s (b_alloc (o := (Obj.cells #[.int .i64 (x 0), .int .i64 (x 1), .int .i64 (x 2), .int .i64 (x 3), .int .i64 (x 4), .int .i64 (x 5)] 23)) (Below.refl _ _))
  replace kX := sc_alloc (o := (Obj.cells #[.int .i64 (x 0), .int .i64 (x 1), .int .i64 (x 2), .int .i64 (x 3), .int .i64 (x 4), .int .i64 (x 5)] 23)) kX
  go_wp2
  generalize y3.alloc (Obj.cells #[.int .i64 (x 0), .int .i64 (x 1), .int .i64 (x 2), .int .i64 (x 3), .int .i64 (x 4), .int .i64 (x 5)] 23) = y4 at *
  generalize y3.heap.size = Y at *
  refine region_each [25, 26, 27, 28, 29, 30, 31, 32, 33, 34, 35, 36, 37, 38, 39, 40, 41, 42, 43, 44, 45, 46, 47, 48, 49, 50, 51, 52, 53, 54, 55, 56, 57, 58] (fun i_ X_ U_ => match i_ with | 0 => X_ = .bool true | 1 => X_ = .bool true | 2 => X_ = .agg #[.int .i64 (x 0), .int .i64 (x 1), .int .i64 (x 2), .int .i64 (x 3), .int .i64 (x 4), .int .i64 (x 5)] | 3 => X_ = .agg #[.int .i64 (x 0), .int .i64 (x 1), .int .i64 (x 2), .int .i64 (x 3), .int .i64 (x 4), .int .i64 (x 5)] | 4 => X_ = .bool true | 5 => X_ = .bool true | 6 => X_ = .bool true | 7 => X_ = .int .i64 0 | 8 => X_ = .int .i64 0 | 9 => X_ = .bool true | 10 => X_ = .bool true | 11 => X_ = .bool true | 12 => X_ = .agg #[.int .i64 f0, .int .i64 f1, .int .i64 f2] | 13 => X_ = .agg #[.int .i64 c0, .int .i64 c1, .int .i64 c2] | 14 => X_ = .bool true | 15 => X_ = .agg #[.int .i64 f0, .int .i64 f1, .int .i64 f2] | 16 => X_ = .agg #[.int .i64 c0, .int .i64 c1, .int .i64 c2] | 17 => X_ = .bool true | 18 => X_ = .bool true | 19 => X_ = .bool true | 20 => X_ = .bool true | 21 => X_ = .agg #[.int .i64 (m 0), .int .i64 (m 1), .int .i64 (m 2), .int .i64 (m 3), .int .i64 (m 4), .int .i64 (m 5)] | 22 => X_ = .agg #[.int .i64 f0, .int .i64 f1, .int .i64 f2] | 23 => X_ = .agg #[.int .i64 c0, .int .i64 c1, .int .i64 c2] | 24 => X_ = .bool b | 25 => X_ = .int .i64 0 | 26 => X_ = .bool true | 27 => X_ = .bool true | 28 => X_ = .agg #[.int .i64 (x 0), .int .i64 (x 1), .int .i64 (x 2), .int .i64 (x 3), .int .i64 (x 4), .int .i64 (x 5)] | 29 => X_ = .agg #[.int .i64 (m 0), .int .i64 (m 1), .int .i64 (m 2), .int .i64 (m 3), .int .i64 (m 4), .int .i64 (m 5)] | 30 => X_ = .bool b | 31 => X_ = .bool b | 32 => X_ = .bool true | 33 => X_ = .bool true | _ => True) (fun i_ => false) (by kernel_rfl) (by kernel_rfl) (by kernel_rfl) (by kernel_rfl) (by kernel_rfl) ?_ (fun i x w hi ha h => by cases ha) ?_ ?_
  · refine swp (upS (upS (upS (upS (upS (upS (upS (upS (upS (upS (upS (upS (upS (upS (upS (upS (upS (upS (upS (upS (upS (upS (upS (upS (upS (upS (upS (upS (upS (upS (upS (upS (upS (upS up0 ?_) ?_) ?_) ?_) ?_) ?_) ?_) ?_) ?_) ?_) ?_) ?_) ?_) ?_) ?_) ?_) ?_) ?_) ?_) ?_) ?_) ?_) ?_) ?_) ?_) ?_) ?_) ?_) ?_) ?_) ?_) ?_) ?_) ?_)
    all_goals exact fun _ _ _ h _ => h
  · refine upS (upS (upS (upS (upS (upS (upS (upS (upS (upS (upS (upS (upS (upS (upS (upS (upS (upS (upS (upS (upS (upS (upS (upS (upS (upS (upS (upS (upS (upS (upS (upS (upS (upS up0 ?_) ?_) ?_) ?_) ?_) ?_) ?_) ?_) ?_) ?_) ?_) ?_) ?_) ?_) ?_) ?_) ?_) ?_) ?_) ?_) ?_) ?_) ?_) ?_) ?_) ?_) ?_) ?_) ?_) ?_) ?_) ?_) ?_) ?_
    all_goals intro v f w' hb hv hB hd
    · clear hb hv hd
      refine wpOp_call rfl Tryd.call8 args0 (fixed_tam _ (pl_keep hB s.pl)) ?_
      rintro e5 w5_ ⟨rfl, hb5⟩
      exact ⟨_, rfl, _, rfl, hb5, rfl, fun h => absurd h (by decide)⟩
    · have d0 := got (hv 0 25 rfl) (hd 0 (by kernel_rfl))
      clear hb hv hd
      refine wpOp_step rfl fun K hK => ?_
      go_simp
      exact hK _ _ ⟨_, rfl, Below.refl _ _, rfl, fun h => absurd h (by decide)⟩
    · have b7 : f.tmps[7]? = some (.pointer (some ⟨X, 0, none⟩)) := (hb 7 (by decide)).trans rfl
      have d1 := got (hv 1 26 rfl) (hd 1 (by kernel_rfl))
      clear hb hv hd
      have c := sc_six (sc_keep hB kX)
      refine wpOp_step rfl fun K hK => ?_
      go_simp
      exact hK _ _ ⟨_, rfl, Below.refl _ _, rfl, fun h => absurd h (by decide)⟩
    · have b9 : f.tmps[9]? = some (.pointer (some ⟨Y, 0, none⟩)) := (hb 9 (by decide)).trans rfl
      have d1 := got (hv 1 26 rfl) (hd 1 (by kernel_rfl))
      clear hb hv hd
      have c := sc_six (sc_keep hB kY)
      refine wpOp_step rfl fun K hK => ?_
      go_simp
      exact hK _ _ ⟨_, rfl, Below.refl _ _, rfl, fun h => absurd h (by decide)⟩
    · have d2 := got (hv 2 27 rfl) (hd 2 (by kernel_rfl))
      have d3 := got (hv 3 28 rfl) (hd 3 (by kernel_rfl))
      have d1 := got (hv 1 26 rfl) (hd 1 (by kernel_rfl))
      clear hb hv hd
      have hse := hxx.out
      refine wpOp_step rfl fun K hK => ?_
      go_simp
      exact hK _ _ ⟨_, rfl, Below.refl _ _, rfl, fun h => absurd h (by decide)⟩
    · have d1 := got (hv 1 26 rfl) (hd 1 (by kernel_rfl))
      have d4 := got (hv 4 29 rfl) (hd 4 (by kernel_rfl))
      clear hb hv hd
      refine wpOp_step rfl fun K hK => ?_
      go_simp
      exact hK _ _ ⟨_, rfl, Below.refl _ _, rfl, fun h => absurd h (by decide)⟩
    · have d5 := got (hv 5 30 rfl) (hd 5 (by kernel_rfl))
      clear hb hv hd
      refine wpOp_step rfl fun K hK => ?_
      go_simp
      exact hK _ _ ⟨_, rfl, Below.refl _ _, rfl, fun h => absurd h (by decide)⟩
    · have b8 : f.tmps[8]? = some (.int .i64 0) := (hb 8 (by decide)).trans rfl
      have d6 := got (hv 6 31 rfl) (hd 6 (by kernel_rfl))
      clear hb hv hd
      refine wpOp_step rfl fun K hK => ?_
      go_simp
      exact hK _ _ ⟨_, rfl, Below.refl _ _, rfl, fun h => absurd h (by decide)⟩
    · have b10 : f.tmps[10]? = some (.int .i64 0) := (hb 10 (by decide)).trans rfl
      have d6 := got (hv 6 31 rfl) (hd 6 (by kernel_rfl))
      clear hb hv hd
      refine wpOp_step rfl fun K hK => ?_
      go_simp
      exact hK _ _ ⟨_, rfl, Below.refl _ _, rfl, fun h => absurd h (by decide)⟩
    · have d7 := got (hv 7 32 rfl) (hd 7 (by kernel_rfl))
      have d8 := got (hv 8 33 rfl) (hd 8 (by kernel_rfl))
      have d6 := got (hv 6 31 rfl) (hd 6 (by kernel_rfl))
      clear hb hv hd
      refine wpOp_step rfl fun K hK => ?_
      go_simp
      exact hK _ _ ⟨_, rfl, Below.refl _ _, rfl, fun h => absurd h (by decide)⟩
    · have d6 := got (hv 6 31 rfl) (hd 6 (by kernel_rfl))
      have d9 := got (hv 9 34 rfl) (hd 9 (by kernel_rfl))
      clear hb hv hd
      refine wpOp_step rfl fun K hK => ?_
      go_simp
      exact hK _ _ ⟨_, rfl, Below.refl _ _, rfl, fun h => absurd h (by decide)⟩
    · have d10 := got (hv 10 35 rfl) (hd 10 (by kernel_rfl))
      clear hb hv hd
      refine wpOp_step rfl fun K hK => ?_
      go_simp
      exact hK _ _ ⟨_, rfl, Below.refl _ _, rfl, fun h => absurd h (by decide)⟩
    · have b4 : f.tmps[4]? = some (.pointer (some ⟨w.heap.size + 1, 0, none⟩)) := (hb 4 (by decide)).trans rfl
      have d11 := got (hv 11 36 rfl) (hd 11 (by kernel_rfl))
      clear hb hv hd
      have c := tc_keep hB s.kf
      refine wpOp_step rfl fun K hK => ?_
      go_simp
      exact hK _ _ ⟨_, rfl, Below.refl _ _, rfl, fun h => absurd h (by decide)⟩
    · have b5 : f.tmps[5]? = some (.pointer (some ⟨w.heap.size + 1 + 1, 0, none⟩)) := (hb 5 (by decide)).trans rfl
      have d11 := got (hv 11 36 rfl) (hd 11 (by kernel_rfl))
      clear hb hv hd
      have c := tc_keep hB s.kc
      refine wpOp_step rfl fun K hK => ?_
      go_simp
      exact hK _ _ ⟨_, rfl, Below.refl _ _, rfl, fun h => absurd h (by decide)⟩
    · have d12 := got (hv 12 37 rfl) (hd 12 (by kernel_rfl))
      have d13 := got (hv 13 38 rfl) (hd 13 (by kernel_rfl))
      have d11 := got (hv 11 36 rfl) (hd 11 (by kernel_rfl))
      clear hb hv hd
      refine wpOp_callg rfl (yields rfl rfl d11) Tryd.call9 (args2 (eval_tmp d12) (eval_tmp d13)) (cM _) ?_
      rintro e5 w5_ ⟨rfl, hb5⟩
      exact ⟨_, rfl, _, rfl, hb5, rfl, fun h => absurd h (by decide)⟩
    · have b4 : f.tmps[4]? = some (.pointer (some ⟨w.heap.size + 1, 0, none⟩)) := (hb 4 (by decide)).trans rfl
      have d11 := got (hv 11 36 rfl) (hd 11 (by kernel_rfl))
      clear hb hv hd
      have c := tc_keep hB s.kf
      refine wpOp_step rfl fun K hK => ?_
      go_simp
      exact hK _ _ ⟨_, rfl, Below.refl _ _, rfl, fun h => absurd h (by decide)⟩
    · have b5 : f.tmps[5]? = some (.pointer (some ⟨w.heap.size + 1 + 1, 0, none⟩)) := (hb 5 (by decide)).trans rfl
      have d11 := got (hv 11 36 rfl) (hd 11 (by kernel_rfl))
      clear hb hv hd
      have c := tc_keep hB s.kc
      refine wpOp_step rfl fun K hK => ?_
      go_simp
      exact hK _ _ ⟨_, rfl, Below.refl _ _, rfl, fun h => absurd h (by decide)⟩
    · have d15 := got (hv 15 40 rfl) (hd 15 (by kernel_rfl))
      have d16 := got (hv 16 41 rfl) (hd 16 (by kernel_rfl))
      have d11 := got (hv 11 36 rfl) (hd 11 (by kernel_rfl))
      clear hb hv hd
      refine wpOp_callg rfl (yields rfl rfl d11) Tryd.call10 (args2 (eval_tmp d15) (eval_tmp d16)) (cN _) ?_
      rintro e5 w5_ ⟨rfl, hb5⟩
      exact ⟨_, rfl, _, rfl, hb5, rfl, fun h => absurd h (by decide)⟩
    · have d14 := got (hv 14 39 rfl) (hd 14 (by kernel_rfl))
      have d17 := got (hv 17 42 rfl) (hd 17 (by kernel_rfl))
      have d11 := got (hv 11 36 rfl) (hd 11 (by kernel_rfl))
      clear hb hv hd
      refine wpOp_step rfl fun K hK => ?_
      go_simp
      exact hK _ _ ⟨_, rfl, Below.refl _ _, rfl, fun h => absurd h (by decide)⟩
    · have d11 := got (hv 11 36 rfl) (hd 11 (by kernel_rfl))
      have d18 := got (hv 18 43 rfl) (hd 18 (by kernel_rfl))
      clear hb hv hd
      refine wpOp_step rfl fun K hK => ?_
      go_simp
      exact hK _ _ ⟨_, rfl, Below.refl _ _, rfl, fun h => absurd h (by decide)⟩
    · have d19 := got (hv 19 44 rfl) (hd 19 (by kernel_rfl))
      clear hb hv hd
      refine wpOp_step rfl fun K hK => ?_
      go_simp
      exact hK _ _ ⟨_, rfl, Below.refl _ _, rfl, fun h => absurd h (by decide)⟩
    · have b3 : f.tmps[3]? = some (.pointer (some ⟨w.heap.size, 0, none⟩)) := (hb 3 (by decide)).trans rfl
      have d20 := got (hv 20 45 rfl) (hd 20 (by kernel_rfl))
      clear hb hv hd
      have c := sc_six (sc_keep hB s.ka)
      refine wpOp_step rfl fun K hK => ?_
      go_simp
      exact hK _ _ ⟨_, rfl, Below.refl _ _, rfl, fun h => absurd h (by decide)⟩
    · have b4 : f.tmps[4]? = some (.pointer (some ⟨w.heap.size + 1, 0, none⟩)) := (hb 4 (by decide)).trans rfl
      have d20 := got (hv 20 45 rfl) (hd 20 (by kernel_rfl))
      clear hb hv hd
      have c := tc_keep hB s.kf
      refine wpOp_step rfl fun K hK => ?_
      go_simp
      exact hK _ _ ⟨_, rfl, Below.refl _ _, rfl, fun h => absurd h (by decide)⟩
    · have b5 : f.tmps[5]? = some (.pointer (some ⟨w.heap.size + 1 + 1, 0, none⟩)) := (hb 5 (by decide)).trans rfl
      have d20 := got (hv 20 45 rfl) (hd 20 (by kernel_rfl))
      clear hb hv hd
      have c := tc_keep hB s.kc
      refine wpOp_step rfl fun K hK => ?_
      go_simp
      exact hK _ _ ⟨_, rfl, Below.refl _ _, rfl, fun h => absurd h (by decide)⟩
    · have d21 := got (hv 21 46 rfl) (hd 21 (by kernel_rfl))
      have d22 := got (hv 22 47 rfl) (hd 22 (by kernel_rfl))
      have d23 := got (hv 23 48 rfl) (hd 23 (by kernel_rfl))
      have d20 := got (hv 20 45 rfl) (hd 20 (by kernel_rfl))
      clear hb hv hd
      refine wpOp_callg rfl (yields rfl rfl d20) Tryd.call11 (args3 (eval_tmp d21) (eval_tmp d22) (eval_tmp d23)) (cI _ (pl_keep hB s.pl)) ?_
      rintro e5 w5_ ⟨rfl, hb5⟩
      exact ⟨_, rfl, _, rfl, hb5, rfl, fun h => absurd h (by decide)⟩
    · have b10 : f.tmps[10]? = some (.int .i64 0) := (hb 10 (by decide)).trans rfl
      have d20 := got (hv 20 45 rfl) (hd 20 (by kernel_rfl))
      clear hb hv hd
      refine wpOp_step rfl fun K hK => ?_
      go_simp
      exact hK _ _ ⟨_, rfl, Below.refl _ _, rfl, fun h => absurd h (by decide)⟩
    · have d25 := got (hv 25 50 rfl) (hd 25 (by kernel_rfl))
      have d20 := got (hv 20 45 rfl) (hd 20 (by kernel_rfl))
      clear hb hv hd
      refine wpOp_step rfl fun K hK => ?_
      go_simp
      exact hK _ _ ⟨_, rfl, Below.refl _ _, rfl, fun h => absurd h (by decide)⟩
    · have d26 := got (hv 26 51 rfl) (hd 26 (by kernel_rfl))
      have d20 := got (hv 20 45 rfl) (hd 20 (by kernel_rfl))
      clear hb hv hd
      refine wpOp_step rfl fun K hK => ?_
      go_simp
      exact hK _ _ ⟨_, rfl, Below.refl _ _, rfl, fun h => absurd h (by decide)⟩
    · have b9 : f.tmps[9]? = some (.pointer (some ⟨Y, 0, none⟩)) := (hb 9 (by decide)).trans rfl
      have d27 := got (hv 27 52 rfl) (hd 27 (by kernel_rfl))
      clear hb hv hd
      have c := sc_six (sc_keep hB kY)
      refine wpOp_step rfl fun K hK => ?_
      go_simp
      exact hK _ _ ⟨_, rfl, Below.refl _ _, rfl, fun h => absurd h (by decide)⟩
    · have b3 : f.tmps[3]? = some (.pointer (some ⟨w.heap.size, 0, none⟩)) := (hb 3 (by decide)).trans rfl
      have d27 := got (hv 27 52 rfl) (hd 27 (by kernel_rfl))
      clear hb hv hd
      have c := sc_six (sc_keep hB s.ka)
      refine wpOp_step rfl fun K hK => ?_
      go_simp
      exact hK _ _ ⟨_, rfl, Below.refl _ _, rfl, fun h => absurd h (by decide)⟩
    · have d28 := got (hv 28 53 rfl) (hd 28 (by kernel_rfl))
      have d29 := got (hv 29 54 rfl) (hd 29 (by kernel_rfl))
      have d27 := got (hv 27 52 rfl) (hd 27 (by kernel_rfl))
      clear hb hv hd
      have hse := hxm.out
      refine wpOp_step rfl fun K hK => ?_
      go_simp
      exact hK _ _ ⟨_, rfl, Below.refl _ _, rfl, fun h => absurd h (by decide)⟩
    · have d27 := got (hv 27 52 rfl) (hd 27 (by kernel_rfl))
      have d30 := got (hv 30 55 rfl) (hd 30 (by kernel_rfl))
      have d20 := got (hv 20 45 rfl) (hd 20 (by kernel_rfl))
      clear hb hv hd
      refine wpOp_step rfl fun K hK => ?_
      go_simp
      exact hK _ _ ⟨_, rfl, Below.refl _ _, rfl, fun h => absurd h (by decide)⟩
    · have d24 := got (hv 24 49 rfl) (hd 24 (by kernel_rfl))
      have d31 := got (hv 31 56 rfl) (hd 31 (by kernel_rfl))
      have d20 := got (hv 20 45 rfl) (hd 20 (by kernel_rfl))
      clear hb hv hd
      refine wpOp_step rfl fun K hK => ?_
      go_simp
      exact hK _ _ ⟨_, rfl, Below.refl _ _, rfl, fun h => absurd h (by decide)⟩
    · have d20 := got (hv 20 45 rfl) (hd 20 (by kernel_rfl))
      have d32 := got (hv 32 57 rfl) (hd 32 (by kernel_rfl))
      clear hb hv hd
      refine wpOp_step rfl fun K hK => ?_
      go_simp
      exact hK _ _ ⟨_, rfl, Below.refl _ _, rfl, fun h => absurd h (by decide)⟩
  · intro v w' hB hF hD
    have F0 : v 0 = _ := hF 0 (by simp)
    have F1 : v 1 = _ := hF 1 (by simp)
    have F2 : v 2 = _ := hF 2 (by simp)
    have F3 : v 3 = _ := hF 3 (by simp)
    have F4 : v 4 = _ := hF 4 (by simp)
    have F5 : v 5 = _ := hF 5 (by simp)
    have F6 : v 6 = _ := hF 6 (by simp)
    have F7 : v 7 = _ := hF 7 (by simp)
    have F8 : v 8 = _ := hF 8 (by simp)
    have F9 : v 9 = _ := hF 9 (by simp)
    have F10 : v 10 = _ := hF 10 (by simp)
    have F11 : v 11 = _ := hF 11 (by simp)
    have F12 : v 12 = _ := hF 12 (by simp)
    have F13 : v 13 = _ := hF 13 (by simp)
    have F14 : v 14 = _ := hF 14 (by simp)
    have F15 : v 15 = _ := hF 15 (by simp)
    have F16 : v 16 = _ := hF 16 (by simp)
    have F17 : v 17 = _ := hF 17 (by simp)
    have F18 : v 18 = _ := hF 18 (by simp)
    have F19 : v 19 = _ := hF 19 (by simp)
    have F20 : v 20 = _ := hF 20 (by simp)
    have F21 : v 21 = _ := hF 21 (by simp)
    have F22 : v 22 = _ := hF 22 (by simp)
    have F23 : v 23 = _ := hF 23 (by simp)
    have F24 : v 24 = _ := hF 24 (by simp)
    have F25 : v 25 = _ := hF 25 (by simp)
    have F26 : v 26 = _ := hF 26 (by simp)
    have F27 : v 27 = _ := hF 27 (by simp)
    have F28 : v 28 = _ := hF 28 (by simp)
    have F29 : v 29 = _ := hF 29 (by simp)
    have F30 : v 30 = _ := hF 30 (by simp)
    have F31 : v 31 = _ := hF 31 (by simp)
    have F32 : v 32 = _ := hF 32 (by simp)
    have F33 : v 33 = _ := hF 33 (by simp)
    clear hF
    simp only [frOf, frGo, Nat.zero_add, Nat.reduceAdd, F0, F1, F2, F3, F4, F5, F6, F7, F8, F9, F10, F11, F12, F13, F14, F15, F16, F17, F18, F19, F20, F21, F22, F23, F24, F25, F26, F27, F28, F29, F30, F31, F32, F33]
    replace s := pm_keep s hB
    have B9 := s.b
    clear hB hD kX kY s cM cN cI F0 F1 F2 F3 F4 F5 F6 F7 F8 F9 F10 F11 F12 F13 F14 F15 F16 F17 F18 F19 F20 F21 F22 F23 F24 F25 F26 F27 F28 F29 F30 F31 F32 F33
    go_wp2
    go_ret
    exact ⟨rfl, B9⟩

set_option maxHeartbeats 8000000 in
set_option maxRecDepth 10000 in
theorem tamePlays_no (m x : Nat → Int) (f0 f1 f2 c0 c1 c2 : Int)
    (cT : ∀ w, PL w → Calls Tryd.prog 6 #[sv m, tv f0 f1 f2, tv c0 c1 c2] w (RetV (.tuple #[sv x, .int .i64 1]) w))
    (cR : ∀ w, Calls Tryd.prog 7 #[sv m, tv f0 f1 f2, tv c0 c1 c2] w (RetV (.tuple #[sv x, .int .i64 1]) w))
    (cM : ∀ w, Calls Tryd.prog 9 #[tv f0 f1 f2, tv c0 c1 c2] w (RetV (.bool false) w))
    (cN : ∀ w, Calls Tryd.prog 10 #[tv f0 f1 f2, tv c0 c1 c2] w (RetV (.bool false) w))
    (cI : ∀ w, PL w → Calls Tryd.prog 11 #[sv m, tv f0 f1 f2, tv c0 c1 c2] w (RetV (.bool false) w))
    (hxx : Hid (∀ w, (Op.equalIn 10000 23 (.agg #[.int .i64 (x 0), .int .i64 (x 1), .int .i64 (x 2), .int .i64 (x 3), .int .i64 (x 4), .int .i64 (x 5)]) (.agg #[.int .i64 (x 0), .int .i64 (x 1), .int .i64 (x 2), .int .i64 (x 3), .int .i64 (x 4), .int .i64 (x 5)])).run Tryd.prog w = .ok true w)) (w : World) (hp : PL w) :
    Calls Tryd.prog 3 #[sv m, tv f0 f1 f2, tv c0 c1 c2] w (RetV (.bool true) w) := by
  have s : PM w m f0 f1 f2 c0 c1 c2 (((w.alloc (Obj.cells #[.int .i64 (m 0), .int .i64 (m 1), .int .i64 (m 2), .int .i64 (m 3), .int .i64 (m 4), .int .i64 (m 5)] 23)).alloc (Obj.cells #[.int .i64 f0, .int .i64 f1, .int .i64 f2] 25)).alloc (Obj.cells #[.int .i64 c0, .int .i64 c1, .int .i64 c2] 25)) := ⟨b_alloc (b_alloc (b_alloc (Below.refl _ _))), sc_alloc (sc_alloc (sc_new (m := m) rfl)), tc_alloc (tc_new (by simp)), tc_new (by simp), pl_keep (b_alloc (b_alloc (b_alloc (Below.refl _ _)))) hp⟩
  clear hp
  have l6 := sc_six s.ka
  have lf := s.kf
  have lc := s.kc
  go_enter Tryd.func3, Tryd.ntmps3
  go_wp2_with fail
  generalize (((w.alloc (Obj.cells #[.int .i64 (m 0), .int .i64 (m 1), .int .i64 (m 2), .int .i64 (m 3), .int .i64 (m 4), .int .i64 (m 5)] 23)).alloc (Obj.cells #[.int .i64 f0, .int .i64 f1, .int .i64 f2] 25)).alloc (Obj.cells #[.int .i64 c0, .int .i64 c1, .int .i64 c2] 25)) = y0 at *
  refine (cT _ s.pl).mono ?_
  rintro e1 y1 ⟨rfl, hb⟩
  replace s := pm_keep s hb
  clear hb l6 lf lc cT
  have kX : SC (y1.alloc (Obj.cells #[.int .i64 (x 0), .int .i64 (x 1), .int .i64 (x 2), .int .i64 (x 3), .int .i64 (x 4), .int .i64 (x 5)] 23)) y1.heap.size x := sc_new (m := x) rfl
  replace s := pm_keep s (b_alloc (o := (Obj.cells #[.int .i64 (x 0), .int .i64 (x 1), .int .i64 (x 2), .int .i64 (x 3), .int .i64 (x 4), .int .i64 (x 5)] 23)) (Below.refl _ _))
  have l6 := sc_six s.ka
  have lf := s.kf
  have lc := s.kc
  go_wp2_with fail
  generalize y1.alloc (Obj.cells #[.int .i64 (x 0), .int .i64 (x 1), .int .i64 (x 2), .int .i64 (x 3), .int .i64 (x 4), .int .i64 (x 5)] 23) = y2 at *
  generalize y1.heap.size = X at *
  refine (cR _).mono ?_
  rintro e2 y3 ⟨rfl, hb⟩
  replace s := pm_keep s hb
  replace kX := sc_keep hb kX
  clear hb l6 lf lc cR
  have kY : SC (y3.alloc (Obj.cells #[.int .i64 (x 0), .int .i64 (x 1), .int .i64 (x 2), .int .i64 (x 3), .int .i64 (x 4), .int .i64 (x 5)] 23)) y3.heap.size x := sc_new (m := x) rfl
  replace s := pm_keep s (b_alloc (o := (Obj.cells #[.int .i64 (x 0), .int .i64 (x 1), .int .i64 (x 2), .int .i64 (x 3), .int .i64 (x 4), .int .i64 (x 5)] 23)) (Below.refl _ _))
  replace kX := sc_alloc (o := (Obj.cells #[.int .i64 (x 0), .int .i64 (x 1), .int .i64 (x 2), .int .i64 (x 3), .int .i64 (x 4), .int .i64 (x 5)] 23)) kX
  go_wp2
  generalize y3.alloc (Obj.cells #[.int .i64 (x 0), .int .i64 (x 1), .int .i64 (x 2), .int .i64 (x 3), .int .i64 (x 4), .int .i64 (x 5)] 23) = y4 at *
  generalize y3.heap.size = Y at *
  refine region_each [25, 26, 27, 28, 29, 30, 31, 32, 33, 34, 35, 36, 37, 38, 39, 40, 41, 42, 43, 44, 45, 46, 47, 48, 49, 50, 51, 52, 53, 54, 55, 56, 57, 58] (fun i_ X_ U_ => match i_ with | 0 => X_ = .bool true | 1 => X_ = .bool true | 2 => X_ = .agg #[.int .i64 (x 0), .int .i64 (x 1), .int .i64 (x 2), .int .i64 (x 3), .int .i64 (x 4), .int .i64 (x 5)] | 3 => X_ = .agg #[.int .i64 (x 0), .int .i64 (x 1), .int .i64 (x 2), .int .i64 (x 3), .int .i64 (x 4), .int .i64 (x 5)] | 4 => X_ = .bool true | 5 => X_ = .bool true | 6 => X_ = .bool true | 7 => X_ = .int .i64 1 | 8 => X_ = .int .i64 1 | 9 => X_ = .bool true | 10 => X_ = .bool true | 11 => X_ = .bool true | 12 => X_ = .agg #[.int .i64 f0, .int .i64 f1, .int .i64 f2] | 13 => X_ = .agg #[.int .i64 c0, .int .i64 c1, .int .i64 c2] | 14 => X_ = .bool false | 15 => X_ = .agg #[.int .i64 f0, .int .i64 f1, .int .i64 f2] | 16 => X_ = .agg #[.int .i64 c0, .int .i64 c1, .int .i64 c2] | 17 => X_ = .bool false | 18 => X_ = .bool true | 19 => X_ = .bool true | 20 => X_ = .bool true | 21 => X_ = .agg #[.int .i64 (m 0), .int .i64 (m 1), .int .i64 (m 2), .int .i64 (m 3), .int .i64 (m 4), .int .i64 (m 5)] | 22 => X_ = .agg #[.int .i64 f0, .int .i64 f1, .int .i64 f2] | 23 => X_ = .agg #[.int .i64 c0, .int .i64 c1, .int .i64 c2] | 24 => X_ = .bool false | 25 => X_ = .int .i64 1 | 26 => X_ = .bool false | 27 => X_ = .bool false | 28 => X_ = undef | 29 => X_ = undef | 30 => X_ = undef | 31 => X_ = .bool false | 32 => X_ = .bool true | 33 => X_ = .bool true | _ => True) (fun i_ => false) (by kernel_rfl) (by kernel_rfl) (by kernel_rfl) (by kernel_rfl) (by kernel_rfl) ?_ (fun i x w hi ha h => by cases ha) ?_ ?_
  · refine swp (upS (upS (upS (upS (upS (upS (upS (upS (upS (upS (upS (upS (upS (upS (upS (upS (upS (upS (upS (upS (upS (upS (upS (upS (upS (upS (upS (upS (upS (upS (upS (upS (upS (upS up0 ?_) ?_) ?_) ?_) ?_) ?_) ?_) ?_) ?_) ?_) ?_) ?_) ?_) ?_) ?_) ?_) ?_) ?_) ?_) ?_) ?_) ?_) ?_) ?_) ?_) ?_) ?_) ?_) ?_) ?_) ?_) ?_) ?_) ?_)
    all_goals exact fun _ _ _ h _ => h
  · refine upS (upS (upS (upS (upS (upS (upS (upS (upS (upS (upS (upS (upS (upS (upS (upS (upS (upS (upS (upS (upS (upS (upS (upS (upS (upS (upS (upS (upS (upS (upS (upS (upS (upS up0 ?_) ?_) ?_) ?_) ?_) ?_) ?_) ?_) ?_) ?_) ?_) ?_) ?_) ?_) ?_) ?_) ?_) ?_) ?_) ?_) ?_) ?_) ?_) ?_) ?_) ?_) ?_) ?_) ?_) ?_) ?_) ?_) ?_) ?_
    all_goals intro v f w' hb hv hB hd
    · clear hb hv hd
      refine wpOp_call rfl Tryd.call8 args0 (fixed_tam _ (pl_keep hB s.pl)) ?_
      rintro e5 w5_ ⟨rfl, hb5⟩
      exact ⟨_, rfl, _, rfl, hb5, rfl, fun h => absurd h (by decide)⟩
    · have d0 := got (hv 0 25 rfl) (hd 0 (by kernel_rfl))
      clear hb hv hd
      refine wpOp_step rfl fun K hK => ?_
      go_simp
      exact hK _ _ ⟨_, rfl, Below.refl _ _, rfl, fun h => absurd h (by decide)⟩
    · have b7 : f.tmps[7]? = some (.pointer (some ⟨X, 0, none⟩)) := (hb 7 (by decide)).trans rfl
      have d1 := got (hv 1 26 rfl) (hd 1 (by kernel_rfl))
      clear hb hv hd
      have c := sc_six (sc_keep hB kX)
      refine wpOp_step rfl fun K hK => ?_
      go_simp
      exact hK _ _ ⟨_, rfl, Below.refl _ _, rfl, fun h => absurd h (by decide)⟩
    · have b9 : f.tmps[9]? = some (.pointer (some ⟨Y, 0, none⟩)) := (hb 9 (by decide)).trans rfl
      have d1 := got (hv 1 26 rfl) (hd 1 (by kernel_rfl))
      clear hb hv hd
      have c := sc_six (sc_keep hB kY)
      refine wpOp_step rfl fun K hK => ?_
      go_simp
      exact hK _ _ ⟨_, rfl, Below.refl _ _, rfl, fun h => absurd h (by decide)⟩
    · have d2 := got (hv 2 27 rfl) (hd 2 (by kernel_rfl))
      have d3 := got (hv 3 28 rfl) (hd 3 (by kernel_rfl))
      have d1 := got (hv 1 26 rfl) (hd 1 (by kernel_rfl))
      clear hb hv hd
      have hse := hxx.out
      refine wpOp_step rfl fun K hK => ?_
      go_simp
      exact hK _ _ ⟨_, rfl, Below.refl _ _, rfl, fun h => absurd h (by decide)⟩
    · have d1 := got (hv 1 26 rfl) (hd 1 (by kernel_rfl))
      have d4 := got (hv 4 29 rfl) (hd 4 (by kernel_rfl))
      clear hb hv hd
      refine wpOp_step rfl fun K hK => ?_
      go_simp
      exact hK _ _ ⟨_, rfl, Below.refl _ _, rfl, fun h => absurd h (by decide)⟩
    · have d5 := got (hv 5 30 rfl) (hd 5 (by kernel_rfl))
      clear hb hv hd
      refine wpOp_step rfl fun K hK => ?_
      go_simp
      exact hK _ _ ⟨_, rfl, Below.refl _ _, rfl, fun h => absurd h (by decide)⟩
    · have b8 : f.tmps[8]? = some (.int .i64 1) := (hb 8 (by decide)).trans rfl
      have d6 := got (hv 6 31 rfl) (hd 6 (by kernel_rfl))
      clear hb hv hd
      refine wpOp_step rfl fun K hK => ?_
      go_simp
      exact hK _ _ ⟨_, rfl, Below.refl _ _, rfl, fun h => absurd h (by decide)⟩
    · have b10 : f.tmps[10]? = some (.int .i64 1) := (hb 10 (by decide)).trans rfl
      have d6 := got (hv 6 31 rfl) (hd 6 (by kernel_rfl))
      clear hb hv hd
      refine wpOp_step rfl fun K hK => ?_
      go_simp
      exact hK _ _ ⟨_, rfl, Below.refl _ _, rfl, fun h => absurd h (by decide)⟩
    · have d7 := got (hv 7 32 rfl) (hd 7 (by kernel_rfl))
      have d8 := got (hv 8 33 rfl) (hd 8 (by kernel_rfl))
      have d6 := got (hv 6 31 rfl) (hd 6 (by kernel_rfl))
      clear hb hv hd
      refine wpOp_step rfl fun K hK => ?_
      go_simp
      exact hK _ _ ⟨_, rfl, Below.refl _ _, rfl, fun h => absurd h (by decide)⟩
    · have d6 := got (hv 6 31 rfl) (hd 6 (by kernel_rfl))
      have d9 := got (hv 9 34 rfl) (hd 9 (by kernel_rfl))
      clear hb hv hd
      refine wpOp_step rfl fun K hK => ?_
      go_simp
      exact hK _ _ ⟨_, rfl, Below.refl _ _, rfl, fun h => absurd h (by decide)⟩
    · have d10 := got (hv 10 35 rfl) (hd 10 (by kernel_rfl))
      clear hb hv hd
      refine wpOp_step rfl fun K hK => ?_
      go_simp
      exact hK _ _ ⟨_, rfl, Below.refl _ _, rfl, fun h => absurd h (by decide)⟩
    · have b4 : f.tmps[4]? = some (.pointer (some ⟨w.heap.size + 1, 0, none⟩)) := (hb 4 (by decide)).trans rfl
      have d11 := got (hv 11 36 rfl) (hd 11 (by kernel_rfl))
      clear hb hv hd
      have c := tc_keep hB s.kf
      refine wpOp_step rfl fun K hK => ?_
      go_simp
      exact hK _ _ ⟨_, rfl, Below.refl _ _, rfl, fun h => absurd h (by decide)⟩
    · have b5 : f.tmps[5]? = some (.pointer (some ⟨w.heap.size + 1 + 1, 0, none⟩)) := (hb 5 (by decide)).trans rfl
      have d11 := got (hv 11 36 rfl) (hd 11 (by kernel_rfl))
      clear hb hv hd
      have c := tc_keep hB s.kc
      refine wpOp_step rfl fun K hK => ?_
      go_simp
      exact hK _ _ ⟨_, rfl, Below.refl _ _, rfl, fun h => absurd h (by decide)⟩
    · have d12 := got (hv 12 37 rfl) (hd 12 (by kernel_rfl))
      have d13 := got (hv 13 38 rfl) (hd 13 (by kernel_rfl))
      have d11 := got (hv 11 36 rfl) (hd 11 (by kernel_rfl))
      clear hb hv hd
      refine wpOp_callg rfl (yields rfl rfl d11) Tryd.call9 (args2 (eval_tmp d12) (eval_tmp d13)) (cM _) ?_
      rintro e5 w5_ ⟨rfl, hb5⟩
      exact ⟨_, rfl, _, rfl, hb5, rfl, fun h => absurd h (by decide)⟩
    · have b4 : f.tmps[4]? = some (.pointer (some ⟨w.heap.size + 1, 0, none⟩)) := (hb 4 (by decide)).trans rfl
      have d11 := got (hv 11 36 rfl) (hd 11 (by kernel_rfl))
      clear hb hv hd
      have c := tc_keep hB s.kf
      refine wpOp_step rfl fun K hK => ?_
      go_simp
      exact hK _ _ ⟨_, rfl, Below.refl _ _, rfl, fun h => absurd h (by decide)⟩
    · have b5 : f.tmps[5]? = some (.pointer (some ⟨w.heap.size + 1 + 1, 0, none⟩)) := (hb 5 (by decide)).trans rfl
      have d11 := got (hv 11 36 rfl) (hd 11 (by kernel_rfl))
      clear hb hv hd
      have c := tc_keep hB s.kc
      refine wpOp_step rfl fun K hK => ?_
      go_simp
      exact hK _ _ ⟨_, rfl, Below.refl _ _, rfl, fun h => absurd h (by decide)⟩
    · have d15 := got (hv 15 40 rfl) (hd 15 (by kernel_rfl))
      have d16 := got (hv 16 41 rfl) (hd 16 (by kernel_rfl))
      have d11 := got (hv 11 36 rfl) (hd 11 (by kernel_rfl))
      clear hb hv hd
      refine wpOp_callg rfl (yields rfl rfl d11) Tryd.call10 (args2 (eval_tmp d15) (eval_tmp d16)) (cN _) ?_
      rintro e5 w5_ ⟨rfl, hb5⟩
      exact ⟨_, rfl, _, rfl, hb5, rfl, fun h => absurd h (by decide)⟩
    · have d14 := got (hv 14 39 rfl) (hd 14 (by kernel_rfl))
      have d17 := got (hv 17 42 rfl) (hd 17 (by kernel_rfl))
      have d11 := got (hv 11 36 rfl) (hd 11 (by kernel_rfl))
      clear hb hv hd
      refine wpOp_step rfl fun K hK => ?_
      go_simp
      exact hK _ _ ⟨_, rfl, Below.refl _ _, rfl, fun h => absurd h (by decide)⟩
    · have d11 := got (hv 11 36 rfl) (hd 11 (by kernel_rfl))
      have d18 := got (hv 18 43 rfl) (hd 18 (by kernel_rfl))
      clear hb hv hd
      refine wpOp_step rfl fun K hK => ?_
      go_simp
      exact hK _ _ ⟨_, rfl, Below.refl _ _, rfl, fun h => absurd h (by decide)⟩
    · have d19 := got (hv 19 44 rfl) (hd 19 (by kernel_rfl))
      clear hb hv hd
      refine wpOp_step rfl fun K hK => ?_
      go_simp
      exact hK _ _ ⟨_, rfl, Below.refl _ _, rfl, fun h => absurd h (by decide)⟩
    · have b3 : f.tmps[3]? = some (.pointer (some ⟨w.heap.size, 0, none⟩)) := (hb 3 (by decide)).trans rfl
      have d20 := got (hv 20 45 rfl) (hd 20 (by kernel_rfl))
      clear hb hv hd
      have c := sc_six (sc_keep hB s.ka)
      refine wpOp_step rfl fun K hK => ?_
      go_simp
      exact hK _ _ ⟨_, rfl, Below.refl _ _, rfl, fun h => absurd h (by decide)⟩
    · have b4 : f.tmps[4]? = some (.pointer (some ⟨w.heap.size + 1, 0, none⟩)) := (hb 4 (by decide)).trans rfl
      have d20 := got (hv 20 45 rfl) (hd 20 (by kernel_rfl))
      clear hb hv hd
      have c := tc_keep hB s.kf
      refine wpOp_step rfl fun K hK => ?_
      go_simp
      exact hK _ _ ⟨_, rfl, Below.refl _ _, rfl, fun h => absurd h (by decide)⟩
    · have b5 : f.tmps[5]? = some (.pointer (some ⟨w.heap.size + 1 + 1, 0, none⟩)) := (hb 5 (by decide)).trans rfl
      have d20 := got (hv 20 45 rfl) (hd 20 (by kernel_rfl))
      clear hb hv hd
      have c := tc_keep hB s.kc
      refine wpOp_step rfl fun K hK => ?_
      go_simp
      exact hK _ _ ⟨_, rfl, Below.refl _ _, rfl, fun h => absurd h (by decide)⟩
    · have d21 := got (hv 21 46 rfl) (hd 21 (by kernel_rfl))
      have d22 := got (hv 22 47 rfl) (hd 22 (by kernel_rfl))
      have d23 := got (hv 23 48 rfl) (hd 23 (by kernel_rfl))
      have d20 := got (hv 20 45 rfl) (hd 20 (by kernel_rfl))
      clear hb hv hd
      refine wpOp_callg rfl (yields rfl rfl d20) Tryd.call11 (args3 (eval_tmp d21) (eval_tmp d22) (eval_tmp d23)) (cI _ (pl_keep hB s.pl)) ?_
      rintro e5 w5_ ⟨rfl, hb5⟩
      exact ⟨_, rfl, _, rfl, hb5, rfl, fun h => absurd h (by decide)⟩
    · have b10 : f.tmps[10]? = some (.int .i64 1) := (hb 10 (by decide)).trans rfl
      have d20 := got (hv 20 45 rfl) (hd 20 (by kernel_rfl))
      clear hb hv hd
      refine wpOp_step rfl fun K hK => ?_
      go_simp
      exact hK _ _ ⟨_, rfl, Below.refl _ _, rfl, fun h => absurd h (by decide)⟩
    · have d25 := got (hv 25 50 rfl) (hd 25 (by kernel_rfl))
      have d20 := got (hv 20 45 rfl) (hd 20 (by kernel_rfl))
      clear hb hv hd
      refine wpOp_step rfl fun K hK => ?_
      go_simp
      exact hK _ _ ⟨_, rfl, Below.refl _ _, rfl, fun h => absurd h (by decide)⟩
    · have d26 := got (hv 26 51 rfl) (hd 26 (by kernel_rfl))
      have d20 := got (hv 20 45 rfl) (hd 20 (by kernel_rfl))
      clear hb hv hd
      refine wpOp_step rfl fun K hK => ?_
      go_simp
      exact hK _ _ ⟨_, rfl, Below.refl _ _, rfl, fun h => absurd h (by decide)⟩
    · have b9 : f.tmps[9]? = some (.pointer (some ⟨Y, 0, none⟩)) := (hb 9 (by decide)).trans rfl
      have d27 := got (hv 27 52 rfl) (hd 27 (by kernel_rfl))
      clear hb hv hd
      refine wpOp_step rfl fun K hK => ?_
      go_simp
      exact hK _ _ ⟨_, rfl, Below.refl _ _, rfl, fun h => absurd h (by decide)⟩
    · have b3 : f.tmps[3]? = some (.pointer (some ⟨w.heap.size, 0, none⟩)) := (hb 3 (by decide)).trans rfl
      have d27 := got (hv 27 52 rfl) (hd 27 (by kernel_rfl))
      clear hb hv hd
      refine wpOp_step rfl fun K hK => ?_
      go_simp
      exact hK _ _ ⟨_, rfl, Below.refl _ _, rfl, fun h => absurd h (by decide)⟩
    · have d28 := got (hv 28 53 rfl) (hd 28 (by kernel_rfl))
      have d29 := got (hv 29 54 rfl) (hd 29 (by kernel_rfl))
      have d27 := got (hv 27 52 rfl) (hd 27 (by kernel_rfl))
      clear hb hv hd
      refine wpOp_step rfl fun K hK => ?_
      go_simp
      exact hK _ _ ⟨_, rfl, Below.refl _ _, rfl, fun h => absurd h (by decide)⟩
    · have d27 := got (hv 27 52 rfl) (hd 27 (by kernel_rfl))
      have d30 := got (hv 30 55 rfl) (hd 30 (by kernel_rfl))
      have d20 := got (hv 20 45 rfl) (hd 20 (by kernel_rfl))
      clear hb hv hd
      refine wpOp_step rfl fun K hK => ?_
      go_simp
      exact hK _ _ ⟨_, rfl, Below.refl _ _, rfl, fun h => absurd h (by decide)⟩
    · have d24 := got (hv 24 49 rfl) (hd 24 (by kernel_rfl))
      have d31 := got (hv 31 56 rfl) (hd 31 (by kernel_rfl))
      have d20 := got (hv 20 45 rfl) (hd 20 (by kernel_rfl))
      clear hb hv hd
      refine wpOp_step rfl fun K hK => ?_
      go_simp
      exact hK _ _ ⟨_, rfl, Below.refl _ _, rfl, fun h => absurd h (by decide)⟩
    · have d20 := got (hv 20 45 rfl) (hd 20 (by kernel_rfl))
      have d32 := got (hv 32 57 rfl) (hd 32 (by kernel_rfl))
      clear hb hv hd
      refine wpOp_step rfl fun K hK => ?_
      go_simp
      exact hK _ _ ⟨_, rfl, Below.refl _ _, rfl, fun h => absurd h (by decide)⟩
  · intro v w' hB hF hD
    have F0 : v 0 = _ := hF 0 (by simp)
    have F1 : v 1 = _ := hF 1 (by simp)
    have F2 : v 2 = _ := hF 2 (by simp)
    have F3 : v 3 = _ := hF 3 (by simp)
    have F4 : v 4 = _ := hF 4 (by simp)
    have F5 : v 5 = _ := hF 5 (by simp)
    have F6 : v 6 = _ := hF 6 (by simp)
    have F7 : v 7 = _ := hF 7 (by simp)
    have F8 : v 8 = _ := hF 8 (by simp)
    have F9 : v 9 = _ := hF 9 (by simp)
    have F10 : v 10 = _ := hF 10 (by simp)
    have F11 : v 11 = _ := hF 11 (by simp)
    have F12 : v 12 = _ := hF 12 (by simp)
    have F13 : v 13 = _ := hF 13 (by simp)
    have F14 : v 14 = _ := hF 14 (by simp)
    have F15 : v 15 = _ := hF 15 (by simp)
    have F16 : v 16 = _ := hF 16 (by simp)
    have F17 : v 17 = _ := hF 17 (by simp)
    have F18 : v 18 = _ := hF 18 (by simp)
    have F19 : v 19 = _ := hF 19 (by simp)
    have F20 : v 20 = _ := hF 20 (by simp)
    have F21 : v 21 = _ := hF 21 (by simp)
    have F22 : v 22 = _ := hF 22 (by simp)
    have F23 : v 23 = _ := hF 23 (by simp)
    have F24 : v 24 = _ := hF 24 (by simp)
    have F25 : v 25 = _ := hF 25 (by simp)
    have F26 : v 26 = _ := hF 26 (by simp)
    have F27 : v 27 = _ := hF 27 (by simp)
    have F28 : v 28 = _ := hF 28 (by simp)
    have F29 : v 29 = _ := hF 29 (by simp)
    have F30 : v 30 = _ := hF 30 (by simp)
    have F31 : v 31 = _ := hF 31 (by simp)
    have F32 : v 32 = _ := hF 32 (by simp)
    have F33 : v 33 = _ := hF 33 (by simp)
    clear hF
    simp only [frOf, frGo, Nat.zero_add, Nat.reduceAdd, F0, F1, F2, F3, F4, F5, F6, F7, F8, F9, F10, F11, F12, F13, F14, F15, F16, F17, F18, F19, F20, F21, F22, F23, F24, F25, F26, F27, F28, F29, F30, F31, F32, F33]
    replace s := pm_keep s hB
    have B9 := s.b
    clear hB hD kX kY s cM cN cI F0 F1 F2 F3 F4 F5 F6 F7 F8 F9 F10 F11 F12 F13 F14 F15 F16 F17 F18 F19 F20 F21 F22 F23 F24 F25 F26 F27 F28 F29 F30 F31 F32 F33
    go_wp2
    go_ret
    exact ⟨rfl, B9⟩

theorem tamePlays_any (m : Nat → Int) (f0 f1 f2 c0 c1 c2 : Int) (hm : I6 m) (k0 : I64 c0) (k1 : I64 c1) (k2 : I64 c2) (w : World) (hp : PL w) :
    Calls Tryd.prog 3 #[sv m, tv f0 f1 f2, tv c0 c1 c2] w (RetV (.bool true) w) := by
  by_cases h : FB3 f0 f1 f2 c0 c1 c2
  · obtain ⟨a, b, c, R⟩ := tr_some m h.1 h.2.1 h.2.2
    have q1 := fun w => may_any f0 f1 f2 c0 c1 c2 k0 k1 k2 w
    have q2 := fun w => rmay_any f0 f1 f2 c0 c1 c2 k0 k1 k2 w
    simp only [mayb_yes h] at q1 q2
    exact tamePlays_go m (tmz m f0 f1 f2 c0 c1 c2 a b c) f0 f1 f2 c0 c1 c2 _ (fun w k => tame_ok m f0 f1 f2 c0 c1 c2 a b c hm h.1 h.2.1 h.2.2 R w k) (fun w => rtame_ok m f0 f1 f2 c0 c1 c2 a b c hm h.1 h.2.1 h.2.2 R w) q1 q2 (fun w k => is_ok m f0 f1 f2 c0 c1 c2 a b c hm h.1 h.2.1 h.2.2 R w k)
      (Lib.hid fun w => (sym_eq (tmz m f0 f1 f2 c0 c1 c2 a b c) (tmz m f0 f1 f2 c0 c1 c2 a b c) w).trans (by rw [sqb_same fun _ _ => rfl])) (Lib.hid fun w => sym_eq (tmz m f0 f1 f2 c0 c1 c2 a b c) m w) w hp
  · have q1 := fun w => may_any f0 f1 f2 c0 c1 c2 k0 k1 k2 w
    have q2 := fun w => rmay_any f0 f1 f2 c0 c1 c2 k0 k1 k2 w
    simp only [mayb_no h] at q1 q2
    exact tamePlays_no m (fun _ => 0) f0 f1 f2 c0 c1 c2 (fun w k => tame_no m f0 f1 f2 c0 c1 c2 k0 k1 k2 h w k) (fun w => rtame_no m f0 f1 f2 c0 c1 c2 k0 k1 k2 h w) q1 q2 (fun w k => is_no m f0 f1 f2 c0 c1 c2 k0 k1 k2 h w k)
      (Lib.hid fun w => (sym_eq (fun _ => 0) (fun _ => 0) w).trans (by rw [sqb_same fun _ _ => rfl])) w hp
end Go.Proofs.YtjafcnbghbfehaaDoor
