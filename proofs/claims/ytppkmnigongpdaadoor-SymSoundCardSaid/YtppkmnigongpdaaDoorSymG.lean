/- SymSums: what the law's call answers: true, for every two matrices and every floor. -/
import Derived.Test.YtppkmnigongpdaaDoorSymC
import Derived.Test.YtppkmnigongpdaaDoorSymE
import Derived.Test.YtppkmnigongpdaaDoorSymF
namespace Go.Proofs.YtppkmnigongpdaaDoor
open Go.RowKit Go.Shelf

/-- What the law's walk keeps: the arguments. -/
def GM (W : World) (A B C : Nat) (a b : Nat → Int) (f0 f1 f2 : Int) (w : World) : Prop := Below W.heap.size W w ∧ SC w A a ∧ SC w B b ∧ TC w C f0 f1 f2 ∧ PL w
theorem gm_keep {W : World} {A B C : Nat} {a b : Nat → Int} {f0 f1 f2 : Int} {w w' : World} (h : GM W A B C a b f0 f1 f2 w) (hb : Below w.heap.size w w') : GM W A B C a b f0 f1 f2 w' :=
  ⟨b_trans h.1 hb, sc_keep hb h.2.1, sc_keep hb h.2.2.1, tc_keep hb h.2.2.2.1, pl_keep hb h.2.2.2.2⟩
theorem dgm_lit (x y z : Int) : dgm x y z 0 = x ∧ dgm x y z 1 = 0 ∧ dgm x y z 2 = 0 ∧ dgm x y z 3 = y ∧ dgm x y z 4 = 0 ∧ dgm x y z 5 = z := by simp [dgm]
set_option maxRecDepth 10000 in
set_option maxHeartbeats 8000000 in
theorem symSums_go (a b X : Nat → Int) (f0 f1 f2 e : Int) (sb : Bool) (w : World) (hp : PL w)
    (c1 : ∀ w, Calls Tryd.prog 12 #[sv a, sv b] w (RetV (.tuple #[sv X, .int .i64 e]) w))
    (c2 : ∀ w, Calls Tryd.prog 13 #[sv a, sv b] w (RetV (.tuple #[sv X, .int .i64 e]) w))
    (c4 : ∀ w, PL w → Calls Tryd.prog 15 #[sv a, tv f0 f1 f2] w (RetV (.bool sb) w))
    (c5 : ∀ w, Calls Tryd.prog 16 #[sv a, tv f0 f1 f2] w (RetV (.bool sb) w)) :
    Calls Tryd.prog 4 #[sv a, sv b, tv f0 f1 f2] w (RetV (.bool true) w) := by
  have z0 := pl_lt hp
  have s : GM w (w.heap.size) (w.heap.size + 1) (w.heap.size + 1 + 1) a b f0 f1 f2 (((w.alloc (Obj.cells #[.int .i64 (a 0), .int .i64 (a 1), .int .i64 (a 2), .int .i64 (a 3), .int .i64 (a 4), .int .i64 (a 5)] 23)).alloc (Obj.cells #[.int .i64 (b 0), .int .i64 (b 1), .int .i64 (b 2), .int .i64 (b 3), .int .i64 (b 4), .int .i64 (b 5)] 23)).alloc (Obj.cells #[.int .i64 f0, .int .i64 f1, .int .i64 f2] 32)) := ⟨b_alloc (b_alloc (b_alloc (Below.refl _ _))), sc_alloc (sc_alloc (sc_new (w := w) (m := a) (t := 23) rfl)), sc_alloc (sc_new (w := w.alloc (Obj.cells #[.int .i64 (a 0), .int .i64 (a 1), .int .i64 (a 2), .int .i64 (a 3), .int .i64 (a 4), .int .i64 (a 5)] 23)) (m := b) (t := 23) (by simp)), tc_new (w := (w.alloc (Obj.cells #[.int .i64 (a 0), .int .i64 (a 1), .int .i64 (a 2), .int .i64 (a 3), .int .i64 (a 4), .int .i64 (a 5)] 23)).alloc (Obj.cells #[.int .i64 (b 0), .int .i64 (b 1), .int .i64 (b 2), .int .i64 (b 3), .int .i64 (b 4), .int .i64 (b 5)] 23)) (t := 32) (by simp), pl_keep (b_alloc (b_alloc (b_alloc (Below.refl _ _)))) hp⟩
  clear hp
  go_enter Tryd.func4, Tryd.ntmps4
  have l6 := sc_six s.2.1
  have l7 := sc_six s.2.2.1
  go_wp2_with fail
  refine (c1 _).mono ?_
  rintro e_ w1 ⟨rfl, hb9⟩
  clear l6 l7
  replace s := gm_keep s hb9
  clear hb9
  have hb9 : Below w1.heap.size w1 (w1.alloc (Obj.cells #[.int .i64 (X 0), .int .i64 (X 1), .int .i64 (X 2), .int .i64 (X 3), .int .i64 (X 4), .int .i64 (X 5)] 23)) := b_alloc (Below.refl _ _)
  replace s := gm_keep s hb9
  clear hb9
  have kX : SC (w1.alloc (Obj.cells #[.int .i64 (X 0), .int .i64 (X 1), .int .i64 (X 2), .int .i64 (X 3), .int .i64 (X 4), .int .i64 (X 5)] 23)) w1.heap.size (X) := sc_new (w := w1) (m := X) rfl
  have l6 := sc_six s.2.1
  have l7 := sc_six s.2.2.1
  go_wp2_with fail
  refine (c2 _).mono ?_
  rintro e_ w2 ⟨rfl, hb9⟩
  clear l6 l7
  replace s := gm_keep s hb9
  replace kX := sc_keep hb9 kX
  clear hb9
  have hb9 : Below w2.heap.size w2 (w2.alloc (Obj.cells #[.int .i64 (X 0), .int .i64 (X 1), .int .i64 (X 2), .int .i64 (X 3), .int .i64 (X 4), .int .i64 (X 5)] 23)) := b_alloc (Below.refl _ _)
  replace s := gm_keep s hb9
  replace kX := sc_keep hb9 kX
  clear hb9
  have kY : SC (w2.alloc (Obj.cells #[.int .i64 (X 0), .int .i64 (X 1), .int .i64 (X 2), .int .i64 (X 3), .int .i64 (X 4), .int .i64 (X 5)] 23)) w2.heap.size (X) := sc_new (w := w2) (m := X) rfl
  have l6 := s.2.2.2.1
  have l7 := s.2.2.2.2
  go_wp2_with fail
  refine (diag_any f0 f1 f2 _ s.2.2.2.2).mono ?_
  rintro e_ w3 ⟨rfl, hb9⟩
  clear l6 l7
  replace s := gm_keep s hb9
  replace kX := sc_keep hb9 kX
  replace kY := sc_keep hb9 kY
  clear hb9
  have hb9 : Below w3.heap.size w3 (w3.alloc (Obj.cells #[.int .i64 (dgm f0 f1 f2 0), .int .i64 (dgm f0 f1 f2 1), .int .i64 (dgm f0 f1 f2 2), .int .i64 (dgm f0 f1 f2 3), .int .i64 (dgm f0 f1 f2 4), .int .i64 (dgm f0 f1 f2 5)] 23)) := b_alloc (Below.refl _ _)
  replace s := gm_keep s hb9
  replace kX := sc_keep hb9 kX
  replace kY := sc_keep hb9 kY
  clear hb9
  have kZ : SC (w3.alloc (Obj.cells #[.int .i64 (dgm f0 f1 f2 0), .int .i64 (dgm f0 f1 f2 1), .int .i64 (dgm f0 f1 f2 2), .int .i64 (dgm f0 f1 f2 3), .int .i64 (dgm f0 f1 f2 4), .int .i64 (dgm f0 f1 f2 5)] 23)) w3.heap.size (dgm f0 f1 f2) := sc_new (w := w3) (m := dgm f0 f1 f2) rfl
  clear c1 c2 z0
  go_wp2
  generalize w3.alloc (Obj.cells #[.int .i64 (dgm f0 f1 f2 0), .int .i64 (dgm f0 f1 f2 1), .int .i64 (dgm f0 f1 f2 2), .int .i64 (dgm f0 f1 f2 3), .int .i64 (dgm f0 f1 f2 4), .int .i64 (dgm f0 f1 f2 5)] 23) = w4 at *
  generalize w1.heap.size = Q1 at *
  generalize w2.heap.size = Q2 at *
  generalize w3.heap.size = Q3 at *
  refine region_each [26, 27, 28, 29, 30, 31, 32, 33, 34, 35, 36, 37, 38, 39, 40, 41, 42, 43, 44, 45, 46, 47, 48, 49, 50, 51, 52, 53, 54, 55, 56] (fun i_ X_ U_ => match i_ with | 0 => X_ = .bool true | 1 => X_ = .bool true | 2 => X_ = .agg #[.int .i64 (X 0), .int .i64 (X 1), .int .i64 (X 2), .int .i64 (X 3), .int .i64 (X 4), .int .i64 (X 5)] | 3 => X_ = .agg #[.int .i64 (X 0), .int .i64 (X 1), .int .i64 (X 2), .int .i64 (X 3), .int .i64 (X 4), .int .i64 (X 5)] | 4 => X_ = .bool true | 5 => X_ = .bool true | 6 => X_ = .bool true | 7 => X_ = .int .i64 e | 8 => X_ = .int .i64 e | 9 => X_ = .bool true | 10 => X_ = .bool true | 11 => X_ = .bool true | 12 => X_ = .agg #[.int .i64 (dgm f0 f1 f2 0), .int .i64 (dgm f0 f1 f2 1), .int .i64 (dgm f0 f1 f2 2), .int .i64 (dgm f0 f1 f2 3), .int .i64 (dgm f0 f1 f2 4), .int .i64 (dgm f0 f1 f2 5)] | 13 => X_ = .pointer (some ⟨w.heap.size + 1 + 1, 0, none⟩) | 14 => X_ = .int .i64 f0 | 15 => X_ = .pointer (some ⟨w.heap.size + 1 + 1, 1, none⟩) | 16 => X_ = .int .i64 f1 | 17 => X_ = .pointer (some ⟨w.heap.size + 1 + 1, 2, none⟩) | 18 => X_ = .int .i64 f2 | 19 => X_ = .agg #[.int .i64 f0, .int .i64 0, .int .i64 0, .int .i64 f1, .int .i64 0, .int .i64 f2] | 20 => X_ = .bool true | 21 => X_ = .bool true | 22 => X_ = .bool true | 23 => X_ = .agg #[.int .i64 (a 0), .int .i64 (a 1), .int .i64 (a 2), .int .i64 (a 3), .int .i64 (a 4), .int .i64 (a 5)] | 24 => X_ = .agg #[.int .i64 f0, .int .i64 f1, .int .i64 f2] | 25 => X_ = .bool sb | 26 => X_ = .agg #[.int .i64 (a 0), .int .i64 (a 1), .int .i64 (a 2), .int .i64 (a 3), .int .i64 (a 4), .int .i64 (a 5)] | 27 => X_ = .agg #[.int .i64 f0, .int .i64 f1, .int .i64 f2] | 28 => X_ = .bool sb | 29 => X_ = .bool true | 30 => X_ = .bool true | _ => True) (fun i_ => false) (by kernel_rfl) (by kernel_rfl) (by kernel_rfl) (by kernel_rfl) (by kernel_rfl) ?_ (fun i x w hi ha h => by cases ha) ?_ ?_
  · refine swp (upS (upS (upS (upS (upS (upS (upS (upS (upS (upS (upS (upS (upS (upS (upS (upS (upS (upS (upS (upS (upS (upS (upS (upS (upS (upS (upS (upS (upS (upS (upS up0 ?_) ?_) ?_) ?_) ?_) ?_) ?_) ?_) ?_) ?_) ?_) ?_) ?_) ?_) ?_) ?_) ?_) ?_) ?_) ?_) ?_) ?_) ?_) ?_) ?_) ?_) ?_) ?_) ?_) ?_) ?_)
    all_goals exact fun _ _ _ h _ => h
  · refine upS (upS (upS (upS (upS (upS (upS (upS (upS (upS (upS (upS (upS (upS (upS (upS (upS (upS (upS (upS (upS (upS (upS (upS (upS (upS (upS (upS (upS (upS (upS up0 ?_) ?_) ?_) ?_) ?_) ?_) ?_) ?_) ?_) ?_) ?_) ?_) ?_) ?_) ?_) ?_) ?_) ?_) ?_) ?_) ?_) ?_) ?_) ?_) ?_) ?_) ?_) ?_) ?_) ?_) ?_
    all_goals intro v f w' hb hv hB hd
    · clear hb hv hd
      refine wpOp_call rfl Tryd.call10 args0 (fixed_sym _ (pl_keep hB s.2.2.2.2)) ?_
      rintro e5 w5 ⟨rfl, hb5⟩
      exact ⟨_, rfl, _, rfl, hb5, rfl, fun h => absurd h (by decide)⟩
    · have d0 := got (hv 0 26 rfl) (hd 0 (by kernel_rfl))
      clear hb hv hd
      refine wpOp_step rfl fun K hK => ?_
      go_simp
      exact hK _ _ ⟨_, rfl, Below.refl _ _, rfl, fun h => absurd h (by decide)⟩
    · have b7 : f.tmps[7]? = some (.pointer (some ⟨Q1, 0, none⟩)) := (hb 7 (by decide)).trans rfl
      have d1 := got (hv 1 27 rfl) (hd 1 (by kernel_rfl))
      clear hb hv hd
      have c := sc_six (sc_keep hB kX)
      refine wpOp_step rfl fun K hK => ?_
      go_simp
      exact hK _ _ ⟨_, rfl, Below.refl _ _, rfl, fun h => absurd h (by decide)⟩
    · have b9 : f.tmps[9]? = some (.pointer (some ⟨Q2, 0, none⟩)) := (hb 9 (by decide)).trans rfl
      have d1 := got (hv 1 27 rfl) (hd 1 (by kernel_rfl))
      clear hb hv hd
      have c := sc_six (sc_keep hB kY)
      refine wpOp_step rfl fun K hK => ?_
      go_simp
      exact hK _ _ ⟨_, rfl, Below.refl _ _, rfl, fun h => absurd h (by decide)⟩
    · have d2 := got (hv 2 28 rfl) (hd 2 (by kernel_rfl))
      have d3 := got (hv 3 29 rfl) (hd 3 (by kernel_rfl))
      have d1 := got (hv 1 27 rfl) (hd 1 (by kernel_rfl))
      clear hb hv hd
      have hve := sym_eq_self
      refine wpOp_step rfl fun K hK => ?_
      go_simp
      exact hK _ _ ⟨_, rfl, Below.refl _ _, rfl, fun h => absurd h (by decide)⟩
    · have d1 := got (hv 1 27 rfl) (hd 1 (by kernel_rfl))
      have d4 := got (hv 4 30 rfl) (hd 4 (by kernel_rfl))
      clear hb hv hd
      refine wpOp_step rfl fun K hK => ?_
      go_simp
      exact hK _ _ ⟨_, rfl, Below.refl _ _, rfl, fun h => absurd h (by decide)⟩
    · have d5 := got (hv 5 31 rfl) (hd 5 (by kernel_rfl))
      clear hb hv hd
      refine wpOp_step rfl fun K hK => ?_
      go_simp
      exact hK _ _ ⟨_, rfl, Below.refl _ _, rfl, fun h => absurd h (by decide)⟩
    · have b8 : f.tmps[8]? = some (.int .i64 e) := (hb 8 (by decide)).trans rfl
      have d6 := got (hv 6 32 rfl) (hd 6 (by kernel_rfl))
      clear hb hv hd
      refine wpOp_step rfl fun K hK => ?_
      go_simp
      exact hK _ _ ⟨_, rfl, Below.refl _ _, rfl, fun h => absurd h (by decide)⟩
    · have b10 : f.tmps[10]? = some (.int .i64 e) := (hb 10 (by decide)).trans rfl
      have d6 := got (hv 6 32 rfl) (hd 6 (by kernel_rfl))
      clear hb hv hd
      refine wpOp_step rfl fun K hK => ?_
      go_simp
      exact hK _ _ ⟨_, rfl, Below.refl _ _, rfl, fun h => absurd h (by decide)⟩
    · have d7 := got (hv 7 33 rfl) (hd 7 (by kernel_rfl))
      have d8 := got (hv 8 34 rfl) (hd 8 (by kernel_rfl))
      have d6 := got (hv 6 32 rfl) (hd 6 (by kernel_rfl))
      clear hb hv hd
      refine wpOp_step rfl fun K hK => ?_
      go_simp
      exact hK _ _ ⟨_, rfl, Below.refl _ _, rfl, fun h => absurd h (by decide)⟩
    · have d6 := got (hv 6 32 rfl) (hd 6 (by kernel_rfl))
      have d9 := got (hv 9 35 rfl) (hd 9 (by kernel_rfl))
      clear hb hv hd
      refine wpOp_step rfl fun K hK => ?_
      go_simp
      exact hK _ _ ⟨_, rfl, Below.refl _ _, rfl, fun h => absurd h (by decide)⟩
    · have d10 := got (hv 10 36 rfl) (hd 10 (by kernel_rfl))
      clear hb hv hd
      refine wpOp_step rfl fun K hK => ?_
      go_simp
      exact hK _ _ ⟨_, rfl, Below.refl _ _, rfl, fun h => absurd h (by decide)⟩
    · have b11 : f.tmps[11]? = some (.pointer (some ⟨Q3, 0, none⟩)) := (hb 11 (by decide)).trans rfl
      have d11 := got (hv 11 37 rfl) (hd 11 (by kernel_rfl))
      clear hb hv hd
      have c := sc_six (sc_keep hB kZ)
      refine wpOp_step rfl fun K hK => ?_
      go_simp
      exact hK _ _ ⟨_, rfl, Below.refl _ _, rfl, fun h => absurd h (by decide)⟩
    · have b5 : f.tmps[5]? = some (.pointer (some ⟨w.heap.size + 1 + 1, 0, none⟩)) := (hb 5 (by decide)).trans rfl
      have d11 := got (hv 11 37 rfl) (hd 11 (by kernel_rfl))
      clear hb hv hd
      refine wpOp_step rfl fun K hK => ?_
      go_simp
      exact hK _ _ ⟨_, rfl, Below.refl _ _, rfl, fun h => absurd h (by decide)⟩
    · have d13 := got (hv 13 39 rfl) (hd 13 (by kernel_rfl))
      have d11 := got (hv 11 37 rfl) (hd 11 (by kernel_rfl))
      clear hb hv hd
      have c := tc_keep hB s.2.2.2.1
      refine wpOp_step rfl fun K hK => ?_
      go_simp
      exact hK _ _ ⟨_, rfl, Below.refl _ _, rfl, fun h => absurd h (by decide)⟩
    · have b5 : f.tmps[5]? = some (.pointer (some ⟨w.heap.size + 1 + 1, 0, none⟩)) := (hb 5 (by decide)).trans rfl
      have d11 := got (hv 11 37 rfl) (hd 11 (by kernel_rfl))
      clear hb hv hd
      refine wpOp_step rfl fun K hK => ?_
      go_simp
      exact hK _ _ ⟨_, rfl, Below.refl _ _, rfl, fun h => absurd h (by decide)⟩
    · have d15 := got (hv 15 41 rfl) (hd 15 (by kernel_rfl))
      have d11 := got (hv 11 37 rfl) (hd 11 (by kernel_rfl))
      clear hb hv hd
      have c := tc_keep hB s.2.2.2.1
      refine wpOp_step rfl fun K hK => ?_
      go_simp
      exact hK _ _ ⟨_, rfl, Below.refl _ _, rfl, fun h => absurd h (by decide)⟩
    · have b5 : f.tmps[5]? = some (.pointer (some ⟨w.heap.size + 1 + 1, 0, none⟩)) := (hb 5 (by decide)).trans rfl
      have d11 := got (hv 11 37 rfl) (hd 11 (by kernel_rfl))
      clear hb hv hd
      refine wpOp_step rfl fun K hK => ?_
      go_simp
      exact hK _ _ ⟨_, rfl, Below.refl _ _, rfl, fun h => absurd h (by decide)⟩
    · have d17 := got (hv 17 43 rfl) (hd 17 (by kernel_rfl))
      have d11 := got (hv 11 37 rfl) (hd 11 (by kernel_rfl))
      clear hb hv hd
      have c := tc_keep hB s.2.2.2.1
      refine wpOp_step rfl fun K hK => ?_
      go_simp
      exact hK _ _ ⟨_, rfl, Below.refl _ _, rfl, fun h => absurd h (by decide)⟩
    · have d14 := got (hv 14 40 rfl) (hd 14 (by kernel_rfl))
      have d16 := got (hv 16 42 rfl) (hd 16 (by kernel_rfl))
      have d18 := got (hv 18 44 rfl) (hd 18 (by kernel_rfl))
      have d11 := got (hv 11 37 rfl) (hd 11 (by kernel_rfl))
      clear hb hv hd
      refine wpOp_step rfl fun K hK => ?_
      go_simp
      exact hK _ _ ⟨_, rfl, Below.refl _ _, rfl, fun h => absurd h (by decide)⟩
    · have d12 := got (hv 12 38 rfl) (hd 12 (by kernel_rfl))
      have d19 := got (hv 19 45 rfl) (hd 19 (by kernel_rfl))
      have d11 := got (hv 11 37 rfl) (hd 11 (by kernel_rfl))
      clear hb hv hd
      have hve := sym_eq_self
      have hd := dgm_lit f0 f1 f2
      refine wpOp_step rfl fun K hK => ?_
      go_simp
      exact hK _ _ ⟨_, rfl, Below.refl _ _, rfl, fun h => absurd h (by decide)⟩
    · have d11 := got (hv 11 37 rfl) (hd 11 (by kernel_rfl))
      have d20 := got (hv 20 46 rfl) (hd 20 (by kernel_rfl))
      clear hb hv hd
      refine wpOp_step rfl fun K hK => ?_
      go_simp
      exact hK _ _ ⟨_, rfl, Below.refl _ _, rfl, fun h => absurd h (by decide)⟩
    · have d21 := got (hv 21 47 rfl) (hd 21 (by kernel_rfl))
      clear hb hv hd
      refine wpOp_step rfl fun K hK => ?_
      go_simp
      exact hK _ _ ⟨_, rfl, Below.refl _ _, rfl, fun h => absurd h (by decide)⟩
    · have b3 : f.tmps[3]? = some (.pointer (some ⟨w.heap.size, 0, none⟩)) := (hb 3 (by decide)).trans rfl
      have d22 := got (hv 22 48 rfl) (hd 22 (by kernel_rfl))
      clear hb hv hd
      have c := sc_six (sc_keep hB s.2.1)
      refine wpOp_step rfl fun K hK => ?_
      go_simp
      exact hK _ _ ⟨_, rfl, Below.refl _ _, rfl, fun h => absurd h (by decide)⟩
    · have b5 : f.tmps[5]? = some (.pointer (some ⟨w.heap.size + 1 + 1, 0, none⟩)) := (hb 5 (by decide)).trans rfl
      have d22 := got (hv 22 48 rfl) (hd 22 (by kernel_rfl))
      clear hb hv hd
      have c := tc_keep hB s.2.2.2.1
      refine wpOp_step rfl fun K hK => ?_
      go_simp
      exact hK _ _ ⟨_, rfl, Below.refl _ _, rfl, fun h => absurd h (by decide)⟩
    · have d23 := got (hv 23 49 rfl) (hd 23 (by kernel_rfl))
      have d24 := got (hv 24 50 rfl) (hd 24 (by kernel_rfl))
      have d22 := got (hv 22 48 rfl) (hd 22 (by kernel_rfl))
      clear hb hv hd
      refine wpOp_callg rfl (yields rfl rfl d22) Tryd.call15 (args2 (eval_tmp d23) (eval_tmp d24)) (c4 _ (pl_keep hB s.2.2.2.2)) ?_
      rintro e5 w5 ⟨rfl, hb5⟩
      exact ⟨_, rfl, _, rfl, hb5, rfl, fun h => absurd h (by decide)⟩
    · have b3 : f.tmps[3]? = some (.pointer (some ⟨w.heap.size, 0, none⟩)) := (hb 3 (by decide)).trans rfl
      have d22 := got (hv 22 48 rfl) (hd 22 (by kernel_rfl))
      clear hb hv hd
      have c := sc_six (sc_keep hB s.2.1)
      refine wpOp_step rfl fun K hK => ?_
      go_simp
      exact hK _ _ ⟨_, rfl, Below.refl _ _, rfl, fun h => absurd h (by decide)⟩
    · have b5 : f.tmps[5]? = some (.pointer (some ⟨w.heap.size + 1 + 1, 0, none⟩)) := (hb 5 (by decide)).trans rfl
      have d22 := got (hv 22 48 rfl) (hd 22 (by kernel_rfl))
      clear hb hv hd
      have c := tc_keep hB s.2.2.2.1
      refine wpOp_step rfl fun K hK => ?_
      go_simp
      exact hK _ _ ⟨_, rfl, Below.refl _ _, rfl, fun h => absurd h (by decide)⟩
    · have d26 := got (hv 26 52 rfl) (hd 26 (by kernel_rfl))
      have d27 := got (hv 27 53 rfl) (hd 27 (by kernel_rfl))
      have d22 := got (hv 22 48 rfl) (hd 22 (by kernel_rfl))
      clear hb hv hd
      refine wpOp_callg rfl (yields rfl rfl d22) Tryd.call16 (args2 (eval_tmp d26) (eval_tmp d27)) (c5 _) ?_
      rintro e5 w5 ⟨rfl, hb5⟩
      exact ⟨_, rfl, _, rfl, hb5, rfl, fun h => absurd h (by decide)⟩
    · have d25 := got (hv 25 51 rfl) (hd 25 (by kernel_rfl))
      have d28 := got (hv 28 54 rfl) (hd 28 (by kernel_rfl))
      have d22 := got (hv 22 48 rfl) (hd 22 (by kernel_rfl))
      clear hb hv hd
      refine wpOp_step rfl fun K hK => ?_
      go_simp
      exact hK _ _ ⟨_, rfl, Below.refl _ _, rfl, fun h => absurd h (by decide)⟩
    · have d22 := got (hv 22 48 rfl) (hd 22 (by kernel_rfl))
      have d29 := got (hv 29 55 rfl) (hd 29 (by kernel_rfl))
      clear hb hv hd
      refine wpOp_step rfl fun K hK => ?_
      go_simp
      exact hK _ _ ⟨_, rfl, Below.refl _ _, rfl, fun h => absurd h (by decide)⟩
  · intro v w' hB hF hD
    have F0 : v 0 = _ := hF 0 (by simp)
    have F1 : v 1 = _ := hF 1 (by simp)
    have F2 : v 2 = _ := hF 2 (by simp)
    have F3 : v 3 = _ := hF 3 (by simp)
    have F4 : v 4 = _ := hF 4 (by simp)
    have F5 : v 5 = _ := hF 5 (by simp)
    have F6 : v 6 = _ := hF 6 (by simp)
    have F7 : v 7 = _ := hF 7 (by simp)
    have F8 : v 8 = _ := hF 8 (by simp)
    have F9 : v 9 = _ := hF 9 (by simp)
    have F10 : v 10 = _ := hF 10 (by simp)
    have F11 : v 11 = _ := hF 11 (by simp)
    have F12 : v 12 = _ := hF 12 (by simp)
    have F13 : v 13 = _ := hF 13 (by simp)
    have F14 : v 14 = _ := hF 14 (by simp)
    have F15 : v 15 = _ := hF 15 (by simp)
    have F16 : v 16 = _ := hF 16 (by simp)
    have F17 : v 17 = _ := hF 17 (by simp)
    have F18 : v 18 = _ := hF 18 (by simp)
    have F19 : v 19 = _ := hF 19 (by simp)
    have F20 : v 20 = _ := hF 20 (by simp)
    have F21 : v 21 = _ := hF 21 (by simp)
    have F22 : v 22 = _ := hF 22 (by simp)
    have F23 : v 23 = _ := hF 23 (by simp)
    have F24 : v 24 = _ := hF 24 (by simp)
    have F25 : v 25 = _ := hF 25 (by simp)
    have F26 : v 26 = _ := hF 26 (by simp)
    have F27 : v 27 = _ := hF 27 (by simp)
    have F28 : v 28 = _ := hF 28 (by simp)
    have F29 : v 29 = _ := hF 29 (by simp)
    have F30 : v 30 = _ := hF 30 (by simp)
    clear hF
    simp only [frOf, frGo, Nat.zero_add, Nat.reduceAdd, F0, F1, F2, F3, F4, F5, F6, F7, F8, F9, F10, F11, F12, F13, F14, F15, F16, F17, F18, F19, F20, F21, F22, F23, F24, F25, F26, F27, F28, F29, F30]
    replace s := gm_keep s hB
    clear F0 F1 F2 F3 F4 F5 F6 F7 F8 F9 F10 F11 F12 F13 F14 F15 F16 F17 F18 F19 F20 F21 F22 F23 F24 F25 F26 F27 F28 F29 F30 hD hB kX kY kZ c4 c5
    have B9 := s.1
    clear s
    go_wp2
    go_ret
    exact ⟨rfl, B9⟩
theorem symSums_any (a b : Nat → Int) (f0 f1 f2 : Int) (ha : I6 a) (hb : I6 b) (h0 : I64 f0) (h1 : I64 f1) (h2 : I64 f2) (w : World) (hp : PL w) :
    Calls Tryd.prog 4 #[sv a, sv b, tv f0 f1 f2] w (RetV (.bool true) w) :=
  symSums_go a b (sumz a b) f0 f1 f2 (sume a b) (sndb a f0 f1 f2) w hp (add_sym a b ha hb) (add_sref a b ha hb) (fun w hp => sound_sym a f0 f1 f2 ha h0 h1 h2 w hp) (sound_sref a f0 f1 f2 ha h0 h1 h2)
theorem symEntries_any (m : Nat → Int) (i j x : Int) (w : World) (hp : PL w) :
    Calls Tryd.prog 3 #[sv m, .agg #[.int .i64 i, .int .i64 j], .int .i64 x] w (RetV (.bool true) w) := by
  by_cases hi : Inb i
  · obtain ⟨k0, k1, k2, hr⟩ := row_has hi
    have q := row_places hr
    by_cases hj : Inb j
    · obtain ⟨k, hk, hkk⟩ := at9_has hi hj
      exact entries_in m i j x k0 k1 k2 hr q.1 q.2.1 q.2.2.1 q.2.2.2.1 q.2.2.2.2.1 q.2.2.2.2.2 k hi hk hkk w hp
    · exact entries_half m i j x k0 k1 k2 hr q.1 q.2.1 q.2.2.1 q.2.2.2.1 q.2.2.2.2.1 q.2.2.2.2.2 hi hj w hp
  · exact entries_out m i j x hi w hp
end Go.Proofs.YtppkmnigongpdaaDoor
