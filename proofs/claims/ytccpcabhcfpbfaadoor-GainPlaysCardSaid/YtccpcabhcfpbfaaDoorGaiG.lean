/- GainPlays: the law's call answers true. -/
import Derived.Test.YtccpcabhcfpbfaaDoorGaiE
namespace Go.Proofs.YtccpcabhcfpbfaaDoor
open Go.RowKit Go.Shelf

/-- A case lies in block p. -/
abbrev KC (w : World) (p : Nat) (m : Nat → Int) (s : Int) (bo : Bool) (y0 y1 y2 : Int) : Prop := w.cell? ⟨p, 0, none⟩ = some (.int .i64 (m 0)) ∧ w.cell? ⟨p, 1, none⟩ = some (.int .i64 (m 1)) ∧ w.cell? ⟨p, 2, none⟩ = some (.int .i64 (m 2)) ∧ w.cell? ⟨p, 3, none⟩ = some (.int .i64 (m 3)) ∧ w.cell? ⟨p, 4, none⟩ = some (.int .i64 (m 4)) ∧ w.cell? ⟨p, 5, none⟩ = some (.int .i64 (m 5)) ∧ w.cell? ⟨p, 6, none⟩ = some (.int .i64 s) ∧ w.cell? ⟨p, 7, none⟩ = some (.bool bo) ∧ w.cell? ⟨p, 8, none⟩ = some (.int .i64 y0) ∧ w.cell? ⟨p, 9, none⟩ = some (.int .i64 y1) ∧ w.cell? ⟨p, 10, none⟩ = some (.int .i64 y2)
theorem kc_keep {w w' : World} (hb : Below w.heap.size w w') {p : Nat} {m : Nat → Int} {s : Int} {bo : Bool} {y0 y1 y2 : Int} (c : KC w p m s bo y0 y1 y2) : KC w' p m s bo y0 y1 y2 := by
  obtain ⟨a0, a1, a2, a3, a4, a5, a6, a7, a8, a9, a10⟩ := c
  exact ⟨cell_keep hb a0, cell_keep hb a1, cell_keep hb a2, cell_keep hb a3, cell_keep hb a4, cell_keep hb a5, cell_keep hb a6, cell_keep hb a7, cell_keep hb a8, cell_keep hb a9, cell_keep hb a10⟩
theorem kc_new {w : World} {p : Nat} {m : Nat → Int} {s : Int} {bo : Bool} {y0 y1 y2 : Int} {t : TypeId} (hn : p = w.heap.size) : KC (w.alloc (Obj.cells #[.int .i64 (m 0), .int .i64 (m 1), .int .i64 (m 2), .int .i64 (m 3), .int .i64 (m 4), .int .i64 (m 5), .int .i64 s, .bool bo, .int .i64 y0, .int .i64 y1, .int .i64 y2] t)) p m s bo y0 y1 y2 := by
  subst hn
  simp [KC, go_sem]

set_option maxHeartbeats 8000000 in
set_option maxRecDepth 10000 in
theorem gainPlays_mild (m : Nat → Int) (s : Int) (bo : Bool) (y0 y1 y2 z0 z1 z2 e k0 k1 k2 g : Int)
    (g1 : decide (0 ≤ y0) = true) (g2 : decide (y0 ≤ 1099511627776) = true)
    (cB : ∀ w, PL w → Calls Tryd.prog 6 #[sv m, .int .i64 s] w (RetV (.tuple #[tv z0 z1 z2, .int .i64 e]) w))
    (cR : ∀ w, Calls Tryd.prog 7 #[sv m, .int .i64 s] w (RetV (.tuple #[tv z0 z1 z2, .int .i64 e]) w))
    (cO : ∀ w, PL w → Calls Tryd.prog 8 #[sv m, .int .i64 s, .bool bo, tv y0 y1 y2] w (RetV (.tuple #[tv k0 k1 k2, .int .i64 g]) w))
    (cQ : ∀ w, Calls Tryd.prog 9 #[sv m, .int .i64 s, .bool bo, tv y0 y1 y2] w (RetV (.tuple #[tv k0 k1 k2, .int .i64 g]) w))
    (cM : ∀ w, Calls Tryd.prog 11 #[tv y0 y1 y2] w (RetV (.bool true) w)) (w : World) (hp : PL w) :
    Calls Tryd.prog 3 #[.agg #[.int .i64 (m 0), .int .i64 (m 1), .int .i64 (m 2), .int .i64 (m 3), .int .i64 (m 4), .int .i64 (m 5), .int .i64 s, .bool bo, .int .i64 y0, .int .i64 y1, .int .i64 y2]] w (RetV (.bool true) w) := by
  have B : Below w.heap.size w (w.alloc (Obj.cells #[.int .i64 (m 0), .int .i64 (m 1), .int .i64 (m 2), .int .i64 (m 3), .int .i64 (m 4), .int .i64 (m 5), .int .i64 s, .bool bo, .int .i64 y0, .int .i64 y1, .int .i64 y2] 27)) := b_alloc (Below.refl _ _)
  have P := pl_keep B hp
  clear hp
  have Q : KC (w.alloc (Obj.cells #[.int .i64 (m 0), .int .i64 (m 1), .int .i64 (m 2), .int .i64 (m 3), .int .i64 (m 4), .int .i64 (m 5), .int .i64 s, .bool bo, .int .i64 y0, .int .i64 y1, .int .i64 y2] 27)) w.heap.size m s bo y0 y1 y2 := kc_new rfl
  go_enter Tryd.func3, Tryd.ntmps3
  go_wp2_with fail
  refine (cB _ P).mono ?_
  rintro e1 w1 ⟨rfl, hb⟩
  replace Q := kc_keep hb Q
  replace P := pl_keep hb P
  replace B := b_trans B hb
  clear hb
  have T1 : TC (w1.alloc (Obj.cells #[.int .i64 z0, .int .i64 z1, .int .i64 z2] 25)) w1.heap.size z0 z1 z2 := tc_new rfl
  replace Q := kc_keep (b_alloc (o := (Obj.cells #[.int .i64 z0, .int .i64 z1, .int .i64 z2] 25)) (Below.refl _ _)) Q
  replace P := pl_keep (b_alloc (o := (Obj.cells #[.int .i64 z0, .int .i64 z1, .int .i64 z2] 25)) (Below.refl _ _)) P
  replace B := b_alloc (o := (Obj.cells #[.int .i64 z0, .int .i64 z1, .int .i64 z2] 25)) B
  go_wp2_with fail
  refine (cR _).mono ?_
  rintro e2 w2 ⟨rfl, hb⟩
  replace T1 := tc_keep hb T1
  replace Q := kc_keep hb Q
  replace P := pl_keep hb P
  replace B := b_trans B hb
  clear hb
  have T2 : TC (w2.alloc (Obj.cells #[.int .i64 z0, .int .i64 z1, .int .i64 z2] 25)) w2.heap.size z0 z1 z2 := tc_new rfl
  replace T1 := tc_alloc (o := (Obj.cells #[.int .i64 z0, .int .i64 z1, .int .i64 z2] 25)) T1
  replace Q := kc_keep (b_alloc (o := (Obj.cells #[.int .i64 z0, .int .i64 z1, .int .i64 z2] 25)) (Below.refl _ _)) Q
  replace P := pl_keep (b_alloc (o := (Obj.cells #[.int .i64 z0, .int .i64 z1, .int .i64 z2] 25)) (Below.refl _ _)) P
  replace B := b_alloc (o := (Obj.cells #[.int .i64 z0, .int .i64 z1, .int .i64 z2] 25)) B
  go_wp2_with fail
  refine (cO _ P).mono ?_
  rintro e3 w3 ⟨rfl, hb⟩
  replace T1 := tc_keep hb T1
  replace T2 := tc_keep hb T2
  replace Q := kc_keep hb Q
  replace P := pl_keep hb P
  replace B := b_trans B hb
  clear hb
  have T3 : TC (w3.alloc (Obj.cells #[.int .i64 k0, .int .i64 k1, .int .i64 k2] 25)) w3.heap.size k0 k1 k2 := tc_new rfl
  replace T1 := tc_alloc (o := (Obj.cells #[.int .i64 k0, .int .i64 k1, .int .i64 k2] 25)) T1
  replace T2 := tc_alloc (o := (Obj.cells #[.int .i64 k0, .int .i64 k1, .int .i64 k2] 25)) T2
  replace Q := kc_keep (b_alloc (o := (Obj.cells #[.int .i64 k0, .int .i64 k1, .int .i64 k2] 25)) (Below.refl _ _)) Q
  replace P := pl_keep (b_alloc (o := (Obj.cells #[.int .i64 k0, .int .i64 k1, .int .i64 k2] 25)) (Below.refl _ _)) P
  replace B := b_alloc (o := (Obj.cells #[.int .i64 k0, .int .i64 k1, .int .i64 k2] 25)) B
  go_wp2_with fail
  refine (cQ _).mono ?_
  rintro e4 w4 ⟨rfl, hb⟩
  replace T1 := tc_keep hb T1
  replace T2 := tc_keep hb T2
  replace T3 := tc_keep hb T3
  replace Q := kc_keep hb Q
  replace P := pl_keep hb P
  replace B := b_trans B hb
  clear hb
  have T4 : TC (w4.alloc (Obj.cells #[.int .i64 k0, .int .i64 k1, .int .i64 k2] 25)) w4.heap.size k0 k1 k2 := tc_new rfl
  replace T1 := tc_alloc (o := (Obj.cells #[.int .i64 k0, .int .i64 k1, .int .i64 k2] 25)) T1
  replace T2 := tc_alloc (o := (Obj.cells #[.int .i64 k0, .int .i64 k1, .int .i64 k2] 25)) T2
  replace T3 := tc_alloc (o := (Obj.cells #[.int .i64 k0, .int .i64 k1, .int .i64 k2] 25)) T3
  replace Q := kc_keep (b_alloc (o := (Obj.cells #[.int .i64 k0, .int .i64 k1, .int .i64 k2] 25)) (Below.refl _ _)) Q
  replace P := pl_keep (b_alloc (o := (Obj.cells #[.int .i64 k0, .int .i64 k1, .int .i64 k2] 25)) (Below.refl _ _)) P
  replace B := b_alloc (o := (Obj.cells #[.int .i64 k0, .int .i64 k1, .int .i64 k2] 25)) B
  clear cB cR cO cQ
  go_wp2
  generalize w4.alloc (Obj.cells #[.int .i64 k0, .int .i64 k1, .int .i64 k2] 25) = W5 at *
  refine region_each [51, 52, 53, 54, 55, 56, 57, 58, 59, 60, 61, 62, 63, 64, 65, 66, 67, 68, 69, 70, 71, 72, 73, 74, 75, 76, 77, 78, 79, 80, 81, 82, 83, 84, 85, 86, 87] (fun i_ X_ U_ => match i_ with | 0 => X_ = .bool true | 1 => X_ = .bool true | 2 => X_ = tv z0 z1 z2 | 3 => X_ = tv z0 z1 z2 | 4 => X_ = .bool true | 5 => X_ = .bool true | 6 => X_ = .bool true | 7 => X_ = .int .i64 e | 8 => X_ = .int .i64 e | 9 => X_ = .bool true | 10 => X_ = .bool true | 11 => X_ = .bool true | 12 => X_ = tv k0 k1 k2 | 13 => X_ = tv k0 k1 k2 | 14 => X_ = .bool true | 15 => X_ = .bool true | 16 => X_ = .bool true | 17 => X_ = .int .i64 g | 18 => X_ = .int .i64 g | 19 => X_ = .bool true | 20 => X_ = .bool true | 21 => X_ = .bool true | 22 => X_ = .pointer (some ⟨w.heap.size, 8, none⟩) | 23 => X_ = tv y0 y1 y2 | 24 => X_ = .bool true | 25 => X_ = .pointer (some ⟨w.heap.size, 8, none⟩) | 26 => X_ = .pointer (some ⟨w.heap.size, 8, none⟩) | 27 => X_ = .int .i64 y0 | 28 => X_ = .bool true | 29 => X_ = .bool true | 30 => X_ = .pointer (some ⟨w.heap.size, 8, none⟩) | 31 => X_ = .pointer (some ⟨w.heap.size, 8, none⟩) | 32 => X_ = .int .i64 y0 | 33 => X_ = .bool true | 34 => X_ = .bool true | 35 => X_ = .bool true | 36 => X_ = .bool true | _ => True) (fun i_ => false) (by kernel_rfl) (by kernel_rfl) (by kernel_rfl) (by kernel_rfl) (by kernel_rfl) ?_ (fun i x w hi ha h => by cases ha) ?_ ?_
  · refine swp (upS (upS (upS (upS (upS (upS (upS (upS (upS (upS (upS (upS (upS (upS (upS (upS (upS (upS (upS (upS (upS (upS (upS (upS (upS (upS (upS (upS (upS (upS (upS (upS (upS (upS (upS (upS (upS up0 ?_) ?_) ?_) ?_) ?_) ?_) ?_) ?_) ?_) ?_) ?_) ?_) ?_) ?_) ?_) ?_) ?_) ?_) ?_) ?_) ?_) ?_) ?_) ?_) ?_) ?_) ?_) ?_) ?_) ?_) ?_) ?_) ?_) ?_) ?_) ?_) ?_)
    all_goals exact fun _ _ _ h _ => h
  · refine upS (upS (upS (upS (upS (upS (upS (upS (upS (upS (upS (upS (upS (upS (upS (upS (upS (upS (upS (upS (upS (upS (upS (upS (upS (upS (upS (upS (upS (upS (upS (upS (upS (upS (upS (upS (upS up0 ?_) ?_) ?_) ?_) ?_) ?_) ?_) ?_) ?_) ?_) ?_) ?_) ?_) ?_) ?_) ?_) ?_) ?_) ?_) ?_) ?_) ?_) ?_) ?_) ?_) ?_) ?_) ?_) ?_) ?_) ?_) ?_) ?_) ?_) ?_) ?_) ?_
    all_goals intro v f w' hb hv hB hd
    · clear hb hv hd
      refine wpOp_call rfl Tryd.call10 args0 (fixed_gai _ (pl_keep hB P)) ?_
      rintro e5 w5 ⟨rfl, hb5⟩
      exact ⟨_, rfl, _, rfl, hb5, rfl, fun h => absurd h (by decide)⟩
    · have d0 := got (hv 0 51 rfl) (hd 0 (by kernel_rfl))
      clear hb hv hd
      refine wpOp_step rfl fun K hK => ?_
      go_simp
      exact hK _ _ ⟨_, rfl, Below.refl _ _, rfl, fun h => absurd h (by decide)⟩
    · have b3 : f.tmps[3]? = some (.pointer (some ⟨w1.heap.size, 0, none⟩)) := (hb 3 (by decide)).trans rfl
      have d1 := got (hv 1 52 rfl) (hd 1 (by kernel_rfl))
      clear hb hv hd
      have c := tc_keep hB T1
      refine wpOp_step rfl fun K hK => ?_
      go_simp
      exact hK _ _ ⟨_, rfl, Below.refl _ _, rfl, fun h => absurd h (by decide)⟩
    · have b5 : f.tmps[5]? = some (.pointer (some ⟨w2.heap.size, 0, none⟩)) := (hb 5 (by decide)).trans rfl
      have d1 := got (hv 1 52 rfl) (hd 1 (by kernel_rfl))
      clear hb hv hd
      have c := tc_keep hB T2
      refine wpOp_step rfl fun K hK => ?_
      go_simp
      exact hK _ _ ⟨_, rfl, Below.refl _ _, rfl, fun h => absurd h (by decide)⟩
    · have d2 := got (hv 2 53 rfl) (hd 2 (by kernel_rfl))
      have d3 := got (hv 3 54 rfl) (hd 3 (by kernel_rfl))
      have d1 := got (hv 1 52 rfl) (hd 1 (by kernel_rfl))
      clear hb hv hd
      have hve := vec_eq_self
      refine wpOp_step rfl fun K hK => ?_
      go_simp
      exact hK _ _ ⟨_, rfl, Below.refl _ _, rfl, fun h => absurd h (by decide)⟩
    · have d1 := got (hv 1 52 rfl) (hd 1 (by kernel_rfl))
      have d4 := got (hv 4 55 rfl) (hd 4 (by kernel_rfl))
      clear hb hv hd
      refine wpOp_step rfl fun K hK => ?_
      go_simp
      exact hK _ _ ⟨_, rfl, Below.refl _ _, rfl, fun h => absurd h (by decide)⟩
    · have d5 := got (hv 5 56 rfl) (hd 5 (by kernel_rfl))
      clear hb hv hd
      refine wpOp_step rfl fun K hK => ?_
      go_simp
      exact hK _ _ ⟨_, rfl, Below.refl _ _, rfl, fun h => absurd h (by decide)⟩
    · have b4 : f.tmps[4]? = some (.int .i64 e) := (hb 4 (by decide)).trans rfl
      have d6 := got (hv 6 57 rfl) (hd 6 (by kernel_rfl))
      clear hb hv hd
      refine wpOp_step rfl fun K hK => ?_
      go_simp
      exact hK _ _ ⟨_, rfl, Below.refl _ _, rfl, fun h => absurd h (by decide)⟩
    · have b6 : f.tmps[6]? = some (.int .i64 e) := (hb 6 (by decide)).trans rfl
      have d6 := got (hv 6 57 rfl) (hd 6 (by kernel_rfl))
      clear hb hv hd
      refine wpOp_step rfl fun K hK => ?_
      go_simp
      exact hK _ _ ⟨_, rfl, Below.refl _ _, rfl, fun h => absurd h (by decide)⟩
    · have d7 := got (hv 7 58 rfl) (hd 7 (by kernel_rfl))
      have d8 := got (hv 8 59 rfl) (hd 8 (by kernel_rfl))
      have d6 := got (hv 6 57 rfl) (hd 6 (by kernel_rfl))
      clear hb hv hd
      refine wpOp_step rfl fun K hK => ?_
      go_simp
      exact hK _ _ ⟨_, rfl, Below.refl _ _, rfl, fun h => absurd h (by decide)⟩
    · have d6 := got (hv 6 57 rfl) (hd 6 (by kernel_rfl))
      have d9 := got (hv 9 60 rfl) (hd 9 (by kernel_rfl))
      clear hb hv hd
      refine wpOp_step rfl fun K hK => ?_
      go_simp
      exact hK _ _ ⟨_, rfl, Below.refl _ _, rfl, fun h => absurd h (by decide)⟩
    · have d10 := got (hv 10 61 rfl) (hd 10 (by kernel_rfl))
      clear hb hv hd
      refine wpOp_step rfl fun K hK => ?_
      go_simp
      exact hK _ _ ⟨_, rfl, Below.refl _ _, rfl, fun h => absurd h (by decide)⟩
    · have b7 : f.tmps[7]? = some (.pointer (some ⟨w3.heap.size, 0, none⟩)) := (hb 7 (by decide)).trans rfl
      have d11 := got (hv 11 62 rfl) (hd 11 (by kernel_rfl))
      clear hb hv hd
      have c := tc_keep hB T3
      refine wpOp_step rfl fun K hK => ?_
      go_simp
      exact hK _ _ ⟨_, rfl, Below.refl _ _, rfl, fun h => absurd h (by decide)⟩
    · have b9 : f.tmps[9]? = some (.pointer (some ⟨w4.heap.size, 0, none⟩)) := (hb 9 (by decide)).trans rfl
      have d11 := got (hv 11 62 rfl) (hd 11 (by kernel_rfl))
      clear hb hv hd
      have c := tc_keep hB T4
      refine wpOp_step rfl fun K hK => ?_
      go_simp
      exact hK _ _ ⟨_, rfl, Below.refl _ _, rfl, fun h => absurd h (by decide)⟩
    · have d12 := got (hv 12 63 rfl) (hd 12 (by kernel_rfl))
      have d13 := got (hv 13 64 rfl) (hd 13 (by kernel_rfl))
      have d11 := got (hv 11 62 rfl) (hd 11 (by kernel_rfl))
      clear hb hv hd
      have hve := vec_eq_self
      refine wpOp_step rfl fun K hK => ?_
      go_simp
      exact hK _ _ ⟨_, rfl, Below.refl _ _, rfl, fun h => absurd h (by decide)⟩
    · have d11 := got (hv 11 62 rfl) (hd 11 (by kernel_rfl))
      have d14 := got (hv 14 65 rfl) (hd 14 (by kernel_rfl))
      clear hb hv hd
      refine wpOp_step rfl fun K hK => ?_
      go_simp
      exact hK _ _ ⟨_, rfl, Below.refl _ _, rfl, fun h => absurd h (by decide)⟩
    · have d15 := got (hv 15 66 rfl) (hd 15 (by kernel_rfl))
      clear hb hv hd
      refine wpOp_step rfl fun K hK => ?_
      go_simp
      exact hK _ _ ⟨_, rfl, Below.refl _ _, rfl, fun h => absurd h (by decide)⟩
    · have b8 : f.tmps[8]? = some (.int .i64 g) := (hb 8 (by decide)).trans rfl
      have d16 := got (hv 16 67 rfl) (hd 16 (by kernel_rfl))
      clear hb hv hd
      refine wpOp_step rfl fun K hK => ?_
      go_simp
      exact hK _ _ ⟨_, rfl, Below.refl _ _, rfl, fun h => absurd h (by decide)⟩
    · have b10 : f.tmps[10]? = some (.int .i64 g) := (hb 10 (by decide)).trans rfl
      have d16 := got (hv 16 67 rfl) (hd 16 (by kernel_rfl))
      clear hb hv hd
      refine wpOp_step rfl fun K hK => ?_
      go_simp
      exact hK _ _ ⟨_, rfl, Below.refl _ _, rfl, fun h => absurd h (by decide)⟩
    · have d17 := got (hv 17 68 rfl) (hd 17 (by kernel_rfl))
      have d18 := got (hv 18 69 rfl) (hd 18 (by kernel_rfl))
      have d16 := got (hv 16 67 rfl) (hd 16 (by kernel_rfl))
      clear hb hv hd
      refine wpOp_step rfl fun K hK => ?_
      go_simp
      exact hK _ _ ⟨_, rfl, Below.refl _ _, rfl, fun h => absurd h (by decide)⟩
    · have d16 := got (hv 16 67 rfl) (hd 16 (by kernel_rfl))
      have d19 := got (hv 19 70 rfl) (hd 19 (by kernel_rfl))
      clear hb hv hd
      refine wpOp_step rfl fun K hK => ?_
      go_simp
      exact hK _ _ ⟨_, rfl, Below.refl _ _, rfl, fun h => absurd h (by decide)⟩
    · have d20 := got (hv 20 71 rfl) (hd 20 (by kernel_rfl))
      clear hb hv hd
      refine wpOp_step rfl fun K hK => ?_
      go_simp
      exact hK _ _ ⟨_, rfl, Below.refl _ _, rfl, fun h => absurd h (by decide)⟩
    · have b1 : f.tmps[1]? = some (.pointer (some ⟨w.heap.size, 0, none⟩)) := (hb 1 (by decide)).trans rfl
      have d21 := got (hv 21 72 rfl) (hd 21 (by kernel_rfl))
      clear hb hv hd
      refine wpOp_step rfl fun K hK => ?_
      go_simp
      exact hK _ _ ⟨_, rfl, Below.refl _ _, rfl, fun h => absurd h (by decide)⟩
    · have d22 := got (hv 22 73 rfl) (hd 22 (by kernel_rfl))
      have d21 := got (hv 21 72 rfl) (hd 21 (by kernel_rfl))
      clear hb hv hd
      have c := kc_keep hB Q
      refine wpOp_step rfl fun K hK => ?_
      go_simp
      exact hK _ _ ⟨_, rfl, Below.refl _ _, rfl, fun h => absurd h (by decide)⟩
    · have d23 := got (hv 23 74 rfl) (hd 23 (by kernel_rfl))
      have d21 := got (hv 21 72 rfl) (hd 21 (by kernel_rfl))
      clear hb hv hd
      refine wpOp_callg rfl (yields rfl rfl d21) Tryd.call11 (args1 (eval_tmp d23)) (cM _) ?_
      rintro e5 w5 ⟨rfl, hb5⟩
      exact ⟨_, rfl, _, rfl, hb5, rfl, fun h => absurd h (by decide)⟩
    · have b1 : f.tmps[1]? = some (.pointer (some ⟨w.heap.size, 0, none⟩)) := (hb 1 (by decide)).trans rfl
      have d21 := got (hv 21 72 rfl) (hd 21 (by kernel_rfl))
      clear hb hv hd
      refine wpOp_step rfl fun K hK => ?_
      go_simp
      exact hK _ _ ⟨_, rfl, Below.refl _ _, rfl, fun h => absurd h (by decide)⟩
    · have d25 := got (hv 25 76 rfl) (hd 25 (by kernel_rfl))
      have d21 := got (hv 21 72 rfl) (hd 21 (by kernel_rfl))
      clear hb hv hd
      refine wpOp_step rfl fun K hK => ?_
      go_simp
      exact hK _ _ ⟨_, rfl, Below.refl _ _, rfl, fun h => absurd h (by decide)⟩
    · have d26 := got (hv 26 77 rfl) (hd 26 (by kernel_rfl))
      have d21 := got (hv 21 72 rfl) (hd 21 (by kernel_rfl))
      clear hb hv hd
      have c := kc_keep hB Q
      refine wpOp_step rfl fun K hK => ?_
      go_simp
      exact hK _ _ ⟨_, rfl, Below.refl _ _, rfl, fun h => absurd h (by decide)⟩
    · have d27 := got (hv 27 78 rfl) (hd 27 (by kernel_rfl))
      have d21 := got (hv 21 72 rfl) (hd 21 (by kernel_rfl))
      clear hb hv hd
      refine wpOp_step rfl fun K hK => ?_
      go_simp
      exact hK _ _ ⟨_, rfl, Below.refl _ _, rfl, fun h => absurd h (by decide)⟩
    · have d28 := got (hv 28 79 rfl) (hd 28 (by kernel_rfl))
      have d21 := got (hv 21 72 rfl) (hd 21 (by kernel_rfl))
      clear hb hv hd
      refine wpOp_step rfl fun K hK => ?_
      go_simp
      exact hK _ _ ⟨_, rfl, Below.refl _ _, rfl, fun h => absurd h (by decide)⟩
    · have b1 : f.tmps[1]? = some (.pointer (some ⟨w.heap.size, 0, none⟩)) := (hb 1 (by decide)).trans rfl
      have d29 := got (hv 29 80 rfl) (hd 29 (by kernel_rfl))
      clear hb hv hd
      refine wpOp_step rfl fun K hK => ?_
      go_simp
      exact hK _ _ ⟨_, rfl, Below.refl _ _, rfl, fun h => absurd h (by decide)⟩
    · have d30 := got (hv 30 81 rfl) (hd 30 (by kernel_rfl))
      have d29 := got (hv 29 80 rfl) (hd 29 (by kernel_rfl))
      clear hb hv hd
      refine wpOp_step rfl fun K hK => ?_
      go_simp
      exact hK _ _ ⟨_, rfl, Below.refl _ _, rfl, fun h => absurd h (by decide)⟩
    · have d31 := got (hv 31 82 rfl) (hd 31 (by kernel_rfl))
      have d29 := got (hv 29 80 rfl) (hd 29 (by kernel_rfl))
      clear hb hv hd
      have c := kc_keep hB Q
      refine wpOp_step rfl fun K hK => ?_
      go_simp
      exact hK _ _ ⟨_, rfl, Below.refl _ _, rfl, fun h => absurd h (by decide)⟩
    · have d32 := got (hv 32 83 rfl) (hd 32 (by kernel_rfl))
      have d29 := got (hv 29 80 rfl) (hd 29 (by kernel_rfl))
      clear hb hv hd
      refine wpOp_step rfl fun K hK => ?_
      go_simp
      exact hK _ _ ⟨_, rfl, Below.refl _ _, rfl, fun h => absurd h (by decide)⟩
    · have d29 := got (hv 29 80 rfl) (hd 29 (by kernel_rfl))
      have d33 := got (hv 33 84 rfl) (hd 33 (by kernel_rfl))
      have d21 := got (hv 21 72 rfl) (hd 21 (by kernel_rfl))
      clear hb hv hd
      refine wpOp_step rfl fun K hK => ?_
      go_simp
      exact hK _ _ ⟨_, rfl, Below.refl _ _, rfl, fun h => absurd h (by decide)⟩
    · have d24 := got (hv 24 75 rfl) (hd 24 (by kernel_rfl))
      have d34 := got (hv 34 85 rfl) (hd 34 (by kernel_rfl))
      have d21 := got (hv 21 72 rfl) (hd 21 (by kernel_rfl))
      clear hb hv hd
      refine wpOp_step rfl fun K hK => ?_
      go_simp
      exact hK _ _ ⟨_, rfl, Below.refl _ _, rfl, fun h => absurd h (by decide)⟩
    · have d21 := got (hv 21 72 rfl) (hd 21 (by kernel_rfl))
      have d35 := got (hv 35 86 rfl) (hd 35 (by kernel_rfl))
      clear hb hv hd
      refine wpOp_step rfl fun K hK => ?_
      go_simp
      exact hK _ _ ⟨_, rfl, Below.refl _ _, rfl, fun h => absurd h (by decide)⟩
  · intro v w' hB hF hD
    have F0 : v 0 = _ := hF 0 (by simp)
    have F1 : v 1 = _ := hF 1 (by simp)
    have F2 : v 2 = _ := hF 2 (by simp)
    have F3 : v 3 = _ := hF 3 (by simp)
    have F4 : v 4 = _ := hF 4 (by simp)
    have F5 : v 5 = _ := hF 5 (by simp)
    have F6 : v 6 = _ := hF 6 (by simp)
    have F7 : v 7 = _ := hF 7 (by simp)
    have F8 : v 8 = _ := hF 8 (by simp)
    have F9 : v 9 = _ := hF 9 (by simp)
    have F10 : v 10 = _ := hF 10 (by simp)
    have F11 : v 11 = _ := hF 11 (by simp)
    have F12 : v 12 = _ := hF 12 (by simp)
    have F13 : v 13 = _ := hF 13 (by simp)
    have F14 : v 14 = _ := hF 14 (by simp)
    have F15 : v 15 = _ := hF 15 (by simp)
    have F16 : v 16 = _ := hF 16 (by simp)
    have F17 : v 17 = _ := hF 17 (by simp)
    have F18 : v 18 = _ := hF 18 (by simp)
    have F19 : v 19 = _ := hF 19 (by simp)
    have F20 : v 20 = _ := hF 20 (by simp)
    have F21 : v 21 = _ := hF 21 (by simp)
    have F22 : v 22 = _ := hF 22 (by simp)
    have F23 : v 23 = _ := hF 23 (by simp)
    have F24 : v 24 = _ := hF 24 (by simp)
    have F25 : v 25 = _ := hF 25 (by simp)
    have F26 : v 26 = _ := hF 26 (by simp)
    have F27 : v 27 = _ := hF 27 (by simp)
    have F28 : v 28 = _ := hF 28 (by simp)
    have F29 : v 29 = _ := hF 29 (by simp)
    have F30 : v 30 = _ := hF 30 (by simp)
    have F31 : v 31 = _ := hF 31 (by simp)
    have F32 : v 32 = _ := hF 32 (by simp)
    have F33 : v 33 = _ := hF 33 (by simp)
    have F34 : v 34 = _ := hF 34 (by simp)
    have F35 : v 35 = _ := hF 35 (by simp)
    have F36 : v 36 = _ := hF 36 (by simp)
    clear hF
    simp only [frOf, frGo, Nat.zero_add, Nat.reduceAdd, F0, F1, F2, F3, F4, F5, F6, F7, F8, F9, F10, F11, F12, F13, F14, F15, F16, F17, F18, F19, F20, F21, F22, F23, F24, F25, F26, F27, F28, F29, F30, F31, F32, F33, F34, F35, F36]
    replace B := b_trans B hB
    clear F0 F1 F2 F3 F4 F5 F6 F7 F8 F9 F10 F11 F12 F13 F14 F15 F16 F17 F18 F19 F20 F21 F22 F23 F24 F25 F26 F27 F28 F29 F30 F31 F32 F33 F34 F35 F36 hD hB T1 T2 T3 T4 Q P cM
    go_wp2
    go_ret
    exact ⟨rfl, B⟩

set_option maxHeartbeats 8000000 in
set_option maxRecDepth 10000 in
theorem gainPlays_above (m : Nat → Int) (s : Int) (bo : Bool) (y0 y1 y2 z0 z1 z2 e k0 k1 k2 g : Int)
    (g1 : decide (0 ≤ y0) = true) (g2 : decide (y0 ≤ 1099511627776) = false)
    (cB : ∀ w, PL w → Calls Tryd.prog 6 #[sv m, .int .i64 s] w (RetV (.tuple #[tv z0 z1 z2, .int .i64 e]) w))
    (cR : ∀ w, Calls Tryd.prog 7 #[sv m, .int .i64 s] w (RetV (.tuple #[tv z0 z1 z2, .int .i64 e]) w))
    (cO : ∀ w, PL w → Calls Tryd.prog 8 #[sv m, .int .i64 s, .bool bo, tv y0 y1 y2] w (RetV (.tuple #[tv k0 k1 k2, .int .i64 g]) w))
    (cQ : ∀ w, Calls Tryd.prog 9 #[sv m, .int .i64 s, .bool bo, tv y0 y1 y2] w (RetV (.tuple #[tv k0 k1 k2, .int .i64 g]) w))
    (cM : ∀ w, Calls Tryd.prog 11 #[tv y0 y1 y2] w (RetV (.bool false) w)) (w : World) (hp : PL w) :
    Calls Tryd.prog 3 #[.agg #[.int .i64 (m 0), .int .i64 (m 1), .int .i64 (m 2), .int .i64 (m 3), .int .i64 (m 4), .int .i64 (m 5), .int .i64 s, .bool bo, .int .i64 y0, .int .i64 y1, .int .i64 y2]] w (RetV (.bool true) w) := by
  have B : Below w.heap.size w (w.alloc (Obj.cells #[.int .i64 (m 0), .int .i64 (m 1), .int .i64 (m 2), .int .i64 (m 3), .int .i64 (m 4), .int .i64 (m 5), .int .i64 s, .bool bo, .int .i64 y0, .int .i64 y1, .int .i64 y2] 27)) := b_alloc (Below.refl _ _)
  have P := pl_keep B hp
  clear hp
  have Q : KC (w.alloc (Obj.cells #[.int .i64 (m 0), .int .i64 (m 1), .int .i64 (m 2), .int .i64 (m 3), .int .i64 (m 4), .int .i64 (m 5), .int .i64 s, .bool bo, .int .i64 y0, .int .i64 y1, .int .i64 y2] 27)) w.heap.size m s bo y0 y1 y2 := kc_new rfl
  go_enter Tryd.func3, Tryd.ntmps3
  go_wp2_with fail
  refine (cB _ P).mono ?_
  rintro e1 w1 ⟨rfl, hb⟩
  replace Q := kc_keep hb Q
  replace P := pl_keep hb P
  replace B := b_trans B hb
  clear hb
  have T1 : TC (w1.alloc (Obj.cells #[.int .i64 z0, .int .i64 z1, .int .i64 z2] 25)) w1.heap.size z0 z1 z2 := tc_new rfl
  replace Q := kc_keep (b_alloc (o := (Obj.cells #[.int .i64 z0, .int .i64 z1, .int .i64 z2] 25)) (Below.refl _ _)) Q
  replace P := pl_keep (b_alloc (o := (Obj.cells #[.int .i64 z0, .int .i64 z1, .int .i64 z2] 25)) (Below.refl _ _)) P
  replace B := b_alloc (o := (Obj.cells #[.int .i64 z0, .int .i64 z1, .int .i64 z2] 25)) B
  go_wp2_with fail
  refine (cR _).mono ?_
  rintro e2 w2 ⟨rfl, hb⟩
  replace T1 := tc_keep hb T1
  replace Q := kc_keep hb Q
  replace P := pl_keep hb P
  replace B := b_trans B hb
  clear hb
  have T2 : TC (w2.alloc (Obj.cells #[.int .i64 z0, .int .i64 z1, .int .i64 z2] 25)) w2.heap.size z0 z1 z2 := tc_new rfl
  replace T1 := tc_alloc (o := (Obj.cells #[.int .i64 z0, .int .i64 z1, .int .i64 z2] 25)) T1
  replace Q := kc_keep (b_alloc (o := (Obj.cells #[.int .i64 z0, .int .i64 z1, .int .i64 z2] 25)) (Below.refl _ _)) Q
  replace P := pl_keep (b_alloc (o := (Obj.cells #[.int .i64 z0, .int .i64 z1, .int .i64 z2] 25)) (Below.refl _ _)) P
  replace B := b_alloc (o := (Obj.cells #[.int .i64 z0, .int .i64 z1, .int .i64 z2] 25)) B
  go_wp2_with fail
  refine (cO _ P).mono ?_
  rintro e3 w3 ⟨rfl, hb⟩
  replace T1 := tc_keep hb T1
  replace T2 := tc_keep hb T2
  replace Q := kc_keep hb Q
  replace P := pl_keep hb P
  replace B := b_trans B hb
  clear hb
  have T3 : TC (w3.alloc (Obj.cells #[.int .i64 k0, .int .i64 k1, .int .i64 k2] 25)) w3.heap.size k0 k1 k2 := tc_new rfl
  replace T1 := tc_alloc (o := (Obj.cells #[.int .i64 k0, .int .i64 k1, .int .i64 k2] 25)) T1
  replace T2 := tc_alloc (o := (Obj.cells #[.int .i64 k0, .int .i64 k1, .int .i64 k2] 25)) T2
  replace Q := kc_keep (b_alloc (o := (Obj.cells #[.int .i64 k0, .int .i64 k1, .int .i64 k2] 25)) (Below.refl _ _)) Q
  replace P := pl_keep (b_alloc (o := (Obj.cells #[.int .i64 k0, .int .i64 k1, .int .i64 k2] 25)) (Below.refl _ _)) P
  replace B := b_alloc (o := (Obj.cells #[.int .i64 k0, .int .i64 k1, .int .i64 k2] 25)) B
  go_wp2_with fail
  refine (cQ _).mono ?_
  rintro e4 w4 ⟨rfl, hb⟩
  replace T1 := tc_keep hb T1
  replace T2 := tc_keep hb T2
  replace T3 := tc_keep hb T3
  replace Q := kc_keep hb Q
  replace P := pl_keep hb P
  replace B := b_trans B hb
  clear hb
  have T4 : TC (w4.alloc (Obj.cells #[.int .i64 k0, .int .i64 k1, .int .i64 k2] 25)) w4.heap.size k0 k1 k2 := tc_new rfl
  replace T1 := tc_alloc (o := (Obj.cells #[.int .i64 k0, .int .i64 k1, .int .i64 k2] 25)) T1
  replace T2 := tc_alloc (o := (Obj.cells #[.int .i64 k0, .int .i64 k1, .int .i64 k2] 25)) T2
  replace T3 := tc_alloc (o := (Obj.cells #[.int .i64 k0, .int .i64 k1, .int .i64 k2] 25)) T3
  replace Q := kc_keep (b_alloc (o := (Obj.cells #[.int .i64 k0, .int .i64 k1, .int .i64 k2] 25)) (Below.refl _ _)) Q
  replace P := pl_keep (b_alloc (o := (Obj.cells #[.int .i64 k0, .int .i64 k1, .int .i64 k2] 25)) (Below.refl _ _)) P
  replace B := b_alloc (o := (Obj.cells #[.int .i64 k0, .int .i64 k1, .int .i64 k2] 25)) B
  clear cB cR cO cQ
  go_wp2
  generalize w4.alloc (Obj.cells #[.int .i64 k0, .int .i64 k1, .int .i64 k2] 25) = W5 at *
  refine region_each [51, 52, 53, 54, 55, 56, 57, 58, 59, 60, 61, 62, 63, 64, 65, 66, 67, 68, 69, 70, 71, 72, 73, 74, 75, 76, 77, 78, 79, 80, 81, 82, 83, 84, 85, 86, 87] (fun i_ X_ U_ => match i_ with | 0 => X_ = .bool true | 1 => X_ = .bool true | 2 => X_ = tv z0 z1 z2 | 3 => X_ = tv z0 z1 z2 | 4 => X_ = .bool true | 5 => X_ = .bool true | 6 => X_ = .bool true | 7 => X_ = .int .i64 e | 8 => X_ = .int .i64 e | 9 => X_ = .bool true | 10 => X_ = .bool true | 11 => X_ = .bool true | 12 => X_ = tv k0 k1 k2 | 13 => X_ = tv k0 k1 k2 | 14 => X_ = .bool true | 15 => X_ = .bool true | 16 => X_ = .bool true | 17 => X_ = .int .i64 g | 18 => X_ = .int .i64 g | 19 => X_ = .bool true | 20 => X_ = .bool true | 21 => X_ = .bool true | 22 => X_ = .pointer (some ⟨w.heap.size, 8, none⟩) | 23 => X_ = tv y0 y1 y2 | 24 => X_ = .bool false | 25 => X_ = .pointer (some ⟨w.heap.size, 8, none⟩) | 26 => X_ = .pointer (some ⟨w.heap.size, 8, none⟩) | 27 => X_ = .int .i64 y0 | 28 => X_ = .bool true | 29 => X_ = .bool true | 30 => X_ = .pointer (some ⟨w.heap.size, 8, none⟩) | 31 => X_ = .pointer (some ⟨w.heap.size, 8, none⟩) | 32 => X_ = .int .i64 y0 | 33 => X_ = .bool false | 34 => X_ = .bool false | 35 => X_ = .bool true | 36 => X_ = .bool true | _ => True) (fun i_ => false) (by kernel_rfl) (by kernel_rfl) (by kernel_rfl) (by kernel_rfl) (by kernel_rfl) ?_ (fun i x w hi ha h => by cases ha) ?_ ?_
  · refine swp (upS (upS (upS (upS (upS (upS (upS (upS (upS (upS (upS (upS (upS (upS (upS (upS (upS (upS (upS (upS (upS (upS (upS (upS (upS (upS (upS (upS (upS (upS (upS (upS (upS (upS (upS (upS (upS up0 ?_) ?_) ?_) ?_) ?_) ?_) ?_) ?_) ?_) ?_) ?_) ?_) ?_) ?_) ?_) ?_) ?_) ?_) ?_) ?_) ?_) ?_) ?_) ?_) ?_) ?_) ?_) ?_) ?_) ?_) ?_) ?_) ?_) ?_) ?_) ?_) ?_)
    all_goals exact fun _ _ _ h _ => h
  · refine upS (upS (upS (upS (upS (upS (upS (upS (upS (upS (upS (upS (upS (upS (upS (upS (upS (upS (upS (upS (upS (upS (upS (upS (upS (upS (upS (upS (upS (upS (upS (upS (upS (upS (upS (upS (upS up0 ?_) ?_) ?_) ?_) ?_) ?_) ?_) ?_) ?_) ?_) ?_) ?_) ?_) ?_) ?_) ?_) ?_) ?_) ?_) ?_) ?_) ?_) ?_) ?_) ?_) ?_) ?_) ?_) ?_) ?_) ?_) ?_) ?_) ?_) ?_) ?_) ?_
    all_goals intro v f w' hb hv hB hd
    · clear hb hv hd
      refine wpOp_call rfl Tryd.call10 args0 (fixed_gai _ (pl_keep hB P)) ?_
      rintro e5 w5 ⟨rfl, hb5⟩
      exact ⟨_, rfl, _, rfl, hb5, rfl, fun h => absurd h (by decide)⟩
    · have d0 := got (hv 0 51 rfl) (hd 0 (by kernel_rfl))
      clear hb hv hd
      refine wpOp_step rfl fun K hK => ?_
      go_simp
      exact hK _ _ ⟨_, rfl, Below.refl _ _, rfl, fun h => absurd h (by decide)⟩
    · have b3 : f.tmps[3]? = some (.pointer (some ⟨w1.heap.size, 0, none⟩)) := (hb 3 (by decide)).trans rfl
      have d1 := got (hv 1 52 rfl) (hd 1 (by kernel_rfl))
      clear hb hv hd
      have c := tc_keep hB T1
      refine wpOp_step rfl fun K hK => ?_
      go_simp
      exact hK _ _ ⟨_, rfl, Below.refl _ _, rfl, fun h => absurd h (by decide)⟩
    · have b5 : f.tmps[5]? = some (.pointer (some ⟨w2.heap.size, 0, none⟩)) := (hb 5 (by decide)).trans rfl
      have d1 := got (hv 1 52 rfl) (hd 1 (by kernel_rfl))
      clear hb hv hd
      have c := tc_keep hB T2
      refine wpOp_step rfl fun K hK => ?_
      go_simp
      exact hK _ _ ⟨_, rfl, Below.refl _ _, rfl, fun h => absurd h (by decide)⟩
    · have d2 := got (hv 2 53 rfl) (hd 2 (by kernel_rfl))
      have d3 := got (hv 3 54 rfl) (hd 3 (by kernel_rfl))
      have d1 := got (hv 1 52 rfl) (hd 1 (by kernel_rfl))
      clear hb hv hd
      have hve := vec_eq_self
      refine wpOp_step rfl fun K hK => ?_
      go_simp
      exact hK _ _ ⟨_, rfl, Below.refl _ _, rfl, fun h => absurd h (by decide)⟩
    · have d1 := got (hv 1 52 rfl) (hd 1 (by kernel_rfl))
      have d4 := got (hv 4 55 rfl) (hd 4 (by kernel_rfl))
      clear hb hv hd
      refine wpOp_step rfl fun K hK => ?_
      go_simp
      exact hK _ _ ⟨_, rfl, Below.refl _ _, rfl, fun h => absurd h (by decide)⟩
    · have d5 := got (hv 5 56 rfl) (hd 5 (by kernel_rfl))
      clear hb hv hd
      refine wpOp_step rfl fun K hK => ?_
      go_simp
      exact hK _ _ ⟨_, rfl, Below.refl _ _, rfl, fun h => absurd h (by decide)⟩
    · have b4 : f.tmps[4]? = some (.int .i64 e) := (hb 4 (by decide)).trans rfl
      have d6 := got (hv 6 57 rfl) (hd 6 (by kernel_rfl))
      clear hb hv hd
      refine wpOp_step rfl fun K hK => ?_
      go_simp
      exact hK _ _ ⟨_, rfl, Below.refl _ _, rfl, fun h => absurd h (by decide)⟩
    · have b6 : f.tmps[6]? = some (.int .i64 e) := (hb 6 (by decide)).trans rfl
      have d6 := got (hv 6 57 rfl) (hd 6 (by kernel_rfl))
      clear hb hv hd
      refine wpOp_step rfl fun K hK => ?_
      go_simp
      exact hK _ _ ⟨_, rfl, Below.refl _ _, rfl, fun h => absurd h (by decide)⟩
    · have d7 := got (hv 7 58 rfl) (hd 7 (by kernel_rfl))
      have d8 := got (hv 8 59 rfl) (hd 8 (by kernel_rfl))
      have d6 := got (hv 6 57 rfl) (hd 6 (by kernel_rfl))
      clear hb hv hd
      refine wpOp_step rfl fun K hK => ?_
      go_simp
      exact hK _ _ ⟨_, rfl, Below.refl _ _, rfl, fun h => absurd h (by decide)⟩
    · have d6 := got (hv 6 57 rfl) (hd 6 (by kernel_rfl))
      have d9 := got (hv 9 60 rfl) (hd 9 (by kernel_rfl))
      clear hb hv hd
      refine wpOp_step rfl fun K hK => ?_
      go_simp
      exact hK _ _ ⟨_, rfl, Below.refl _ _, rfl, fun h => absurd h (by decide)⟩
    · have d10 := got (hv 10 61 rfl) (hd 10 (by kernel_rfl))
      clear hb hv hd
      refine wpOp_step rfl fun K hK => ?_
      go_simp
      exact hK _ _ ⟨_, rfl, Below.refl _ _, rfl, fun h => absurd h (by decide)⟩
    · have b7 : f.tmps[7]? = some (.pointer (some ⟨w3.heap.size, 0, none⟩)) := (hb 7 (by decide)).trans rfl
      have d11 := got (hv 11 62 rfl) (hd 11 (by kernel_rfl))
      clear hb hv hd
      have c := tc_keep hB T3
      refine wpOp_step rfl fun K hK => ?_
      go_simp
      exact hK _ _ ⟨_, rfl, Below.refl _ _, rfl, fun h => absurd h (by decide)⟩
    · have b9 : f.tmps[9]? = some (.pointer (some ⟨w4.heap.size, 0, none⟩)) := (hb 9 (by decide)).trans rfl
      have d11 := got (hv 11 62 rfl) (hd 11 (by kernel_rfl))
      clear hb hv hd
      have c := tc_keep hB T4
      refine wpOp_step rfl fun K hK => ?_
      go_simp
      exact hK _ _ ⟨_, rfl, Below.refl _ _, rfl, fun h => absurd h (by decide)⟩
    · have d12 := got (hv 12 63 rfl) (hd 12 (by kernel_rfl))
      have d13 := got (hv 13 64 rfl) (hd 13 (by kernel_rfl))
      have d11 := got (hv 11 62 rfl) (hd 11 (by kernel_rfl))
      clear hb hv hd
      have hve := vec_eq_self
      refine wpOp_step rfl fun K hK => ?_
      go_simp
      exact hK _ _ ⟨_, rfl, Below.refl _ _, rfl, fun h => absurd h (by decide)⟩
    · have d11 := got (hv 11 62 rfl) (hd 11 (by kernel_rfl))
      have d14 := got (hv 14 65 rfl) (hd 14 (by kernel_rfl))
      clear hb hv hd
      refine wpOp_step rfl fun K hK => ?_
      go_simp
      exact hK _ _ ⟨_, rfl, Below.refl _ _, rfl, fun h => absurd h (by decide)⟩
    · have d15 := got (hv 15 66 rfl) (hd 15 (by kernel_rfl))
      clear hb hv hd
      refine wpOp_step rfl fun K hK => ?_
      go_simp
      exact hK _ _ ⟨_, rfl, Below.refl _ _, rfl, fun h => absurd h (by decide)⟩
    · have b8 : f.tmps[8]? = some (.int .i64 g) := (hb 8 (by decide)).trans rfl
      have d16 := got (hv 16 67 rfl) (hd 16 (by kernel_rfl))
      clear hb hv hd
      refine wpOp_step rfl fun K hK => ?_
      go_simp
      exact hK _ _ ⟨_, rfl, Below.refl _ _, rfl, fun h => absurd h (by decide)⟩
    · have b10 : f.tmps[10]? = some (.int .i64 g) := (hb 10 (by decide)).trans rfl
      have d16 := got (hv 16 67 rfl) (hd 16 (by kernel_rfl))
      clear hb hv hd
      refine wpOp_step rfl fun K hK => ?_
      go_simp
      exact hK _ _ ⟨_, rfl, Below.refl _ _, rfl, fun h => absurd h (by decide)⟩
    · have d17 := got (hv 17 68 rfl) (hd 17 (by kernel_rfl))
      have d18 := got (hv 18 69 rfl) (hd 18 (by kernel_rfl))
      have d16 := got (hv 16 67 rfl) (hd 16 (by kernel_rfl))
      clear hb hv hd
      refine wpOp_step rfl fun K hK => ?_
      go_simp
      exact hK _ _ ⟨_, rfl, Below.refl _ _, rfl, fun h => absurd h (by decide)⟩
    · have d16 := got (hv 16 67 rfl) (hd 16 (by kernel_rfl))
      have d19 := got (hv 19 70 rfl) (hd 19 (by kernel_rfl))
      clear hb hv hd
      refine wpOp_step rfl fun K hK => ?_
      go_simp
      exact hK _ _ ⟨_, rfl, Below.refl _ _, rfl, fun h => absurd h (by decide)⟩
    · have d20 := got (hv 20 71 rfl) (hd 20 (by kernel_rfl))
      clear hb hv hd
      refine wpOp_step rfl fun K hK => ?_
      go_simp
      exact hK _ _ ⟨_, rfl, Below.refl _ _, rfl, fun h => absurd h (by decide)⟩
    · have b1 : f.tmps[1]? = some (.pointer (some ⟨w.heap.size, 0, none⟩)) := (hb 1 (by decide)).trans rfl
      have d21 := got (hv 21 72 rfl) (hd 21 (by kernel_rfl))
      clear hb hv hd
      refine wpOp_step rfl fun K hK => ?_
      go_simp
      exact hK _ _ ⟨_, rfl, Below.refl _ _, rfl, fun h => absurd h (by decide)⟩
    · have d22 := got (hv 22 73 rfl) (hd 22 (by kernel_rfl))
      have d21 := got (hv 21 72 rfl) (hd 21 (by kernel_rfl))
      clear hb hv hd
      have c := kc_keep hB Q
      refine wpOp_step rfl fun K hK => ?_
      go_simp
      exact hK _ _ ⟨_, rfl, Below.refl _ _, rfl, fun h => absurd h (by decide)⟩
    · have d23 := got (hv 23 74 rfl) (hd 23 (by kernel_rfl))
      have d21 := got (hv 21 72 rfl) (hd 21 (by kernel_rfl))
      clear hb hv hd
      refine wpOp_callg rfl (yields rfl rfl d21) Tryd.call11 (args1 (eval_tmp d23)) (cM _) ?_
      rintro e5 w5 ⟨rfl, hb5⟩
      exact ⟨_, rfl, _, rfl, hb5, rfl, fun h => absurd h (by decide)⟩
    · have b1 : f.tmps[1]? = some (.pointer (some ⟨w.heap.size, 0, none⟩)) := (hb 1 (by decide)).trans rfl
      have d21 := got (hv 21 72 rfl) (hd 21 (by kernel_rfl))
      clear hb hv hd
      refine wpOp_step rfl fun K hK => ?_
      go_simp
      exact hK _ _ ⟨_, rfl, Below.refl _ _, rfl, fun h => absurd h (by decide)⟩
    · have d25 := got (hv 25 76 rfl) (hd 25 (by kernel_rfl))
      have d21 := got (hv 21 72 rfl) (hd 21 (by kernel_rfl))
      clear hb hv hd
      refine wpOp_step rfl fun K hK => ?_
      go_simp
      exact hK _ _ ⟨_, rfl, Below.refl _ _, rfl, fun h => absurd h (by decide)⟩
    · have d26 := got (hv 26 77 rfl) (hd 26 (by kernel_rfl))
      have d21 := got (hv 21 72 rfl) (hd 21 (by kernel_rfl))
      clear hb hv hd
      have c := kc_keep hB Q
      refine wpOp_step rfl fun K hK => ?_
      go_simp
      exact hK _ _ ⟨_, rfl, Below.refl _ _, rfl, fun h => absurd h (by decide)⟩
    · have d27 := got (hv 27 78 rfl) (hd 27 (by kernel_rfl))
      have d21 := got (hv 21 72 rfl) (hd 21 (by kernel_rfl))
      clear hb hv hd
      refine wpOp_step rfl fun K hK => ?_
      go_simp
      exact hK _ _ ⟨_, rfl, Below.refl _ _, rfl, fun h => absurd h (by decide)⟩
    · have d28 := got (hv 28 79 rfl) (hd 28 (by kernel_rfl))
      have d21 := got (hv 21 72 rfl) (hd 21 (by kernel_rfl))
      clear hb hv hd
      refine wpOp_step rfl fun K hK => ?_
      go_simp
      exact hK _ _ ⟨_, rfl, Below.refl _ _, rfl, fun h => absurd h (by decide)⟩
    · have b1 : f.tmps[1]? = some (.pointer (some ⟨w.heap.size, 0, none⟩)) := (hb 1 (by decide)).trans rfl
      have d29 := got (hv 29 80 rfl) (hd 29 (by kernel_rfl))
      clear hb hv hd
      refine wpOp_step rfl fun K hK => ?_
      go_simp
      exact hK _ _ ⟨_, rfl, Below.refl _ _, rfl, fun h => absurd h (by decide)⟩
    · have d30 := got (hv 30 81 rfl) (hd 30 (by kernel_rfl))
      have d29 := got (hv 29 80 rfl) (hd 29 (by kernel_rfl))
      clear hb hv hd
      refine wpOp_step rfl fun K hK => ?_
      go_simp
      exact hK _ _ ⟨_, rfl, Below.refl _ _, rfl, fun h => absurd h (by decide)⟩
    · have d31 := got (hv 31 82 rfl) (hd 31 (by kernel_rfl))
      have d29 := got (hv 29 80 rfl) (hd 29 (by kernel_rfl))
      clear hb hv hd
      have c := kc_keep hB Q
      refine wpOp_step rfl fun K hK => ?_
      go_simp
      exact hK _ _ ⟨_, rfl, Below.refl _ _, rfl, fun h => absurd h (by decide)⟩
    · have d32 := got (hv 32 83 rfl) (hd 32 (by kernel_rfl))
      have d29 := got (hv 29 80 rfl) (hd 29 (by kernel_rfl))
      clear hb hv hd
      refine wpOp_step rfl fun K hK => ?_
      go_simp
      exact hK _ _ ⟨_, rfl, Below.refl _ _, rfl, fun h => absurd h (by decide)⟩
    · have d29 := got (hv 29 80 rfl) (hd 29 (by kernel_rfl))
      have d33 := got (hv 33 84 rfl) (hd 33 (by kernel_rfl))
      have d21 := got (hv 21 72 rfl) (hd 21 (by kernel_rfl))
      clear hb hv hd
      refine wpOp_step rfl fun K hK => ?_
      go_simp
      exact hK _ _ ⟨_, rfl, Below.refl _ _, rfl, fun h => absurd h (by decide)⟩
    · have d24 := got (hv 24 75 rfl) (hd 24 (by kernel_rfl))
      have d34 := got (hv 34 85 rfl) (hd 34 (by kernel_rfl))
      have d21 := got (hv 21 72 rfl) (hd 21 (by kernel_rfl))
      clear hb hv hd
      refine wpOp_step rfl fun K hK => ?_
      go_simp
      exact hK _ _ ⟨_, rfl, Below.refl _ _, rfl, fun h => absurd h (by decide)⟩
    · have d21 := got (hv 21 72 rfl) (hd 21 (by kernel_rfl))
      have d35 := got (hv 35 86 rfl) (hd 35 (by kernel_rfl))
      clear hb hv hd
      refine wpOp_step rfl fun K hK => ?_
      go_simp
      exact hK _ _ ⟨_, rfl, Below.refl _ _, rfl, fun h => absurd h (by decide)⟩
  · intro v w' hB hF hD
    have F0 : v 0 = _ := hF 0 (by simp)
    have F1 : v 1 = _ := hF 1 (by simp)
    have F2 : v 2 = _ := hF 2 (by simp)
    have F3 : v 3 = _ := hF 3 (by simp)
    have F4 : v 4 = _ := hF 4 (by simp)
    have F5 : v 5 = _ := hF 5 (by simp)
    have F6 : v 6 = _ := hF 6 (by simp)
    have F7 : v 7 = _ := hF 7 (by simp)
    have F8 : v 8 = _ := hF 8 (by simp)
    have F9 : v 9 = _ := hF 9 (by simp)
    have F10 : v 10 = _ := hF 10 (by simp)
    have F11 : v 11 = _ := hF 11 (by simp)
    have F12 : v 12 = _ := hF 12 (by simp)
    have F13 : v 13 = _ := hF 13 (by simp)
    have F14 : v 14 = _ := hF 14 (by simp)
    have F15 : v 15 = _ := hF 15 (by simp)
    have F16 : v 16 = _ := hF 16 (by simp)
    have F17 : v 17 = _ := hF 17 (by simp)
    have F18 : v 18 = _ := hF 18 (by simp)
    have F19 : v 19 = _ := hF 19 (by simp)
    have F20 : v 20 = _ := hF 20 (by simp)
    have F21 : v 21 = _ := hF 21 (by simp)
    have F22 : v 22 = _ := hF 22 (by simp)
    have F23 : v 23 = _ := hF 23 (by simp)
    have F24 : v 24 = _ := hF 24 (by simp)
    have F25 : v 25 = _ := hF 25 (by simp)
    have F26 : v 26 = _ := hF 26 (by simp)
    have F27 : v 27 = _ := hF 27 (by simp)
    have F28 : v 28 = _ := hF 28 (by simp)
    have F29 : v 29 = _ := hF 29 (by simp)
    have F30 : v 30 = _ := hF 30 (by simp)
    have F31 : v 31 = _ := hF 31 (by simp)
    have F32 : v 32 = _ := hF 32 (by simp)
    have F33 : v 33 = _ := hF 33 (by simp)
    have F34 : v 34 = _ := hF 34 (by simp)
    have F35 : v 35 = _ := hF 35 (by simp)
    have F36 : v 36 = _ := hF 36 (by simp)
    clear hF
    simp only [frOf, frGo, Nat.zero_add, Nat.reduceAdd, F0, F1, F2, F3, F4, F5, F6, F7, F8, F9, F10, F11, F12, F13, F14, F15, F16, F17, F18, F19, F20, F21, F22, F23, F24, F25, F26, F27, F28, F29, F30, F31, F32, F33, F34, F35, F36]
    replace B := b_trans B hB
    clear F0 F1 F2 F3 F4 F5 F6 F7 F8 F9 F10 F11 F12 F13 F14 F15 F16 F17 F18 F19 F20 F21 F22 F23 F24 F25 F26 F27 F28 F29 F30 F31 F32 F33 F34 F35 F36 hD hB T1 T2 T3 T4 Q P cM
    go_wp2
    go_ret
    exact ⟨rfl, B⟩

set_option maxHeartbeats 8000000 in
set_option maxRecDepth 10000 in
theorem gainPlays_below (m : Nat → Int) (s : Int) (bo : Bool) (y0 y1 y2 z0 z1 z2 e k0 k1 k2 g : Int)
    (g1 : decide (0 ≤ y0) = false)
    (cB : ∀ w, PL w → Calls Tryd.prog 6 #[sv m, .int .i64 s] w (RetV (.tuple #[tv z0 z1 z2, .int .i64 e]) w))
    (cR : ∀ w, Calls Tryd.prog 7 #[sv m, .int .i64 s] w (RetV (.tuple #[tv z0 z1 z2, .int .i64 e]) w))
    (cO : ∀ w, PL w → Calls Tryd.prog 8 #[sv m, .int .i64 s, .bool bo, tv y0 y1 y2] w (RetV (.tuple #[tv k0 k1 k2, .int .i64 g]) w))
    (cQ : ∀ w, Calls Tryd.prog 9 #[sv m, .int .i64 s, .bool bo, tv y0 y1 y2] w (RetV (.tuple #[tv k0 k1 k2, .int .i64 g]) w))
    (cM : ∀ w, Calls Tryd.prog 11 #[tv y0 y1 y2] w (RetV (.bool false) w)) (w : World) (hp : PL w) :
    Calls Tryd.prog 3 #[.agg #[.int .i64 (m 0), .int .i64 (m 1), .int .i64 (m 2), .int .i64 (m 3), .int .i64 (m 4), .int .i64 (m 5), .int .i64 s, .bool bo, .int .i64 y0, .int .i64 y1, .int .i64 y2]] w (RetV (.bool true) w) := by
  have B : Below w.heap.size w (w.alloc (Obj.cells #[.int .i64 (m 0), .int .i64 (m 1), .int .i64 (m 2), .int .i64 (m 3), .int .i64 (m 4), .int .i64 (m 5), .int .i64 s, .bool bo, .int .i64 y0, .int .i64 y1, .int .i64 y2] 27)) := b_alloc (Below.refl _ _)
  have P := pl_keep B hp
  clear hp
  have Q : KC (w.alloc (Obj.cells #[.int .i64 (m 0), .int .i64 (m 1), .int .i64 (m 2), .int .i64 (m 3), .int .i64 (m 4), .int .i64 (m 5), .int .i64 s, .bool bo, .int .i64 y0, .int .i64 y1, .int .i64 y2] 27)) w.heap.size m s bo y0 y1 y2 := kc_new rfl
  go_enter Tryd.func3, Tryd.ntmps3
  go_wp2_with fail
  refine (cB _ P).mono ?_
  rintro e1 w1 ⟨rfl, hb⟩
  replace Q := kc_keep hb Q
  replace P := pl_keep hb P
  replace B := b_trans B hb
  clear hb
  have T1 : TC (w1.alloc (Obj.cells #[.int .i64 z0, .int .i64 z1, .int .i64 z2] 25)) w1.heap.size z0 z1 z2 := tc_new rfl
  replace Q := kc_keep (b_alloc (o := (Obj.cells #[.int .i64 z0, .int .i64 z1, .int .i64 z2] 25)) (Below.refl _ _)) Q
  replace P := pl_keep (b_alloc (o := (Obj.cells #[.int .i64 z0, .int .i64 z1, .int .i64 z2] 25)) (Below.refl _ _)) P
  replace B := b_alloc (o := (Obj.cells #[.int .i64 z0, .int .i64 z1, .int .i64 z2] 25)) B
  go_wp2_with fail
  refine (cR _).mono ?_
  rintro e2 w2 ⟨rfl, hb⟩
  replace T1 := tc_keep hb T1
  replace Q := kc_keep hb Q
  replace P := pl_keep hb P
  replace B := b_trans B hb
  clear hb
  have T2 : TC (w2.alloc (Obj.cells #[.int .i64 z0, .int .i64 z1, .int .i64 z2] 25)) w2.heap.size z0 z1 z2 := tc_new rfl
  replace T1 := tc_alloc (o := (Obj.cells #[.int .i64 z0, .int .i64 z1, .int .i64 z2] 25)) T1
  replace Q := kc_keep (b_alloc (o := (Obj.cells #[.int .i64 z0, .int .i64 z1, .int .i64 z2] 25)) (Below.refl _ _)) Q
  replace P := pl_keep (b_alloc (o := (Obj.cells #[.int .i64 z0, .int .i64 z1, .int .i64 z2] 25)) (Below.refl _ _)) P
  replace B := b_alloc (o := (Obj.cells #[.int .i64 z0, .int .i64 z1, .int .i64 z2] 25)) B
  go_wp2_with fail
  refine (cO _ P).mono ?_
  rintro e3 w3 ⟨rfl, hb⟩
  replace T1 := tc_keep hb T1
  replace T2 := tc_keep hb T2
  replace Q := kc_keep hb Q
  replace P := pl_keep hb P
  replace B := b_trans B hb
  clear hb
  have T3 : TC (w3.alloc (Obj.cells #[.int .i64 k0, .int .i64 k1, .int .i64 k2] 25)) w3.heap.size k0 k1 k2 := tc_new rfl
  replace T1 := tc_alloc (o := (Obj.cells #[.int .i64 k0, .int .i64 k1, .int .i64 k2] 25)) T1
  replace T2 := tc_alloc (o := (Obj.cells #[.int .i64 k0, .int .i64 k1, .int .i64 k2] 25)) T2
  replace Q := kc_keep (b_alloc (o := (Obj.cells #[.int .i64 k0, .int .i64 k1, .int .i64 k2] 25)) (Below.refl _ _)) Q
  replace P := pl_keep (b_alloc (o := (Obj.cells #[.int .i64 k0, .int .i64 k1, .int .i64 k2] 25)) (Below.refl _ _)) P
  replace B := b_alloc (o := (Obj.cells #[.int .i64 k0, .int .i64 k1, .int .i64 k2] 25)) B
  go_wp2_with fail
  refine (cQ _).mono ?_
  rintro e4 w4 ⟨rfl, hb⟩
  replace T1 := tc_keep hb T1
  replace T2 := tc_keep hb T2
  replace T3 := tc_keep hb T3
  replace Q := kc_keep hb Q
  replace P := pl_keep hb P
  replace B := b_trans B hb
  clear hb
  have T4 : TC (w4.alloc (Obj.cells #[.int .i64 k0, .int .i64 k1, .int .i64 k2] 25)) w4.heap.size k0 k1 k2 := tc_new rfl
  replace T1 := tc_alloc (o := (Obj.cells #[.int .i64 k0, .int .i64 k1, .int .i64 k2] 25)) T1
  replace T2 := tc_alloc (o := (Obj.cells #[.int .i64 k0, .int .i64 k1, .int .i64 k2] 25)) T2
  replace T3 := tc_alloc (o := (Obj.cells #[.int .i64 k0, .int .i64 k1, .int .i64 k2] 25)) T3
  replace Q := kc_keep (b_alloc (o := (Obj.cells #[.int .i64 k0, .int .i64 k1, .int .i64 k2] 25)) (Below.refl _ _)) Q
  replace P := pl_keep (b_alloc (o := (Obj.cells #[.int .i64 k0, .int .i64 k1, .int .i64 k2] 25)) (Below.refl _ _)) P
  replace B := b_alloc (o := (Obj.cells #[.int .i64 k0, .int .i64 k1, .int .i64 k2] 25)) B
  clear cB cR cO cQ
  go_wp2
  generalize w4.alloc (Obj.cells #[.int .i64 k0, .int .i64 k1, .int .i64 k2] 25) = W5 at *
  refine region_each [51, 52, 53, 54, 55, 56, 57, 58, 59, 60, 61, 62, 63, 64, 65, 66, 67, 68, 69, 70, 71, 72, 73, 74, 75, 76, 77, 78, 79, 80, 81, 82, 83, 84, 85, 86, 87] (fun i_ X_ U_ => match i_ with | 0 => X_ = .bool true | 1 => X_ = .bool true | 2 => X_ = tv z0 z1 z2 | 3 => X_ = tv z0 z1 z2 | 4 => X_ = .bool true | 5 => X_ = .bool true | 6 => X_ = .bool true | 7 => X_ = .int .i64 e | 8 => X_ = .int .i64 e | 9 => X_ = .bool true | 10 => X_ = .bool true | 11 => X_ = .bool true | 12 => X_ = tv k0 k1 k2 | 13 => X_ = tv k0 k1 k2 | 14 => X_ = .bool true | 15 => X_ = .bool true | 16 => X_ = .bool true | 17 => X_ = .int .i64 g | 18 => X_ = .int .i64 g | 19 => X_ = .bool true | 20 => X_ = .bool true | 21 => X_ = .bool true | 22 => X_ = .pointer (some ⟨w.heap.size, 8, none⟩) | 23 => X_ = tv y0 y1 y2 | 24 => X_ = .bool false | 25 => X_ = .pointer (some ⟨w.heap.size, 8, none⟩) | 26 => X_ = .pointer (some ⟨w.heap.size, 8, none⟩) | 27 => X_ = .int .i64 y0 | 28 => X_ = .bool false | 29 => X_ = .bool false | 30 => X_ = undef | 31 => X_ = undef | 32 => X_ = undef | 33 => X_ = undef | 34 => X_ = .bool false | 35 => X_ = .bool true | 36 => X_ = .bool true | _ => True) (fun i_ => false) (by kernel_rfl) (by kernel_rfl) (by kernel_rfl) (by kernel_rfl) (by kernel_rfl) ?_ (fun i x w hi ha h => by cases ha) ?_ ?_
  · refine swp (upS (upS (upS (upS (upS (upS (upS (upS (upS (upS (upS (upS (upS (upS (upS (upS (upS (upS (upS (upS (upS (upS (upS (upS (upS (upS (upS (upS (upS (upS (upS (upS (upS (upS (upS (upS (upS up0 ?_) ?_) ?_) ?_) ?_) ?_) ?_) ?_) ?_) ?_) ?_) ?_) ?_) ?_) ?_) ?_) ?_) ?_) ?_) ?_) ?_) ?_) ?_) ?_) ?_) ?_) ?_) ?_) ?_) ?_) ?_) ?_) ?_) ?_) ?_) ?_) ?_)
    all_goals exact fun _ _ _ h _ => h
  · refine upS (upS (upS (upS (upS (upS (upS (upS (upS (upS (upS (upS (upS (upS (upS (upS (upS (upS (upS (upS (upS (upS (upS (upS (upS (upS (upS (upS (upS (upS (upS (upS (upS (upS (upS (upS (upS up0 ?_) ?_) ?_) ?_) ?_) ?_) ?_) ?_) ?_) ?_) ?_) ?_) ?_) ?_) ?_) ?_) ?_) ?_) ?_) ?_) ?_) ?_) ?_) ?_) ?_) ?_) ?_) ?_) ?_) ?_) ?_) ?_) ?_) ?_) ?_) ?_) ?_
    all_goals intro v f w' hb hv hB hd
    · clear hb hv hd
      refine wpOp_call rfl Tryd.call10 args0 (fixed_gai _ (pl_keep hB P)) ?_
      rintro e5 w5 ⟨rfl, hb5⟩
      exact ⟨_, rfl, _, rfl, hb5, rfl, fun h => absurd h (by decide)⟩
    · have d0 := got (hv 0 51 rfl) (hd 0 (by kernel_rfl))
      clear hb hv hd
      refine wpOp_step rfl fun K hK => ?_
      go_simp
      exact hK _ _ ⟨_, rfl, Below.refl _ _, rfl, fun h => absurd h (by decide)⟩
    · have b3 : f.tmps[3]? = some (.pointer (some ⟨w1.heap.size, 0, none⟩)) := (hb 3 (by decide)).trans rfl
      have d1 := got (hv 1 52 rfl) (hd 1 (by kernel_rfl))
      clear hb hv hd
      have c := tc_keep hB T1
      refine wpOp_step rfl fun K hK => ?_
      go_simp
      exact hK _ _ ⟨_, rfl, Below.refl _ _, rfl, fun h => absurd h (by decide)⟩
    · have b5 : f.tmps[5]? = some (.pointer (some ⟨w2.heap.size, 0, none⟩)) := (hb 5 (by decide)).trans rfl
      have d1 := got (hv 1 52 rfl) (hd 1 (by kernel_rfl))
      clear hb hv hd
      have c := tc_keep hB T2
      refine wpOp_step rfl fun K hK => ?_
      go_simp
      exact hK _ _ ⟨_, rfl, Below.refl _ _, rfl, fun h => absurd h (by decide)⟩
    · have d2 := got (hv 2 53 rfl) (hd 2 (by kernel_rfl))
      have d3 := got (hv 3 54 rfl) (hd 3 (by kernel_rfl))
      have d1 := got (hv 1 52 rfl) (hd 1 (by kernel_rfl))
      clear hb hv hd
      have hve := vec_eq_self
      refine wpOp_step rfl fun K hK => ?_
      go_simp
      exact hK _ _ ⟨_, rfl, Below.refl _ _, rfl, fun h => absurd h (by decide)⟩
    · have d1 := got (hv 1 52 rfl) (hd 1 (by kernel_rfl))
      have d4 := got (hv 4 55 rfl) (hd 4 (by kernel_rfl))
      clear hb hv hd
      refine wpOp_step rfl fun K hK => ?_
      go_simp
      exact hK _ _ ⟨_, rfl, Below.refl _ _, rfl, fun h => absurd h (by decide)⟩
    · have d5 := got (hv 5 56 rfl) (hd 5 (by kernel_rfl))
      clear hb hv hd
      refine wpOp_step rfl fun K hK => ?_
      go_simp
      exact hK _ _ ⟨_, rfl, Below.refl _ _, rfl, fun h => absurd h (by decide)⟩
    · have b4 : f.tmps[4]? = some (.int .i64 e) := (hb 4 (by decide)).trans rfl
      have d6 := got (hv 6 57 rfl) (hd 6 (by kernel_rfl))
      clear hb hv hd
      refine wpOp_step rfl fun K hK => ?_
      go_simp
      exact hK _ _ ⟨_, rfl, Below.refl _ _, rfl, fun h => absurd h (by decide)⟩
    · have b6 : f.tmps[6]? = some (.int .i64 e) := (hb 6 (by decide)).trans rfl
      have d6 := got (hv 6 57 rfl) (hd 6 (by kernel_rfl))
      clear hb hv hd
      refine wpOp_step rfl fun K hK => ?_
      go_simp
      exact hK _ _ ⟨_, rfl, Below.refl _ _, rfl, fun h => absurd h (by decide)⟩
    · have d7 := got (hv 7 58 rfl) (hd 7 (by kernel_rfl))
      have d8 := got (hv 8 59 rfl) (hd 8 (by kernel_rfl))
      have d6 := got (hv 6 57 rfl) (hd 6 (by kernel_rfl))
      clear hb hv hd
      refine wpOp_step rfl fun K hK => ?_
      go_simp
      exact hK _ _ ⟨_, rfl, Below.refl _ _, rfl, fun h => absurd h (by decide)⟩
    · have d6 := got (hv 6 57 rfl) (hd 6 (by kernel_rfl))
      have d9 := got (hv 9 60 rfl) (hd 9 (by kernel_rfl))
      clear hb hv hd
      refine wpOp_step rfl fun K hK => ?_
      go_simp
      exact hK _ _ ⟨_, rfl, Below.refl _ _, rfl, fun h => absurd h (by decide)⟩
    · have d10 := got (hv 10 61 rfl) (hd 10 (by kernel_rfl))
      clear hb hv hd
      refine wpOp_step rfl fun K hK => ?_
      go_simp
      exact hK _ _ ⟨_, rfl, Below.refl _ _, rfl, fun h => absurd h (by decide)⟩
    · have b7 : f.tmps[7]? = some (.pointer (some ⟨w3.heap.size, 0, none⟩)) := (hb 7 (by decide)).trans rfl
      have d11 := got (hv 11 62 rfl) (hd 11 (by kernel_rfl))
      clear hb hv hd
      have c := tc_keep hB T3
      refine wpOp_step rfl fun K hK => ?_
      go_simp
      exact hK _ _ ⟨_, rfl, Below.refl _ _, rfl, fun h => absurd h (by decide)⟩
    · have b9 : f.tmps[9]? = some (.pointer (some ⟨w4.heap.size, 0, none⟩)) := (hb 9 (by decide)).trans rfl
      have d11 := got (hv 11 62 rfl) (hd 11 (by kernel_rfl))
      clear hb hv hd
      have c := tc_keep hB T4
      refine wpOp_step rfl fun K hK => ?_
      go_simp
      exact hK _ _ ⟨_, rfl, Below.refl _ _, rfl, fun h => absurd h (by decide)⟩
    · have d12 := got (hv 12 63 rfl) (hd 12 (by kernel_rfl))
      have d13 := got (hv 13 64 rfl) (hd 13 (by kernel_rfl))
      have d11 := got (hv 11 62 rfl) (hd 11 (by kernel_rfl))
      clear hb hv hd
      have hve := vec_eq_self
      refine wpOp_step rfl fun K hK => ?_
      go_simp
      exact hK _ _ ⟨_, rfl, Below.refl _ _, rfl, fun h => absurd h (by decide)⟩
    · have d11 := got (hv 11 62 rfl) (hd 11 (by kernel_rfl))
      have d14 := got (hv 14 65 rfl) (hd 14 (by kernel_rfl))
      clear hb hv hd
      refine wpOp_step rfl fun K hK => ?_
      go_simp
      exact hK _ _ ⟨_, rfl, Below.refl _ _, rfl, fun h => absurd h (by decide)⟩
    · have d15 := got (hv 15 66 rfl) (hd 15 (by kernel_rfl))
      clear hb hv hd
      refine wpOp_step rfl fun K hK => ?_
      go_simp
      exact hK _ _ ⟨_, rfl, Below.refl _ _, rfl, fun h => absurd h (by decide)⟩
    · have b8 : f.tmps[8]? = some (.int .i64 g) := (hb 8 (by decide)).trans rfl
      have d16 := got (hv 16 67 rfl) (hd 16 (by kernel_rfl))
      clear hb hv hd
      refine wpOp_step rfl fun K hK => ?_
      go_simp
      exact hK _ _ ⟨_, rfl, Below.refl _ _, rfl, fun h => absurd h (by decide)⟩
    · have b10 : f.tmps[10]? = some (.int .i64 g) := (hb 10 (by decide)).trans rfl
      have d16 := got (hv 16 67 rfl) (hd 16 (by kernel_rfl))
      clear hb hv hd
      refine wpOp_step rfl fun K hK => ?_
      go_simp
      exact hK _ _ ⟨_, rfl, Below.refl _ _, rfl, fun h => absurd h (by decide)⟩
    · have d17 := got (hv 17 68 rfl) (hd 17 (by kernel_rfl))
      have d18 := got (hv 18 69 rfl) (hd 18 (by kernel_rfl))
      have d16 := got (hv 16 67 rfl) (hd 16 (by kernel_rfl))
      clear hb hv hd
      refine wpOp_step rfl fun K hK => ?_
      go_simp
      exact hK _ _ ⟨_, rfl, Below.refl _ _, rfl, fun h => absurd h (by decide)⟩
    · have d16 := got (hv 16 67 rfl) (hd 16 (by kernel_rfl))
      have d19 := got (hv 19 70 rfl) (hd 19 (by kernel_rfl))
      clear hb hv hd
      refine wpOp_step rfl fun K hK => ?_
      go_simp
      exact hK _ _ ⟨_, rfl, Below.refl _ _, rfl, fun h => absurd h (by decide)⟩
    · have d20 := got (hv 20 71 rfl) (hd 20 (by kernel_rfl))
      clear hb hv hd
      refine wpOp_step rfl fun K hK => ?_
      go_simp
      exact hK _ _ ⟨_, rfl, Below.refl _ _, rfl, fun h => absurd h (by decide)⟩
    · have b1 : f.tmps[1]? = some (.pointer (some ⟨w.heap.size, 0, none⟩)) := (hb 1 (by decide)).trans rfl
      have d21 := got (hv 21 72 rfl) (hd 21 (by kernel_rfl))
      clear hb hv hd
      refine wpOp_step rfl fun K hK => ?_
      go_simp
      exact hK _ _ ⟨_, rfl, Below.refl _ _, rfl, fun h => absurd h (by decide)⟩
    · have d22 := got (hv 22 73 rfl) (hd 22 (by kernel_rfl))
      have d21 := got (hv 21 72 rfl) (hd 21 (by kernel_rfl))
      clear hb hv hd
      have c := kc_keep hB Q
      refine wpOp_step rfl fun K hK => ?_
      go_simp
      exact hK _ _ ⟨_, rfl, Below.refl _ _, rfl, fun h => absurd h (by decide)⟩
    · have d23 := got (hv 23 74 rfl) (hd 23 (by kernel_rfl))
      have d21 := got (hv 21 72 rfl) (hd 21 (by kernel_rfl))
      clear hb hv hd
      refine wpOp_callg rfl (yields rfl rfl d21) Tryd.call11 (args1 (eval_tmp d23)) (cM _) ?_
      rintro e5 w5 ⟨rfl, hb5⟩
      exact ⟨_, rfl, _, rfl, hb5, rfl, fun h => absurd h (by decide)⟩
    · have b1 : f.tmps[1]? = some (.pointer (some ⟨w.heap.size, 0, none⟩)) := (hb 1 (by decide)).trans rfl
      have d21 := got (hv 21 72 rfl) (hd 21 (by kernel_rfl))
      clear hb hv hd
      refine wpOp_step rfl fun K hK => ?_
      go_simp
      exact hK _ _ ⟨_, rfl, Below.refl _ _, rfl, fun h => absurd h (by decide)⟩
    · have d25 := got (hv 25 76 rfl) (hd 25 (by kernel_rfl))
      have d21 := got (hv 21 72 rfl) (hd 21 (by kernel_rfl))
      clear hb hv hd
      refine wpOp_step rfl fun K hK => ?_
      go_simp
      exact hK _ _ ⟨_, rfl, Below.refl _ _, rfl, fun h => absurd h (by decide)⟩
    · have d26 := got (hv 26 77 rfl) (hd 26 (by kernel_rfl))
      have d21 := got (hv 21 72 rfl) (hd 21 (by kernel_rfl))
      clear hb hv hd
      have c := kc_keep hB Q
      refine wpOp_step rfl fun K hK => ?_
      go_simp
      exact hK _ _ ⟨_, rfl, Below.refl _ _, rfl, fun h => absurd h (by decide)⟩
    · have d27 := got (hv 27 78 rfl) (hd 27 (by kernel_rfl))
      have d21 := got (hv 21 72 rfl) (hd 21 (by kernel_rfl))
      clear hb hv hd
      refine wpOp_step rfl fun K hK => ?_
      go_simp
      exact hK _ _ ⟨_, rfl, Below.refl _ _, rfl, fun h => absurd h (by decide)⟩
    · have d28 := got (hv 28 79 rfl) (hd 28 (by kernel_rfl))
      have d21 := got (hv 21 72 rfl) (hd 21 (by kernel_rfl))
      clear hb hv hd
      refine wpOp_step rfl fun K hK => ?_
      go_simp
      exact hK _ _ ⟨_, rfl, Below.refl _ _, rfl, fun h => absurd h (by decide)⟩
    · have b1 : f.tmps[1]? = some (.pointer (some ⟨w.heap.size, 0, none⟩)) := (hb 1 (by decide)).trans rfl
      have d29 := got (hv 29 80 rfl) (hd 29 (by kernel_rfl))
      clear hb hv hd
      refine wpOp_step rfl fun K hK => ?_
      go_simp
      exact hK _ _ ⟨_, rfl, Below.refl _ _, rfl, fun h => absurd h (by decide)⟩
    · have d30 := got (hv 30 81 rfl) (hd 30 (by kernel_rfl))
      have d29 := got (hv 29 80 rfl) (hd 29 (by kernel_rfl))
      clear hb hv hd
      refine wpOp_step rfl fun K hK => ?_
      go_simp
      exact hK _ _ ⟨_, rfl, Below.refl _ _, rfl, fun h => absurd h (by decide)⟩
    · have d31 := got (hv 31 82 rfl) (hd 31 (by kernel_rfl))
      have d29 := got (hv 29 80 rfl) (hd 29 (by kernel_rfl))
      clear hb hv hd
      refine wpOp_step rfl fun K hK => ?_
      go_simp
      exact hK _ _ ⟨_, rfl, Below.refl _ _, rfl, fun h => absurd h (by decide)⟩
    · have d32 := got (hv 32 83 rfl) (hd 32 (by kernel_rfl))
      have d29 := got (hv 29 80 rfl) (hd 29 (by kernel_rfl))
      clear hb hv hd
      refine wpOp_step rfl fun K hK => ?_
      go_simp
      exact hK _ _ ⟨_, rfl, Below.refl _ _, rfl, fun h => absurd h (by decide)⟩
    · have d29 := got (hv 29 80 rfl) (hd 29 (by kernel_rfl))
      have d33 := got (hv 33 84 rfl) (hd 33 (by kernel_rfl))
      have d21 := got (hv 21 72 rfl) (hd 21 (by kernel_rfl))
      clear hb hv hd
      refine wpOp_step rfl fun K hK => ?_
      go_simp
      exact hK _ _ ⟨_, rfl, Below.refl _ _, rfl, fun h => absurd h (by decide)⟩
    · have d24 := got (hv 24 75 rfl) (hd 24 (by kernel_rfl))
      have d34 := got (hv 34 85 rfl) (hd 34 (by kernel_rfl))
      have d21 := got (hv 21 72 rfl) (hd 21 (by kernel_rfl))
      clear hb hv hd
      refine wpOp_step rfl fun K hK => ?_
      go_simp
      exact hK _ _ ⟨_, rfl, Below.refl _ _, rfl, fun h => absurd h (by decide)⟩
    · have d21 := got (hv 21 72 rfl) (hd 21 (by kernel_rfl))
      have d35 := got (hv 35 86 rfl) (hd 35 (by kernel_rfl))
      clear hb hv hd
      refine wpOp_step rfl fun K hK => ?_
      go_simp
      exact hK _ _ ⟨_, rfl, Below.refl _ _, rfl, fun h => absurd h (by decide)⟩
  · intro v w' hB hF hD
    have F0 : v 0 = _ := hF 0 (by simp)
    have F1 : v 1 = _ := hF 1 (by simp)
    have F2 : v 2 = _ := hF 2 (by simp)
    have F3 : v 3 = _ := hF 3 (by simp)
    have F4 : v 4 = _ := hF 4 (by simp)
    have F5 : v 5 = _ := hF 5 (by simp)
    have F6 : v 6 = _ := hF 6 (by simp)
    have F7 : v 7 = _ := hF 7 (by simp)
    have F8 : v 8 = _ := hF 8 (by simp)
    have F9 : v 9 = _ := hF 9 (by simp)
    have F10 : v 10 = _ := hF 10 (by simp)
    have F11 : v 11 = _ := hF 11 (by simp)
    have F12 : v 12 = _ := hF 12 (by simp)
    have F13 : v 13 = _ := hF 13 (by simp)
    have F14 : v 14 = _ := hF 14 (by simp)
    have F15 : v 15 = _ := hF 15 (by simp)
    have F16 : v 16 = _ := hF 16 (by simp)
    have F17 : v 17 = _ := hF 17 (by simp)
    have F18 : v 18 = _ := hF 18 (by simp)
    have F19 : v 19 = _ := hF 19 (by simp)
    have F20 : v 20 = _ := hF 20 (by simp)
    have F21 : v 21 = _ := hF 21 (by simp)
    have F22 : v 22 = _ := hF 22 (by simp)
    have F23 : v 23 = _ := hF 23 (by simp)
    have F24 : v 24 = _ := hF 24 (by simp)
    have F25 : v 25 = _ := hF 25 (by simp)
    have F26 : v 26 = _ := hF 26 (by simp)
    have F27 : v 27 = _ := hF 27 (by simp)
    have F28 : v 28 = _ := hF 28 (by simp)
    have F29 : v 29 = _ := hF 29 (by simp)
    have F30 : v 30 = _ := hF 30 (by simp)
    have F31 : v 31 = _ := hF 31 (by simp)
    have F32 : v 32 = _ := hF 32 (by simp)
    have F33 : v 33 = _ := hF 33 (by simp)
    have F34 : v 34 = _ := hF 34 (by simp)
    have F35 : v 35 = _ := hF 35 (by simp)
    have F36 : v 36 = _ := hF 36 (by simp)
    clear hF
    simp only [frOf, frGo, Nat.zero_add, Nat.reduceAdd, F0, F1, F2, F3, F4, F5, F6, F7, F8, F9, F10, F11, F12, F13, F14, F15, F16, F17, F18, F19, F20, F21, F22, F23, F24, F25, F26, F27, F28, F29, F30, F31, F32, F33, F34, F35, F36]
    replace B := b_trans B hB
    clear F0 F1 F2 F3 F4 F5 F6 F7 F8 F9 F10 F11 F12 F13 F14 F15 F16 F17 F18 F19 F20 F21 F22 F23 F24 F25 F26 F27 F28 F29 F30 F31 F32 F33 F34 F35 F36 hD hB T1 T2 T3 T4 Q P cM
    go_wp2
    go_ret
    exact ⟨rfl, B⟩

theorem gainPlays_any (m : Nat → Int) (s : Int) (bo : Bool) (y0 y1 y2 : Int) (hm : I6 m) (hs : I64 s) (h0 : I64 y0) (h1 : I64 y1) (h2 : I64 y2) (w : World) (hp : PL w) :
    Calls Tryd.prog 3 #[.agg #[.int .i64 (m 0), .int .i64 (m 1), .int .i64 (m 2), .int .i64 (m 3), .int .i64 (m 4), .int .i64 (m 5), .int .i64 s, .bool bo, .int .i64 y0, .int .i64 y1, .int .i64 y2]] w (RetV (.bool true) w) := by
  have cM := mild_any y0 y1 y2
  by_cases c : 0 ≤ y0
  · by_cases d : y0 ≤ 1099511627776
    · rw [mildb_yes ⟨c, d⟩] at cM
      exact gainPlays_mild m s bo y0 y1 y2 _ _ _ _ _ _ _ _ (decide_eq_true c) (decide_eq_true d) (best_any m s hm hs) (rbest_any m s hm hs) (of_all m s bo y0 y1 y2 hm hs h0 h1 h2) (rof_all m s bo y0 y1 y2 hm hs h0 h1 h2) cM w hp
    · rw [mildb_no (fun h => d h.2)] at cM
      exact gainPlays_above m s bo y0 y1 y2 _ _ _ _ _ _ _ _ (decide_eq_true c) (decide_eq_false d) (best_any m s hm hs) (rbest_any m s hm hs) (of_all m s bo y0 y1 y2 hm hs h0 h1 h2) (rof_all m s bo y0 y1 y2 hm hs h0 h1 h2) cM w hp
  · rw [mildb_no (fun h => c h.1)] at cM
    exact gainPlays_below m s bo y0 y1 y2 _ _ _ _ _ _ _ _ (decide_eq_false c) (best_any m s hm hs) (rbest_any m s hm hs) (of_all m s bo y0 y1 y2 hm hs h0 h1 h2) (rof_all m s bo y0 y1 y2 hm hs h0 h1 h2) cM w hp

end Go.Proofs.YtccpcabhcfpbfaaDoor
