/- JosephNothing: the law's call answers true. -/
import Derived.Test.YtplhienacfiiaaaDoorJosS
namespace Go.Proofs.YtplhienacfiiaaaDoor
open Go.RowKit Go.Shelf

theorem evn_nil : evn 0 1099511627776 = 0 := by decide +kernel
theorem evn_nil' : evn (0 * 1099511627776) 1099511627776 = 0 := by decide +kernel
/-- By a gain of zeros, or without a surprise, a state stays. -/
theorem state_gain (x0 x1 x2 : Int) (hx0 : I64 x0) (hx1 : I64 x1) (hx2 : I64 x2) : ∃ z0 z1 z2 f : Int,
    (∀ w, Calls Tryd.prog 7 #[tv x0 x1 x2, tv 0 0 0, .int .i64 1099511627776] w (RetV (.tuple #[tv z0 z1 z2, .int .i64 f]) w)) ∧ ((z0 = x0 ∧ z1 = x1 ∧ z2 = x2 ∧ f = 0) ∨ f = 1) := by
  obtain ⟨z0, z1, z2, f, a, _, ok, no⟩ := state_all x0 x1 x2 0 0 0 1099511627776 hx0 hx1 hx2 (by decide) (by decide) (by decide) (by decide)
  refine ⟨z0, z1, z2, f, a, ?_⟩
  by_cases c : F3 x0 x1 x2
  · rw [evn_nil', Int.add_zero, Int.add_zero, Int.add_zero] at ok
    exact Or.inl (ok c (by decide) (by decide) (by decide) c)
  · exact Or.inr (no (fun h => c h.1))
theorem state_still (x0 x1 x2 k0 k1 k2 : Int) (hx0 : I64 x0) (hx1 : I64 x1) (hx2 : I64 x2) (hk0 : I64 k0) (hk1 : I64 k1) (hk2 : I64 k2) : ∃ z0 z1 z2 f : Int,
    (∀ w, Calls Tryd.prog 7 #[tv x0 x1 x2, tv k0 k1 k2, .int .i64 0] w (RetV (.tuple #[tv z0 z1 z2, .int .i64 f]) w)) ∧ ((z0 = x0 ∧ z1 = x1 ∧ z2 = x2 ∧ f = 0) ∨ f = 1) := by
  obtain ⟨z0, z1, z2, f, a, _, ok, no⟩ := state_all x0 x1 x2 k0 k1 k2 0 hx0 hx1 hx2 hk0 hk1 hk2 (by decide)
  refine ⟨z0, z1, z2, f, a, ?_⟩
  by_cases c : F3 x0 x1 x2 ∧ F3 k0 k1 k2
  · rw [Int.mul_zero, Int.mul_zero, Int.mul_zero, evn_nil, Int.add_zero, Int.add_zero, Int.add_zero] at ok
    exact Or.inl (ok c.1 c.2 (by decide) (by decide) c.1)
  · exact Or.inr (no (fun h => c ⟨h.1, h.2.1⟩))
/-- By a gain of zeros an entry stays. -/
theorem j_nil {m : Nat → Int} {s : Int} {i j g : Nat} (h : FitP (m g)) : jy m (fun _ => 0) s i j g = m g ∧ jf m (fun _ => 0) s i j g = 0 := by
  have e1 : jT m (fun _ => 0) i j = 0 := by
    unfold jT
    dsimp only
    rw [Int.zero_mul, Int.zero_mul]
    exact evn_nil
  have z : nz 0 = 0 ∧ ne 0 = 0 := nz_of (by decide)
  have e2 : jt m (fun _ => 0) i j = 0 := by unfold jt; rw [e1]; exact z.1
  have e3 : jl m (fun _ => 0) i j g = m g := by unfold jl; rw [e2, Int.sub_zero]; exact (nz_of h).1
  have e4 : jq (fun _ => 0) i j = 0 := by unfold jq; dsimp only; rw [Int.zero_mul, evn_nil]; exact z.1
  have e5 : ju (fun _ => 0) s i j = 0 := by unfold ju; rw [e4, Int.zero_mul, evn_nil]; exact z.1
  have a : JA m (fun _ => 0) s i j g := by
    refine ⟨by rw [e1]; exact z.2, by rw [e2, Int.sub_zero]; exact (nz_of h).2, by dsimp only; rw [Int.zero_mul, evn_nil]; exact z.2, by rw [e4, Int.zero_mul, evn_nil]; exact z.2, by rw [e3, e5, Int.add_zero]; exact (nz_of h).2⟩
  refine ⟨?_, (j_yes a).2⟩
  rw [(j_yes a).1]
  unfold jx
  rw [e3, e5, Int.add_zero]
  exact (nz_of h).1
theorem doubt_nil (m : Nat → Int) (hm : I6 m) : ∃ M0 M1 M2 M3 M4 M5 g : Int,
    (∀ w, PL w → Calls Tryd.prog 10 #[sv m, tv 0 0 0, .int .i64 1099511627776] w (RetV (.tuple #[.agg #[.int .i64 M0, .int .i64 M1, .int .i64 M2, .int .i64 M3, .int .i64 M4, .int .i64 M5], .int .i64 g]) w)) ∧
    ((M0 = m 0 ∧ M1 = m 1 ∧ M2 = m 2 ∧ M3 = m 3 ∧ M4 = m 4 ∧ M5 = m 5 ∧ g = 0 ∧ f6b m = true) ∨ (g = 1 ∧ f6b m = false)) := by
  have h := doubt_any m (fun _ => 0) 1099511627776 hm (by decide) (by decide) (by decide) (by decide)
  refine ⟨_, _, _, _, _, _, _, h, ?_⟩
  by_cases c : F6 m
  · have k : DK m (fun _ => 0) 1099511627776 := ⟨c, by decide, by decide⟩
    have J := fun (i j g : Nat) (hg : g < 6) => j_nil (s := 1099511627776) (i := i) (j := j) (c g hg)
    have a : DA m (fun _ => 0) 1099511627776 := ⟨(J _ _ _ (by decide)).2, (J _ _ _ (by decide)).2, (J _ _ _ (by decide)).2, (J _ _ _ (by decide)).2, (J _ _ _ (by decide)).2, (J _ _ _ (by decide)).2⟩
    rw [(d_ok k a).1, (d_ok k a).2]
    exact Or.inl ⟨(J 0 0 0 (by decide)).1, (J 1 0 1 (by decide)).1, (J 2 0 2 (by decide)).1, (J 1 1 3 (by decide)).1, (J 2 1 4 (by decide)).1, (J 2 2 5 (by decide)).1, rfl, f6b_yes c⟩
  · exact Or.inr ⟨(d_wrong (fun k => c k.1)).2, f6b_no c⟩

/-- A matrix out of its numbers. -/
abbrev mj (x0 x1 x2 x3 x4 x5 : Int) : Nat → Int := fun i => match i with | 0 => x0 | 1 => x1 | 2 => x2 | 3 => x3 | 4 => x4 | _ => x5

set_option maxHeartbeats 8000000 in
set_option maxRecDepth 10000 in
theorem nothing_go (m : Nat → Int) (x0 x1 x2 k0 k1 k2 z0 z1 z2 u0 u1 u2 M0 M1 M2 M3 M4 M5 e f g : Int) (fb : Bool)
    (cA : ∀ w, Calls Tryd.prog 7 #[tv x0 x1 x2, tv 0 0 0, .int .i64 1099511627776] w (RetV (.tuple #[tv z0 z1 z2, .int .i64 e]) w))
    (cB : ∀ w, Calls Tryd.prog 7 #[tv x0 x1 x2, tv k0 k1 k2, .int .i64 0] w (RetV (.tuple #[tv u0 u1 u2, .int .i64 f]) w))
    (cD : ∀ w, PL w → Calls Tryd.prog 10 #[sv m, tv 0 0 0, .int .i64 1099511627776] w (RetV (.tuple #[.agg #[.int .i64 M0, .int .i64 M1, .int .i64 M2, .int .i64 M3, .int .i64 M4, .int .i64 M5], .int .i64 g]) w))
    (cF : ∀ w, Calls Tryd.prog 12 #[sv m] w (RetV (.bool fb) w))
    (hz : (z0 = x0 ∧ z1 = x1 ∧ z2 = x2 ∧ e = 0) ∨ e = 1) (hu : (u0 = x0 ∧ u1 = x1 ∧ u2 = x2 ∧ f = 0) ∨ f = 1)
    (hM : (M0 = m 0 ∧ M1 = m 1 ∧ M2 = m 2 ∧ M3 = m 3 ∧ M4 = m 4 ∧ M5 = m 5 ∧ g = 0 ∧ fb = true) ∨ (g = 1 ∧ fb = false)) (w : World) (hp : PL w) :
    Calls Tryd.prog 5 #[tv x0 x1 x2, tv k0 k1 k2, sv m] w (RetV (.bool true) w) := by
  have B : Below w.heap.size w (((w.alloc (Obj.cells #[.int .i64 x0, .int .i64 x1, .int .i64 x2] 23)).alloc (Obj.cells #[.int .i64 k0, .int .i64 k1, .int .i64 k2] 23)).alloc (Obj.cells #[.int .i64 (m 0), .int .i64 (m 1), .int .i64 (m 2), .int .i64 (m 3), .int .i64 (m 4), .int .i64 (m 5)] 32)) := b_alloc (b_alloc (b_alloc (Below.refl _ _)))
  have P := pl_keep B hp
  clear hp
  have X : TC (((w.alloc (Obj.cells #[.int .i64 x0, .int .i64 x1, .int .i64 x2] 23)).alloc (Obj.cells #[.int .i64 k0, .int .i64 k1, .int .i64 k2] 23)).alloc (Obj.cells #[.int .i64 (m 0), .int .i64 (m 1), .int .i64 (m 2), .int .i64 (m 3), .int .i64 (m 4), .int .i64 (m 5)] 32)) w.heap.size x0 x1 x2 := tc_alloc (tc_alloc (tc_new rfl))
  have K : TC (((w.alloc (Obj.cells #[.int .i64 x0, .int .i64 x1, .int .i64 x2] 23)).alloc (Obj.cells #[.int .i64 k0, .int .i64 k1, .int .i64 k2] 23)).alloc (Obj.cells #[.int .i64 (m 0), .int .i64 (m 1), .int .i64 (m 2), .int .i64 (m 3), .int .i64 (m 4), .int .i64 (m 5)] 32)) (w.heap.size + 1) k0 k1 k2 := tc_alloc (tc_new (by simp))
  have S : SC6 (((w.alloc (Obj.cells #[.int .i64 x0, .int .i64 x1, .int .i64 x2] 23)).alloc (Obj.cells #[.int .i64 k0, .int .i64 k1, .int .i64 k2] 23)).alloc (Obj.cells #[.int .i64 (m 0), .int .i64 (m 1), .int .i64 (m 2), .int .i64 (m 3), .int .i64 (m 4), .int .i64 (m 5)] 32)) (w.heap.size + 1 + 1) m := sc_six (sc_new (by simp))
  go_enter Tryd.func5, Tryd.ntmps5
  go_wp2_with fail
  refine (cA _).mono ?_
  rintro e1 w1 ⟨rfl, hb⟩
  replace X := tc_keep hb X
  replace K := tc_keep hb K
  replace S := sc_six (sc_keep hb (six_sc S))
  replace P := pl_keep hb P
  replace B := b_trans B hb
  clear hb
  have Z : TC (w1.alloc (Obj.cells #[.int .i64 z0, .int .i64 z1, .int .i64 z2] 23)) w1.heap.size z0 z1 z2 := tc_new rfl
  have hb : Below w1.heap.size w1 (w1.alloc (Obj.cells #[.int .i64 z0, .int .i64 z1, .int .i64 z2] 23)) := b_alloc (Below.refl _ _)
  replace X := tc_keep hb X
  replace K := tc_keep hb K
  replace S := sc_six (sc_keep hb (six_sc S))
  replace P := pl_keep hb P
  replace B := b_trans B hb
  clear hb
  go_wp2_with fail
  refine (cB _).mono ?_
  rintro e2 w2 ⟨rfl, hb⟩
  replace X := tc_keep hb X
  replace K := tc_keep hb K
  replace Z := tc_keep hb Z
  replace S := sc_six (sc_keep hb (six_sc S))
  replace P := pl_keep hb P
  replace B := b_trans B hb
  clear hb
  clear K
  have Y : TC (w2.alloc (Obj.cells #[.int .i64 u0, .int .i64 u1, .int .i64 u2] 23)) w2.heap.size u0 u1 u2 := tc_new rfl
  have hb : Below w2.heap.size w2 (w2.alloc (Obj.cells #[.int .i64 u0, .int .i64 u1, .int .i64 u2] 23)) := b_alloc (Below.refl _ _)
  replace X := tc_keep hb X
  replace Z := tc_keep hb Z
  replace S := sc_six (sc_keep hb (six_sc S))
  replace P := pl_keep hb P
  replace B := b_trans B hb
  clear hb
  go_wp2_with fail
  refine (cD _ P).mono ?_
  rintro e3 w3 ⟨rfl, hb⟩
  replace X := tc_keep hb X
  replace Y := tc_keep hb Y
  replace Z := tc_keep hb Z
  replace S := sc_six (sc_keep hb (six_sc S))
  replace P := pl_keep hb P
  replace B := b_trans B hb
  clear hb
  have D : SC6 (w3.alloc (Obj.cells #[.int .i64 M0, .int .i64 M1, .int .i64 M2, .int .i64 M3, .int .i64 M4, .int .i64 M5] 32)) w3.heap.size (mj M0 M1 M2 M3 M4 M5) := sc_six (sc_new (m := mj M0 M1 M2 M3 M4 M5) rfl)
  have hb : Below w3.heap.size w3 (w3.alloc (Obj.cells #[.int .i64 M0, .int .i64 M1, .int .i64 M2, .int .i64 M3, .int .i64 M4, .int .i64 M5] 32)) := b_alloc (Below.refl _ _)
  replace X := tc_keep hb X
  replace Y := tc_keep hb Y
  replace Z := tc_keep hb Z
  replace S := sc_six (sc_keep hb (six_sc S))
  replace P := pl_keep hb P
  replace B := b_trans B hb
  clear hb
  obtain ⟨D0, D1, D2, D3, D4, D5⟩ := D
  dsimp only [mj] at D0 D1 D2 D3 D4 D5
  have hve := vec_eq_self x0 x1 x2
  have hse := jsym_eq_self (m 0) (m 1) (m 2) (m 3) (m 4) (m 5)
  clear cA cB cD
  rcases hz with ⟨rfl, rfl, rfl, rfl⟩ | rfl <;> rcases hu with ⟨rfl, rfl, rfl, rfl⟩ | rfl <;> rcases hM with ⟨rfl, rfl, rfl, rfl, rfl, rfl, rfl, rfl⟩ | ⟨rfl, rfl⟩
  all_goals
    go_wp2_with fail
    refine (fixed_jos _ P).mono ?_
    rintro e4 w4 ⟨rfl, hb⟩
    replace S := sc_six (sc_keep hb (six_sc S))
    replace B := b_trans B hb
    clear hb
    go_wp2_with fail
    refine (cF _).mono ?_
    rintro e5 w5 ⟨rfl, hb⟩
    replace B := b_trans B hb
    clear hb
    go_wp2
    go_ret
    exact ⟨rfl, B⟩

theorem josephNothing_any (x0 x1 x2 k0 k1 k2 : Int) (m : Nat → Int) (hx0 : I64 x0) (hx1 : I64 x1) (hx2 : I64 x2) (hk0 : I64 k0) (hk1 : I64 k1) (hk2 : I64 k2) (hm : I6 m) (w : World) (hp : PL w) :
    Calls Tryd.prog 5 #[tv x0 x1 x2, tv k0 k1 k2, sv m] w (RetV (.bool true) w) := by
  obtain ⟨z0, z1, z2, e, cA, hz⟩ := state_gain x0 x1 x2 hx0 hx1 hx2
  obtain ⟨u0, u1, u2, f, cB, hu⟩ := state_still x0 x1 x2 k0 k1 k2 hx0 hx1 hx2 hk0 hk1 hk2
  obtain ⟨M0, M1, M2, M3, M4, M5, g, cD, hM⟩ := doubt_nil m hm
  exact nothing_go m x0 x1 x2 k0 k1 k2 z0 z1 z2 u0 u1 u2 M0 M1 M2 M3 M4 M5 e f g _ cA cB cD (fits_sref m hm) hz hu hM w hp

end Go.Proofs.YtplhienacfiiaaaDoor
