/- Look: the program's answer and the document's are one; GateLooks: the law's call answers true. -/
import Derived.Test.YtidaegmancgpnaaDoorGatD
namespace Go.Proofs.YtidaegmancgpnaaDoor
open Go.RowKit Go.Shelf

theorem look_all (x0 x1 x2 : Int) (m : Nat → Int) (a n : Int) (h0 : I64 x0) (h1 : I64 x1) (h2 : I64 x2) (hm : I6 m) (ha : I64 a) (hn : I64 n) :
    ∃ y s e : Int, (∀ w, PL w → Calls Tryd.prog 4 #[tv x0 x1 x2, sv m, .int .i64 a, .int .i64 n] w (RetV (.tuple #[.int .i64 y, .int .i64 s, .int .i64 e]) w)) ∧
      (∀ w, Calls Tryd.prog 5 #[tv x0 x1 x2, sv m, .int .i64 a, .int .i64 n] w (RetV (.tuple #[.int .i64 y, .int .i64 s, .int .i64 e]) w)) := by
  have v := fits3_vec x0 x1 x2 h0 h1 h2
  have v' := fits3_ref x0 x1 x2 h0 h1 h2
  have s := fits_gate m hm
  have s' := fits_sref m hm
  have f := fits_any a ha.1 ha.2
  have f' := fits_ref a ha.1 ha.2
  have g := fits_any n hn.1 hn.2
  have g' := fits_ref n hn.1 hn.2
  have t := fun w hp => at_ok m 0 0 0 (Or.inl ⟨rfl, rfl, rfl⟩) w hp
  have k := hm 0 (by decide)
  have u := sub_fix a x0 ha.1 ha.2 h0.1 h0.2
  have u' := sub_ref a x0 ha.1 ha.2 h0.1 h0.2
  have d := add_fix (m 0) n k.1 k.2 hn.1 hn.2
  have d' := add_ref (m 0) n k.1 k.2 hn.1 hn.2
  by_cases c0 : F3 x0 x1 x2
  rotate_left
  · rw [f3b_no c0] at v v'
    exact ⟨0, 0, 1, lookg_0 x0 x1 x2 m a n v, lookr_0 x0 x1 x2 m a n v'⟩
  rw [f3b_yes c0] at v v'
  by_cases c1 : F6 m
  rotate_left
  · rw [f6b_no c1] at s s'
    exact ⟨0, 0, 1, lookg_1 x0 x1 x2 m a n v s, lookr_1 x0 x1 x2 m a n v' s'⟩
  rw [f6b_yes c1] at s s'
  by_cases c2 : FitP a
  rotate_left
  · rw [fitb_no c2] at f f'
    exact ⟨0, 0, 1, lookg_2 x0 x1 x2 m a n v s f, lookr_2 x0 x1 x2 m a n v' s' f'⟩
  rw [fitb_yes c2] at f f'
  by_cases c3 : FitP n
  rotate_left
  · rw [fitb_no c3] at g g'
    exact ⟨0, 0, 1, lookg_3 x0 x1 x2 m a n v s f g, lookr_3 x0 x1 x2 m a n v' s' f' g'⟩
  rw [fitb_yes c3] at g g'
  by_cases n1 : n < 1
  · exact ⟨0, 0, 1, lookg_4 x0 x1 x2 m a n v s f g t n1, lookr_4 x0 x1 x2 m a n v' s' f' g' n1⟩
  by_cases m0 : m 0 < 0
  · exact ⟨0, 0, 1, lookg_5 x0 x1 x2 m a n v s f g t n1 m0, lookr_5 x0 x1 x2 m a n v' s' f' g' n1 m0⟩
  rw [(gz_of ⟨c2, c0.1⟩ _).1, (gz_of ⟨c2, c0.1⟩ _).2] at u u'
  rw [(gz_of ⟨c1 0 (by decide), c3⟩ _).1, (gz_of ⟨c1 0 (by decide), c3⟩ _).2] at d d'
  by_cases c4 : FitP (a - x0)
  rotate_left
  · rw [(nz_no c4).1, (nz_no c4).2] at u u'
    exact ⟨0, 0, 3, lookg_6 x0 x1 x2 m a n v s f g t u n1 m0, lookr_6 x0 x1 x2 m a n _ _ v' s' f' g' u' d' n1 m0⟩
  rw [(nz_of c4).1, (nz_of c4).2] at u u'
  by_cases c5 : FitP (m 0 + n)
  rotate_left
  · rw [(nz_no c5).1, (nz_no c5).2] at d d'
    exact ⟨0, 0, 3, lookg_7 x0 x1 x2 m a n _ v s f g t u d n1 m0, lookr_7 x0 x1 x2 m a n _ v' s' f' g' u' d' n1 m0⟩
  rw [(nz_of c5).1, (nz_of c5).2] at d d'
  exact ⟨_, _, 0, lookg_8 x0 x1 x2 m a n _ _ v s f g t u d n1 m0, lookr_8 x0 x1 x2 m a n _ _ v' s' f' g' u' d' n1 m0⟩

set_option maxHeartbeats 2000000 in
set_option maxRecDepth 10000 in
theorem gateLooks_go (x0 x1 x2 : Int) (m : Nat → Int) (a n y s e : Int)
    (cG : ∀ w, PL w → Calls Tryd.prog 4 #[tv x0 x1 x2, sv m, .int .i64 a, .int .i64 n] w (RetV (.tuple #[.int .i64 y, .int .i64 s, .int .i64 e]) w))
    (cR : ∀ w, Calls Tryd.prog 5 #[tv x0 x1 x2, sv m, .int .i64 a, .int .i64 n] w (RetV (.tuple #[.int .i64 y, .int .i64 s, .int .i64 e]) w)) (w : World) (hp : PL w) :
    Calls Tryd.prog 3 #[tv x0 x1 x2, sv m, .agg #[.int .i64 a, .int .i64 n]] w (RetV (.bool true) w) := by
  have B : Below w.heap.size w (((w.alloc (Obj.cells #[.int .i64 x0, .int .i64 x1, .int .i64 x2] 23)).alloc (Obj.cells #[.int .i64 (m 0), .int .i64 (m 1), .int .i64 (m 2), .int .i64 (m 3), .int .i64 (m 4), .int .i64 (m 5)] 25)).alloc (Obj.cells #[.int .i64 a, .int .i64 n] 26)) := b_alloc (b_alloc (b_alloc (Below.refl _ _)))
  have P := pl_keep B hp
  go_enter Tryd.func3, Tryd.ntmps3
  have T : TC (((w.alloc (Obj.cells #[.int .i64 x0, .int .i64 x1, .int .i64 x2] 23)).alloc (Obj.cells #[.int .i64 (m 0), .int .i64 (m 1), .int .i64 (m 2), .int .i64 (m 3), .int .i64 (m 4), .int .i64 (m 5)] 25)).alloc (Obj.cells #[.int .i64 a, .int .i64 n] 26)) w.heap.size x0 x1 x2 := tc_alloc (tc_alloc (tc_new rfl))
  have S : SC6 (((w.alloc (Obj.cells #[.int .i64 x0, .int .i64 x1, .int .i64 x2] 23)).alloc (Obj.cells #[.int .i64 (m 0), .int .i64 (m 1), .int .i64 (m 2), .int .i64 (m 3), .int .i64 (m 4), .int .i64 (m 5)] 25)).alloc (Obj.cells #[.int .i64 a, .int .i64 n] 26)) (w.heap.size + 1) m := sc_six (sc_alloc (sc_new (by simp)))
  have Q0 : (((w.alloc (Obj.cells #[.int .i64 x0, .int .i64 x1, .int .i64 x2] 23)).alloc (Obj.cells #[.int .i64 (m 0), .int .i64 (m 1), .int .i64 (m 2), .int .i64 (m 3), .int .i64 (m 4), .int .i64 (m 5)] 25)).alloc (Obj.cells #[.int .i64 a, .int .i64 n] 26)).cell? ⟨w.heap.size + 2, 0, none⟩ = some (.int .i64 a) := by simp [go_sem]
  have Q1 : (((w.alloc (Obj.cells #[.int .i64 x0, .int .i64 x1, .int .i64 x2] 23)).alloc (Obj.cells #[.int .i64 (m 0), .int .i64 (m 1), .int .i64 (m 2), .int .i64 (m 3), .int .i64 (m 4), .int .i64 (m 5)] 25)).alloc (Obj.cells #[.int .i64 a, .int .i64 n] 26)).cell? ⟨w.heap.size + 2, 1, none⟩ = some (.int .i64 n) := by simp [go_sem]
  go_wp2_with fail
  refine (cG _ P).mono ?_
  rintro e w1 ⟨rfl, hb1⟩
  replace T := tc_keep hb1 T
  replace S := sc_six (sc_keep hb1 (six_sc S))
  replace P := pl_keep hb1 P
  replace Q0 := cell_keep hb1 Q0
  replace Q1 := cell_keep hb1 Q1
  replace B := b_trans B hb1
  clear hb1
  go_wp2_with fail
  refine (cR _).mono ?_
  rintro e w1 ⟨rfl, hb1⟩
  replace T := tc_keep hb1 T
  replace S := sc_six (sc_keep hb1 (six_sc S))
  replace P := pl_keep hb1 P
  replace Q0 := cell_keep hb1 Q0
  replace Q1 := cell_keep hb1 Q1
  replace B := b_trans B hb1
  clear hb1
  clear T S P Q0 Q1 cG cR
  go_wp2_with fail
  refine (fixed_gate _).mono ?_
  rintro e w1 ⟨rfl, hb1⟩
  replace B := b_trans B hb1
  clear hb1
  go_wp2
  go_ret
  exact ⟨by simp, B⟩

theorem gateLooks_any (x0 x1 x2 : Int) (m : Nat → Int) (a n : Int) (h0 : I64 x0) (h1 : I64 x1) (h2 : I64 x2) (hm : I6 m) (ha : I64 a) (hn : I64 n) (w : World) (hp : PL w) :
    Calls Tryd.prog 3 #[tv x0 x1 x2, sv m, .agg #[.int .i64 a, .int .i64 n]] w (RetV (.bool true) w) := by
  obtain ⟨y, s, e, cG, cR⟩ := look_all x0 x1 x2 m a n h0 h1 h2 hm ha hn
  exact gateLooks_go x0 x1 x2 m a n y s e cG cR w hp

end Go.Proofs.YtidaegmancgpnaaDoor
