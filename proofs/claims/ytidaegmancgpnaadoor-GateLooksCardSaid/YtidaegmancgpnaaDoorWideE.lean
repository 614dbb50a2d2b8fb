/- Package wide: Up and Half: each call's answer, for every argument. -/
import Derived.Test.YtidaegmancgpnaaDoorWideD
import Derived.Test.YtidaegmancgpnaaDoorRegion
namespace Go.Proofs.YtidaegmancgpnaaDoor
open Go.RowKit Go.Shelf

theorem pow_div (n : Int) (n0 : 0 ≤ n) (n1 : n ≤ 127) : ∃ q : Int, 1 ≤ (2 : Int) ^ n.toNat ∧ 1 ≤ q ∧ 340282366920938463463374607431768211456 = 2 ^ n.toNat * q := by
  refine ⟨2 ^ (128 - n.toNat), ?_, ?_, ?_⟩
  · have : (0 : Int) < 2 ^ n.toNat := Int.pow_pos (by decide); omega
  · have : (0 : Int) < 2 ^ (128 - n.toNat) := Int.pow_pos (by decide); omega
  · rw [← Int.pow_add, show n.toNat + (128 - n.toNat) = 128 by omega]; decide

theorem up_back {a p q : Int} (p0 : 1 ≤ p) (e : 340282366920938463463374607431768211456 = p * q) : (w128 (a * p) / p = a) ↔ Fits (a * p) := by
  constructor
  · intro h
    have d : p * (w128 (a * p) / p) = w128 (a * p) := by
      apply Int.mul_ediv_cancel'
      have : w128 (a * p) = p * (a - q * ((a * p + 170141183460469231731687303715884105728) / 340282366920938463463374607431768211456)) := by
        rw [Int.mul_sub, ← Int.mul_assoc, ← e, Int.mul_comm p a]
        unfold w128; omega
      rw [this]; exact Int.dvd_mul_right p _
    rw [h, Int.mul_comm] at d
    rw [d]; exact w128_fits _
  · intro h
    rw [w128_of h, Int.mul_ediv_cancel _ (by omega)]

set_option maxHeartbeats 1000000 in
set_option maxRecDepth 10000 in
theorem up_arg (ah al n : Int) (c : n < 0 ∨ 127 < n) (w : World) :
    Calls Tryd.prog 33 #[wv ah al, .int .i64 n] w (RetWE 0 1 w) := by
  rcases c with c | c
  · go_enter Tryd.func33, Tryd.ntmps33
    go_wp2
    exact bodyPost_ret (v := .tuple #[wv 0 0, .int .i64 1]) (by simp [results, Tryd.results33, go_sem]) rfl ⟨_, _, rfl, isW_zero, b_alloc (b_alloc (Below.refl _ _))⟩
  · have c' : ¬ n < 0 := by omega
    have c2 : 128 ≤ n := by omega
    go_enter Tryd.func33, Tryd.ntmps33
    go_wp2
    exact bodyPost_ret (v := .tuple #[wv 0 0, .int .i64 1]) (by simp [results, Tryd.results33, go_sem]) rfl ⟨_, _, rfl, isW_zero, b_alloc (b_alloc (Below.refl _ _))⟩

set_option maxHeartbeats 2000000 in
set_option maxRecDepth 10000 in
theorem up_all (ah al a n : Int) (x : IsW ah al a) (n0 : 0 ≤ n) (n1 : n ≤ 127) (w : World) :
    Calls Tryd.prog 33 #[wv ah al, .int .i64 n] w (RetWE (fz (a * 2 ^ n.toNat)) (fe (a * 2 ^ n.toNat)) w) := by
  obtain ⟨q, p0, q0, e⟩ := pow_div n n0 n1
  have ub := up_back (a := a) p0 e
  obtain ⟨uh, ul, hu⟩ : ∃ uh ul, IsW uh ul (w128 (a * 2 ^ n.toNat)) := ⟨_, _, IsW.mk' (w128_fits _)⟩
  have cU := fun w => (up_any ah al a n x n0 n1 w).mono fun _ _ => retW_det hu
  have cD0 := down_any uh ul _ n hu n0 n1
  have n2 : ¬ n < 0 := by omega
  have n3 : ¬ 128 ≤ n := by omega
  by_cases f : Fits (a * 2 ^ n.toNat)
  · have hd : IsW ah al (w128 (a * 2 ^ n.toNat) / 2 ^ n.toNat) := by rw [ub.2 f]; exact x
    have cD := fun w => (cD0 w).mono fun _ _ => retW_det hd
    have E := Lib.hid (And.intro (fz_of f) (And.intro (fe_of f) (w128_of f)))
    clear cD0 ub e p0 q0 hd f x
    go_enter Tryd.func33, Tryd.ntmps33
    go_wp2_with (go_at_call 46; refine (cU _).mono ?_; rintro e w1 ⟨rfl, hb⟩; have k : WC w1 w.heap.size ah al := wc_keep hb (by simp [WC, go_sem, World.cell?_alloc_past]); have r1 : WC w1 (w.heap.size + 1) 0 0 := wc_keep hb (by simp [WC, go_sem]); have f1 : WF w1 (w.heap.size + 1) := wf_keep hb (h := 0) (l := 0) (by simp [WC, go_sem]) (by simp [WF, go_sem]))
    have B1 : Below w.heap.size w w1 := b_trans (b_alloc (b_alloc (Below.refl _ _))) hb
    have ku : WC (w1.alloc (Obj.cells #[.int .i64 uh, .int .u64 ul] 59)) w1.heap.size uh ul := by simp [WC, go_sem]
    go_region_held3 (fun w' => Below w.heap.size w w' ∧ WC w' w.heap.size ah al ∧ WC w' w1.heap.size uh ul) (first | assumption | exact s2_keep (by assumption) (by assumption) | exact s2_keep ⟨b_alloc B1, wc_alloc k, ku⟩ (b_drew (Below.refl _ _)))
      (first
        | (go_at_call 47; refine (cD _).mono ?_; rintro e w2 ⟨rfl, hb2⟩; have r2 := wc_keep hb2 (wc_alloc r1); have f2 := wf_keep hb2 (wc_alloc r1) (wf_keep (b_alloc (Below.refl _ _)) r1 f1)))
    rename_i hS
    go_wp2
    refine bodyPost_ret (v := .tuple #[wv uh ul, .int .i64 0]) (by simp [results, Tryd.results33, go_sem, r2]) rfl ⟨uh, ul, ?_, ?_, b_set (b_set hS.1 (by simp)) (by simp)⟩
    · rw [E.out.2.1]
    · rw [E.out.1]; rw [E.out.2.2] at hu; exact hu
  · obtain ⟨dh, dl, hd⟩ : ∃ dh dl, IsW dh dl (w128 (a * 2 ^ n.toNat) / 2 ^ n.toNat) := by
      have := (pq_of n n0)
      refine ⟨_, _, IsW.mk' ?_⟩
      have := w128_fits (a * 2 ^ n.toNat)
      generalize w128 (a * 2 ^ n.toNat) = z at *
      obtain ⟨z0, z1⟩ := this
      refine ⟨?_, ?_⟩
      · exact Int.le_ediv_of_mul_le (by omega) (by omega)
      · have : z / 2 ^ n.toNat < 170141183460469231731687303715884105728 := Int.ediv_lt_of_lt_mul (by omega) (by omega)
        omega
    have cD := fun w => (cD0 w).mono fun _ _ => retW_det hd
    have ne : ¬ (dh = ah ∧ dl = al) := fun h => f (ub.1 ((hd.inj x).1 h))
    have nf : ¬ (-170141183460469231731687303715884105728 ≤ a * 2 ^ n.toNat ∧ a * 2 ^ n.toNat ≤ 170141183460469231731687303715884105727) := fun h => f ⟨h.1, h.2⟩
    have E := Lib.hid (And.intro (fz_no nf) (fe_no nf))
    have g : ((dh == ah) = false) ∨ ((dh == ah) = true ∧ (dl == al) = false) := by
      by_cases h1 : dh = ah
      · exact Or.inr ⟨by simpa using h1, by rw [beq_eq_false_iff_ne]; exact fun h2 => ne ⟨h1, h2⟩⟩
      · exact Or.inl (by rw [beq_eq_false_iff_ne]; exact h1)
    clear cD0 ub e p0 q0 f ne nf
    rcases g with g | ⟨g1, g⟩
    all_goals
      clear x
      go_enter Tryd.func33, Tryd.ntmps33
      go_wp2_with (go_at_call 46; refine (cU _).mono ?_; rintro e w1 ⟨rfl, hb⟩; have k : WC w1 w.heap.size ah al := wc_keep hb (by simp [WC, go_sem, World.cell?_alloc_past]); have r1 : WC w1 (w.heap.size + 1) 0 0 := wc_keep hb (by simp [WC, go_sem]); have f1 : WF w1 (w.heap.size + 1) := wf_keep hb (h := 0) (l := 0) (by simp [WC, go_sem]) (by simp [WF, go_sem]))
      have B1 : Below w.heap.size w w1 := b_trans (b_alloc (b_alloc (Below.refl _ _))) hb
      have ku : WC (w1.alloc (Obj.cells #[.int .i64 uh, .int .u64 ul] 59)) w1.heap.size uh ul := by simp [WC, go_sem]
      go_region_held3 (fun w' => Below w.heap.size w w' ∧ WC w' w.heap.size ah al ∧ WC w' w1.heap.size uh ul) (first | assumption | exact s2_keep (by assumption) (by assumption) | exact s2_keep ⟨b_alloc B1, wc_alloc k, ku⟩ (b_drew (Below.refl _ _)))
        (first
          | (go_at_call 47; refine (cD _).mono ?_; rintro e w2 ⟨rfl, hb2⟩; have r2 := wc_keep hb2 (wc_alloc r1); have f2 := wf_keep hb2 (wc_alloc r1) (wf_keep (b_alloc (Below.refl _ _)) r1 f1)))
      rename_i hS
      go_wp2
      refine bodyPost_ret (v := .tuple #[wv 0 0, .int .i64 3]) (by simp [results, Tryd.results33, go_sem, r2]) rfl ⟨0, 0, ?_, ?_, b_set (b_set hS.1 (by simp)) (by simp)⟩
      · rw [E.out.2]
      · rw [E.out.1]; exact isW_zero

/-- A through B, rounded to even; B above 0. -/
def evn (A B : Int) : Int := near (A / B) (2 * (A % B) - B)

theorem near_sign {q s t : Int} (h : (0 < s ↔ 0 < t) ∧ (s = 0 ↔ t = 0)) : near q s = near q t := by
  unfold near
  simp only [h.1, h.2]

theorem cmp3_sign (a b : Int) : (0 < cmp3 a b ↔ 0 < a - b) ∧ (cmp3 a b = 0 ↔ a - b = 0) := by
  unfold cmp3
  split
  · omega
  · split <;> omega

theorem fits_div {a p : Int} (x : Fits a) (p0 : 1 ≤ p) : Fits (a / p) := by
  obtain ⟨x0, x1⟩ := x
  refine ⟨Int.le_ediv_of_mul_le (by omega) (by omega), ?_⟩
  have : a / p < 170141183460469231731687303715884105728 := Int.ediv_lt_of_lt_mul (by omega) (by omega)
  omega

/-- The numbers of Half: q, what is left, one half. -/
theorem half_nums {a p r : Int} (x : Fits a) (p0 : 2 ≤ p) (p1 : p ≤ 170141183460469231731687303715884105728) (pr : r * p = 170141183460469231731687303715884105728) :
    w128 (a / p * p) = a / p * p ∧ w128 (a - a / p * p) = a % p ∧ Fits (a / p) ∧ Fits (a % p) ∧ Fits (a / p + 1) := by
  have e : a / p * p + a % p = a := by rw [Int.mul_comm]; exact Int.mul_ediv_add_emod a p
  have r0 : 0 ≤ a % p := Int.emod_nonneg _ (by omega)
  have r1 : a % p < p := Int.emod_lt_of_pos _ (by omega)
  obtain ⟨x0, x1⟩ := x
  have q1 : a / p < 85070591730234615865843651857942052864 := Int.ediv_lt_of_lt_mul (by omega) (by omega)
  have f1 : Fits (a / p) := fits_div ⟨x0, x1⟩ (by omega)
  have f2 : Fits (a % p) := ⟨by omega, by omega⟩
  have lo : -170141183460469231731687303715884105728 ≤ a / p * p := by
    have : -r ≤ a / p := Int.le_ediv_of_mul_le (by omega) (by rw [Int.neg_mul]; omega)
    have := Int.mul_le_mul_of_nonneg_right this (show 0 ≤ p by omega)
    rw [Int.neg_mul] at this
    omega
  refine ⟨w128_of ⟨lo, by omega⟩, ?_, f1, f2, ⟨by have := f1.lo; omega, by omega⟩⟩
  rw [show a - a / p * p = a % p by omega]
  exact w128_of f2

theorem pow127 (n : Int) (n0 : 1 ≤ n) (n1 : n ≤ 127) : 2 ≤ (2 : Int) ^ n.toNat ∧ (2 : Int) ^ n.toNat ≤ 170141183460469231731687303715884105728 ∧ (2 : Int) ^ (127 - n).toNat * 2 ^ n.toNat = 170141183460469231731687303715884105728 ∧ (2 : Int) ^ n.toNat = 2 * 2 ^ (n - 1).toNat ∧ Fits (2 ^ (n - 1).toNat) := by
  have e1 : (2 : Int) ^ (127 - n).toNat * 2 ^ n.toNat = 170141183460469231731687303715884105728 := by
    rw [← Int.pow_add, show (127 - n).toNat + n.toNat = 127 by omega]; decide
  have e2 : (2 : Int) ^ n.toNat = 2 * 2 ^ (n - 1).toNat := by
    rw [show n.toNat = (n - 1).toNat + 1 by omega, Int.pow_succ, Int.mul_comm]
  have h1 : (0 : Int) < 2 ^ (n - 1).toNat := Int.pow_pos (by decide)
  have h2 : (0 : Int) < 2 ^ (127 - n).toNat := Int.pow_pos (by decide)
  have h3 : 1 * (2 : Int) ^ n.toNat ≤ 2 ^ (127 - n).toNat * 2 ^ n.toNat := Int.mul_le_mul_of_nonneg_right (by omega) (by omega)
  exact ⟨by omega, by omega, e1, e2, ⟨by omega, by omega⟩⟩

end Go.Proofs.YtidaegmancgpnaaDoor
