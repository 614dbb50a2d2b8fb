/- Doubts within bounds, as numbers alone: what comes of one, that it is sound, that it stays, and which one stays. -/
import Derived.Test.YtoohaphaeccafaaRoot
import Derived.Test.YtoohaphaeccafaaSymD
namespace Go.Proofs.Ytoohaphaeccafaa

/-- A number not below f, and not above c. -/
def tdg (x f c : Int) : Int := if c < (if x < f then f else x) then c else (if x < f then f else x)
theorem tdg_in {x f c : Int} (h : f ≤ c) : f ≤ tdg x f c ∧ tdg x f c ≤ c := by
  unfold tdg
  by_cases k : x < f
  · rw [if_pos k]; by_cases q : c < f
    · omega
    · rw [if_neg q]; omega
  · rw [if_neg k]; by_cases q : c < x
    · rw [if_pos q]; omega
    · rw [if_neg q]; omega
theorem tdg_id {x f c : Int} (h : f ≤ x) (k : x ≤ c) : tdg x f c = x := by
  unfold tdg
  rw [if_neg (show ¬ x < f by omega), if_neg (by omega)]
theorem clz_bd {x m : Int} (h : 0 ≤ m) : -m ≤ clz x m ∧ clz x m ≤ m := by
  unfold clz
  rw [if_neg (by omega)]
  by_cases k : x < -m
  · rw [if_pos k]; omega
  · rw [if_neg k]; by_cases q : m < x
    · rw [if_pos q]; omega
    · rw [if_neg q]; omega
theorem clz_id {x m : Int} (h : -m ≤ x) (k : x ≤ m) : clz x m = x := by
  unfold clz
  rw [if_neg (by omega), if_neg (by omega), if_neg (by omega)]
theorem sq_abs {x r : Int} (h : -r ≤ x) (k : x ≤ r) : x * x ≤ r * r := by
  by_cases c : 0 ≤ x
  · exact sq_le c k
  · have := sq_le (a := -x) (b := r) (by omega) (by omega)
    rwa [Int.neg_mul_neg] at this
theorem root_abs {z r x : Int} (R : IsRoot z r) : x * x ≤ z ↔ -r ≤ x ∧ x ≤ r := by
  have r0 := R.r0
  constructor
  · intro h
    by_cases c : 0 ≤ x
    · exact ⟨by omega, R.ge h⟩
    · have := R.ge (l := -x) (by rwa [Int.neg_mul_neg])
      omega
  · rintro ⟨h, k⟩
    exact Int.le_trans (sq_abs h k) R.lo
/-- A floor and a ceiling that may be. -/
abbrev FB (f c : Int) : Prop := 0 ≤ f ∧ f ≤ c ∧ c ≤ 288230376151711744
theorem root_fits {x y r : Int} (_x0 : 0 ≤ x) (x1 : x ≤ 288230376151711744) (y0 : 0 ≤ y) (y1 : y ≤ 288230376151711744) (R : IsRoot (x * y) r) : 0 ≤ r ∧ r ≤ 288230376151711744 := by
  have h : x * y ≤ 288230376151711744 * 288230376151711744 := Int.mul_le_mul x1 y1 y0 (by decide)
  have := R.lt (h := 288230376151711745) (by decide) (by omega)
  exact ⟨R.r0, by omega⟩

/-- A doubt within bounds; a, b, c: the roots for the entries 01, 02, 12. -/
def tmz (m : Nat → Int) (f0 f1 f2 c0 c1 c2 a b c : Int) : Nat → Int := fun i =>
  if i = 0 then tdg (m 0) f0 c0 else if i = 1 then clz (m 1) a else if i = 2 then clz (m 2) b else if i = 3 then tdg (m 3) f1 c1 else if i = 4 then clz (m 4) c else tdg (m 5) f2 c2
theorem tmz_lits (m : Nat → Int) (f0 f1 f2 c0 c1 c2 a b c : Int) : tmz m f0 f1 f2 c0 c1 c2 a b c 0 = tdg (m 0) f0 c0 ∧ tmz m f0 f1 f2 c0 c1 c2 a b c 1 = clz (m 1) a ∧ tmz m f0 f1 f2 c0 c1 c2 a b c 2 = clz (m 2) b ∧
    tmz m f0 f1 f2 c0 c1 c2 a b c 3 = tdg (m 3) f1 c1 ∧ tmz m f0 f1 f2 c0 c1 c2 a b c 4 = clz (m 4) c ∧ tmz m f0 f1 f2 c0 c1 c2 a b c 5 = tdg (m 5) f2 c2 := ⟨rfl, rfl, rfl, rfl, rfl, rfl⟩
/-- The roots. -/
structure TR (m : Nat → Int) (f0 f1 f2 c0 c1 c2 a b c : Int) : Prop where
  a : IsRoot ((tdg (m 0) f0 c0 - f0) * (tdg (m 3) f1 c1 - f1)) a
  b : IsRoot ((tdg (m 0) f0 c0 - f0) * (tdg (m 5) f2 c2 - f2)) b
  c : IsRoot ((tdg (m 3) f1 c1 - f1) * (tdg (m 5) f2 c2 - f2)) c
section
variable {m : Nat → Int} {f0 f1 f2 c0 c1 c2 a b c : Int}
theorem tr_some (m : Nat → Int) (h0 : FB f0 c0) (h1 : FB f1 c1) (h2 : FB f2 c2) : ∃ a b c, TR m f0 f1 f2 c0 c1 c2 a b c := by
  have d0 := tdg_in (x := m 0) h0.2.1
  have d1 := tdg_in (x := m 3) h1.2.1
  have d2 := tdg_in (x := m 5) h2.2.1
  obtain ⟨a, ha⟩ := root_any (Int.mul_nonneg (show 0 ≤ tdg (m 0) f0 c0 - f0 by omega) (show 0 ≤ tdg (m 3) f1 c1 - f1 by omega))
  obtain ⟨b, hb⟩ := root_any (Int.mul_nonneg (show 0 ≤ tdg (m 0) f0 c0 - f0 by omega) (show 0 ≤ tdg (m 5) f2 c2 - f2 by omega))
  obtain ⟨c, hc⟩ := root_any (Int.mul_nonneg (show 0 ≤ tdg (m 3) f1 c1 - f1 by omega) (show 0 ≤ tdg (m 5) f2 c2 - f2 by omega))
  exact ⟨a, b, c, ha, hb, hc⟩
theorem tr_fits (h0 : FB f0 c0) (h1 : FB f1 c1) (h2 : FB f2 c2) (R : TR m f0 f1 f2 c0 c1 c2 a b c) : (0 ≤ a ∧ a ≤ 288230376151711744) ∧ (0 ≤ b ∧ b ≤ 288230376151711744) ∧ (0 ≤ c ∧ c ≤ 288230376151711744) := by
  have d0 := tdg_in (x := m 0) h0.2.1
  have d1 := tdg_in (x := m 3) h1.2.1
  have d2 := tdg_in (x := m 5) h2.2.1
  exact ⟨root_fits (by omega) (by omega) (by omega) (by omega) R.a, root_fits (by omega) (by omega) (by omega) (by omega) R.b, root_fits (by omega) (by omega) (by omega) (by omega) R.c⟩
/-- What is tamed is sound. -/
theorem tmz_snd (h0 : FB f0 c0) (h1 : FB f1 c1) (h2 : FB f2 c2) (R : TR m f0 f1 f2 c0 c1 c2 a b c) : Snd (tmz m f0 f1 f2 c0 c1 c2 a b c) f0 f1 f2 := by
  obtain ⟨e0, e1, e2, e3, e4, e5⟩ := tmz_lits m f0 f1 f2 c0 c1 c2 a b c
  have d0 := tdg_in (x := m 0) h0.2.1
  have d1 := tdg_in (x := m 3) h1.2.1
  have d2 := tdg_in (x := m 5) h2.2.1
  obtain ⟨ha, hb, hc⟩ := tr_fits h0 h1 h2 R
  have k1 := clz_bd (x := m 1) ha.1
  have k2 := clz_bd (x := m 2) hb.1
  have k4 := clz_bd (x := m 4) hc.1
  refine ⟨six (P := fun i => FitP (tmz m f0 f1 f2 c0 c1 c2 a b c i)) ?_ ?_ ?_ ?_ ?_ ?_, ?_, ?_, ?_, ?_, ?_, ?_⟩
  · rw [e0]; constructor <;> omega
  · rw [e1]; constructor <;> omega
  · rw [e2]; constructor <;> omega
  · rw [e3]; constructor <;> omega
  · rw [e4]; constructor <;> omega
  · rw [e5]; constructor <;> omega
  · rw [e0]; exact d0.1
  · rw [e3]; exact d1.1
  · rw [e5]; exact d2.1
  · rw [e0, e1, e3, Int.mul_comm (tdg (m 3) f1 c1 - f1)]; exact (root_abs R.a).2 k1
  · rw [e0, e2, e5, Int.mul_comm (tdg (m 5) f2 c2 - f2)]; exact (root_abs R.b).2 k2
  · rw [e3, e4, e5, Int.mul_comm (tdg (m 5) f2 c2 - f2)]; exact (root_abs R.c).2 k4
/-- Which doubts stay. -/
theorem tmz_stays (h0 : FB f0 c0) (h1 : FB f1 c1) (h2 : FB f2 c2) (R : TR m f0 f1 f2 c0 c1 c2 a b c) :
    (∀ i, i < 6 → tmz m f0 f1 f2 c0 c1 c2 a b c i = m i) ↔ (m 0 ≤ c0 ∧ m 3 ≤ c1 ∧ m 5 ≤ c2) ∧ Snd m f0 f1 f2 := by
  obtain ⟨e0, e1, e2, e3, e4, e5⟩ := tmz_lits m f0 f1 f2 c0 c1 c2 a b c
  constructor
  · intro h
    have S := tmz_snd h0 h1 h2 R
    have d0 := (tdg_in (x := m 0) h0.2.1).2
    have d1 := (tdg_in (x := m 3) h1.2.1).2
    have d2 := (tdg_in (x := m 5) h2.2.1).2
    rw [← e0, h 0 (by decide)] at d0
    rw [← e3, h 3 (by decide)] at d1
    rw [← e5, h 5 (by decide)] at d2
    obtain ⟨s, s0, s1, s2, s3, s4, s5⟩ := S
    rw [h 0 (by decide), h 1 (by decide), h 3 (by decide)] at s3
    rw [h 0 (by decide), h 2 (by decide), h 5 (by decide)] at s4
    rw [h 3 (by decide), h 4 (by decide), h 5 (by decide)] at s5
    rw [h 0 (by decide)] at s0
    rw [h 3 (by decide)] at s1
    rw [h 5 (by decide)] at s2
    exact ⟨⟨d0, d1, d2⟩, fun i hi => by have := s i hi; rwa [h i hi] at this, s0, s1, s2, s3, s4, s5⟩
  · rintro ⟨⟨u0, u1, u2⟩, _, s0, s1, s2, s3, s4, s5⟩
    have q0 := tdg_id s0 u0
    have q1 := tdg_id s1 u1
    have q2 := tdg_id s2 u2
    have Ra := R.a
    have Rb := R.b
    have Rc := R.c
    rw [q0, q1, Int.mul_comm] at Ra
    rw [q0, q2, Int.mul_comm] at Rb
    rw [q1, q2, Int.mul_comm] at Rc
    have k1 := (root_abs Ra).1 s3
    have k2 := (root_abs Rb).1 s4
    have k4 := (root_abs Rc).1 s5
    exact six (P := fun i => tmz m f0 f1 f2 c0 c1 c2 a b c i = m i) (e0.trans q0) (e1.trans (clz_id k1.1 k1.2)) (e2.trans (clz_id k2.1 k2.2)) (e3.trans q1) (e4.trans (clz_id k4.1 k4.2)) (e5.trans q2)
/-- The roots of what is tamed are the same. -/
theorem tr_again (h0 : FB f0 c0) (h1 : FB f1 c1) (h2 : FB f2 c2) (R : TR m f0 f1 f2 c0 c1 c2 a b c) : TR (tmz m f0 f1 f2 c0 c1 c2 a b c) f0 f1 f2 c0 c1 c2 a b c := by
  obtain ⟨e0, _, _, e3, _, e5⟩ := tmz_lits m f0 f1 f2 c0 c1 c2 a b c
  have d0 := tdg_in (x := m 0) h0.2.1
  have d1 := tdg_in (x := m 3) h1.2.1
  have d2 := tdg_in (x := m 5) h2.2.1
  have q0 : tdg (tmz m f0 f1 f2 c0 c1 c2 a b c 0) f0 c0 = tdg (m 0) f0 c0 := by rw [e0]; exact tdg_id d0.1 d0.2
  have q1 : tdg (tmz m f0 f1 f2 c0 c1 c2 a b c 3) f1 c1 = tdg (m 3) f1 c1 := by rw [e3]; exact tdg_id d1.1 d1.2
  have q2 : tdg (tmz m f0 f1 f2 c0 c1 c2 a b c 5) f2 c2 = tdg (m 5) f2 c2 := by rw [e5]; exact tdg_id d2.1 d2.2
  exact ⟨by rw [q0, q1]; exact R.a, by rw [q0, q2]; exact R.b, by rw [q1, q2]; exact R.c⟩
/-- What is tamed stays. -/
theorem tmz_again (h0 : FB f0 c0) (h1 : FB f1 c1) (h2 : FB f2 c2) (R : TR m f0 f1 f2 c0 c1 c2 a b c) :
    ∀ i, i < 6 → tmz (tmz m f0 f1 f2 c0 c1 c2 a b c) f0 f1 f2 c0 c1 c2 a b c i = tmz m f0 f1 f2 c0 c1 c2 a b c i := by
  obtain ⟨e0, _, _, e3, _, e5⟩ := tmz_lits m f0 f1 f2 c0 c1 c2 a b c
  have d0 := tdg_in (x := m 0) h0.2.1
  have d1 := tdg_in (x := m 3) h1.2.1
  have d2 := tdg_in (x := m 5) h2.2.1
  exact (tmz_stays h0 h1 h2 (tr_again h0 h1 h2 R)).2 ⟨⟨by rw [e0]; exact d0.2, by rw [e3]; exact d1.2, by rw [e5]; exact d2.2⟩, tmz_snd h0 h1 h2 R⟩
end
end Go.Proofs.Ytoohaphaeccafaa
