/- FixOne: what the law's call answers: true, for every three integers. -/
import Derived.Test.YtlgnenogieehnaaFixB
import Derived.Test.YtlgnenogieehnaaBack
namespace Go.Proofs.Ytlgnenogieehnaa
open Go.RowKit Go.Shelf

theorem fixed_fix (w : World) : Calls Try.prog 38 #[] w (RetV (.bool true) w) := by
  have cM : ∀ w, Calls Try.prog 41 #[.int .i64 1649267441664, .int .i64 1649267441664] w (RetV (.tuple #[.int .i64 2473901162496, .int .i64 0]) w) := fun w => by
    have := mul_fix 1649267441664 1649267441664 (by decide) (by decide) (by decide) (by decide) w
    rwa [show gz 1649267441664 1649267441664 (evn (1649267441664 * 1649267441664) 1099511627776) = 2473901162496 by decide, show ge 1649267441664 1649267441664 (evn (1649267441664 * 1649267441664) 1099511627776) = 0 by decide] at this
  go_enter Try.func38, Try.ntmps38
  go_wp2_with fail
  refine (cM _).mono ?_
  rintro e w1 ⟨rfl, hb1⟩
  go_wp2
  go_ret
  exact ⟨rfl, hb1⟩

theorem near_mono {q s t : Int} (h : s ≤ t) : near q s ≤ near q t := by
  unfold near; split <;> split <;> omega
theorem near_bd (q s : Int) : q ≤ near q s ∧ near q s ≤ q + 1 := by unfold near; split <;> omega
theorem evn_mono {A C B : Int} (h : A ≤ C) (hB : 0 < B) : evn A B ≤ evn C B := by
  have h1 : A / B ≤ C / B := Int.ediv_le_ediv hB h
  unfold evn
  by_cases e : A / B = C / B
  · have ha := Int.mul_ediv_add_emod A B
    have hc := Int.mul_ediv_add_emod C B
    rw [e] at ha ⊢
    exact near_mono (by omega)
  · have h2 := (near_bd (A / B) (2 * (A % B) - B)).2
    have h3 := (near_bd (C / B) (2 * (C % B) - B)).1
    omega
theorem evn_mul (a : Int) {B : Int} (hB : 0 < B) : evn (a * B) B = a := by
  unfold evn near
  rw [Int.mul_ediv_cancel _ (by omega), Int.mul_emod_left, if_neg (by omega)]
theorem gz_comm (a b x : Int) : gz a b x = gz b a x ∧ ge a b x = ge b a x := by
  unfold gz ge
  by_cases h : FitP a ∧ FitP b
  · rw [if_pos h, if_pos h, if_pos ⟨h.2, h.1⟩, if_pos ⟨h.2, h.1⟩]; exact ⟨rfl, rfl⟩
  · rw [if_neg h, if_neg h, if_neg (fun k => h ⟨k.2, k.1⟩), if_neg (fun k => h ⟨k.2, k.1⟩)]; exact ⟨rfl, rfl⟩
theorem ge_ok {a b x : Int} (h : ge a b x = 0) : gz a b x = x ∧ FitP a ∧ FitP b ∧ FitP x := by
  unfold ge at h
  by_cases c : FitP a ∧ FitP b
  · rw [if_pos c] at h
    unfold ne at h
    by_cases d : FitP x
    · exact ⟨by rw [(gz_of c x).1, (nz_of d).1], c.1, c.2, d⟩
    · rw [if_neg d] at h; cases h
  · rw [if_neg c] at h; cases h

set_option maxHeartbeats 4000000 in
theorem one_yes (a b c x g z i : Int) (a0 : -9223372036854775808 ≤ a) (a1 : a ≤ 9223372036854775807) (ca : FitP a)
    (M1 : ∀ w, Calls Try.prog 41 #[.int .i64 a, .int .i64 1099511627776] w (RetV (.tuple #[.int .i64 a, .int .i64 0]) w))
    (D1 : ∀ w, Calls Try.prog 43 #[.int .i64 a, .int .i64 1099511627776] w (RetV (.tuple #[.int .i64 a, .int .i64 0]) w))
    (M2 : ∀ w, Calls Try.prog 41 #[.int .i64 a, .int .i64 b] w (RetV (.tuple #[.int .i64 x, .int .i64 g]) w))
    (M3 : ∀ w, Calls Try.prog 41 #[.int .i64 b, .int .i64 a] w (RetV (.tuple #[.int .i64 x, .int .i64 g]) w))
    (M4 : ∀ w, Calls Try.prog 41 #[.int .i64 c, .int .i64 b] w (RetV (.tuple #[.int .i64 z, .int .i64 i]) w))
    (fin : ¬ g = 0 ∨ g = 0 ∧ (¬ i = 0 ∨ i = 0 ∧ (b < 0 ∨ 0 ≤ b ∧ (c < a ∨ a ≤ c ∧ x ≤ z)))) (w : World) :
    Calls Try.prog 11 #[.int .i64 a, .int .i64 b, .int .i64 c] w (RetV (.bool true) w) := by
  have ea := Lib.hid (fitb_yes ca)
  have F := Lib.hid fin
  clear ca fin
  go_enter Try.func11, Try.ntmps11
  go_wp2_with fail
  refine (M1 _).mono ?_
  rintro e w1 ⟨rfl, hb1⟩
  go_wp2_with fail
  refine (D1 _).mono ?_
  rintro e w2 ⟨rfl, hb2⟩
  go_wp2_with fail
  refine (M2 _).mono ?_
  rintro e w3 ⟨rfl, hb3⟩
  go_wp2_with fail
  refine (M3 _).mono ?_
  rintro e w4 ⟨rfl, hb4⟩
  have B := b_trans (b_trans (b_trans hb1 hb2) hb3) hb4
  clear hb1 hb2 hb3 hb4
  go_wp2_with fail
  refine (fits_any a a0 a1 _).mono ?_
  rintro e w9 ⟨rfl, rfl⟩
  rw [ea.out]
  go_wp2_with fail
  refine (fits_any a a0 a1 _).mono ?_
  rintro e w9 ⟨rfl, rfl⟩
  rw [ea.out]
  go_wp2_with fail
  refine (M4 _).mono ?_
  rintro e w5 ⟨rfl, hb5⟩
  go_wp2_with fail
  refine (fixed_fix _).mono ?_
  rintro e w6 ⟨rfl, hb6⟩
  have B2 := b_trans (b_trans B hb5) hb6
  clear B hb5 hb6
  rcases F.out with h | ⟨rfl, h⟩
  · go_wp2
    go_ret
    exact ⟨by first | rfl | exact congrArg (fun b => Ending.returned (.bool b)) (by simp only [Bool.or_eq_true, decide_eq_true_eq]; omega), B2⟩
  · rcases h with h | ⟨rfl, h⟩
    · go_wp2
      go_ret
      exact ⟨by first | rfl | exact congrArg (fun b => Ending.returned (.bool b)) (by simp only [Bool.or_eq_true, decide_eq_true_eq]; omega), B2⟩
    · rcases h with h | ⟨h, h2⟩
      · go_wp2
        go_ret
        exact ⟨by first | rfl | exact congrArg (fun b => Ending.returned (.bool b)) (by simp only [Bool.or_eq_true, decide_eq_true_eq]; omega), B2⟩
      · rcases h2 with h2 | ⟨h2, h3⟩
        · go_wp2
          go_ret
          exact ⟨by first | rfl | exact congrArg (fun b => Ending.returned (.bool b)) (by simp only [Bool.or_eq_true, decide_eq_true_eq]; omega), B2⟩
        · go_wp2
          go_ret
          exact ⟨by first | rfl | exact congrArg (fun b => Ending.returned (.bool b)) (by simp only [Bool.or_eq_true, decide_eq_true_eq]; omega), B2⟩
set_option maxHeartbeats 4000000 in
theorem one_no (a b c z i : Int) (a0 : -9223372036854775808 ≤ a) (a1 : a ≤ 9223372036854775807) (ca : ¬ FitP a)
    (M1 : ∀ w, Calls Try.prog 41 #[.int .i64 a, .int .i64 1099511627776] w (RetV (.tuple #[.int .i64 0, .int .i64 1]) w))
    (D1 : ∀ w, Calls Try.prog 43 #[.int .i64 a, .int .i64 1099511627776] w (RetV (.tuple #[.int .i64 0, .int .i64 1]) w))
    (M2 : ∀ w, Calls Try.prog 41 #[.int .i64 a, .int .i64 b] w (RetV (.tuple #[.int .i64 0, .int .i64 1]) w))
    (M3 : ∀ w, Calls Try.prog 41 #[.int .i64 b, .int .i64 a] w (RetV (.tuple #[.int .i64 0, .int .i64 1]) w))
    (M4 : ∀ w, Calls Try.prog 41 #[.int .i64 c, .int .i64 b] w (RetV (.tuple #[.int .i64 z, .int .i64 i]) w)) (w : World) :
    Calls Try.prog 11 #[.int .i64 a, .int .i64 b, .int .i64 c] w (RetV (.bool true) w) := by
  have ea := Lib.hid (fitb_no ca)
  clear ca
  go_enter Try.func11, Try.ntmps11
  go_wp2_with fail
  refine (M1 _).mono ?_
  rintro e w1 ⟨rfl, hb1⟩
  go_wp2_with fail
  refine (D1 _).mono ?_
  rintro e w2 ⟨rfl, hb2⟩
  go_wp2_with fail
  refine (M2 _).mono ?_
  rintro e w3 ⟨rfl, hb3⟩
  go_wp2_with fail
  refine (M3 _).mono ?_
  rintro e w4 ⟨rfl, hb4⟩
  have B := b_trans (b_trans (b_trans hb1 hb2) hb3) hb4
  clear hb1 hb2 hb3 hb4
  go_wp2_with fail
  refine (fits_any a a0 a1 _).mono ?_
  rintro e w9 ⟨rfl, rfl⟩
  rw [ea.out]
  go_wp2_with fail
  refine (fits_any a a0 a1 _).mono ?_
  rintro e w9 ⟨rfl, rfl⟩
  rw [ea.out]
  go_wp2_with fail
  refine (M4 _).mono ?_
  rintro e w5 ⟨rfl, hb5⟩
  go_wp2_with fail
  refine (fixed_fix _).mono ?_
  rintro e w6 ⟨rfl, hb6⟩
  have B2 := b_trans (b_trans B hb5) hb6
  clear B hb5 hb6
  go_wp2
  go_ret
  exact ⟨rfl, B2⟩

theorem one_any (a b c : Int) (a0 : -9223372036854775808 ≤ a) (a1 : a ≤ 9223372036854775807) (b0 : -9223372036854775808 ≤ b) (b1 : b ≤ 9223372036854775807) (c0 : -9223372036854775808 ≤ c) (c1 : c ≤ 9223372036854775807) (w : World) :
    Calls Try.prog 11 #[.int .i64 a, .int .i64 b, .int .i64 c] w (RetV (.bool true) w) := by
  have M1 := mul_fix a 1099511627776 a0 a1 (by decide) (by decide)
  have D1 := div_fix a 1099511627776 a0 a1 (by decide) (by decide)
  have M2 := mul_fix a b a0 a1 b0 b1
  have M3 := mul_fix b a b0 b1 a0 a1
  have M4 := mul_fix c b c0 c1 b0 b1
  rw [Int.mul_comm b a, ← (gz_comm a b _).1, ← (gz_comm a b _).2] at M3
  rw [evn_mul a (by decide)] at M1
  by_cases ca : FitP a
  · have f1 : FitP a ∧ FitP 1099511627776 := ⟨ca, by decide⟩
    rw [(gz_of f1 _).1, (gz_of f1 _).2, (nz_of ca).1, (nz_of ca).2] at M1
    rw [(dz_of f1 (by decide)).1, (dz_of f1 (by decide)).2, ef_mul (by decide), (nz_of ca).1, (nz_of ca).2] at D1
    refine one_yes a b c _ _ _ _ a0 a1 ca M1 D1 M2 M3 M4 ?_ w
    by_cases g : ge a b (evn (a * b) 1099511627776) = 0
    · refine Or.inr ⟨g, ?_⟩
      by_cases i : ge c b (evn (c * b) 1099511627776) = 0
      · refine Or.inr ⟨i, ?_⟩
        by_cases hb : b < 0
        · exact Or.inl hb
        · refine Or.inr ⟨by omega, ?_⟩
          by_cases hc : c < a
          · exact Or.inl hc
          · refine Or.inr ⟨by omega, ?_⟩
            rw [(ge_ok g).1, (ge_ok i).1]
            exact evn_mono (Int.mul_le_mul_of_nonneg_right (by omega) (by omega)) (by decide)
      · exact Or.inl i
    · exact Or.inl g
  · rw [(gz_no (fun h => ca h.1) _).1, (gz_no (fun h => ca h.1) _).2] at M1 M2 M3
    rw [(dz_no (fun h => ca h.1)).1, (dz_no (fun h => ca h.1)).2] at D1
    exact one_no a b c _ _ a0 a1 ca M1 D1 M2 M3 M4 w
end Go.Proofs.Ytlgnenogieehnaa
