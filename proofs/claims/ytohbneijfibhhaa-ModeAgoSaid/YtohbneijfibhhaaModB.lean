/- Layer 19: the document's On. -/
import Derived.Test.YtohbneijfibhhaaModA
namespace Go.Proofs.Ytohbneijfibhhaa
open Go.RowKit Go.Shelf Go.Joins

theorem nxt_out {m s e co ou : Int} (h : m < 0 ∨ 3 < m ∨ e < 0 ∨ 3 < e) : nxt (m, s) e co ou = (m, s) := by
  unfold nxt vld sks
  simp only [decide_eq_true_eq, Bool.or_eq_false_iff, Bool.or_eq_true, decide_eq_false_iff_not]
  rcases h with h | h | h | h
  · rw [if_pos (by omega)]
  · rw [if_pos (by omega)]
  · split
    · rfl
    · rw [if_neg (by omega), if_neg (by omega), if_neg (by omega)]
  · split
    · rfl
    · rw [if_neg (by omega), if_neg (by omega), if_neg (by omega)]
theorem nxt_3 {m s co ou : Int} (h0 : 0 ≤ m) (h3 : m ≤ 3) : nxt (m, s) 3 co ou = (3, 0) := by
  unfold nxt vld sks
  simp only [decide_eq_true_eq, Bool.or_eq_false_iff, Bool.or_eq_true, decide_eq_false_iff_not]
  rw [if_neg (by omega), if_neg (by omega), if_pos trivial]
theorem nxt_0 {m s co ou : Int} (h0 : 0 ≤ m) (h3 : m ≤ 3) : nxt (m, s) 0 co ou = (1, 0) := by
  unfold nxt vld sks
  simp only [decide_eq_true_eq, Bool.or_eq_false_iff, Bool.or_eq_true, decide_eq_false_iff_not]
  rw [if_neg (by omega), if_pos (Or.inl trivial)]
theorem nxt_seek {m s e co ou : Int} (h : m = 0 ∨ m = 3) (e0 : e ≠ 0) (e3 : e ≠ 3) : nxt (m, s) e co ou = (m, s) := by
  unfold nxt vld sks
  simp only [decide_eq_true_eq, Bool.or_eq_false_iff, Bool.or_eq_true, decide_eq_false_iff_not]
  rw [if_neg (by omega), if_neg (by omega), if_neg (by omega), if_neg (by omega)]
theorem nxt_1 {m s co ou : Int} (h : m = 1 ∨ m = 2) : nxt (m, s) 1 co ou = (1, 0) := by
  unfold nxt vld sks
  simp only [decide_eq_true_eq, Bool.or_eq_false_iff, Bool.or_eq_true, decide_eq_false_iff_not]
  rw [if_neg (by omega), if_pos (Or.inr ⟨trivial, h⟩)]
theorem nxt_2 {m s co ou : Int} (h : m = 1 ∨ m = 2) : nxt (m, s) 2 co ou = msd s co ou := by
  unfold nxt vld sks
  simp only [decide_eq_true_eq, Bool.or_eq_false_iff, Bool.or_eq_true, decide_eq_false_iff_not]
  rw [if_neg (by omega), if_neg (by omega), if_neg (by omega), if_pos ⟨trivial, h⟩]

set_option maxHeartbeats 4000000 in
set_option maxRecDepth 10000 in
theorem ref_clock (m s e co ou : Int) (hs : -9223372036854775808 ≤ s) (ht : s ≤ 9223372036854775806) (w : World) : Calls Try.prog 8 #[ckv (m, s), .int .i64 e, .int .i64 co, .int .i64 ou] w (RetV (ckv (nxt (m, s) e co ou)) w) := by
  by_cases c0 : m < 0
  · rw [nxt_out (Or.inl c0)]
    go_enter Try.func8, Try.ntmps8
    go_wp2
    exact bodyPost_ret (v := ckv (m, s)) (by simp [results, Try.results8, go_sem]) rfl ⟨rfl, b_alloc (b_alloc (Below.refl _ _))⟩
  · by_cases c1 : 3 < m
    · rw [nxt_out (Or.inr (Or.inl c1))]
      go_enter Try.func8, Try.ntmps8
      go_wp2
      exact bodyPost_ret (v := ckv (m, s)) (by simp [results, Try.results8, go_sem]) rfl ⟨rfl, b_alloc (b_alloc (Below.refl _ _))⟩
    · by_cases c2 : e < 0
      · rw [nxt_out (Or.inr (Or.inr (Or.inl c2)))]
        go_enter Try.func8, Try.ntmps8
        go_wp2
        exact bodyPost_ret (v := ckv (m, s)) (by simp [results, Try.results8, go_sem]) rfl ⟨rfl, b_alloc (b_alloc (Below.refl _ _))⟩
      · by_cases c3 : 3 < e
        · rw [nxt_out (Or.inr (Or.inr (Or.inr c3)))]
          go_enter Try.func8, Try.ntmps8
          go_wp2
          exact bodyPost_ret (v := ckv (m, s)) (by simp [results, Try.results8, go_sem]) rfl ⟨rfl, b_alloc (b_alloc (Below.refl _ _))⟩
        · have a0 : 0 ≤ m := by omega
          have a3 : m ≤ 3 := by omega
          by_cases e3 : e = 3
          · subst e3
            rw [nxt_3 a0 a3]
            clear a0 a3
            go_enter Try.func8, Try.ntmps8
            go_wp2
            exact bodyPost_ret (v := ckv (3, 0)) (by simp [results, Try.results8, go_sem]) rfl ⟨rfl, b_alloc (b_alloc (Below.refl _ _))⟩
          · by_cases e0 : e = 0
            · subst e0
              rw [nxt_0 a0 a3]
              clear a0 a3 e3
              go_enter Try.func8, Try.ntmps8
              go_wp2
              exact bodyPost_ret (v := ckv (1, 0)) (by simp [results, Try.results8, go_sem]) rfl ⟨rfl, b_alloc (b_alloc (Below.refl _ _))⟩
            · have q3 : (e == 3) = false := by simpa using e3
              have q0 : (e == 0) = false := by simpa using e0
              by_cases m0 : m = 0
              · rw [nxt_seek (Or.inl m0) e0 e3]
                subst m0
                clear a0 a3 e0 e3
                go_enter Try.func8, Try.ntmps8
                go_wp2
                exact bodyPost_ret (v := ckv (0, s)) (by simp [results, Try.results8, go_sem]) rfl ⟨rfl, b_alloc (b_alloc (Below.refl _ _))⟩
              · have p0 : (m == 0) = false := by simpa using m0
                by_cases m3 : m = 3
                · rw [nxt_seek (Or.inr m3) e0 e3]
                  subst m3
                  clear a0 a3 e0 e3 m0
                  go_enter Try.func8, Try.ntmps8
                  go_wp2
                  exact bodyPost_ret (v := ckv (3, s)) (by simp [results, Try.results8, go_sem]) rfl ⟨rfl, b_alloc (b_alloc (Below.refl _ _))⟩
                · have p3 : (m == 3) = false := by simpa using m3
                  have hm : m = 1 ∨ m = 2 := by omega
                  by_cases e1 : e = 1
                  · subst e1
                    rw [nxt_1 hm]
                    clear a0 a3 e0 e3 m0 m3 hm
                    go_enter Try.func8, Try.ntmps8
                    go_wp2
                    exact bodyPost_ret (v := ckv (1, 0)) (by simp [results, Try.results8, go_sem]) rfl ⟨rfl, b_alloc (b_alloc (Below.refl _ _))⟩
                  · obtain rfl : e = 2 := by omega
                    rw [nxt_2 hm]
                    clear a0 a3 e0 e3 m0 m3 hm e1
                    obtain ⟨t, hT⟩ : ∃ t, t = s + 1 := ⟨_, rfl⟩
                    have f : IntKind.i64.wrap (s + 1) = t := by rw [IntKind.wrap_i64]; omega
                    by_cases d : ou < t
                    · rw [show msd s co ou = (3, 0) by unfold msd; rw [if_pos (by omega)]]
                      clear hT
                      go_enter Try.func8, Try.ntmps8
                      go_wp2
                      exact bodyPost_ret (v := ckv (3, 0)) (by simp [results, Try.results8, go_sem]) rfl ⟨rfl, b_alloc (b_alloc (Below.refl _ _))⟩
                    · by_cases g : co ≤ t
                      · rw [show msd s co ou = (2, t) by unfold msd; rw [if_neg (by omega), if_pos (by omega), hT]]
                        clear hT
                        go_enter Try.func8, Try.ntmps8
                        go_wp2
                        exact bodyPost_ret (v := ckv (2, t)) (by simp [results, Try.results8, go_sem]) rfl ⟨rfl, b_alloc (b_alloc (Below.refl _ _))⟩
                      · rw [show msd s co ou = (1, t) by unfold msd; rw [if_neg (by omega), if_neg (by omega), hT]]
                        clear hT
                        go_enter Try.func8, Try.ntmps8
                        go_wp2
                        exact bodyPost_ret (v := ckv (1, t)) (by simp [results, Try.results8, go_sem]) rfl ⟨rfl, b_alloc (b_alloc (Below.refl _ _))⟩
end Go.Proofs.Ytohbneijfibhhaa
