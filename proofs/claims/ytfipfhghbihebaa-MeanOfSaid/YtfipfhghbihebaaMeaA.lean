/- Layer 17: numbers: the sum of counts, whether all are good, their mean. -/
import Derived.Test.YtfipfhghbihebaaGood
import Derived.Test.YtfipfhghbihebaaInts
namespace Go.Proofs.Ytfipfhghbihebaa
open Go.RowKit Go.Shelf Go.Joins

/-- The sum of the first n. -/
def sm (z : Nat → Int) : Nat → Int
  | 0 => 0
  | n + 1 => sm z n + z n
/-- Are the first n good? -/
def ag (z : Nat → Int) : Nat → Bool
  | 0 => true
  | n + 1 => ag z n && gd (z n)
/-- The least of the first n and of the very first one. -/
def lt (z : Nat → Int) : Nat → Int
  | 0 => z 0
  | n + 1 => if z n < lt z n then z n else lt z n
theorem sm_same {y z : Nat → Int} : ∀ {n : Nat}, (∀ k, k < n → y k = z k) → sm y n = sm z n
  | 0, _ => rfl
  | n + 1, h => by rw [sm, sm, sm_same (fun k hk => h k (by omega)), h n (by omega)]
theorem ag_same {y z : Nat → Int} : ∀ {n : Nat}, (∀ k, k < n → y k = z k) → ag y n = ag z n
  | 0, _ => rfl
  | n + 1, h => by rw [ag, ag, ag_same (fun k hk => h k (by omega)), h n (by omega)]
theorem ag_yes {z : Nat → Int} {n : Nat} (h : ag z n = true) (g : gd (z n) = true) : ag z (n + 1) = true := by rw [ag, h, g]; rfl
theorem ag_at {z : Nat → Int} : ∀ {n k : Nat}, ag z n = true → k < n → gd (z k) = true
  | 0, _, _, h => absurd h (Nat.not_lt_zero _)
  | n + 1, k, a, h => by
    rw [ag, Bool.and_eq_true] at a
    by_cases c : k = n
    · rw [c]; exact a.2
    · exact ag_at a.1 (by omega)
theorem ag_not {z : Nat → Int} {n k : Nat} (h : k < n) (g : gd (z k) = false) : ag z n = false := by
  cases a : ag z n
  · rfl
  · have := ag_at a h
    rw [g] at this
    cases this
theorem ag_of {z : Nat → Int} : ∀ {n : Nat}, (∀ k, k < n → gd (z k) = true) → ag z n = true
  | 0, _ => rfl
  | n + 1, h => ag_yes (ag_of fun k hk => h k (by omega)) (h n (by omega))
/-- If not all are good: the first one that is not. -/
theorem ag_first {z : Nat → Int} : ∀ {n : Nat}, ag z n = false → ∃ k, k < n ∧ ag z k = true ∧ gd (z k) = false
  | 0, h => by cases h
  | n + 1, h => by
    cases a : ag z n
    · obtain ⟨k, h1, h2⟩ := ag_first a
      exact ⟨k, by omega, h2⟩
    · refine ⟨n, by omega, a, ?_⟩
      rw [ag, a] at h
      simpa using h
theorem sm_range {z : Nat → Int} : ∀ {n : Nat}, ag z n = true → 90528 * (n : Int) ≤ sm z n ∧ sm z n ≤ 430515 * (n : Int)
  | 0, _ => ⟨Int.le_refl _, Int.le_refl _⟩
  | n + 1, a => by
    have g := gd_range (ag_at a (Nat.lt_succ_self n))
    rw [ag, Bool.and_eq_true] at a
    have := sm_range a.1
    rw [sm]
    omega
theorem lt_le {z : Nat → Int} : ∀ {n k : Nat}, k < n → lt z n ≤ z k
  | 0, _, h => absurd h (Nat.not_lt_zero _)
  | n + 1, k, h => by
    rw [lt]
    by_cases c : k = n
    · subst c
      split <;> omega
    · have := lt_le (z := z) (n := n) (k := k) (by omega)
      split <;> omega
theorem lt_one {z : Nat → Int} : ∀ (n : Nat), lt z n = z 0 ∨ ∃ k, k < n ∧ lt z n = z k
  | 0 => Or.inl rfl
  | n + 1 => by
    rw [lt]
    by_cases c : z n < lt z n
    · rw [if_pos c]
      exact Or.inr ⟨n, by omega, rfl⟩
    · rw [if_neg c]
      rcases lt_one (z := z) n with h | ⟨k, hk, h⟩
      · exact Or.inl h
      · exact Or.inr ⟨k, by omega, h⟩
theorem lt_good {z : Nat → Int} {n : Nat} (h : 0 < n) (a : ag z n = true) : 90528 ≤ lt z n ∧ lt z n ≤ 430515 := by
  rcases lt_one (z := z) n with e | ⟨k, hk, e⟩
  · rw [e]; exact gd_range (ag_at a h)
  · rw [e]; exact gd_range (ag_at a hk)
theorem lt_range {z : Nat → Int} (n : Nat) (g : gd (z 0) = true) (a : ag z n = true) : 90528 ≤ lt z n ∧ lt z n ≤ 430515 := by
  rcases lt_one (z := z) n with e | ⟨k, hk, e⟩
  · rw [e]; exact gd_range g
  · rw [e]; exact gd_range (ag_at a hk)

/-- The mean of the first n; the error's number. -/
def mv (z : Nat → Int) (n : Nat) : Int := if n = 0 then 0 else if ag z n then sm z n / n else 0
def me (z : Nat → Int) (n : Nat) : Int := if n = 0 then 4 else if ag z n then 0 else 2
theorem m_none (z : Nat → Int) : mv z 0 = 0 ∧ me z 0 = 4 := ⟨rfl, rfl⟩
theorem m_bad {z : Nat → Int} {n : Nat} (h : ag z n = false) : mv z n = 0 ∧ me z n = 2 := by
  have hn : n ≠ 0 := by
    intro e
    subst e
    cases h
  rw [mv, me, if_neg hn, if_neg hn, h]
  exact ⟨rfl, rfl⟩
theorem m_ok {z : Nat → Int} {n : Nat} (hn : 0 < n) (h : ag z n = true) : mv z n = sm z n / n ∧ me z n = 0 := by
  have h0 : n ≠ 0 := by omega
  rw [mv, me, if_neg h0, if_neg h0, h]
  exact ⟨rfl, rfl⟩
theorem m_same {y z : Nat → Int} {n : Nat} (h : ∀ k, k < n → y k = z k) : mv y n = mv z n ∧ me y n = me z n := by
  rw [mv, mv, me, me, ag_same h, sm_same h]
  exact ⟨rfl, rfl⟩
/-- By parts that are as great as one likes: the quotient. -/
theorem quot {m n r s : Int} (h : m * n + r = s) (r0 : 0 ≤ r) (r1 : r < n) : s / n = m := by
  have hn : n ≠ 0 := by omega
  rw [← h, Int.add_comm, Int.add_mul_ediv_right _ _ hn, Int.ediv_eq_zero_of_lt r0 r1, Int.zero_add]
end Go.Proofs.Ytfipfhghbihebaa
