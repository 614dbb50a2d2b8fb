/- Layer 19: how long ago a sample was taken, in numbers. -/
import Derived.Test.YtohbneijfibhhaaModB
import Derived.Test.YtohbneijfibhhaaModD
import Derived.Test.YtohbneijfibhhaaInts
namespace Go.Proofs.Ytohbneijfibhhaa
open Go.RowKit Go.Shelf Go.Joins

/-- A number of an event. -/
def evn4 (x : Int) : Int := (x.tmod 4 + 4).tmod 4
theorem evn4_range (x : Int) : 0 ≤ evn4 x ∧ evn4 x ≤ 3 := by
  unfold evn4
  have h := Int.tmod_lt_of_pos (x.tmod 4 + 4) (by decide : (0 : Int) < 4)
  have h1 : -4 < x.tmod 4 := by
    have := Int.lt_tmod_of_pos x (by decide : (0 : Int) < 4)
    omega
  have h0 := Int.tmod_nonneg (a := x.tmod 4 + 4) 4 (by omega)
  omega
theorem vld_not {m : Int} (h : vld m = false) : m ≠ 1 ∧ m ≠ 2 := by
  simp [vld] at h
  exact h
theorem vld_of {m : Int} (h : vld m = true) : m = 1 ∨ m = 2 := by
  simp [vld] at h
  exact h
/-- What is so of the clock behind k events: since when it is valid, and what came since. -/
structure Ago (e : Nat → Int) (co ou : Int) (k : Nat) : Prop where
  lo : 0 ≤ (clk e co ou k).1
  hi : (clk e co ou k).1 ≤ 3
  no : vld (clk e co ou k).1 = false → (clk e co ou k).2 = 0
  yes : vld (clk e co ou k).1 = true → ∃ s a : Nat, (clk e co ou k).2 = s ∧ a + s + 1 = k ∧ (s : Int) ≤ ou ∧ (e a = 0 ∨ e a = 1) ∧ ((clk e co ou k).1 = 2 ↔ co ≤ s ∧ 0 < s) ∧ ∀ j, a < j → j < k → e j = 2 ∧ vld (clk e co ou j).1 = true
theorem ago_of {e : Nat → Int} {co ou : Int} {k : Nat} {c : Int × Int} (h : clk e co ou k = c) (lo : 0 ≤ c.1) (hi : c.1 ≤ 3) (no : vld c.1 = false → c.2 = 0)
    (yes : vld c.1 = true → ∃ s a : Nat, c.2 = s ∧ a + s + 1 = k ∧ (s : Int) ≤ ou ∧ (e a = 0 ∨ e a = 1) ∧ (c.1 = 2 ↔ co ≤ s ∧ 0 < s) ∧ ∀ j, a < j → j < k → e j = 2 ∧ vld (clk e co ou j).1 = true) : Ago e co ou k := by
  subst h
  exact ⟨lo, hi, no, yes⟩
theorem ago_all (e : Nat → Int) (co ou : Int) (he : ∀ k, 0 ≤ e k ∧ e k ≤ 3) (ho : 0 ≤ ou) (k : Nat) : Ago e co ou k := by
  induction k with
  | zero => exact ago_of (c := (0, 0)) rfl (by decide) (by decide) (fun _ => rfl) (fun h => absurd h (by decide))
  | succ k ih =>
    obtain ⟨lo, hi, no, yes⟩ := ih
    have e0 := (he k).1
    have e3 := (he k).2
    have hk : clk e co ou (k + 1) = nxt (clk e co ou k) (e k) co ou := rfl
    have now : e k = 0 ∨ e k = 1 → Ago e co ou (k + 1) ∨ clk e co ou (k + 1) ≠ (1, 0) := fun h => by
      by_cases g : clk e co ou (k + 1) = (1, 0)
      · exact Or.inl (ago_of g (by decide) (by decide) (fun h => absurd h (by decide)) (fun _ => ⟨0, k, rfl, rfl, by omega, h, ⟨fun h => absurd h (by decide), fun h => absurd h.2 (by decide)⟩, fun j h1 h2 => by omega⟩))
      · exact Or.inr g
    have lost : clk e co ou (k + 1) = (3, 0) → Ago e co ou (k + 1) := fun g => ago_of g (by decide) (by decide) (fun _ => rfl) (fun h => absurd h (by decide))
    obtain ⟨⟨m, s⟩, hm⟩ : ∃ q, clk e co ou k = q := ⟨_, rfl⟩
    rw [hm] at hk lo hi no yes
    simp only at lo hi no yes
    rcases (by omega : e k = 0 ∨ e k = 1 ∨ e k = 2 ∨ e k = 3) with g | g | g | g
    · rcases now (Or.inl g) with h | h
      · exact h
      · rw [hk, g, nxt_0 lo hi] at h
        exact absurd rfl h
    · by_cases v : m = 1 ∨ m = 2
      · rcases now (Or.inr g) with h | h
        · exact h
        · rw [hk, g, nxt_1 v] at h
          exact absurd rfl h
      · have vf : vld m = false := by simp [vld]; omega
        rw [g, nxt_seek (by omega) (by decide) (by decide)] at hk
        exact ago_of hk lo hi no (fun h => by rw [vf] at h; cases h)
    · by_cases v : m = 1 ∨ m = 2
      · have vt : vld m = true := by simp [vld]; exact v
        obtain ⟨t, a, h1, h2, h3, h4, h5, h6⟩ := yes vt
        rw [g, nxt_2 v] at hk
        have past : ∀ j, a < j → j < k + 1 → e j = 2 ∧ vld (clk e co ou j).1 = true := fun j hj1 hj2 => by
          by_cases q : j = k
          · subst q
            exact ⟨g, by rw [hm]; exact vt⟩
          · exact h6 j hj1 (by omega)
        unfold msd at hk
        by_cases c1 : ou ≤ s
        · rw [if_pos c1] at hk
          exact lost hk
        · rw [if_neg c1] at hk
          by_cases c2 : co ≤ s + 1
          · rw [if_pos c2] at hk
            exact ago_of hk (by simp) (by simp) (fun h => by cases h) (fun _ => ⟨t + 1, a, by simp only; omega, by omega, by omega, h4, ⟨fun _ => ⟨by omega, by omega⟩, fun _ => rfl⟩, past⟩)
          · rw [if_neg c2] at hk
            exact ago_of hk (by simp) (by simp) (fun h => by cases h) (fun _ => ⟨t + 1, a, by simp only; omega, by omega, by omega, h4, ⟨fun h => (by cases h), fun h => absurd h.1 (by omega)⟩, past⟩)
      · have vf : vld m = false := by simp [vld]; omega
        rw [g, nxt_seek (by omega) (by decide) (by decide)] at hk
        exact ago_of hk lo hi no (fun h => by rw [vf] at h; cases h)
    · rw [g, nxt_3 lo hi] at hk
      exact lost hk
end Go.Proofs.Ytohbneijfibhhaa
