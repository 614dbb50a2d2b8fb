/- A gain's numbers: an entry through the spread; what a greater spread makes of it; a gain's first number from 0 to 1. -/
import Derived.Test.YtccpcabhcfpbfaaDoorFixC
import Derived.Test.YtccpcabhcfpbfaaDoorSymA
namespace Go.Proofs.YtccpcabhcfpbfaaDoor
open Go.RowKit Go.Shelf

theorem evn_scale (A : Int) {B k : Int} (hk : 0 < k) : evn (A * k) (B * k) = evn A B := by
  unfold evn
  rw [Int.mul_ediv_mul_of_pos_left _ _ hk, Int.mul_comm A k, Int.mul_comm B k, Int.mul_emod_mul_of_pos _ _ hk]
  apply near_sign
  rw [show 2 * (k * (A % B)) - k * B = k * (2 * (A % B) - B) by rw [Int.mul_sub, Int.mul_left_comm]]
  generalize 2 * (A % B) - B = t
  rcases Int.lt_trichotomy 0 t with h | h | h
  · have := Int.mul_pos hk h
    omega
  · subst h
    rw [Int.mul_zero]
    omega
  · have := Int.mul_neg_of_pos_of_neg hk h
    omega
theorem evn_none {B : Int} (hB : 0 < B) : evn 0 B = 0 := by
  have h := evn_mul 0 hB
  rwa [Int.zero_mul] at h
theorem evn_up {A B : Int} (h : 0 ≤ A) (hB : 0 < B) : 0 ≤ evn A B := by
  have := evn_mono h hB
  rwa [evn_none hB] at this
theorem evn_down {A B : Int} (h : A ≤ 0) (hB : 0 < B) : evn A B ≤ 0 := by
  have := evn_mono h hB
  rwa [evn_none hB] at this
theorem evn_less {A B C : Int} (h : 0 ≤ A) (hB : 0 < B) (hC : B ≤ C) : evn A C ≤ evn A B := by
  rw [← evn_scale A (B := C) hB, ← evn_scale A (B := B) (show 0 < C by omega), Int.mul_comm B C]
  exact evn_mono (Int.mul_le_mul_of_nonneg_left hC h) (Int.mul_pos (by omega) hB)
theorem evn_more {A B C : Int} (h : A ≤ 0) (hB : 0 < B) (hC : B ≤ C) : evn A B ≤ evn A C := by
  rw [← evn_scale A (B := C) hB, ← evn_scale A (B := B) (show 0 < C by omega), Int.mul_comm B C]
  exact evn_mono (Int.mul_le_mul_of_nonpos_left h hC) (Int.mul_pos (by omega) hB)
theorem evn_part {A B : Int} (h : 0 ≤ A) (hA : A ≤ B) (hB : 0 < B) : 0 ≤ evn (A * 1099511627776) B ∧ evn (A * 1099511627776) B ≤ 1099511627776 := by
  refine ⟨evn_up (by omega) hB, ?_⟩
  have := evn_mono (show A * 1099511627776 ≤ 1099511627776 * B by omega) hB
  rwa [evn_mul _ hB] at this
/-- A positive number through. -/
theorem ef_evn (x : Int) {y : Int} (h : 0 < y) : ef x y = evn x y := by
  unfold ef qf rf sg evn
  rw [if_neg (by omega), show (y.natAbs : Int) = y by omega]

/-- An entry through the spread; may a gain be asked for; does it fit; its numbers and its error. -/
def bq (m : Nat → Int) (s : Int) (i : Nat) : Int := evn (m i * 1099511627776) s
def BK (m : Nat → Int) (s : Int) : Prop := F6 m ∧ FitP s ∧ 1 ≤ s
def BF (m : Nat → Int) (s : Int) : Prop := FitP (bq m s 0) ∧ FitP (bq m s 1) ∧ FitP (bq m s 2)
instance (m : Nat → Int) (s : Int) : Decidable (BK m s) := by unfold BK; infer_instance
instance (m : Nat → Int) (s : Int) : Decidable (BF m s) := by unfold BF; infer_instance
def bz (m : Nat → Int) (s : Int) (i : Nat) : Int := if BK m s ∧ BF m s then bq m s i else 0
def be (m : Nat → Int) (s : Int) : Int := if BK m s then (if BF m s then 0 else 3) else 1
theorem b_ok {m : Nat → Int} {s : Int} (h : BK m s) (f : BF m s) : bz m s = bq m s ∧ be m s = 0 := by
  refine ⟨funext fun i => if_pos ⟨h, f⟩, ?_⟩
  unfold be
  rw [if_pos h, if_pos f]
theorem b_wide {m : Nat → Int} {s : Int} (h : BK m s) (f : ¬ BF m s) : bz m s = (fun _ => 0) ∧ be m s = 3 := by
  refine ⟨funext fun i => if_neg (fun k => f k.2), ?_⟩
  unfold be
  rw [if_pos h, if_neg f]
theorem b_wrong {m : Nat → Int} {s : Int} (h : ¬ BK m s) : bz m s = (fun _ => 0) ∧ be m s = 1 := by
  refine ⟨funext fun i => if_neg (fun k => h k.1), ?_⟩
  unfold be
  rw [if_neg h]
/-- Div, by a spread that serves. -/
theorem div_bq {m : Nat → Int} {s : Int} (h : BK m s) {i : Nat} (hi : i < 6) : dz (m i) s = nz (bq m s i) ∧ de (m i) s = ne (bq m s i) := by
  have := dz_of (show FitP (m i) ∧ FitP s from ⟨h.1 i hi, h.2.1⟩) (by have := h.2.2; omega)
  rwa [ef_evn _ (by have := h.2.2; omega)] at this
/-- The first number of a gain by a doubt from 0 on and a spread that is no less. -/
theorem b_mild {m : Nat → Int} {s : Int} (h : be m s = 0) (h0 : 0 ≤ m 0) (h1 : m 0 ≤ s) : 0 ≤ bz m s 0 ∧ bz m s 0 ≤ 1099511627776 := by
  unfold be at h
  by_cases k : BK m s
  · rw [if_pos k] at h
    by_cases f : BF m s
    · rw [(b_ok k f).1]
      exact evn_part h0 h1 (by have := k.2.2; omega)
    · rw [if_neg f] at h; cases h
  · rw [if_neg k] at h; cases h
/-- A greater spread: no number further from 0. -/
def Ls (k l : Int) : Prop := (0 ≤ k → 0 ≤ l ∧ l ≤ k) ∧ (k < 0 → l ≤ 0 ∧ k ≤ l)
theorem b_less {m : Nat → Int} {s t : Int} (h : be m s = 0) (g : be m t = 0) (st : s ≤ t) (i : Nat) : Ls (bz m s i) (bz m t i) := by
  unfold be at h g
  by_cases k : BK m s
  · rw [if_pos k] at h
    by_cases l : BK m t
    · rw [if_pos l] at g
      by_cases f : BF m s
      · by_cases f2 : BF m t
        · rw [(b_ok k f).1, (b_ok l f2).1]
          have sp : 0 < s := by have := k.2.2; omega
          have tp : 0 < t := by omega
          unfold Ls bq
          by_cases c : 0 ≤ m i
          · have a1 := evn_up (show 0 ≤ m i * 1099511627776 by omega) sp
            have a2 := evn_up (show 0 ≤ m i * 1099511627776 by omega) tp
            have a3 := evn_less (show 0 ≤ m i * 1099511627776 by omega) sp st
            omega
          · have a1 := evn_down (show m i * 1099511627776 ≤ 0 by omega) sp
            have a2 := evn_down (show m i * 1099511627776 ≤ 0 by omega) tp
            have a3 := evn_more (show m i * 1099511627776 ≤ 0 by omega) sp st
            omega
        · rw [if_neg f2] at g; cases g
      · rw [if_neg f] at h; cases h
    · rw [if_neg l] at g; cases g
  · rw [if_neg k] at h; cases h

end Go.Proofs.YtccpcabhcfpbfaaDoor
