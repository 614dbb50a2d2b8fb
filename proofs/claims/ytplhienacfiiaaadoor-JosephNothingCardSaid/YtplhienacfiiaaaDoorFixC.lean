/- FixOne: what the law's call answers: true, for every three integers. -/
import Derived.Test.YtplhienacfiiaaaDoorFixB
import Derived.Test.YtplhienacfiiaaaDoorBack
namespace Go.Proofs.YtplhienacfiiaaaDoor
open Go.RowKit Go.Shelf

theorem near_mono {q s t : Int} (h : s ≤ t) : near q s ≤ near q t := by
  unfold near; split <;> split <;> omega
theorem near_bd (q s : Int) : q ≤ near q s ∧ near q s ≤ q + 1 := by unfold near; split <;> omega
theorem evn_mono {A C B : Int} (h : A ≤ C) (hB : 0 < B) : evn A B ≤ evn C B := by
  have h1 : A / B ≤ C / B := Int.ediv_le_ediv hB h
  unfold evn
  by_cases e : A / B = C / B
  · have ha := Int.mul_ediv_add_emod A B
    have hc := Int.mul_ediv_add_emod C B
    rw [e] at ha ⊢
    exact near_mono (by omega)
  · have h2 := (near_bd (A / B) (2 * (A % B) - B)).2
    have h3 := (near_bd (C / B) (2 * (C % B) - B)).1
    omega
theorem evn_mul (a : Int) {B : Int} (hB : 0 < B) : evn (a * B) B = a := by
  unfold evn near
  rw [Int.mul_ediv_cancel _ (by omega), Int.mul_emod_left, if_neg (by omega)]
theorem gz_comm (a b x : Int) : gz a b x = gz b a x ∧ ge a b x = ge b a x := by
  unfold gz ge
  by_cases h : FitP a ∧ FitP b
  · rw [if_pos h, if_pos h, if_pos ⟨h.2, h.1⟩, if_pos ⟨h.2, h.1⟩]; exact ⟨rfl, rfl⟩
  · rw [if_neg h, if_neg h, if_neg (fun k => h ⟨k.2, k.1⟩), if_neg (fun k => h ⟨k.2, k.1⟩)]; exact ⟨rfl, rfl⟩
theorem ge_ok {a b x : Int} (h : ge a b x = 0) : gz a b x = x ∧ FitP a ∧ FitP b ∧ FitP x := by
  unfold ge at h
  by_cases c : FitP a ∧ FitP b
  · rw [if_pos c] at h
    unfold ne at h
    by_cases d : FitP x
    · exact ⟨by rw [(gz_of c x).1, (nz_of d).1], c.1, c.2, d⟩
    · rw [if_neg d] at h; cases h
  · rw [if_neg c] at h; cases h

end Go.Proofs.YtplhienacfiiaaaDoor
