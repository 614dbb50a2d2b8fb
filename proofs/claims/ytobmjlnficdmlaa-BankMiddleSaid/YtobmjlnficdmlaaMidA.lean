/- Layer 22: numbers: the middle of what was told. -/
import Derived.Test.YtobmjlnficdmlaaTapB
namespace Go.Proofs.Ytobmjlnficdmlaa

/-- A row in order: what is met up to a place. -/
theorem sorted_at (p : Int → Bool) (hp : ∀ y z, y ≤ z → p z = true → p y = true) : ∀ (s : List Int), s.Pairwise (· ≤ ·) → ∀ i x, s[i]? = some x → (p x = true ↔ i < s.countP p)
  | [], _, i, x, h => by simp at h
  | a :: s, hs, i, x, h => by
    obtain ⟨h1, h2⟩ := List.pairwise_cons.1 hs
    by_cases ha : p a = true
    · rw [List.countP_cons_of_pos ha]
      cases i with
      | zero => simp at h; subst h; simp [ha]
      | succ i =>
        rw [List.getElem?_cons_succ] at h
        have := sorted_at p hp s h2 i x h
        rw [this]; omega
    · have hx : p x = true → False := fun hx => by
        cases i with
        | zero => simp at h; subst h; exact ha hx
        | succ i =>
          rw [List.getElem?_cons_succ] at h
          exact ha (hp a x (h1 x (List.mem_of_getElem? h)) hx)
      have hc : s.countP p = 0 := List.countP_eq_zero.2 fun y hy hpy => ha (hp a y (h1 y hy) hpy)
      rw [List.countP_cons_of_neg ha, hc]
      constructor
      · exact fun h => (hx h).elim
      · intro h; omega
theorem countP_le_split (x : Int) (s : List Int) : s.countP (fun y => decide (y ≤ x)) = s.countP (fun y => decide (y < x)) + s.countP (fun y => decide (y = x)) := by
  induction s with
  | nil => rfl
  | cons a s ih =>
    simp only [List.countP_cons, ih, decide_eq_true_eq]
    by_cases h1 : a < x
    · have h2 : a ≤ x := by omega
      have h3 : ¬ a = x := by omega
      simp [h1, h2, h3]; omega
    · by_cases h3 : a = x
      · subst h3; simp; omega
      · have h2 : ¬ a ≤ x := by omega
        simp [h1, h2, h3]
/-- In order. -/
def srt (l : List Int) : List Int := l.mergeSort fun x y => decide (x ≤ y)
/-- The middle: of those in order the one at i. -/
theorem mid_iff (l : List Int) (i : Nat) (m x : Int) (h : (srt l)[i]? = some m) :
    (l.countP (fun y => decide (y < x)) ≤ i ∧ i < l.countP (fun y => decide (y < x)) + l.countP (fun y => decide (y = x))) ↔ m = x := by
  have hp : (srt l).Perm l := List.mergeSort_perm _ _
  have hs : (srt l).Pairwise (· ≤ ·) := by
    have := List.pairwise_mergeSort (le := fun x y : Int => decide (x ≤ y)) (fun a b c h1 h2 => by simp at *; omega) (fun a b => by simp; omega) l
    exact this.imp fun h => by simpa using h
  rw [← countP_le_split, ← hp.countP_eq, ← hp.countP_eq]
  have h1 := sorted_at (fun y => decide (y < x)) (fun y z h1 h2 => by simp at *; omega) _ hs i m h
  have h2 := sorted_at (fun y => decide (y ≤ x)) (fun y z h1 h2 => by simp at *; omega) _ hs i m h
  simp only [decide_eq_true_eq] at h1 h2
  constructor
  · intro ⟨a, b⟩
    have := h2.2 b
    by_cases hlt : m < x
    · have := h1.1 hlt; omega
    · omega
  · intro e
    constructor
    · by_cases hlt : i < (srt l).countP (fun y => decide (y < x))
      · have := h1.2 hlt; omega
      · exact Nat.not_lt.1 hlt
    · exact h2.1 (by omega)
theorem srt_len (l : List Int) : (srt l).length = l.length := List.length_mergeSort _
/-- The altitudes of those that are valid. -/
def alts (l : List Td) : List Int := (l.filter (·.v)).map (·.al)
theorem alts_len (l : List Td) : (alts l).length ≤ l.length := by unfold alts; rw [List.length_map]; exact List.length_filter_le _ _
theorem alts_snoc (l : List Td) (t : Td) : alts (l ++ [t]) = if t.v = true then alts l ++ [t.al] else alts l := by
  unfold alts
  rw [List.filter_append, List.map_append]
  by_cases h : t.v = true
  · simp [h]
  · simp [h]
theorem alts_yes {l : List Td} {k : Nat} {t : Td} (h : l[k]? = some t) (v : t.v = true) : alts (l.take (k + 1)) = alts (l.take k) ++ [t.al] := by
  rw [List.take_add_one, h, Option.toList_some, alts_snoc, if_pos v]
theorem alts_no {l : List Td} {k : Nat} {t : Td} (h : l[k]? = some t) (v : t.v = false) : alts (l.take (k + 1)) = alts (l.take k) := by
  rw [List.take_add_one, h, Option.toList_some, alts_snoc, if_neg (by rw [v]; decide)]
/-- The place of the middle; the middle. -/
def mat (l : List Int) : Nat := (l.length - 1) / 2
def mdl (l : List Int) : Int := (srt l).getD (mat l) 0
theorem mat_lt {l : List Int} (h : 0 < l.length) : mat l < l.length := by unfold mat; omega
theorem mdl_at {l : List Int} (h : 0 < l.length) : (srt l)[mat l]? = some (mdl l) := by
  have : mat l < (srt l).length := by rw [srt_len]; exact mat_lt h
  simp [mdl, List.getD_eq_getElem?_getD, List.getElem?_eq_getElem this]
theorem mdl_nil {l : List Int} (h : l.length = 0) : mdl l = 0 := by
  have : l = [] := List.eq_nil_of_length_eq_zero h
  subst this
  simp [mdl, srt, mat]
/-- How many are below x, and how many are x. -/
def blw (l : List Td) (x : Int) : Nat := (alts l).countP fun y => decide (y < x)
def sme (l : List Td) (x : Int) : Nat := (alts l).countP fun y => decide (y = x)
theorem blw_step {l : List Td} {k : Nat} {t : Td} (h : l[k]? = some t) (x : Int) : blw (l.take (k + 1)) x = blw (l.take k) x + if t.v = true ∧ t.al < x then 1 else 0 := by
  unfold blw
  by_cases v : t.v = true
  · rw [alts_yes h v, List.countP_append]
    by_cases c : t.al < x <;> simp [v, c]
  · rw [alts_no h (by simpa using v)]
    simp [v]
theorem sme_step {l : List Td} {k : Nat} {t : Td} (h : l[k]? = some t) (x : Int) : sme (l.take (k + 1)) x = sme (l.take k) x + if t.v = true ∧ t.al = x then 1 else 0 := by
  unfold sme
  by_cases v : t.v = true
  · rw [alts_yes h v, List.countP_append]
    by_cases c : t.al = x <;> simp [v, c]
  · rw [alts_no h (by simpa using v)]
    simp [v]
theorem blw_le (l : List Td) (x : Int) : blw l x ≤ l.length := Nat.le_trans List.countP_le_length (alts_len l)
theorem sme_le (l : List Td) (x : Int) : sme l x ≤ l.length := Nat.le_trans List.countP_le_length (alts_len l)
theorem mem_alts {l : List Td} {x : Int} (h : x ∈ alts l) : ∃ (k : Nat) (t : Td), l[k]? = some t ∧ t.v = true ∧ t.al = x := by
  unfold alts at h
  obtain ⟨t, ht, rfl⟩ := List.mem_map.1 h
  obtain ⟨h1, h2⟩ := List.mem_filter.1 ht
  obtain ⟨k, hk⟩ := List.mem_iff_getElem?.1 h1
  exact ⟨k, t, hk, h2, rfl⟩
theorem alts_mem {l : List Td} {k : Nat} {t : Td} (h : l[k]? = some t) (v : t.v = true) : t.al ∈ alts l :=
  List.mem_map.2 ⟨t, List.mem_filter.2 ⟨List.mem_of_getElem? h, v⟩, rfl⟩
/-- The middle lies where it lies. -/
theorem mid_there {l : List Td} (h : 0 < (alts l).length) : ∃ (k : Nat) (t : Td), l[k]? = some t ∧ t.v = true ∧ t.al = mdl (alts l) := by
  refine mem_alts ?_
  have := List.mem_of_getElem? (mdl_at h)
  exact (List.mergeSort_perm _ _).mem_iff.1 this
/-- Who is met: the middle alone. -/
theorem mid_met {l : List Td} {x : Int} (h : 0 < (alts l).length) : (blw l x ≤ mat (alts l) ∧ mat (alts l) < blw l x + sme l x) ↔ mdl (alts l) = x := mid_iff (alts l) _ _ x (mdl_at h)
end Go.Proofs.Ytobmjlnficdmlaa
