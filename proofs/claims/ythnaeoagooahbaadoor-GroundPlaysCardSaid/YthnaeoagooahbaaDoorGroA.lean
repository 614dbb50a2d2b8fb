/- Layer 18: numbers: the table of counts; the place under a count; altitudes; what is near a ground. -/
import Derived.Test.YthnaeoagooahbaaDoorBut
import Derived.Test.YthnaeoagooahbaaDoorGood
namespace Go.Proofs.YthnaeoagooahbaaDoor
open Go.RowKit Go.Shelf Go.Joins

/-- The table. -/
def tbl : List Int := [430515, 417754, 405300, 393149, 381294, 369731, 358453, 347455, 336732, 326279, 316090, 306161, 296485, 287058, 277876, 268933, 260224, 251746, 243492, 235459, 227641, 220036, 212637, 205441, 198444, 191640, 185027, 178600, 172355, 166288, 160395, 154672, 149116, 143723, 138488, 133409, 128482, 123703, 119069, 114577, 110223, 106004, 101917, 97958, 94125, 90414, 86822]
def tb (i : Nat) : Int := tbl.getD i 0
theorem tb_steps : ∀ i : Fin 46, 1 ≤ tb i - tb (i + 1) ∧ tb i - tb (i + 1) ≤ 16384 := by decide
theorem tb_step {i : Nat} (h : i ≤ 45) : 1 ≤ tb i - tb (i + 1) ∧ tb i - tb (i + 1) ≤ 16384 := tb_steps ⟨i, by omega⟩
theorem tb_ranges : ∀ i : Fin 47, 86822 ≤ tb i ∧ tb i ≤ 430515 := by decide
theorem tb_range {i : Nat} (h : i ≤ 46) : 86822 ≤ tb i ∧ tb i ≤ 430515 := tb_ranges ⟨i, by omega⟩
theorem tb_fall {i j : Nat} (h : i < j) (hj : j ≤ 46) : tb j < tb i := by
  induction j with
  | zero => omega
  | succ k ih =>
    have s := tb_step (i := k) (by omega)
    rcases Nat.lt_or_ge i k with c | c
    · have := ih c (by omega)
      omega
    · have : i = k := by omega
      subst this
      omega

/-- The table's variable holds it. -/
abbrev TB (w : World) : Prop := ∀ i, i < 47 → w.cell? ⟨0, i, none⟩ = some (.int .i64 (tb i))
theorem tb_keep {w w' : World} (hb : Below w.heap.size w w') (h : TB w) : TB w' := fun i hi => cell_keep hb (h i hi)
theorem tb_lt {w : World} (h : TB w) : 0 < w.heap.size := World.block_lt_of_cell? w _ (h 0 (by decide))
theorem tb_but {w w' : World} {b : Nat} (hb : But b w w') (h1 : 0 < b) (h : TB w) : TB w' := fun i hi => (World.cell?_of_block (a := ⟨0, i, none⟩) (hb.block 0 (tb_lt h) (by omega))).trans (h i hi)

/-- The last place up to k whose count isn't below p. -/
def lat (p : Int) : Nat → Nat
  | 0 => 0
  | k + 1 => if p ≤ tb (k + 1) then k + 1 else lat p k
theorem lat_yes {p : Int} {k : Nat} (h : p ≤ tb (k + 1)) : lat p (k + 1) = k + 1 := if_pos h
theorem lat_no {p : Int} {k : Nat} (h : ¬ p ≤ tb (k + 1)) : lat p (k + 1) = lat p k := if_neg h
theorem lat_le (p : Int) (k : Nat) : lat p k ≤ k := by
  induction k with
  | zero => exact Nat.le_refl _
  | succ k ih =>
    unfold lat
    split <;> omega
theorem lat_at {p : Int} (h : p ≤ 430515) (k : Nat) : p ≤ tb (lat p k) := by
  induction k with
  | zero => exact h
  | succ k ih =>
    unfold lat
    split
    · assumption
    · exact ih
theorem lat_behind {p : Int} (k : Nat) : ∀ j, lat p k < j → j ≤ k → tb j < p := by
  induction k with
  | zero => intro j h h'; omega
  | succ k ih =>
    intro j h h'
    unfold lat at h
    split at h
    · omega
    · rename_i c
      rcases Nat.lt_or_ge k j with d | d
      · have : j = k + 1 := by omega
        subst this
        omega
      · exact ih j h d
/-- The place under a count. -/
def un (p : Int) : Nat := lat p 46
theorem un_spec {p : Int} (g : gd p = true) : un p ≤ 45 ∧ p ≤ tb (un p) ∧ tb (un p + 1) < p := by
  have r := gd_range g
  have a := lat_le p 46
  have b := lat_at r.2 46
  have c : lat p 46 ≠ 46 := fun e => by
    rw [e] at b
    have : tb 46 = 86822 := rfl
    omega
  exact ⟨by unfold un; omega, b, lat_behind 46 _ (Nat.lt_succ_self _) (by unfold un; omega)⟩
theorem un_only {p : Int} (g : gd p = true) {i : Nat} (h0 : i ≤ 45) (h1 : p ≤ tb i) (h2 : tb (i + 1) < p) : i = un p := by
  obtain ⟨u0, u1, u2⟩ := un_spec g
  rcases Nat.lt_trichotomy i (un p) with c | c | c
  · rcases Nat.lt_or_ge (i + 1) (un p) with d | d
    · have := tb_fall d (by omega)
      omega
    · have : i + 1 = un p := by omega
      rw [this] at h2
      omega
  · exact c
  · rcases Nat.lt_or_ge (un p + 1) i with d | d
    · have := tb_fall d (by omega)
      omega
    · have : un p + 1 = i := by omega
      rw [this] at u2
      omega
theorem un_less {p q : Int} (gp : gd p = true) (gq : gd q = true) (h : p < q) : un q ≤ un p := by
  obtain ⟨u0, u1, u2⟩ := un_spec gp
  obtain ⟨v0, v1, v2⟩ := un_spec gq
  rcases Nat.lt_or_ge (un p) (un q) with c | c
  · rcases Nat.lt_or_ge (un p + 1) (un q) with d | d
    · have := tb_fall d (by omega)
      omega
    · have e : un p + 1 = un q := by omega
      rw [e] at u2
      omega
  · exact c

/-- How far below its place a count is, and how far the next one. -/
def dn (p : Int) : Int := tb (un p) - p
def wd (p : Int) : Int := tb (un p) - tb (un p + 1)
theorem dn_wd {p : Int} (g : gd p = true) : 0 ≤ dn p ∧ dn p < wd p ∧ wd p ≤ 16384 := by
  obtain ⟨u0, u1, u2⟩ := un_spec g
  have s := tb_step u0
  unfold dn wd
  omega
/-- What is above the place's height, and the altitude. -/
def pt (p : Int) : Int := 281474976710656 * dn p / wd p
def ht (i : Nat) : Int := -562949953421312 + 281474976710656 * i
def al (p : Int) : Int := ht (un p) + pt p
theorem pt_range {p : Int} (g : gd p = true) : 0 ≤ pt p ∧ pt p < 281474976710656 := by
  obtain ⟨d0, d1, d2⟩ := dn_wd g
  unfold pt
  refine ⟨Int.ediv_nonneg (by omega) (by omega), ?_⟩
  refine Int.ediv_lt_of_lt_mul (by omega) ?_
  exact Int.mul_lt_mul_of_pos_left d1 (by omega)
theorem al_range {p : Int} (g : gd p = true) : -562949953421312 ≤ al p ∧ al p < 12385899975268864 := by
  have h := pt_range g
  have u := (un_spec g).1
  unfold al ht
  omega
theorem step_up {a b w : Int} (w0 : 1 ≤ w) (w1 : w ≤ 16384) (h : a < b) : 281474976710656 * a / w < 281474976710656 * b / w := by
  have e : 281474976710656 * a / w + 1 = (281474976710656 * a + 1 * w) / w := by rw [Int.add_mul_ediv_right _ _ (by omega)]
  have := Int.ediv_le_ediv (a := 281474976710656 * a + 1 * w) (b := 281474976710656 * b) (c := w) (by omega) (by omega)
  omega
/-- Altitudes fall as counts rise. -/
theorem al_fall {p q : Int} (gp : gd p = true) (gq : gd q = true) (h : p < q) : al q < al p := by
  have u := un_less gp gq h
  have rp := pt_range gp
  have rq := pt_range gq
  obtain ⟨d0, d1, d2⟩ := dn_wd gq
  rcases Nat.lt_or_ge (un q) (un p) with c | c
  · unfold al ht
    omega
  · have e : un p = un q := by omega
    have s := step_up (a := dn q) (b := dn p) (w := wd q) (by omega) d2 (by unfold dn; rw [e]; omega)
    have ew : wd p = wd q := by unfold wd; rw [e]
    have := pt_range gp
    unfold al
    rw [e]
    unfold pt
    rw [ew]
    omega

/-- A count's altitude, or why it has none. -/
def az (p : Int) : Int := if gd p = true then al p else 0
def ae (p : Int) : Int := if gd p = true then 0 else 2
theorem az_ok {p : Int} (g : gd p = true) : az p = al p := if_pos g
theorem ae_ok {p : Int} (g : gd p = true) : ae p = 0 := if_pos g
theorem az_bad {p : Int} (g : gd p = false) : az p = 0 := by simp [az, g]
theorem ae_bad {p : Int} (g : gd p = false) : ae p = 2 := by simp [ae, g]
/-- Is a count near a ground? -/
def nr (c b p : Int) : Bool := gd p && decide (c ≠ 0) && decide (c - b ≤ p)
end Go.Proofs.YthnaeoagooahbaaDoor
