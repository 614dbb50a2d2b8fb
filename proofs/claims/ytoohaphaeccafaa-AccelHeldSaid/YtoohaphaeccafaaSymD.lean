/- Whether a matrix is sound over a floor: the program's Sound, for every matrix and floor. -/
import Derived.Test.YtoohaphaeccafaaSymB
import Derived.Test.YtoohaphaeccafaaLate
namespace Go.Proofs.Ytoohaphaeccafaa
open Go.RowKit Go.Shelf

/-- Sound: every entry fits, no diagonal entry is below the floor, no square is above the product. -/
abbrev Snd (m : Nat → Int) (f0 f1 f2 : Int) : Prop := F6 m ∧ f0 ≤ m 0 ∧ f1 ≤ m 3 ∧ f2 ≤ m 5 ∧ m 1 * m 1 ≤ (m 3 - f1) * (m 0 - f0) ∧ m 2 * m 2 ≤ (m 5 - f2) * (m 0 - f0) ∧ m 4 * m 4 ≤ (m 5 - f2) * (m 3 - f1)
def sndb (m : Nat → Int) (f0 f1 f2 : Int) : Bool := decide (Snd m f0 f1 f2)
theorem sndb_yes {m : Nat → Int} {f0 f1 f2 : Int} (h : Snd m f0 f1 f2) : sndb m f0 f1 f2 = true := decide_eq_true h
theorem sndb_no {m : Nat → Int} {f0 f1 f2 : Int} (h : ¬ Snd m f0 f1 f2) : sndb m f0 f1 f2 = false := decide_eq_false h

theorem wpList_end {P : Program} {ops : Array Oper} {Q : Exit → Act → World → Prop} {a : Act} {w : World} (h : Q Exit.normal a w) : wpList P ops Q [] a w := h

theorem prod_fits {a b : Int} (a0 : 0 ≤ a) (a1 : a ≤ 9511602413006487552) (b0 : 0 ≤ b) (b1 : b ≤ 9511602413006487552) : 0 ≤ a * b ∧ a * b ≤ 90470580463239060908069418866212704256 := by
  refine ⟨Int.mul_nonneg a0 b0, ?_⟩
  have h1 : a * b ≤ 9511602413006487552 * b := Int.mul_le_mul_of_nonneg_right a1 b0
  omega
/-- Block b holds three numbers without a sign. -/
abbrev UC (w : World) (b : Nat) (x y z : Int) : Prop := w.cell? ⟨b, 0, none⟩ = some (.int .u64 x) ∧ w.cell? ⟨b, 1, none⟩ = some (.int .u64 y) ∧ w.cell? ⟨b, 2, none⟩ = some (.int .u64 z)
theorem uc_keep {w w' : World} (hb : Below w.heap.size w w') {b : Nat} {x y z : Int} (c : UC w b x y z) : UC w' b x y z := ⟨cell_keep hb c.1, cell_keep hb c.2.1, cell_keep hb c.2.2⟩
theorem uf_keep {w w' : World} (hb : Below w.heap.size w w') {b : Nat} {x y z : Int} (c : UC w b x y z) (f : TF w b) : TF w' b := by
  have h1 := World.block_lt_of_cell? w _ c.1
  exact ⟨by rw [hb.frozen (p := ⟨b, 0, none⟩) h1]; exact f.1, by rw [hb.frozen (p := ⟨b, 1, none⟩) h1]; exact f.2.1, by rw [hb.frozen (p := ⟨b, 2, none⟩) h1]; exact f.2.2⟩
theorem pl_set {w : World} {b o : Nat} {v : Value} (h : PL w) (hb : 0 < b) : PL (w.setCell ⟨b, o, none⟩ v) := by
  have n : b ≠ 0 := by omega
  obtain ⟨a0, a1, a2, a3, a4, a5, a6, a7, a8⟩ := h
  have K : ∀ i u, w.cell? ⟨0, i, none⟩ = some u → (w.setCell ⟨b, o, none⟩ v).cell? ⟨0, i, none⟩ = some u := fun i u hu => by rw [World.cell?_setCell_far _ _ _ _ n]; exact hu
  exact ⟨K _ _ a0, K _ _ a1, K _ _ a2, K _ _ a3, K _ _ a4, K _ _ a5, K _ _ a6, K _ _ a7, K _ _ a8⟩
/-- What Sound's loops keep. -/
def SJ (W : World) (A B Q : Nat) (m : Nat → Int) (f0 f1 f2 o0 o1 o2 : Int) (w : World) : Prop :=
  Below W.heap.size W w ∧ SC w A m ∧ TC w B f0 f1 f2 ∧ UC w Q o0 o1 o2 ∧ TF w Q ∧ PL w
theorem sj_keep {W : World} {A B Q : Nat} {m : Nat → Int} {f0 f1 f2 o0 o1 o2 : Int} {w w' : World} (h : SJ W A B Q m f0 f1 f2 o0 o1 o2 w) (hb : Below w.heap.size w w') : SJ W A B Q m f0 f1 f2 o0 o1 o2 w' :=
  ⟨b_trans h.1 hb, sc_keep hb h.2.1, tc_keep hb h.2.2.1, uc_keep hb h.2.2.2.1, uf_keep hb h.2.2.2.1 h.2.2.2.2.1, pl_keep hb h.2.2.2.2.2⟩
theorem sj_sc {W : World} {A B Q : Nat} {m : Nat → Int} {f0 f1 f2 o0 o1 o2 : Int} {w : World} (h : SJ W A B Q m f0 f1 f2 o0 o1 o2 w) : SC w A m := h.2.1
theorem sj_tc {W : World} {A B Q : Nat} {m : Nat → Int} {f0 f1 f2 o0 o1 o2 : Int} {w : World} (h : SJ W A B Q m f0 f1 f2 o0 o1 o2 w) : TC w B f0 f1 f2 := h.2.2.1
theorem sj_uc {W : World} {A B Q : Nat} {m : Nat → Int} {f0 f1 f2 o0 o1 o2 : Int} {w : World} (h : SJ W A B Q m f0 f1 f2 o0 o1 o2 w) : UC w Q o0 o1 o2 := h.2.2.2.1
theorem sj_tf {W : World} {A B Q : Nat} {m : Nat → Int} {f0 f1 f2 o0 o1 o2 : Int} {w : World} (h : SJ W A B Q m f0 f1 f2 o0 o1 o2 w) : TF w Q := h.2.2.2.2.1
theorem sj_pl {W : World} {A B Q : Nat} {m : Nat → Int} {f0 f1 f2 o0 o1 o2 : Int} {w : World} (h : SJ W A B Q m f0 f1 f2 o0 o1 o2 w) : PL w := h.2.2.2.2.2
theorem sj_put0 {W : World} {A B Q : Nat} {m : Nat → Int} {f0 f1 f2 o0 o1 o2 v : Int} {w : World} (h : SJ W A B Q m f0 f1 f2 o0 o1 o2 w) (q : W.heap.size ≤ Q) (q0 : 0 < Q) (qa : Q ≠ A) (qb : Q ≠ B) : SJ W A B Q m f0 f1 f2 v o1 o2 (w.setCell ⟨Q, 0, none⟩ (.int .u64 v)) := by
  obtain ⟨h0, h1, h2, h3, h4, h5⟩ := h
  refine ⟨b_set h0 q, sc_set h1 qa, tc_set h2 qb, ?_, tf_set h4, pl_set h5 q0⟩
  obtain ⟨c0, c1, c2⟩ := h3
  simp [UC, go_sem, c0, c1, c2]
theorem sj_put1 {W : World} {A B Q : Nat} {m : Nat → Int} {f0 f1 f2 o0 o1 o2 v : Int} {w : World} (h : SJ W A B Q m f0 f1 f2 o0 o1 o2 w) (q : W.heap.size ≤ Q) (q0 : 0 < Q) (qa : Q ≠ A) (qb : Q ≠ B) : SJ W A B Q m f0 f1 f2 o0 v o2 (w.setCell ⟨Q, 1, none⟩ (.int .u64 v)) := by
  obtain ⟨h0, h1, h2, h3, h4, h5⟩ := h
  refine ⟨b_set h0 q, sc_set h1 qa, tc_set h2 qb, ?_, tf_set h4, pl_set h5 q0⟩
  obtain ⟨c0, c1, c2⟩ := h3
  simp [UC, go_sem, c0, c1, c2]
theorem sj_put2 {W : World} {A B Q : Nat} {m : Nat → Int} {f0 f1 f2 o0 o1 o2 v : Int} {w : World} (h : SJ W A B Q m f0 f1 f2 o0 o1 o2 w) (q : W.heap.size ≤ Q) (q0 : 0 < Q) (qa : Q ≠ A) (qb : Q ≠ B) : SJ W A B Q m f0 f1 f2 o0 o1 v (w.setCell ⟨Q, 2, none⟩ (.int .u64 v)) := by
  obtain ⟨h0, h1, h2, h3, h4, h5⟩ := h
  refine ⟨b_set h0 q, sc_set h1 qa, tc_set h2 qb, ?_, tf_set h4, pl_set h5 q0⟩
  obtain ⟨c0, c1, c2⟩ := h3
  simp [UC, go_sem, c0, c1, c2]
theorem cmp_le {a b : Int} (h : a ≤ b) : ¬ 0 < cmp3 a b := by
  unfold cmp3
  by_cases c : a = b
  · rw [if_pos c]; decide
  · rw [if_neg c, if_pos (by omega)]; decide
theorem cmp_gt {a b : Int} (h : ¬ a ≤ b) : 0 < cmp3 a b := by unfold cmp3; rw [if_neg (by omega), if_neg (by omega)]; decide
theorem fits_prod {p : Int} (h : 0 ≤ p ∧ p ≤ 90470580463239060908069418866212704256) : Fits p := ⟨by omega, by omega⟩
theorem fit_i64 {x : Int} (h : FitP x) : I64 x := ⟨by omega, by omega⟩
theorem ob_of {x f : Int} (h : FitP x) (hf : I64 f) (c : f ≤ x) : 0 ≤ x - f ∧ x - f ≤ 9511602413006487552 := ⟨by omega, by omega⟩
end Go.Proofs.Ytoohaphaeccafaa
