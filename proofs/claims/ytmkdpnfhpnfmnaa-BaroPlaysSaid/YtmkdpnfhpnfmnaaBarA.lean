/- Layer 16: which counts are good, what a tick brings, of which kind it is: the program's calls and the document's. -/
import Derived.Test.YtmkdpnfhpnfmnaaTick
namespace Go.Proofs.Ytmkdpnfhpnfmnaa
open Go.RowKit Go.Shelf Go.Joins

/-- Is a count? -/
def gd (p : Int) : Bool := decide (90528 ≤ p) && decide (p ≤ 430515)
/-- Which kind of tick: 0: with a good count; 1: with a bad one; 2: without. -/
def kd (h : Bool) (p : Int) : Int := if h then (if gd p then 0 else 1) else 2
/-- Does it bring a count; which one? -/
def br (h : Bool) (p : Int) : Bool := h && gd p
def bv (h : Bool) (p : Int) : Int := if br h p then p else 0
theorem gd_lo {p : Int} (c : ¬ 90528 ≤ p) : gd p = false := by simp [gd, c]
theorem gd_in {p : Int} (c : 90528 ≤ p) (d : p ≤ 430515) : gd p = true := by simp [gd, c, d]
theorem gd_hi {p : Int} (d : ¬ p ≤ 430515) : gd p = false := by simp [gd, d]
/-- The three kinds. -/
theorem three (h : Bool) (p : Int) : (h = true ∧ gd p = true ∧ kd h p = 0 ∧ br h p = true ∧ bv h p = p) ∨ (h = true ∧ gd p = false ∧ kd h p = 1 ∧ br h p = false ∧ bv h p = 0) ∨ (h = false ∧ kd h p = 2 ∧ br h p = false ∧ bv h p = 0) := by
  cases h <;> cases g : gd p <;> simp [kd, br, bv, g]

set_option maxHeartbeats 4000000 in
set_option maxRecDepth 10000 in
theorem good_any (p : Int) (w : World) : Calls Try.prog 15 #[.int .i64 p] w (RetV (.bool (gd p)) w) := by
  by_cases c : 90528 ≤ p
  · have c0 : 90528 ≤ p := by omega
    by_cases d : p ≤ 430515
    · rw [gd_in c d]
      have c1 : p ≤ 430515 := by omega
      clear c d
      go_enter Try.func15, Try.ntmps15
      go_wp2
      go_ret
      exact ⟨rfl, Below.refl _ _⟩
    · rw [gd_hi d]
      have c1 : ¬ p ≤ 430515 := by omega
      clear c d
      go_enter Try.func15, Try.ntmps15
      go_wp2
      go_ret
      exact ⟨rfl, Below.refl _ _⟩
  · rw [gd_lo c]
    have c0 : ¬ 90528 ≤ p := by omega
    clear c
    go_enter Try.func15, Try.ntmps15
    go_wp2
    go_ret
    exact ⟨rfl, Below.refl _ _⟩
set_option maxHeartbeats 4000000 in
set_option maxRecDepth 10000 in
theorem rgood_any (p : Int) (w : World) : Calls Try.prog 14 #[.int .i64 p] w (RetV (.bool (gd p)) w) := by
  by_cases c : 90528 ≤ p
  · have c0 : 90527 < p := by omega
    by_cases d : p ≤ 430515
    · rw [gd_in c d]
      have c1 : p < 430516 := by omega
      clear c d
      go_enter Try.func14, Try.ntmps14
      go_wp2
      go_ret
      exact ⟨rfl, Below.refl _ _⟩
    · rw [gd_hi d]
      have c1 : ¬ p < 430516 := by omega
      clear c d
      go_enter Try.func14, Try.ntmps14
      go_wp2
      go_ret
      exact ⟨rfl, Below.refl _ _⟩
  · rw [gd_lo c]
    have c0 : ¬ 90527 < p := by omega
    clear c
    go_enter Try.func14, Try.ntmps14
    go_wp2
    go_ret
    exact ⟨rfl, Below.refl _ _⟩
set_option maxHeartbeats 4000000 in
set_option maxRecDepth 10000 in
theorem kind_any (a : Int) (h : Bool) (p : Int) (s : Bool) (w : World) : Calls Try.prog 13 #[tk a h p s] w (RetV (.int .i64 (kd h p)) w) := by
  have cg := good_any p
  rcases three h p with ⟨rfl, g, k, -, -⟩ | ⟨rfl, g, k, -, -⟩ | ⟨rfl, k, -, -⟩
  · rw [k]
    rw [g] at cg
    clear k g
    go_enter Try.func13, Try.ntmps13
    go_wp2_with fail
    refine (cg _).mono ?_
    rintro e y0 ⟨rfl, hb⟩
    go_wp2
    go_ret
    exact ⟨rfl, b_trans (b_alloc (Below.refl _ _)) hb⟩
  · rw [k]
    rw [g] at cg
    clear k g
    go_enter Try.func13, Try.ntmps13
    go_wp2_with fail
    refine (cg _).mono ?_
    rintro e y0 ⟨rfl, hb⟩
    go_wp2
    go_ret
    exact ⟨rfl, b_trans (b_alloc (Below.refl _ _)) hb⟩
  · rw [k]
    clear k cg
    go_enter Try.func13, Try.ntmps13
    go_wp2
    go_ret
    exact ⟨rfl, b_alloc (Below.refl _ _)⟩
set_option maxHeartbeats 4000000 in
set_option maxRecDepth 10000 in
theorem brings_any (a : Int) (h : Bool) (p : Int) (s : Bool) (w : World) : Calls Try.prog 9 #[tk a h p s] w (RetV (.tuple #[.int .i64 (bv h p), .bool (br h p)]) w) := by
  have ck := kind_any a h p s
  have tw : TW (w.alloc (Obj.cells #[.int .i64 a, .bool h, .int .i64 p, .bool s] 27)) w.heap.size 0 a h p s := tw_new
  have E : Below w.heap.size w (w.alloc (Obj.cells #[.int .i64 a, .bool h, .int .i64 p, .bool s] 27)) := b_alloc (Below.refl _ _)
  rcases three h p with ⟨-, -, k, k1, k2⟩ | ⟨-, -, k, k1, k2⟩ | ⟨-, k, k1, k2⟩
  · rw [k1, k2]
    rw [k] at ck
    clear k k1 k2
    go_enter Try.func9, Try.ntmps9
    go_wp2_with fail
    refine (ck _).mono ?_
    rintro e y0 ⟨rfl, hb⟩
    replace tw := tw_keep hb tw
    replace E := b_trans E hb
    clear hb ck
    obtain ⟨t0, t1, t2, t3⟩ := tw
    go_wp2
    go_ret2
    exact ⟨rfl, E⟩
  · rw [k1, k2]
    rw [k] at ck
    clear k k1 k2
    go_enter Try.func9, Try.ntmps9
    go_wp2_with fail
    refine (ck _).mono ?_
    rintro e y0 ⟨rfl, hb⟩
    replace tw := tw_keep hb tw
    replace E := b_trans E hb
    clear hb ck
    obtain ⟨t0, t1, t2, t3⟩ := tw
    go_wp2
    go_ret2
    exact ⟨rfl, E⟩
  · rw [k1, k2]
    rw [k] at ck
    clear k k1 k2
    go_enter Try.func9, Try.ntmps9
    go_wp2_with fail
    refine (ck _).mono ?_
    rintro e y0 ⟨rfl, hb⟩
    replace tw := tw_keep hb tw
    replace E := b_trans E hb
    clear hb ck
    obtain ⟨t0, t1, t2, t3⟩ := tw
    go_wp2
    go_ret2
    exact ⟨rfl, E⟩
set_option maxHeartbeats 4000000 in
set_option maxRecDepth 10000 in
theorem rbrings_any (a : Int) (h : Bool) (p : Int) (s : Bool) (w : World) : Calls Try.prog 8 #[tk a h p s] w (RetV (.tuple #[.int .i64 (bv h p), .bool (br h p)]) w) := by
  have cg := rgood_any p
  have tw : TW (w.alloc (Obj.cells #[.int .i64 a, .bool h, .int .i64 p, .bool s] 27)) w.heap.size 0 a h p s := tw_new
  have E : Below w.heap.size w (w.alloc (Obj.cells #[.int .i64 a, .bool h, .int .i64 p, .bool s] 27)) := b_alloc (Below.refl _ _)
  rcases three h p with ⟨rfl, g, -, k1, k2⟩ | ⟨rfl, g, -, k1, k2⟩ | ⟨rfl, -, k1, k2⟩
  · rw [k1, k2]
    rw [g] at cg
    clear k1 k2 g
    go_enter Try.func8, Try.ntmps8
    go_wp2_with fail
    refine (cg _).mono ?_
    rintro e y0 ⟨rfl, hb⟩
    replace tw := tw_keep hb tw
    replace E := b_trans E hb
    clear hb cg
    obtain ⟨t0, t1, t2, t3⟩ := tw
    go_wp2
    go_ret2
    exact ⟨rfl, E⟩
  · rw [k1, k2]
    rw [g] at cg
    clear k1 k2 g
    go_enter Try.func8, Try.ntmps8
    go_wp2_with fail
    refine (cg _).mono ?_
    rintro e y0 ⟨rfl, hb⟩
    replace tw := tw_keep hb tw
    replace E := b_trans E hb
    clear hb cg
    obtain ⟨t0, t1, t2, t3⟩ := tw
    go_wp2
    go_ret2
    exact ⟨rfl, E⟩
  · rw [k1, k2]
    clear k1 k2 cg
    go_enter Try.func8, Try.ntmps8
    go_wp2
    go_ret2
    exact ⟨rfl, E⟩
end Go.Proofs.Ytmkdpnfhpnfmnaa
