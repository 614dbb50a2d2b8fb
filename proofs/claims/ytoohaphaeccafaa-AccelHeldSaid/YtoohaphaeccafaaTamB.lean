/- Two matrices held against one another; whether a floor and a ceiling may be, the program's answer and the document's. -/
import Derived.Test.YtoohaphaeccafaaTamA
import Derived.Test.YtoohaphaeccafaaSymB
import Derived.Deep.QuietTactic
import Derived.BigQuiet
import Derived.Lib.SmallJoins
namespace Go.Proofs.Ytoohaphaeccafaa
open Go.RowKit Go.Shelf Go.Joins

/-- Are two matrices the same? -/
def sqb (a b : Nat → Int) : Bool := a 0 == b 0 && (a 1 == b 1 && (a 2 == b 2 && (a 3 == b 3 && (a 4 == b 4 && a 5 == b 5))))
theorem sqb_iff {a b : Nat → Int} : sqb a b = true ↔ ∀ i, i < 6 → a i = b i := by
  unfold sqb
  simp only [Bool.and_eq_true, beq_iff_eq]
  constructor
  · rintro ⟨h0, h1, h2, h3, h4, h5⟩
    exact six (P := fun i => a i = b i) h0 h1 h2 h3 h4 h5
  · intro h
    exact ⟨h 0 (by decide), h 1 (by decide), h 2 (by decide), h 3 (by decide), h 4 (by decide), h 5 (by decide)⟩
theorem sqb_same {a b : Nat → Int} (h : ∀ i, i < 6 → a i = b i) : sqb a b = true := sqb_iff.2 h
/-- May a floor and a ceiling be? -/
abbrev FB3 (f0 f1 f2 c0 c1 c2 : Int) : Prop := FB f0 c0 ∧ FB f1 c1 ∧ FB f2 c2
def mayb (f0 f1 f2 c0 c1 c2 : Int) : Bool := decide (FB3 f0 f1 f2 c0 c1 c2)
theorem mayb_yes {f0 f1 f2 c0 c1 c2 : Int} (h : FB3 f0 f1 f2 c0 c1 c2) : mayb f0 f1 f2 c0 c1 c2 = true := decide_eq_true h
theorem mayb_no {f0 f1 f2 c0 c1 c2 : Int} (h : ¬ FB3 f0 f1 f2 c0 c1 c2) : mayb f0 f1 f2 c0 c1 c2 = false := decide_eq_false h

set_option maxHeartbeats 2000000 in
set_option maxRecDepth 10000 in
theorem may_no00 (f0 f1 f2 c0 c1 c2 : Int) (h0 : I64 c0) (h1 : I64 c1) (h2 : I64 c2) (n0 : f0 < 0) (w : World) :
    Calls Try.prog 32 #[tv f0 f1 f2, tv c0 c1 c2] w (RetV (.bool false) w) := by
  have B : Below w.heap.size w ((w.alloc (Obj.cells #[.int .i64 f0, .int .i64 f1, .int .i64 f2] 23)).alloc (Obj.cells #[.int .i64 c0, .int .i64 c1, .int .i64 c2] 23)) := b_alloc (b_alloc (Below.refl _ _))
  obtain ⟨u0, t0⟩ := h0
  obtain ⟨u1, t1⟩ := h1
  obtain ⟨u2, t2⟩ := h2
  obtain ⟨i0, i1, i2⟩ := ix_vec f0 f1 f2
  go_enter Try.func32, Try.ntmps32
  go_wp2
  refine wp_loop_rounds 4 ?_
  rw [rounds_succ]
  go_wp2
  go_ret
  exact ⟨rfl, B⟩

set_option maxHeartbeats 2000000 in
set_option maxRecDepth 10000 in
theorem may_no01 (f0 f1 f2 c0 c1 c2 : Int) (h0 : I64 c0) (h1 : I64 c1) (h2 : I64 c2) (n0 : ¬ f0 < 0) (m0 : c0 < f0) (w : World) :
    Calls Try.prog 32 #[tv f0 f1 f2, tv c0 c1 c2] w (RetV (.bool false) w) := by
  have B : Below w.heap.size w ((w.alloc (Obj.cells #[.int .i64 f0, .int .i64 f1, .int .i64 f2] 23)).alloc (Obj.cells #[.int .i64 c0, .int .i64 c1, .int .i64 c2] 23)) := b_alloc (b_alloc (Below.refl _ _))
  obtain ⟨u0, t0⟩ := h0
  obtain ⟨u1, t1⟩ := h1
  obtain ⟨u2, t2⟩ := h2
  obtain ⟨i0, i1, i2⟩ := ix_vec f0 f1 f2
  go_enter Try.func32, Try.ntmps32
  go_wp2
  refine wp_loop_rounds 4 ?_
  rw [rounds_succ]
  go_wp2
  go_ret
  exact ⟨rfl, B⟩

set_option maxHeartbeats 2000000 in
set_option maxRecDepth 10000 in
theorem may_no02 (f0 f1 f2 c0 c1 c2 : Int) (h0 : I64 c0) (h1 : I64 c1) (h2 : I64 c2) (n0 : ¬ f0 < 0) (m0 : ¬ c0 < f0) (e0 : fitb c0 = false) (w : World) :
    Calls Try.prog 32 #[tv f0 f1 f2, tv c0 c1 c2] w (RetV (.bool false) w) := by
  have B : Below w.heap.size w ((w.alloc (Obj.cells #[.int .i64 f0, .int .i64 f1, .int .i64 f2] 23)).alloc (Obj.cells #[.int .i64 c0, .int .i64 c1, .int .i64 c2] 23)) := b_alloc (b_alloc (Below.refl _ _))
  obtain ⟨u0, t0⟩ := h0
  obtain ⟨u1, t1⟩ := h1
  obtain ⟨u2, t2⟩ := h2
  obtain ⟨i0, i1, i2⟩ := ix_vec f0 f1 f2
  go_enter Try.func32, Try.ntmps32
  go_wp2
  refine wp_loop_rounds 4 ?_
  rw [rounds_succ]
  go_wp2_with fail
  refine (fits_any c0 u0 t0 _).mono ?_
  rintro x_ w0 ⟨rfl, rfl⟩
  rw [e0]
  go_wp2
  go_ret
  exact ⟨rfl, B⟩

set_option maxHeartbeats 2000000 in
set_option maxRecDepth 10000 in
theorem may_no10 (f0 f1 f2 c0 c1 c2 : Int) (h0 : I64 c0) (h1 : I64 c1) (h2 : I64 c2) (n0 : ¬ f0 < 0) (m0 : ¬ c0 < f0) (e0 : fitb c0 = true) (n1 : f1 < 0) (w : World) :
    Calls Try.prog 32 #[tv f0 f1 f2, tv c0 c1 c2] w (RetV (.bool false) w) := by
  have B : Below w.heap.size w ((w.alloc (Obj.cells #[.int .i64 f0, .int .i64 f1, .int .i64 f2] 23)).alloc (Obj.cells #[.int .i64 c0, .int .i64 c1, .int .i64 c2] 23)) := b_alloc (b_alloc (Below.refl _ _))
  obtain ⟨u0, t0⟩ := h0
  obtain ⟨u1, t1⟩ := h1
  obtain ⟨u2, t2⟩ := h2
  obtain ⟨i0, i1, i2⟩ := ix_vec f0 f1 f2
  go_enter Try.func32, Try.ntmps32
  go_wp2
  refine wp_loop_rounds 4 ?_
  rw [rounds_succ]
  go_wp2_with fail
  refine (fits_any c0 u0 t0 _).mono ?_
  rintro x_ w0 ⟨rfl, rfl⟩
  rw [e0]
  go_wp2
  rw [rounds_succ]
  go_wp2
  go_ret
  exact ⟨rfl, B⟩

set_option maxHeartbeats 2000000 in
set_option maxRecDepth 10000 in
theorem may_no11 (f0 f1 f2 c0 c1 c2 : Int) (h0 : I64 c0) (h1 : I64 c1) (h2 : I64 c2) (n0 : ¬ f0 < 0) (m0 : ¬ c0 < f0) (e0 : fitb c0 = true) (n1 : ¬ f1 < 0) (m1 : c1 < f1) (w : World) :
    Calls Try.prog 32 #[tv f0 f1 f2, tv c0 c1 c2] w (RetV (.bool false) w) := by
  have B : Below w.heap.size w ((w.alloc (Obj.cells #[.int .i64 f0, .int .i64 f1, .int .i64 f2] 23)).alloc (Obj.cells #[.int .i64 c0, .int .i64 c1, .int .i64 c2] 23)) := b_alloc (b_alloc (Below.refl _ _))
  obtain ⟨u0, t0⟩ := h0
  obtain ⟨u1, t1⟩ := h1
  obtain ⟨u2, t2⟩ := h2
  obtain ⟨i0, i1, i2⟩ := ix_vec f0 f1 f2
  go_enter Try.func32, Try.ntmps32
  go_wp2
  refine wp_loop_rounds 4 ?_
  rw [rounds_succ]
  go_wp2_with fail
  refine (fits_any c0 u0 t0 _).mono ?_
  rintro x_ w0 ⟨rfl, rfl⟩
  rw [e0]
  go_wp2
  rw [rounds_succ]
  go_wp2
  go_ret
  exact ⟨rfl, B⟩

set_option maxHeartbeats 2000000 in
set_option maxRecDepth 10000 in
theorem may_no12 (f0 f1 f2 c0 c1 c2 : Int) (h0 : I64 c0) (h1 : I64 c1) (h2 : I64 c2) (n0 : ¬ f0 < 0) (m0 : ¬ c0 < f0) (e0 : fitb c0 = true) (n1 : ¬ f1 < 0) (m1 : ¬ c1 < f1) (e1 : fitb c1 = false) (w : World) :
    Calls Try.prog 32 #[tv f0 f1 f2, tv c0 c1 c2] w (RetV (.bool false) w) := by
  have B : Below w.heap.size w ((w.alloc (Obj.cells #[.int .i64 f0, .int .i64 f1, .int .i64 f2] 23)).alloc (Obj.cells #[.int .i64 c0, .int .i64 c1, .int .i64 c2] 23)) := b_alloc (b_alloc (Below.refl _ _))
  obtain ⟨u0, t0⟩ := h0
  obtain ⟨u1, t1⟩ := h1
  obtain ⟨u2, t2⟩ := h2
  obtain ⟨i0, i1, i2⟩ := ix_vec f0 f1 f2
  go_enter Try.func32, Try.ntmps32
  go_wp2
  refine wp_loop_rounds 4 ?_
  rw [rounds_succ]
  go_wp2_with fail
  refine (fits_any c0 u0 t0 _).mono ?_
  rintro x_ w0 ⟨rfl, rfl⟩
  rw [e0]
  go_wp2
  rw [rounds_succ]
  go_wp2_with fail
  refine (fits_any c1 u1 t1 _).mono ?_
  rintro x_ w1 ⟨rfl, rfl⟩
  rw [e1]
  go_wp2
  go_ret
  exact ⟨rfl, B⟩

set_option maxHeartbeats 2000000 in
set_option maxRecDepth 10000 in
theorem may_no20 (f0 f1 f2 c0 c1 c2 : Int) (h0 : I64 c0) (h1 : I64 c1) (h2 : I64 c2) (n0 : ¬ f0 < 0) (m0 : ¬ c0 < f0) (e0 : fitb c0 = true) (n1 : ¬ f1 < 0) (m1 : ¬ c1 < f1) (e1 : fitb c1 = true) (n2 : f2 < 0) (w : World) :
    Calls Try.prog 32 #[tv f0 f1 f2, tv c0 c1 c2] w (RetV (.bool false) w) := by
  have B : Below w.heap.size w ((w.alloc (Obj.cells #[.int .i64 f0, .int .i64 f1, .int .i64 f2] 23)).alloc (Obj.cells #[.int .i64 c0, .int .i64 c1, .int .i64 c2] 23)) := b_alloc (b_alloc (Below.refl _ _))
  obtain ⟨u0, t0⟩ := h0
  obtain ⟨u1, t1⟩ := h1
  obtain ⟨u2, t2⟩ := h2
  obtain ⟨i0, i1, i2⟩ := ix_vec f0 f1 f2
  go_enter Try.func32, Try.ntmps32
  go_wp2
  refine wp_loop_rounds 4 ?_
  rw [rounds_succ]
  go_wp2_with fail
  refine (fits_any c0 u0 t0 _).mono ?_
  rintro x_ w0 ⟨rfl, rfl⟩
  rw [e0]
  go_wp2
  rw [rounds_succ]
  go_wp2_with fail
  refine (fits_any c1 u1 t1 _).mono ?_
  rintro x_ w1 ⟨rfl, rfl⟩
  rw [e1]
  go_wp2
  rw [rounds_succ]
  go_wp2
  go_ret
  exact ⟨rfl, B⟩

set_option maxHeartbeats 2000000 in
set_option maxRecDepth 10000 in
theorem may_no21 (f0 f1 f2 c0 c1 c2 : Int) (h0 : I64 c0) (h1 : I64 c1) (h2 : I64 c2) (n0 : ¬ f0 < 0) (m0 : ¬ c0 < f0) (e0 : fitb c0 = true) (n1 : ¬ f1 < 0) (m1 : ¬ c1 < f1) (e1 : fitb c1 = true) (n2 : ¬ f2 < 0) (m2 : c2 < f2) (w : World) :
    Calls Try.prog 32 #[tv f0 f1 f2, tv c0 c1 c2] w (RetV (.bool false) w) := by
  have B : Below w.heap.size w ((w.alloc (Obj.cells #[.int .i64 f0, .int .i64 f1, .int .i64 f2] 23)).alloc (Obj.cells #[.int .i64 c0, .int .i64 c1, .int .i64 c2] 23)) := b_alloc (b_alloc (Below.refl _ _))
  obtain ⟨u0, t0⟩ := h0
  obtain ⟨u1, t1⟩ := h1
  obtain ⟨u2, t2⟩ := h2
  obtain ⟨i0, i1, i2⟩ := ix_vec f0 f1 f2
  go_enter Try.func32, Try.ntmps32
  go_wp2
  refine wp_loop_rounds 4 ?_
  rw [rounds_succ]
  go_wp2_with fail
  refine (fits_any c0 u0 t0 _).mono ?_
  rintro x_ w0 ⟨rfl, rfl⟩
  rw [e0]
  go_wp2
  rw [rounds_succ]
  go_wp2_with fail
  refine (fits_any c1 u1 t1 _).mono ?_
  rintro x_ w1 ⟨rfl, rfl⟩
  rw [e1]
  go_wp2
  rw [rounds_succ]
  go_wp2
  go_ret
  exact ⟨rfl, B⟩

set_option maxHeartbeats 2000000 in
set_option maxRecDepth 10000 in
theorem may_no22 (f0 f1 f2 c0 c1 c2 : Int) (h0 : I64 c0) (h1 : I64 c1) (h2 : I64 c2) (n0 : ¬ f0 < 0) (m0 : ¬ c0 < f0) (e0 : fitb c0 = true) (n1 : ¬ f1 < 0) (m1 : ¬ c1 < f1) (e1 : fitb c1 = true) (n2 : ¬ f2 < 0) (m2 : ¬ c2 < f2) (e2 : fitb c2 = false) (w : World) :
    Calls Try.prog 32 #[tv f0 f1 f2, tv c0 c1 c2] w (RetV (.bool false) w) := by
  have B : Below w.heap.size w ((w.alloc (Obj.cells #[.int .i64 f0, .int .i64 f1, .int .i64 f2] 23)).alloc (Obj.cells #[.int .i64 c0, .int .i64 c1, .int .i64 c2] 23)) := b_alloc (b_alloc (Below.refl _ _))
  obtain ⟨u0, t0⟩ := h0
  obtain ⟨u1, t1⟩ := h1
  obtain ⟨u2, t2⟩ := h2
  obtain ⟨i0, i1, i2⟩ := ix_vec f0 f1 f2
  go_enter Try.func32, Try.ntmps32
  go_wp2
  refine wp_loop_rounds 4 ?_
  rw [rounds_succ]
  go_wp2_with fail
  refine (fits_any c0 u0 t0 _).mono ?_
  rintro x_ w0 ⟨rfl, rfl⟩
  rw [e0]
  go_wp2
  rw [rounds_succ]
  go_wp2_with fail
  refine (fits_any c1 u1 t1 _).mono ?_
  rintro x_ w1 ⟨rfl, rfl⟩
  rw [e1]
  go_wp2
  rw [rounds_succ]
  go_wp2_with fail
  refine (fits_any c2 u2 t2 _).mono ?_
  rintro x_ w2 ⟨rfl, rfl⟩
  rw [e2]
  go_wp2
  go_ret
  exact ⟨rfl, B⟩

set_option maxHeartbeats 2000000 in
set_option maxRecDepth 10000 in
theorem may_yes (f0 f1 f2 c0 c1 c2 : Int) (h0 : I64 c0) (h1 : I64 c1) (h2 : I64 c2) (n0 : ¬ f0 < 0) (m0 : ¬ c0 < f0) (e0 : fitb c0 = true) (n1 : ¬ f1 < 0) (m1 : ¬ c1 < f1) (e1 : fitb c1 = true) (n2 : ¬ f2 < 0) (m2 : ¬ c2 < f2) (e2 : fitb c2 = true) (w : World) :
    Calls Try.prog 32 #[tv f0 f1 f2, tv c0 c1 c2] w (RetV (.bool true) w) := by
  have B : Below w.heap.size w ((w.alloc (Obj.cells #[.int .i64 f0, .int .i64 f1, .int .i64 f2] 23)).alloc (Obj.cells #[.int .i64 c0, .int .i64 c1, .int .i64 c2] 23)) := b_alloc (b_alloc (Below.refl _ _))
  obtain ⟨u0, t0⟩ := h0
  obtain ⟨u1, t1⟩ := h1
  obtain ⟨u2, t2⟩ := h2
  obtain ⟨i0, i1, i2⟩ := ix_vec f0 f1 f2
  go_enter Try.func32, Try.ntmps32
  go_wp2
  refine wp_loop_rounds 4 ?_
  rw [rounds_succ]
  go_wp2_with fail
  refine (fits_any c0 u0 t0 _).mono ?_
  rintro x_ w0 ⟨rfl, rfl⟩
  rw [e0]
  go_wp2
  rw [rounds_succ]
  go_wp2_with fail
  refine (fits_any c1 u1 t1 _).mono ?_
  rintro x_ w1 ⟨rfl, rfl⟩
  rw [e1]
  go_wp2
  rw [rounds_succ]
  go_wp2_with fail
  refine (fits_any c2 u2 t2 _).mono ?_
  rintro x_ w2 ⟨rfl, rfl⟩
  rw [e2]
  go_wp2
  rw [rounds_succ]
  go_wp2
  go_ret
  exact ⟨rfl, B⟩

theorem may_any (f0 f1 f2 c0 c1 c2 : Int) (h0 : I64 c0) (h1 : I64 c1) (h2 : I64 c2) (w : World) :
    Calls Try.prog 32 #[tv f0 f1 f2, tv c0 c1 c2] w (RetV (.bool (mayb f0 f1 f2 c0 c1 c2)) w) := by
  by_cases n0 : f0 < 0
  · rw [mayb_no (fun h => by have := h.1; omega)]
    exact may_no00 f0 f1 f2 c0 c1 c2 h0 h1 h2 n0 w
  by_cases m0 : c0 < f0
  · rw [mayb_no (fun h => by have := h.1; omega)]
    exact may_no01 f0 f1 f2 c0 c1 c2 h0 h1 h2 n0 m0 w
  by_cases e0 : FitP c0
  rotate_left
  · rw [mayb_no (fun h => e0 ⟨by have := h.1; omega, (h.1).2.2⟩)]
    exact may_no02 f0 f1 f2 c0 c1 c2 h0 h1 h2 n0 m0 (fitb_no e0) w
  by_cases n1 : f1 < 0
  · rw [mayb_no (fun h => by have := h.2.1; omega)]
    exact may_no10 f0 f1 f2 c0 c1 c2 h0 h1 h2 n0 m0 (fitb_yes e0) n1 w
  by_cases m1 : c1 < f1
  · rw [mayb_no (fun h => by have := h.2.1; omega)]
    exact may_no11 f0 f1 f2 c0 c1 c2 h0 h1 h2 n0 m0 (fitb_yes e0) n1 m1 w
  by_cases e1 : FitP c1
  rotate_left
  · rw [mayb_no (fun h => e1 ⟨by have := h.2.1; omega, (h.2.1).2.2⟩)]
    exact may_no12 f0 f1 f2 c0 c1 c2 h0 h1 h2 n0 m0 (fitb_yes e0) n1 m1 (fitb_no e1) w
  by_cases n2 : f2 < 0
  · rw [mayb_no (fun h => by have := h.2.2; omega)]
    exact may_no20 f0 f1 f2 c0 c1 c2 h0 h1 h2 n0 m0 (fitb_yes e0) n1 m1 (fitb_yes e1) n2 w
  by_cases m2 : c2 < f2
  · rw [mayb_no (fun h => by have := h.2.2; omega)]
    exact may_no21 f0 f1 f2 c0 c1 c2 h0 h1 h2 n0 m0 (fitb_yes e0) n1 m1 (fitb_yes e1) n2 m2 w
  by_cases e2 : FitP c2
  rotate_left
  · rw [mayb_no (fun h => e2 ⟨by have := h.2.2; omega, (h.2.2).2.2⟩)]
    exact may_no22 f0 f1 f2 c0 c1 c2 h0 h1 h2 n0 m0 (fitb_yes e0) n1 m1 (fitb_yes e1) n2 m2 (fitb_no e2) w
  rw [mayb_yes ⟨⟨by omega, by omega, e0.2⟩, ⟨by omega, by omega, e1.2⟩, ⟨by omega, by omega, e2.2⟩⟩]
  exact may_yes f0 f1 f2 c0 c1 c2 h0 h1 h2 n0 m0 (fitb_yes e0) n1 m1 (fitb_yes e1) n2 m2 (fitb_yes e2) w

set_option maxHeartbeats 2000000 in
set_option maxRecDepth 10000 in
theorem rmay_no00 (f0 f1 f2 c0 c1 c2 : Int) (h0 : I64 c0) (h1 : I64 c1) (h2 : I64 c2) (n0 : decide (f0 < 0) = true) (w : World) :
    Calls Try.prog 42 #[tv f0 f1 f2, tv c0 c1 c2] w (RetV (.bool false) w) := by
  have B : Below w.heap.size w ((w.alloc (Obj.cells #[.int .i64 f0, .int .i64 f1, .int .i64 f2] 23)).alloc (Obj.cells #[.int .i64 c0, .int .i64 c1, .int .i64 c2] 23)) := b_alloc (b_alloc (Below.refl _ _))
  obtain ⟨u0, t0⟩ := h0
  obtain ⟨u1, t1⟩ := h1
  obtain ⟨u2, t2⟩ := h2
  go_enter Try.func42, Try.ntmps42
  have kf : TC ((w.alloc (Obj.cells #[.int .i64 f0, .int .i64 f1, .int .i64 f2] 23)).alloc (Obj.cells #[.int .i64 c0, .int .i64 c1, .int .i64 c2] 23)) w.heap.size f0 f1 f2 := tc_alloc (tc_new rfl)
  have kc : TC ((w.alloc (Obj.cells #[.int .i64 f0, .int .i64 f1, .int .i64 f2] 23)).alloc (Obj.cells #[.int .i64 c0, .int .i64 c1, .int .i64 c2] 23)) (w.heap.size + 1) c0 c1 c2 := tc_new (by simp)
  go_wp2
  generalize ((w.alloc (Obj.cells #[.int .i64 f0, .int .i64 f1, .int .i64 f2] 23)).alloc (Obj.cells #[.int .i64 c0, .int .i64 c1, .int .i64 c2] 23)) = y0 at *
  refine wp_loop_rounds 4 ?_
  rw [rounds_succ]
  go_wp2
  go_quiet (fail)
  replace B := b_trans B (below_draws _ _ nq)
  replace kf := tc_keep (below_draws _ _ nq) kf
  replace kc := tc_keep (below_draws _ _ nq) kc
  generalize y0.drewN nq = y1 at *
  go_wp2
  go_ret
  exact ⟨rfl, B⟩

set_option maxHeartbeats 2000000 in
set_option maxRecDepth 10000 in
theorem rmay_no01 (f0 f1 f2 c0 c1 c2 : Int) (h0 : I64 c0) (h1 : I64 c1) (h2 : I64 c2) (n0 : decide (f0 < 0) = false) (m0 : decide (c0 < f0) = true) (w : World) :
    Calls Try.prog 42 #[tv f0 f1 f2, tv c0 c1 c2] w (RetV (.bool false) w) := by
  have B : Below w.heap.size w ((w.alloc (Obj.cells #[.int .i64 f0, .int .i64 f1, .int .i64 f2] 23)).alloc (Obj.cells #[.int .i64 c0, .int .i64 c1, .int .i64 c2] 23)) := b_alloc (b_alloc (Below.refl _ _))
  obtain ⟨u0, t0⟩ := h0
  obtain ⟨u1, t1⟩ := h1
  obtain ⟨u2, t2⟩ := h2
  go_enter Try.func42, Try.ntmps42
  have kf : TC ((w.alloc (Obj.cells #[.int .i64 f0, .int .i64 f1, .int .i64 f2] 23)).alloc (Obj.cells #[.int .i64 c0, .int .i64 c1, .int .i64 c2] 23)) w.heap.size f0 f1 f2 := tc_alloc (tc_new rfl)
  have kc : TC ((w.alloc (Obj.cells #[.int .i64 f0, .int .i64 f1, .int .i64 f2] 23)).alloc (Obj.cells #[.int .i64 c0, .int .i64 c1, .int .i64 c2] 23)) (w.heap.size + 1) c0 c1 c2 := tc_new (by simp)
  go_wp2
  generalize ((w.alloc (Obj.cells #[.int .i64 f0, .int .i64 f1, .int .i64 f2] 23)).alloc (Obj.cells #[.int .i64 c0, .int .i64 c1, .int .i64 c2] 23)) = y0 at *
  refine wp_loop_rounds 4 ?_
  rw [rounds_succ]
  go_wp2
  go_quiet (fail)
  replace B := b_trans B (below_draws _ _ nq)
  replace kf := tc_keep (below_draws _ _ nq) kf
  replace kc := tc_keep (below_draws _ _ nq) kc
  generalize y0.drewN nq = y1 at *
  go_wp2
  go_ret
  exact ⟨rfl, B⟩

set_option maxHeartbeats 2000000 in
set_option maxRecDepth 10000 in
theorem rmay_no02 (f0 f1 f2 c0 c1 c2 : Int) (h0 : I64 c0) (h1 : I64 c1) (h2 : I64 c2) (n0 : decide (f0 < 0) = false) (m0 : decide (c0 < f0) = false) (e0 : fitb c0 = false) (w : World) :
    Calls Try.prog 42 #[tv f0 f1 f2, tv c0 c1 c2] w (RetV (.bool false) w) := by
  have B : Below w.heap.size w ((w.alloc (Obj.cells #[.int .i64 f0, .int .i64 f1, .int .i64 f2] 23)).alloc (Obj.cells #[.int .i64 c0, .int .i64 c1, .int .i64 c2] 23)) := b_alloc (b_alloc (Below.refl _ _))
  obtain ⟨u0, t0⟩ := h0
  obtain ⟨u1, t1⟩ := h1
  obtain ⟨u2, t2⟩ := h2
  go_enter Try.func42, Try.ntmps42
  have kf : TC ((w.alloc (Obj.cells #[.int .i64 f0, .int .i64 f1, .int .i64 f2] 23)).alloc (Obj.cells #[.int .i64 c0, .int .i64 c1, .int .i64 c2] 23)) w.heap.size f0 f1 f2 := tc_alloc (tc_new rfl)
  have kc : TC ((w.alloc (Obj.cells #[.int .i64 f0, .int .i64 f1, .int .i64 f2] 23)).alloc (Obj.cells #[.int .i64 c0, .int .i64 c1, .int .i64 c2] 23)) (w.heap.size + 1) c0 c1 c2 := tc_new (by simp)
  go_wp2
  generalize ((w.alloc (Obj.cells #[.int .i64 f0, .int .i64 f1, .int .i64 f2] 23)).alloc (Obj.cells #[.int .i64 c0, .int .i64 c1, .int .i64 c2] 23)) = y0 at *
  refine wp_loop_rounds 4 ?_
  rw [rounds_succ]
  go_wp2
  have cF : ∀ w, Calls Try.prog 44 #[.int .i64 c0] w fun x_ w_ => x_ = .returned (.bool false) ∧ w = w_ := fun w => by rw [← e0]; exact fits_ref c0 u0 t0 w
  go_quiet ((go_at_call 44; exact Calls.quiet_of_same ((cF _).mono fun _ _ h => ⟨h.1, h.2.symm⟩)))
  clear cF
  replace B := b_trans B (below_draws _ _ nq)
  replace kf := tc_keep (below_draws _ _ nq) kf
  replace kc := tc_keep (below_draws _ _ nq) kc
  generalize y0.drewN nq = y1 at *
  go_wp2
  go_ret
  exact ⟨rfl, B⟩

set_option maxHeartbeats 2000000 in
set_option maxRecDepth 10000 in
theorem rmay_no10 (f0 f1 f2 c0 c1 c2 : Int) (h0 : I64 c0) (h1 : I64 c1) (h2 : I64 c2) (n0 : decide (f0 < 0) = false) (m0 : decide (c0 < f0) = false) (e0 : fitb c0 = true) (n1 : decide (f1 < 0) = true) (w : World) :
    Calls Try.prog 42 #[tv f0 f1 f2, tv c0 c1 c2] w (RetV (.bool false) w) := by
  have B : Below w.heap.size w ((w.alloc (Obj.cells #[.int .i64 f0, .int .i64 f1, .int .i64 f2] 23)).alloc (Obj.cells #[.int .i64 c0, .int .i64 c1, .int .i64 c2] 23)) := b_alloc (b_alloc (Below.refl _ _))
  obtain ⟨u0, t0⟩ := h0
  obtain ⟨u1, t1⟩ := h1
  obtain ⟨u2, t2⟩ := h2
  go_enter Try.func42, Try.ntmps42
  have kf : TC ((w.alloc (Obj.cells #[.int .i64 f0, .int .i64 f1, .int .i64 f2] 23)).alloc (Obj.cells #[.int .i64 c0, .int .i64 c1, .int .i64 c2] 23)) w.heap.size f0 f1 f2 := tc_alloc (tc_new rfl)
  have kc : TC ((w.alloc (Obj.cells #[.int .i64 f0, .int .i64 f1, .int .i64 f2] 23)).alloc (Obj.cells #[.int .i64 c0, .int .i64 c1, .int .i64 c2] 23)) (w.heap.size + 1) c0 c1 c2 := tc_new (by simp)
  go_wp2
  generalize ((w.alloc (Obj.cells #[.int .i64 f0, .int .i64 f1, .int .i64 f2] 23)).alloc (Obj.cells #[.int .i64 c0, .int .i64 c1, .int .i64 c2] 23)) = y0 at *
  refine wp_loop_rounds 4 ?_
  rw [rounds_succ]
  go_wp2
  have cF : ∀ w, Calls Try.prog 44 #[.int .i64 c0] w fun x_ w_ => x_ = .returned (.bool true) ∧ w = w_ := fun w => by rw [← e0]; exact fits_ref c0 u0 t0 w
  go_quiet ((go_at_call 44; exact Calls.quiet_of_same ((cF _).mono fun _ _ h => ⟨h.1, h.2.symm⟩)))
  clear cF
  replace B := b_trans B (below_draws _ _ nq)
  replace kf := tc_keep (below_draws _ _ nq) kf
  replace kc := tc_keep (below_draws _ _ nq) kc
  generalize y0.drewN nq = y1 at *
  go_wp2
  rw [rounds_succ]
  go_wp2
  go_quiet (fail)
  replace B := b_trans B (below_draws _ _ nq)
  replace kf := tc_keep (below_draws _ _ nq) kf
  replace kc := tc_keep (below_draws _ _ nq) kc
  generalize y1.drewN nq = y2 at *
  go_wp2
  go_ret
  exact ⟨rfl, B⟩

set_option maxHeartbeats 2000000 in
set_option maxRecDepth 10000 in
theorem rmay_no11 (f0 f1 f2 c0 c1 c2 : Int) (h0 : I64 c0) (h1 : I64 c1) (h2 : I64 c2) (n0 : decide (f0 < 0) = false) (m0 : decide (c0 < f0) = false) (e0 : fitb c0 = true) (n1 : decide (f1 < 0) = false) (m1 : decide (c1 < f1) = true) (w : World) :
    Calls Try.prog 42 #[tv f0 f1 f2, tv c0 c1 c2] w (RetV (.bool false) w) := by
  have B : Below w.heap.size w ((w.alloc (Obj.cells #[.int .i64 f0, .int .i64 f1, .int .i64 f2] 23)).alloc (Obj.cells #[.int .i64 c0, .int .i64 c1, .int .i64 c2] 23)) := b_alloc (b_alloc (Below.refl _ _))
  obtain ⟨u0, t0⟩ := h0
  obtain ⟨u1, t1⟩ := h1
  obtain ⟨u2, t2⟩ := h2
  go_enter Try.func42, Try.ntmps42
  have kf : TC ((w.alloc (Obj.cells #[.int .i64 f0, .int .i64 f1, .int .i64 f2] 23)).alloc (Obj.cells #[.int .i64 c0, .int .i64 c1, .int .i64 c2] 23)) w.heap.size f0 f1 f2 := tc_alloc (tc_new rfl)
  have kc : TC ((w.alloc (Obj.cells #[.int .i64 f0, .int .i64 f1, .int .i64 f2] 23)).alloc (Obj.cells #[.int .i64 c0, .int .i64 c1, .int .i64 c2] 23)) (w.heap.size + 1) c0 c1 c2 := tc_new (by simp)
  go_wp2
  generalize ((w.alloc (Obj.cells #[.int .i64 f0, .int .i64 f1, .int .i64 f2] 23)).alloc (Obj.cells #[.int .i64 c0, .int .i64 c1, .int .i64 c2] 23)) = y0 at *
  refine wp_loop_rounds 4 ?_
  rw [rounds_succ]
  go_wp2
  have cF : ∀ w, Calls Try.prog 44 #[.int .i64 c0] w fun x_ w_ => x_ = .returned (.bool true) ∧ w = w_ := fun w => by rw [← e0]; exact fits_ref c0 u0 t0 w
  go_quiet ((go_at_call 44; exact Calls.quiet_of_same ((cF _).mono fun _ _ h => ⟨h.1, h.2.symm⟩)))
  clear cF
  replace B := b_trans B (below_draws _ _ nq)
  replace kf := tc_keep (below_draws _ _ nq) kf
  replace kc := tc_keep (below_draws _ _ nq) kc
  generalize y0.drewN nq = y1 at *
  go_wp2
  rw [rounds_succ]
  go_wp2
  go_quiet (fail)
  replace B := b_trans B (below_draws _ _ nq)
  replace kf := tc_keep (below_draws _ _ nq) kf
  replace kc := tc_keep (below_draws _ _ nq) kc
  generalize y1.drewN nq = y2 at *
  go_wp2
  go_ret
  exact ⟨rfl, B⟩

set_option maxHeartbeats 2000000 in
set_option maxRecDepth 10000 in
theorem rmay_no12 (f0 f1 f2 c0 c1 c2 : Int) (h0 : I64 c0) (h1 : I64 c1) (h2 : I64 c2) (n0 : decide (f0 < 0) = false) (m0 : decide (c0 < f0) = false) (e0 : fitb c0 = true) (n1 : decide (f1 < 0) = false) (m1 : decide (c1 < f1) = false) (e1 : fitb c1 = false) (w : World) :
    Calls Try.prog 42 #[tv f0 f1 f2, tv c0 c1 c2] w (RetV (.bool false) w) := by
  have B : Below w.heap.size w ((w.alloc (Obj.cells #[.int .i64 f0, .int .i64 f1, .int .i64 f2] 23)).alloc (Obj.cells #[.int .i64 c0, .int .i64 c1, .int .i64 c2] 23)) := b_alloc (b_alloc (Below.refl _ _))
  obtain ⟨u0, t0⟩ := h0
  obtain ⟨u1, t1⟩ := h1
  obtain ⟨u2, t2⟩ := h2
  go_enter Try.func42, Try.ntmps42
  have kf : TC ((w.alloc (Obj.cells #[.int .i64 f0, .int .i64 f1, .int .i64 f2] 23)).alloc (Obj.cells #[.int .i64 c0, .int .i64 c1, .int .i64 c2] 23)) w.heap.size f0 f1 f2 := tc_alloc (tc_new rfl)
  have kc : TC ((w.alloc (Obj.cells #[.int .i64 f0, .int .i64 f1, .int .i64 f2] 23)).alloc (Obj.cells #[.int .i64 c0, .int .i64 c1, .int .i64 c2] 23)) (w.heap.size + 1) c0 c1 c2 := tc_new (by simp)
  go_wp2
  generalize ((w.alloc (Obj.cells #[.int .i64 f0, .int .i64 f1, .int .i64 f2] 23)).alloc (Obj.cells #[.int .i64 c0, .int .i64 c1, .int .i64 c2] 23)) = y0 at *
  refine wp_loop_rounds 4 ?_
  rw [rounds_succ]
  go_wp2
  have cF : ∀ w, Calls Try.prog 44 #[.int .i64 c0] w fun x_ w_ => x_ = .returned (.bool true) ∧ w = w_ := fun w => by rw [← e0]; exact fits_ref c0 u0 t0 w
  go_quiet ((go_at_call 44; exact Calls.quiet_of_same ((cF _).mono fun _ _ h => ⟨h.1, h.2.symm⟩)))
  clear cF
  replace B := b_trans B (below_draws _ _ nq)
  replace kf := tc_keep (below_draws _ _ nq) kf
  replace kc := tc_keep (below_draws _ _ nq) kc
  generalize y0.drewN nq = y1 at *
  go_wp2
  rw [rounds_succ]
  go_wp2
  have cF : ∀ w, Calls Try.prog 44 #[.int .i64 c1] w fun x_ w_ => x_ = .returned (.bool false) ∧ w = w_ := fun w => by rw [← e1]; exact fits_ref c1 u1 t1 w
  go_quiet ((go_at_call 44; exact Calls.quiet_of_same ((cF _).mono fun _ _ h => ⟨h.1, h.2.symm⟩)))
  clear cF
  replace B := b_trans B (below_draws _ _ nq)
  replace kf := tc_keep (below_draws _ _ nq) kf
  replace kc := tc_keep (below_draws _ _ nq) kc
  generalize y1.drewN nq = y2 at *
  go_wp2
  go_ret
  exact ⟨rfl, B⟩

set_option maxHeartbeats 2000000 in
set_option maxRecDepth 10000 in
theorem rmay_no20 (f0 f1 f2 c0 c1 c2 : Int) (h0 : I64 c0) (h1 : I64 c1) (h2 : I64 c2) (n0 : decide (f0 < 0) = false) (m0 : decide (c0 < f0) = false) (e0 : fitb c0 = true) (n1 : decide (f1 < 0) = false) (m1 : decide (c1 < f1) = false) (e1 : fitb c1 = true) (n2 : decide (f2 < 0) = true) (w : World) :
    Calls Try.prog 42 #[tv f0 f1 f2, tv c0 c1 c2] w (RetV (.bool false) w) := by
  have B : Below w.heap.size w ((w.alloc (Obj.cells #[.int .i64 f0, .int .i64 f1, .int .i64 f2] 23)).alloc (Obj.cells #[.int .i64 c0, .int .i64 c1, .int .i64 c2] 23)) := b_alloc (b_alloc (Below.refl _ _))
  obtain ⟨u0, t0⟩ := h0
  obtain ⟨u1, t1⟩ := h1
  obtain ⟨u2, t2⟩ := h2
  go_enter Try.func42, Try.ntmps42
  have kf : TC ((w.alloc (Obj.cells #[.int .i64 f0, .int .i64 f1, .int .i64 f2] 23)).alloc (Obj.cells #[.int .i64 c0, .int .i64 c1, .int .i64 c2] 23)) w.heap.size f0 f1 f2 := tc_alloc (tc_new rfl)
  have kc : TC ((w.alloc (Obj.cells #[.int .i64 f0, .int .i64 f1, .int .i64 f2] 23)).alloc (Obj.cells #[.int .i64 c0, .int .i64 c1, .int .i64 c2] 23)) (w.heap.size + 1) c0 c1 c2 := tc_new (by simp)
  go_wp2
  generalize ((w.alloc (Obj.cells #[.int .i64 f0, .int .i64 f1, .int .i64 f2] 23)).alloc (Obj.cells #[.int .i64 c0, .int .i64 c1, .int .i64 c2] 23)) = y0 at *
  refine wp_loop_rounds 4 ?_
  rw [rounds_succ]
  go_wp2
  have cF : ∀ w, Calls Try.prog 44 #[.int .i64 c0] w fun x_ w_ => x_ = .returned (.bool true) ∧ w = w_ := fun w => by rw [← e0]; exact fits_ref c0 u0 t0 w
  go_quiet ((go_at_call 44; exact Calls.quiet_of_same ((cF _).mono fun _ _ h => ⟨h.1, h.2.symm⟩)))
  clear cF
  replace B := b_trans B (below_draws _ _ nq)
  replace kf := tc_keep (below_draws _ _ nq) kf
  replace kc := tc_keep (below_draws _ _ nq) kc
  generalize y0.drewN nq = y1 at *
  go_wp2
  rw [rounds_succ]
  go_wp2
  have cF : ∀ w, Calls Try.prog 44 #[.int .i64 c1] w fun x_ w_ => x_ = .returned (.bool true) ∧ w = w_ := fun w => by rw [← e1]; exact fits_ref c1 u1 t1 w
  go_quiet ((go_at_call 44; exact Calls.quiet_of_same ((cF _).mono fun _ _ h => ⟨h.1, h.2.symm⟩)))
  clear cF
  replace B := b_trans B (below_draws _ _ nq)
  replace kf := tc_keep (below_draws _ _ nq) kf
  replace kc := tc_keep (below_draws _ _ nq) kc
  generalize y1.drewN nq = y2 at *
  go_wp2
  rw [rounds_succ]
  go_wp2
  go_quiet (fail)
  replace B := b_trans B (below_draws _ _ nq)
  replace kf := tc_keep (below_draws _ _ nq) kf
  replace kc := tc_keep (below_draws _ _ nq) kc
  generalize y2.drewN nq = y3 at *
  go_wp2
  go_ret
  exact ⟨rfl, B⟩

set_option maxHeartbeats 2000000 in
set_option maxRecDepth 10000 in
theorem rmay_no21 (f0 f1 f2 c0 c1 c2 : Int) (h0 : I64 c0) (h1 : I64 c1) (h2 : I64 c2) (n0 : decide (f0 < 0) = false) (m0 : decide (c0 < f0) = false) (e0 : fitb c0 = true) (n1 : decide (f1 < 0) = false) (m1 : decide (c1 < f1) = false) (e1 : fitb c1 = true) (n2 : decide (f2 < 0) = false) (m2 : decide (c2 < f2) = true) (w : World) :
    Calls Try.prog 42 #[tv f0 f1 f2, tv c0 c1 c2] w (RetV (.bool false) w) := by
  have B : Below w.heap.size w ((w.alloc (Obj.cells #[.int .i64 f0, .int .i64 f1, .int .i64 f2] 23)).alloc (Obj.cells #[.int .i64 c0, .int .i64 c1, .int .i64 c2] 23)) := b_alloc (b_alloc (Below.refl _ _))
  obtain ⟨u0, t0⟩ := h0
  obtain ⟨u1, t1⟩ := h1
  obtain ⟨u2, t2⟩ := h2
  go_enter Try.func42, Try.ntmps42
  have kf : TC ((w.alloc (Obj.cells #[.int .i64 f0, .int .i64 f1, .int .i64 f2] 23)).alloc (Obj.cells #[.int .i64 c0, .int .i64 c1, .int .i64 c2] 23)) w.heap.size f0 f1 f2 := tc_alloc (tc_new rfl)
  have kc : TC ((w.alloc (Obj.cells #[.int .i64 f0, .int .i64 f1, .int .i64 f2] 23)).alloc (Obj.cells #[.int .i64 c0, .int .i64 c1, .int .i64 c2] 23)) (w.heap.size + 1) c0 c1 c2 := tc_new (by simp)
  go_wp2
  generalize ((w.alloc (Obj.cells #[.int .i64 f0, .int .i64 f1, .int .i64 f2] 23)).alloc (Obj.cells #[.int .i64 c0, .int .i64 c1, .int .i64 c2] 23)) = y0 at *
  refine wp_loop_rounds 4 ?_
  rw [rounds_succ]
  go_wp2
  have cF : ∀ w, Calls Try.prog 44 #[.int .i64 c0] w fun x_ w_ => x_ = .returned (.bool true) ∧ w = w_ := fun w => by rw [← e0]; exact fits_ref c0 u0 t0 w
  go_quiet ((go_at_call 44; exact Calls.quiet_of_same ((cF _).mono fun _ _ h => ⟨h.1, h.2.symm⟩)))
  clear cF
  replace B := b_trans B (below_draws _ _ nq)
  replace kf := tc_keep (below_draws _ _ nq) kf
  replace kc := tc_keep (below_draws _ _ nq) kc
  generalize y0.drewN nq = y1 at *
  go_wp2
  rw [rounds_succ]
  go_wp2
  have cF : ∀ w, Calls Try.prog 44 #[.int .i64 c1] w fun x_ w_ => x_ = .returned (.bool true) ∧ w = w_ := fun w => by rw [← e1]; exact fits_ref c1 u1 t1 w
  go_quiet ((go_at_call 44; exact Calls.quiet_of_same ((cF _).mono fun _ _ h => ⟨h.1, h.2.symm⟩)))
  clear cF
  replace B := b_trans B (below_draws _ _ nq)
  replace kf := tc_keep (below_draws _ _ nq) kf
  replace kc := tc_keep (below_draws _ _ nq) kc
  generalize y1.drewN nq = y2 at *
  go_wp2
  rw [rounds_succ]
  go_wp2
  go_quiet (fail)
  replace B := b_trans B (below_draws _ _ nq)
  replace kf := tc_keep (below_draws _ _ nq) kf
  replace kc := tc_keep (below_draws _ _ nq) kc
  generalize y2.drewN nq = y3 at *
  go_wp2
  go_ret
  exact ⟨rfl, B⟩

set_option maxHeartbeats 2000000 in
set_option maxRecDepth 10000 in
theorem rmay_no22 (f0 f1 f2 c0 c1 c2 : Int) (h0 : I64 c0) (h1 : I64 c1) (h2 : I64 c2) (n0 : decide (f0 < 0) = false) (m0 : decide (c0 < f0) = false) (e0 : fitb c0 = true) (n1 : decide (f1 < 0) = false) (m1 : decide (c1 < f1) = false) (e1 : fitb c1 = true) (n2 : decide (f2 < 0) = false) (m2 : decide (c2 < f2) = false) (e2 : fitb c2 = false) (w : World) :
    Calls Try.prog 42 #[tv f0 f1 f2, tv c0 c1 c2] w (RetV (.bool false) w) := by
  have B : Below w.heap.size w ((w.alloc (Obj.cells #[.int .i64 f0, .int .i64 f1, .int .i64 f2] 23)).alloc (Obj.cells #[.int .i64 c0, .int .i64 c1, .int .i64 c2] 23)) := b_alloc (b_alloc (Below.refl _ _))
  obtain ⟨u0, t0⟩ := h0
  obtain ⟨u1, t1⟩ := h1
  obtain ⟨u2, t2⟩ := h2
  go_enter Try.func42, Try.ntmps42
  have kf : TC ((w.alloc (Obj.cells #[.int .i64 f0, .int .i64 f1, .int .i64 f2] 23)).alloc (Obj.cells #[.int .i64 c0, .int .i64 c1, .int .i64 c2] 23)) w.heap.size f0 f1 f2 := tc_alloc (tc_new rfl)
  have kc : TC ((w.alloc (Obj.cells #[.int .i64 f0, .int .i64 f1, .int .i64 f2] 23)).alloc (Obj.cells #[.int .i64 c0, .int .i64 c1, .int .i64 c2] 23)) (w.heap.size + 1) c0 c1 c2 := tc_new (by simp)
  go_wp2
  generalize ((w.alloc (Obj.cells #[.int .i64 f0, .int .i64 f1, .int .i64 f2] 23)).alloc (Obj.cells #[.int .i64 c0, .int .i64 c1, .int .i64 c2] 23)) = y0 at *
  refine wp_loop_rounds 4 ?_
  rw [rounds_succ]
  go_wp2
  have cF : ∀ w, Calls Try.prog 44 #[.int .i64 c0] w fun x_ w_ => x_ = .returned (.bool true) ∧ w = w_ := fun w => by rw [← e0]; exact fits_ref c0 u0 t0 w
  go_quiet ((go_at_call 44; exact Calls.quiet_of_same ((cF _).mono fun _ _ h => ⟨h.1, h.2.symm⟩)))
  clear cF
  replace B := b_trans B (below_draws _ _ nq)
  replace kf := tc_keep (below_draws _ _ nq) kf
  replace kc := tc_keep (below_draws _ _ nq) kc
  generalize y0.drewN nq = y1 at *
  go_wp2
  rw [rounds_succ]
  go_wp2
  have cF : ∀ w, Calls Try.prog 44 #[.int .i64 c1] w fun x_ w_ => x_ = .returned (.bool true) ∧ w = w_ := fun w => by rw [← e1]; exact fits_ref c1 u1 t1 w
  go_quiet ((go_at_call 44; exact Calls.quiet_of_same ((cF _).mono fun _ _ h => ⟨h.1, h.2.symm⟩)))
  clear cF
  replace B := b_trans B (below_draws _ _ nq)
  replace kf := tc_keep (below_draws _ _ nq) kf
  replace kc := tc_keep (below_draws _ _ nq) kc
  generalize y1.drewN nq = y2 at *
  go_wp2
  rw [rounds_succ]
  go_wp2
  have cF : ∀ w, Calls Try.prog 44 #[.int .i64 c2] w fun x_ w_ => x_ = .returned (.bool false) ∧ w = w_ := fun w => by rw [← e2]; exact fits_ref c2 u2 t2 w
  go_quiet ((go_at_call 44; exact Calls.quiet_of_same ((cF _).mono fun _ _ h => ⟨h.1, h.2.symm⟩)))
  clear cF
  replace B := b_trans B (below_draws _ _ nq)
  replace kf := tc_keep (below_draws _ _ nq) kf
  replace kc := tc_keep (below_draws _ _ nq) kc
  generalize y2.drewN nq = y3 at *
  go_wp2
  go_ret
  exact ⟨rfl, B⟩

set_option maxHeartbeats 2000000 in
set_option maxRecDepth 10000 in
theorem rmay_yes (f0 f1 f2 c0 c1 c2 : Int) (h0 : I64 c0) (h1 : I64 c1) (h2 : I64 c2) (n0 : decide (f0 < 0) = false) (m0 : decide (c0 < f0) = false) (e0 : fitb c0 = true) (n1 : decide (f1 < 0) = false) (m1 : decide (c1 < f1) = false) (e1 : fitb c1 = true) (n2 : decide (f2 < 0) = false) (m2 : decide (c2 < f2) = false) (e2 : fitb c2 = true) (w : World) :
    Calls Try.prog 42 #[tv f0 f1 f2, tv c0 c1 c2] w (RetV (.bool true) w) := by
  have B : Below w.heap.size w ((w.alloc (Obj.cells #[.int .i64 f0, .int .i64 f1, .int .i64 f2] 23)).alloc (Obj.cells #[.int .i64 c0, .int .i64 c1, .int .i64 c2] 23)) := b_alloc (b_alloc (Below.refl _ _))
  obtain ⟨u0, t0⟩ := h0
  obtain ⟨u1, t1⟩ := h1
  obtain ⟨u2, t2⟩ := h2
  go_enter Try.func42, Try.ntmps42
  have kf : TC ((w.alloc (Obj.cells #[.int .i64 f0, .int .i64 f1, .int .i64 f2] 23)).alloc (Obj.cells #[.int .i64 c0, .int .i64 c1, .int .i64 c2] 23)) w.heap.size f0 f1 f2 := tc_alloc (tc_new rfl)
  have kc : TC ((w.alloc (Obj.cells #[.int .i64 f0, .int .i64 f1, .int .i64 f2] 23)).alloc (Obj.cells #[.int .i64 c0, .int .i64 c1, .int .i64 c2] 23)) (w.heap.size + 1) c0 c1 c2 := tc_new (by simp)
  go_wp2
  generalize ((w.alloc (Obj.cells #[.int .i64 f0, .int .i64 f1, .int .i64 f2] 23)).alloc (Obj.cells #[.int .i64 c0, .int .i64 c1, .int .i64 c2] 23)) = y0 at *
  refine wp_loop_rounds 4 ?_
  rw [rounds_succ]
  go_wp2
  have cF : ∀ w, Calls Try.prog 44 #[.int .i64 c0] w fun x_ w_ => x_ = .returned (.bool true) ∧ w = w_ := fun w => by rw [← e0]; exact fits_ref c0 u0 t0 w
  go_quiet ((go_at_call 44; exact Calls.quiet_of_same ((cF _).mono fun _ _ h => ⟨h.1, h.2.symm⟩)))
  clear cF
  replace B := b_trans B (below_draws _ _ nq)
  replace kf := tc_keep (below_draws _ _ nq) kf
  replace kc := tc_keep (below_draws _ _ nq) kc
  generalize y0.drewN nq = y1 at *
  go_wp2
  rw [rounds_succ]
  go_wp2
  have cF : ∀ w, Calls Try.prog 44 #[.int .i64 c1] w fun x_ w_ => x_ = .returned (.bool true) ∧ w = w_ := fun w => by rw [← e1]; exact fits_ref c1 u1 t1 w
  go_quiet ((go_at_call 44; exact Calls.quiet_of_same ((cF _).mono fun _ _ h => ⟨h.1, h.2.symm⟩)))
  clear cF
  replace B := b_trans B (below_draws _ _ nq)
  replace kf := tc_keep (below_draws _ _ nq) kf
  replace kc := tc_keep (below_draws _ _ nq) kc
  generalize y1.drewN nq = y2 at *
  go_wp2
  rw [rounds_succ]
  go_wp2
  have cF : ∀ w, Calls Try.prog 44 #[.int .i64 c2] w fun x_ w_ => x_ = .returned (.bool true) ∧ w = w_ := fun w => by rw [← e2]; exact fits_ref c2 u2 t2 w
  go_quiet ((go_at_call 44; exact Calls.quiet_of_same ((cF _).mono fun _ _ h => ⟨h.1, h.2.symm⟩)))
  clear cF
  replace B := b_trans B (below_draws _ _ nq)
  replace kf := tc_keep (below_draws _ _ nq) kf
  replace kc := tc_keep (below_draws _ _ nq) kc
  generalize y2.drewN nq = y3 at *
  go_wp2
  rw [rounds_succ]
  go_wp2
  go_ret
  exact ⟨rfl, B⟩

theorem rmay_any (f0 f1 f2 c0 c1 c2 : Int) (h0 : I64 c0) (h1 : I64 c1) (h2 : I64 c2) (w : World) :
    Calls Try.prog 42 #[tv f0 f1 f2, tv c0 c1 c2] w (RetV (.bool (mayb f0 f1 f2 c0 c1 c2)) w) := by
  by_cases n0 : f0 < 0
  · rw [mayb_no (fun h => by have := h.1; omega)]
    exact rmay_no00 f0 f1 f2 c0 c1 c2 h0 h1 h2 (decide_eq_true n0) w
  by_cases m0 : c0 < f0
  · rw [mayb_no (fun h => by have := h.1; omega)]
    exact rmay_no01 f0 f1 f2 c0 c1 c2 h0 h1 h2 (decide_eq_false n0) (decide_eq_true m0) w
  by_cases e0 : FitP c0
  rotate_left
  · rw [mayb_no (fun h => e0 ⟨by have := h.1; omega, (h.1).2.2⟩)]
    exact rmay_no02 f0 f1 f2 c0 c1 c2 h0 h1 h2 (decide_eq_false n0) (decide_eq_false m0) (fitb_no e0) w
  by_cases n1 : f1 < 0
  · rw [mayb_no (fun h => by have := h.2.1; omega)]
    exact rmay_no10 f0 f1 f2 c0 c1 c2 h0 h1 h2 (decide_eq_false n0) (decide_eq_false m0) (fitb_yes e0) (decide_eq_true n1) w
  by_cases m1 : c1 < f1
  · rw [mayb_no (fun h => by have := h.2.1; omega)]
    exact rmay_no11 f0 f1 f2 c0 c1 c2 h0 h1 h2 (decide_eq_false n0) (decide_eq_false m0) (fitb_yes e0) (decide_eq_false n1) (decide_eq_true m1) w
  by_cases e1 : FitP c1
  rotate_left
  · rw [mayb_no (fun h => e1 ⟨by have := h.2.1; omega, (h.2.1).2.2⟩)]
    exact rmay_no12 f0 f1 f2 c0 c1 c2 h0 h1 h2 (decide_eq_false n0) (decide_eq_false m0) (fitb_yes e0) (decide_eq_false n1) (decide_eq_false m1) (fitb_no e1) w
  by_cases n2 : f2 < 0
  · rw [mayb_no (fun h => by have := h.2.2; omega)]
    exact rmay_no20 f0 f1 f2 c0 c1 c2 h0 h1 h2 (decide_eq_false n0) (decide_eq_false m0) (fitb_yes e0) (decide_eq_false n1) (decide_eq_false m1) (fitb_yes e1) (decide_eq_true n2) w
  by_cases m2 : c2 < f2
  · rw [mayb_no (fun h => by have := h.2.2; omega)]
    exact rmay_no21 f0 f1 f2 c0 c1 c2 h0 h1 h2 (decide_eq_false n0) (decide_eq_false m0) (fitb_yes e0) (decide_eq_false n1) (decide_eq_false m1) (fitb_yes e1) (decide_eq_false n2) (decide_eq_true m2) w
  by_cases e2 : FitP c2
  rotate_left
  · rw [mayb_no (fun h => e2 ⟨by have := h.2.2; omega, (h.2.2).2.2⟩)]
    exact rmay_no22 f0 f1 f2 c0 c1 c2 h0 h1 h2 (decide_eq_false n0) (decide_eq_false m0) (fitb_yes e0) (decide_eq_false n1) (decide_eq_false m1) (fitb_yes e1) (decide_eq_false n2) (decide_eq_false m2) (fitb_no e2) w
  rw [mayb_yes ⟨⟨by omega, by omega, e0.2⟩, ⟨by omega, by omega, e1.2⟩, ⟨by omega, by omega, e2.2⟩⟩]
  exact rmay_yes f0 f1 f2 c0 c1 c2 h0 h1 h2 (decide_eq_false n0) (decide_eq_false m0) (fitb_yes e0) (decide_eq_false n1) (decide_eq_false m1) (fitb_yes e1) (decide_eq_false n2) (decide_eq_false m2) (fitb_yes e2) w
end Go.Proofs.Ytoohaphaeccafaa
