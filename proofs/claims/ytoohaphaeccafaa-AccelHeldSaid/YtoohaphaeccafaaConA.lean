/- Layer 13: a configuration as a value of the program, its fourteen rules as Booleans, the first that isn't kept; what the small functions answer: from, in, inside, same, between, Big. -/
import Derived.Test.YtoohaphaeccafaaTamB
import Derived.Deep.LoopGhost
namespace Go.Proofs.Ytoohaphaeccafaa
open Go.RowKit Go.Shelf Go.Joins

/-- A configuration as a value of the program: its thirty-one numbers. -/
abbrev cv (x : Nat → Int) : Value := .agg #[.int .i64 (x 0), .int .i64 (x 1), .int .i64 (x 2), .int .i64 (x 3), .int .i64 (x 4), .int .i64 (x 5), .int .i64 (x 6), .int .i64 (x 7), .int .i64 (x 8), .int .i64 (x 9), .int .i64 (x 10), .int .i64 (x 11), .int .i64 (x 12), .int .i64 (x 13), .int .i64 (x 14), .int .i64 (x 15), .int .i64 (x 16), .int .i64 (x 17), .int .i64 (x 18), .int .i64 (x 19), .int .i64 (x 20), .int .i64 (x 21), .int .i64 (x 22), .int .i64 (x 23), .int .i64 (x 24), .int .i64 (x 25), .int .i64 (x 26), .int .i64 (x 27), .int .i64 (x 28), .int .i64 (x 29), .int .i64 (x 30)]
/-- Block b holds a configuration. -/
abbrev CF (w : World) (b : Nat) (x : Nat → Int) : Prop := ∀ i, i < 31 → w.cell? ⟨b, i, none⟩ = some (.int .i64 (x i))
theorem cf_keep {w w' : World} (hb : Below w.heap.size w w') {b : Nat} {x : Nat → Int} (c : CF w b x) : CF w' b x := fun i hi => cell_keep hb (c i hi)
theorem cf_alloc {w : World} {o : Obj} {b : Nat} {x : Nat → Int} (c : CF w b x) : CF (w.alloc o) b x := cf_keep (b_alloc (Below.refl _ _)) c
theorem cf_lt {w : World} {b : Nat} {x : Nat → Int} (c : CF w b x) : b < w.heap.size := World.block_lt_of_cell? w _ (c 0 (by decide))
set_option maxHeartbeats 2000000 in
set_option maxRecDepth 10000 in
theorem cf_new {w : World} {b : Nat} {x : Nat → Int} {t : TypeId} (hn : b = w.heap.size) : CF (w.alloc (Obj.cells #[.int .i64 (x 0), .int .i64 (x 1), .int .i64 (x 2), .int .i64 (x 3), .int .i64 (x 4), .int .i64 (x 5), .int .i64 (x 6), .int .i64 (x 7), .int .i64 (x 8), .int .i64 (x 9), .int .i64 (x 10), .int .i64 (x 11), .int .i64 (x 12), .int .i64 (x 13), .int .i64 (x 14), .int .i64 (x 15), .int .i64 (x 16), .int .i64 (x 17), .int .i64 (x 18), .int .i64 (x 19), .int .i64 (x 20), .int .i64 (x 21), .int .i64 (x 22), .int .i64 (x 23), .int .i64 (x 24), .int .i64 (x 25), .int .i64 (x 26), .int .i64 (x 27), .int .i64 (x 28), .int .i64 (x 29), .int .i64 (x 30)] t)) b x := by
  subst hn
  intro i hi
  match i, hi with
  | 0, _ => simp [go_sem]
  | 1, _ => simp [go_sem]
  | 2, _ => simp [go_sem]
  | 3, _ => simp [go_sem]
  | 4, _ => simp [go_sem]
  | 5, _ => simp [go_sem]
  | 6, _ => simp [go_sem]
  | 7, _ => simp [go_sem]
  | 8, _ => simp [go_sem]
  | 9, _ => simp [go_sem]
  | 10, _ => simp [go_sem]
  | 11, _ => simp [go_sem]
  | 12, _ => simp [go_sem]
  | 13, _ => simp [go_sem]
  | 14, _ => simp [go_sem]
  | 15, _ => simp [go_sem]
  | 16, _ => simp [go_sem]
  | 17, _ => simp [go_sem]
  | 18, _ => simp [go_sem]
  | 19, _ => simp [go_sem]
  | 20, _ => simp [go_sem]
  | 21, _ => simp [go_sem]
  | 22, _ => simp [go_sem]
  | 23, _ => simp [go_sem]
  | 24, _ => simp [go_sem]
  | 25, _ => simp [go_sem]
  | 26, _ => simp [go_sem]
  | 27, _ => simp [go_sem]
  | 28, _ => simp [go_sem]
  | 29, _ => simp [go_sem]
  | 30, _ => simp [go_sem]
  | (n + 31), h => exact absurd h (by omega)
/-- Every number is one of 64 bits. -/
abbrev C64 (x : Nat → Int) : Prop := ∀ i, i < 31 → I64 (x i)

/-- A number from one to another one. -/
def inb (x lo hi : Int) : Bool := decide (lo ≤ x) && decide (x ≤ hi)
theorem inb_iff {x lo hi : Int} : inb x lo hi = true ↔ lo ≤ x ∧ x ≤ hi := by unfold inb; simp
theorem inb_no {x lo hi : Int} : inb x lo hi = false ↔ ¬ (lo ≤ x ∧ x ≤ hi) := by
  rw [← inb_iff]
  cases inb x lo hi <;> simp
def b3 (v0 v1 v2 l0 l1 l2 h0 h1 h2 : Int) : Bool := inb v0 l0 h0 && (inb v1 l1 h1 && inb v2 l2 h2)

/- The rules, in their order. -/
def k1 (x : Nat → Int) : Bool := b3 (x 0) (x 1) (x 2) 0 0 0 1125899906842624 1125899906842624 1125899906842624
def k2 (x : Nat → Int) : Bool := b3 (x 3) (x 4) (x 5) (x 0) (x 1) (x 2) 1125899906842624 1125899906842624 1125899906842624
def k3 (x : Nat → Int) : Bool := inb (x 6) 274877906944 1125899906842624
def k4 (x : Nat → Int) : Bool := inb (x 7) (x 6) 1125899906842624
def k5 (x : Nat → Int) : Bool := mayb (x 11) (x 12) (x 13) (x 14) (x 15) (x 16) && b3 (x 14) (x 15) (x 16) (x 11) (x 12) (x 13) 72057594037927936 72057594037927936 72057594037927936
def k6 (x : Nat → Int) : Bool := b3 (x 8) (x 9) (x 10) (x 11) (x 12) (x 13) (x 14) (x 15) (x 16)
def k7 (x : Nat → Int) : Bool := b3 (x 17) (x 18) (x 19) 18014398509481984 0 0 72057594037927936 72057594037927936 72057594037927936
def k8 (x : Nat → Int) : Bool := inb (x 20) 1 1000
def k9 (x : Nat → Int) : Bool := b3 (x 21) (x 22) (x 23) 0 (-4398046511104) (-4398046511104) 1099511627776 4398046511104 4398046511104
def k10 (x : Nat → Int) : Bool := inb (x 24) 1 1099511627776
def k11 (x : Nat → Int) : Bool := inb (x 26) 1 131072 && inb (x 25) (1 - x 26) (x 26 - 1)
def k12 (x : Nat → Int) : Bool := inb (x 27) 0 1000
def k13 (x : Nat → Int) : Bool := inb (x 28) 1 (x 29) && decide (x 29 ≤ 100000)
def k14 (x : Nat → Int) : Bool := inb (x 30) 0 400000
/-- The first rule that isn't kept; 0. -/
def cks (x : Nat → Int) : Int := bif k1 x then (bif k2 x then (bif k3 x then (bif k4 x then (bif k5 x then (bif k6 x then (bif k7 x then (bif k8 x then (bif k9 x then (bif k10 x then (bif k11 x then (bif k12 x then (bif k13 x then (bif k14 x then 0 else 14) else 13) else 12) else 11) else 10) else 9) else 8) else 7) else 6) else 5) else 4) else 3) else 2) else 1

theorem from_any (x lo hi : Int) (w : World) : Calls Try.prog 29 #[.int .i64 x, .int .i64 lo, .int .i64 hi] w (RetV (.bool (inb x lo hi)) w) := by
  by_cases l : lo ≤ x
  · go_enter Try.func29, Try.ntmps29
    go_wp2
    go_ret
    exact ⟨by rw [show inb x lo hi = decide (x ≤ hi) from by unfold inb; rw [decide_eq_true l, Bool.true_and]]; rfl, Below.refl _ _⟩
  · go_enter Try.func29, Try.ntmps29
    go_wp2
    go_ret
    exact ⟨by rw [show inb x lo hi = false from by unfold inb; rw [decide_eq_false (by omega), Bool.false_and]]; rfl, Below.refl _ _⟩
theorem in_any (x lo hi : Int) (w : World) : Calls Try.prog 22 #[.int .i64 x, .int .i64 lo, .int .i64 hi] w (RetV (.bool (inb x lo hi)) w) := by
  by_cases l : lo ≤ x
  · go_enter Try.func22, Try.ntmps22
    go_wp2
    go_ret
    exact ⟨by rw [show inb x lo hi = decide (x ≤ hi) from by unfold inb; rw [decide_eq_true l, Bool.true_and]]; rfl, Below.refl _ _⟩
  · go_enter Try.func22, Try.ntmps22
    go_wp2
    go_ret
    exact ⟨by rw [show inb x lo hi = false from by unfold inb; rw [decide_eq_false (by omega), Bool.false_and]]; rfl, Below.refl _ _⟩
theorem inside_any (n c : Int) (h1 : 1 ≤ c) (h2 : c ≤ 131072) (w : World) : Calls Try.prog 24 #[.int .i64 n, .int .i64 c] w (RetV (.bool (inb n (1 - c) (c - 1))) w) := by
  have hw : IntKind.i64.wrap (-c) = -c := by rw [IntKind.wrap_i64]; omega
  by_cases l : -c < n
  · go_enter Try.func24, Try.ntmps24
    go_wp2
    go_ret
    exact ⟨by rw [show inb n (1 - c) (c - 1) = decide (n < c) from by unfold inb; rw [show decide (1 - c ≤ n) = true from decide_eq_true (by omega), Bool.true_and]; exact decide_eq_decide.2 ⟨fun h => by omega, fun h => by omega⟩]; rfl, Below.refl _ _⟩
  · go_enter Try.func24, Try.ntmps24
    go_wp2
    go_ret
    exact ⟨by rw [show inb n (1 - c) (c - 1) = false from inb_no.2 (fun h => by omega)]; rfl, Below.refl _ _⟩
theorem same_any (x : Int) (w : World) : Calls Try.prog 19 #[.int .i64 x] w (RetV (tv x x x) w) := by
  go_enter Try.func19, Try.ntmps19
  go_wp2
  exact bodyPost_ret (v := tv x x x) (by simp [results, Try.results19, go_sem]) rfl ⟨rfl, b_alloc (Below.refl _ _)⟩
theorem pow_le62 {j : Nat} (h : j ≤ 62) : (2 : Int) ^ j ≤ 2 ^ 62 := by
  have k : (2 : Nat) ^ j ≤ 2 ^ 62 := Nat.pow_le_pow_right (by decide) h
  have e : ((2 ^ j : Nat) : Int) = (2 : Int) ^ j := by simp
  have e2 : ((2 ^ 62 : Nat) : Int) = (2 : Int) ^ 62 := by decide
  omega
theorem big_any (n : Nat) (hn : n ≤ 62) (w : World) : Calls Try.prog 23 #[.int .i64 n] w (RetV (.int .i64 (2 ^ n)) w) := by
  go_enter Try.func23, Try.ntmps23
  go_wp2
  go_loop [3, 4] (fun xv iv => ∃ j : Nat, j ≤ n ∧ iv = .int .i64 j ∧ xv = .int .i64 (2 ^ j)) (fun _ iv => n - (intOf iv).toNat)
  case atStart => exact ⟨0, Nat.zero_le _, rfl, rfl⟩
  case round =>
    obtain ⟨j, hj, rfl, rfl⟩ := hrel
    by_cases c2 : (j : Int) < (n : Int)
    · have p1 : (2 : Int) ^ (j + 1) ≤ 2 ^ 62 := pow_le62 (by omega)
      have p0 : (0 : Int) < 2 ^ (j + 1) := Int.pow_pos (by decide)
      have e : (2 : Int) * 2 ^ j = 2 ^ (j + 1) := by rw [Int.pow_succ, Int.mul_comm]
      have q : (2 : Int) ^ 62 = 4611686018427387904 := by decide
      have E := Lib.hid e
      have hm : IntKind.i64.wrap (2 * 2 ^ j) = 2 ^ (j + 1) := by rw [e, IntKind.wrap_i64]; omega
      have hp : IntKind.i64.wrap ((j : Int) + 1) = ((j + 1 : Nat) : Int) := by rw [IntKind.wrap_i64]; omega
      clear e
      go_wp2
      go_round
      case rel => exact ⟨j + 1, by omega, rfl, rfl⟩
      case measure => simp [intOf]; omega
    · obtain rfl : j = n := by omega
      go_wp2
      go_ret
      exact ⟨rfl, Below.refl _ _⟩
end Go.Proofs.Ytoohaphaeccafaa
