/- The whole: TopAgain: whatever was, behind more than Hold clipped thrust counts in a row the mode is Lost, and the tick that brings the sixteenth good count from then on leads to Track anew. -/
import Derived.Test.YtjifkmldigemkaaGreatDoorTcb
import Derived.Test.YtjifkmldigemkaaGreatDoorTbi
namespace Go.Proofs.YtjifkmldigemkaaGreatDoor
open Go.RowKit Go.Shelf Go.Joins

abbrev ca16 (c : Nat → Int) : Array Value := #[.int .i64 (c 0), .int .i64 (c 1), .int .i64 (c 2), .int .i64 (c 3), .int .i64 (c 4), .int .i64 (c 5), .int .i64 (c 6), .int .i64 (c 7), .int .i64 (c 8), .int .i64 (c 9), .int .i64 (c 10), .int .i64 (c 11), .int .i64 (c 12), .int .i64 (c 13), .int .i64 (c 14), .int .i64 (c 15)]
theorem ca16_at (c : Nat → Int) : ∀ i, i < 16 → (ca16 c)[i]? = some (.int .i64 (c i)) := fun i hi => by
  rcases (show i = 0 ∨ i = 1 ∨ i = 2 ∨ i = 3 ∨ i = 4 ∨ i = 5 ∨ i = 6 ∨ i = 7 ∨ i = 8 ∨ i = 9 ∨ i = 10 ∨ i = 11 ∨ i = 12 ∨ i = 13 ∨ i = 14 ∨ i = 15 by omega) with rfl | rfl | rfl | rfl | rfl | rfl | rfl | rfl | rfl | rfl | rfl | rfl | rfl | rfl | rfl | rfl <;> rfl
theorem ix_16 (c : Nat → Int) : ∀ i : Nat, i < 16 → ∀ w, (Instr.index 61 (.agg (ca16 c)) (.int .i64 (i : Int))).run Tryz.prog w = .ok (.int .i64 (c i)) w := fun i hi w => by
  rcases (show i = 0 ∨ i = 1 ∨ i = 2 ∨ i = 3 ∨ i = 4 ∨ i = 5 ∨ i = 6 ∨ i = 7 ∨ i = 8 ∨ i = 9 ∨ i = 10 ∨ i = 11 ∨ i = 12 ∨ i = 13 ∨ i = 14 ∨ i = 15 by omega) with rfl | rfl | rfl | rfl | rfl | rfl | rfl | rfl | rfl | rfl | rfl | rfl | rfl | rfl | rfl | rfl <;> kernel_rfl
/-- Sixteen counts in memory. -/
abbrev K16 (w : World) (b : Nat) (c : Nat → Int) : Prop := w.heap[b]? = some (.cells (ca16 c) 61 (0, 0))
theorem k16_new {w : World} {b : Nat} {c : Nat → Int} (e : w.heap.size = b) : K16 (w.alloc (Obj.cells (ca16 c) 61)) b c := by
  subst e
  exact heap_alloc_last _ _
theorem k16_is {w : World} {b : Nat} {c : Nat → Int} (k : K16 w b c) : IS w 0 (some ⟨b, 0, none⟩) 16 c := fun i hi => ⟨b, 0, rfl, Nat.zero_le _, by rw [Nat.zero_add, cell_of_row _ _ i _ _ _ k]; exact ca16_at c i hi⟩
theorem hold_in {x : Nat → Int} (ck : cks x = 0) : ∃ H : Nat, x 27 = (H : Int) ∧ H ≤ 1000 := by
  obtain ⟨_, _, _, _, _, _, _, _, _, h12, _, _⟩ := cks_all ck
  unfold k12 at h12
  have := inb_iff.1 h12
  exact ⟨(x 27).toNat, by omega, by omega⟩
theorem clip_in {x : Nat → Int} (ck : cks x = 0) : 1 ≤ x 26 ∧ x 26 ≤ 131072 := by
  have h := (cks_zero ck).2
  unfold k11 at h
  rw [Bool.and_eq_true] at h
  exact inb_iff.1 h.1
theorem clip_the {x : Nat → Int} (ck : cks x = 0) {n : Int} (h : ¬ (-x 26 < n ∧ n < x 26)) : ¬ the x n = 0 := by
  unfold the
  rw [if_pos ck]
  by_cases i : inb n (1 - x 26) (x 26 - 1) = true
  · have := inb_iff.1 i
    omega
  · rw [if_neg i]
    decide
theorem ar_le (x : Nat → Int) (r n : Int) (h : 0 ≤ r) : ar x r n ≤ r + 1 := by
  unfold ar
  split <;> omega
theorem fixed_rg {w : World} (T : Tb3 w) : ∀ d os, Calls Tryz.prog 6 #[] (Sort.grow (redrawn w d) os) fun e w'' => e = .returned (.bool true) ∧ ∃ p : Regrown, w'' = Sort.grow (redrawn w p.d) p.os :=
  fun d os => Calls.regrown_of (fixed_cha _ (t3_keep (below_regrown w d os) T))
theorem diag_rg {w : World} (T : Tb3 w) (x y z : Int) : ∀ d os, Calls Tryz.prog 18 #[tv x y z] (Sort.grow (redrawn w d) os) fun e w'' => e = .returned (sv (dgm x y z)) ∧ ∃ p : Regrown, w'' = Sort.grow (redrawn w p.d) p.os :=
  fun d os => Calls.regrown_of (diag_any x y z _ (t3_keep (below_regrown w d os) T).1)

set_option maxHeartbeats 16000000 in
set_option maxRecDepth 20000 in
theorem topAgain_any (x : Nat → Int) (hx : C64 x) (a p : Nat → Int) (h s : Nat → Bool) (sa : Option Addr) (len cap : Nat) (hm : cap ≤ 9223372036854775807) (hl : len ≤ cap) (c : Nat → Int) (w : World) (hc : ∀ k, k < len → ∃ g off, sa = some ⟨g, off, none⟩ ∧ TW w g (off + k * 4) (a k) (h k) (p k) (s k)) (T : Tb3 w) : Calls Tryz.prog 4 #[cv x, .slice sa len cap, .agg #[.int .i64 (c 0), .int .i64 (c 1), .int .i64 (c 2), .int .i64 (c 3), .int .i64 (c 4), .int .i64 (c 5), .int .i64 (c 6), .int .i64 (c 7), .int .i64 (c 8), .int .i64 (c 9), .int .i64 (c 10), .int .i64 (c 11), .int .i64 (c 12), .int .i64 (c 13), .int .i64 (c 14), .int .i64 (c 15)]] w (RetV (.bool true) w) := by
  by_cases ck : cks x = 0
  rotate_left
  · have cr0 : CR (w.alloc (Obj.cells #[.int .i64 (x 0), .int .i64 (x 1), .int .i64 (x 2), .int .i64 (x 3), .int .i64 (x 4), .int .i64 (x 5), .int .i64 (x 6), .int .i64 (x 7), .int .i64 (x 8), .int .i64 (x 9), .int .i64 (x 10), .int .i64 (x 11), .int .i64 (x 12), .int .i64 (x 13), .int .i64 (x 14), .int .i64 (x 15), .int .i64 (x 16), .int .i64 (x 17), .int .i64 (x 18), .int .i64 (x 19), .int .i64 (x 20), .int .i64 (x 21), .int .i64 (x 22), .int .i64 (x 23), .int .i64 (x 24), .int .i64 (x 25), .int .i64 (x 26), .int .i64 (x 27), .int .i64 (x 28), .int .i64 (x 29), .int .i64 (x 30)] 25)) w.heap.size x := cr_new
    have B0 : Below w.heap.size w (w.alloc (Obj.cells #[.int .i64 (x 0), .int .i64 (x 1), .int .i64 (x 2), .int .i64 (x 3), .int .i64 (x 4), .int .i64 (x 5), .int .i64 (x 6), .int .i64 (x 7), .int .i64 (x 8), .int .i64 (x 9), .int .i64 (x 10), .int .i64 (x 11), .int .i64 (x 12), .int .i64 (x 13), .int .i64 (x 14), .int .i64 (x 15), .int .i64 (x 16), .int .i64 (x 17), .int .i64 (x 18), .int .i64 (x 19), .int .i64 (x 20), .int .i64 (x 21), .int .i64 (x 22), .int .i64 (x 23), .int .i64 (x 24), .int .i64 (x 25), .int .i64 (x 26), .int .i64 (x 27), .int .i64 (x 28), .int .i64 (x 29), .int .i64 (x 30)] 25)) := b_alloc (Below.refl _ _)
    have B1 : Below (w.alloc (Obj.cells #[.int .i64 (x 0), .int .i64 (x 1), .int .i64 (x 2), .int .i64 (x 3), .int .i64 (x 4), .int .i64 (x 5), .int .i64 (x 6), .int .i64 (x 7), .int .i64 (x 8), .int .i64 (x 9), .int .i64 (x 10), .int .i64 (x 11), .int .i64 (x 12), .int .i64 (x 13), .int .i64 (x 14), .int .i64 (x 15), .int .i64 (x 16), .int .i64 (x 17), .int .i64 (x 18), .int .i64 (x 19), .int .i64 (x 20), .int .i64 (x 21), .int .i64 (x 22), .int .i64 (x 23), .int .i64 (x 24), .int .i64 (x 25), .int .i64 (x 26), .int .i64 (x 27), .int .i64 (x 28), .int .i64 (x 29), .int .i64 (x 30)] 25)).heap.size (w.alloc (Obj.cells #[.int .i64 (x 0), .int .i64 (x 1), .int .i64 (x 2), .int .i64 (x 3), .int .i64 (x 4), .int .i64 (x 5), .int .i64 (x 6), .int .i64 (x 7), .int .i64 (x 8), .int .i64 (x 9), .int .i64 (x 10), .int .i64 (x 11), .int .i64 (x 12), .int .i64 (x 13), .int .i64 (x 14), .int .i64 (x 15), .int .i64 (x 16), .int .i64 (x 17), .int .i64 (x 18), .int .i64 (x 19), .int .i64 (x 20), .int .i64 (x 21), .int .i64 (x 22), .int .i64 (x 23), .int .i64 (x 24), .int .i64 (x 25), .int .i64 (x 26), .int .i64 (x 27), .int .i64 (x 28), .int .i64 (x 29), .int .i64 (x 30)] 25)) ((w.alloc (Obj.cells #[.int .i64 (x 0), .int .i64 (x 1), .int .i64 (x 2), .int .i64 (x 3), .int .i64 (x 4), .int .i64 (x 5), .int .i64 (x 6), .int .i64 (x 7), .int .i64 (x 8), .int .i64 (x 9), .int .i64 (x 10), .int .i64 (x 11), .int .i64 (x 12), .int .i64 (x 13), .int .i64 (x 14), .int .i64 (x 15), .int .i64 (x 16), .int .i64 (x 17), .int .i64 (x 18), .int .i64 (x 19), .int .i64 (x 20), .int .i64 (x 21), .int .i64 (x 22), .int .i64 (x 23), .int .i64 (x 24), .int .i64 (x 25), .int .i64 (x 26), .int .i64 (x 27), .int .i64 (x 28), .int .i64 (x 29), .int .i64 (x 30)] 25)).alloc (Obj.cells #[.int .i64 (c 0), .int .i64 (c 1), .int .i64 (c 2), .int .i64 (c 3), .int .i64 (c 4), .int .i64 (c 5), .int .i64 (c 6), .int .i64 (c 7), .int .i64 (c 8), .int .i64 (c 9), .int .i64 (c 10), .int .i64 (c 11), .int .i64 (c 12), .int .i64 (c 13), .int .i64 (c 14), .int .i64 (c 15)] 61)) := b_alloc (Below.refl _ _)
    have cr := cr_keep B1 cr0
    have E0 := b_trans B0 B1
    have ka : K16 ((w.alloc (Obj.cells #[.int .i64 (x 0), .int .i64 (x 1), .int .i64 (x 2), .int .i64 (x 3), .int .i64 (x 4), .int .i64 (x 5), .int .i64 (x 6), .int .i64 (x 7), .int .i64 (x 8), .int .i64 (x 9), .int .i64 (x 10), .int .i64 (x 11), .int .i64 (x 12), .int .i64 (x 13), .int .i64 (x 14), .int .i64 (x 15), .int .i64 (x 16), .int .i64 (x 17), .int .i64 (x 18), .int .i64 (x 19), .int .i64 (x 20), .int .i64 (x 21), .int .i64 (x 22), .int .i64 (x 23), .int .i64 (x 24), .int .i64 (x 25), .int .i64 (x 26), .int .i64 (x 27), .int .i64 (x 28), .int .i64 (x 29), .int .i64 (x 30)] 25)).alloc (Obj.cells #[.int .i64 (c 0), .int .i64 (c 1), .int .i64 (c 2), .int .i64 (c 3), .int .i64 (c 4), .int .i64 (c 5), .int .i64 (c 6), .int .i64 (c 7), .int .i64 (c 8), .int .i64 (c 9), .int .i64 (c 10), .int .i64 (c 11), .int .i64 (c 12), .int .i64 (c 13), .int .i64 (c 14), .int .i64 (c 15)] 61)) (w.heap.size + 1) c := k16_new (by simp)
    replace T := t3_keep E0 T
    have cc := check_any x hx
    clear B0 B1 cr0
    go_enter Tryz.func4, Tryz.ntmps4
    go_wp2_with (with_reducible refine stop_at (some 25) rfl ?_)
    generalize ((w.alloc (Obj.cells #[.int .i64 (x 0), .int .i64 (x 1), .int .i64 (x 2), .int .i64 (x 3), .int .i64 (x 4), .int .i64 (x 5), .int .i64 (x 6), .int .i64 (x 7), .int .i64 (x 8), .int .i64 (x 9), .int .i64 (x 10), .int .i64 (x 11), .int .i64 (x 12), .int .i64 (x 13), .int .i64 (x 14), .int .i64 (x 15), .int .i64 (x 16), .int .i64 (x 17), .int .i64 (x 18), .int .i64 (x 19), .int .i64 (x 20), .int .i64 (x 21), .int .i64 (x 22), .int .i64 (x 23), .int .i64 (x 24), .int .i64 (x 25), .int .i64 (x 26), .int .i64 (x 27), .int .i64 (x 28), .int .i64 (x 29), .int .i64 (x 30)] 25)).alloc (Obj.cells #[.int .i64 (c 0), .int .i64 (c 1), .int .i64 (c 2), .int .i64 (c 3), .int .i64 (c 4), .int .i64 (c 5), .int .i64 (c 6), .int .i64 (c 7), .int .i64 (c 8), .int .i64 (c 9), .int .i64 (c 10), .int .i64 (c 11), .int .i64 (c 12), .int .i64 (c 13), .int .i64 (c 14), .int .i64 (c 15)] 61)) = z0 at *
    refine unstop ?_
    refine wpList_load_row rfl 25 (.tmp 3) rfl w.heap.size rfl 25 _ (0, 0) _ cr Tryz.underlying25 rfl (by kernel_rfl) ?_
    obtain ⟨ce, hce⟩ : ∃ q, cks x = q := ⟨_, rfl⟩
    have c1 : (ce != 0) = true := by rw [← hce]; simpa using ck
    rw [hce] at cc
    clear hce ck
    go_wp2_with fail
    refine (cc _).mono ?_
    rintro e_ y1 ⟨rfl, hb1⟩
    replace T := t3_keep hb1 T
    replace E0 := b_trans E0 hb1
    replace cr := cr_keep hb1 cr
    replace ka := row_keep hb1 ka
    clear hb1 cc
    go_wp2_with fail
    refine (fixed_cha _ T).mono ?_
    rintro e_ y9 ⟨rfl, hb9⟩
    go_wp2
    go_ret
    exact ⟨rfl, b_trans E0 hb9⟩
  by_cases la : len ≤ 300
  rotate_left
  · have q1 : (300 : Int) < (len : Int) := by omega
    have cr0 : CR (w.alloc (Obj.cells #[.int .i64 (x 0), .int .i64 (x 1), .int .i64 (x 2), .int .i64 (x 3), .int .i64 (x 4), .int .i64 (x 5), .int .i64 (x 6), .int .i64 (x 7), .int .i64 (x 8), .int .i64 (x 9), .int .i64 (x 10), .int .i64 (x 11), .int .i64 (x 12), .int .i64 (x 13), .int .i64 (x 14), .int .i64 (x 15), .int .i64 (x 16), .int .i64 (x 17), .int .i64 (x 18), .int .i64 (x 19), .int .i64 (x 20), .int .i64 (x 21), .int .i64 (x 22), .int .i64 (x 23), .int .i64 (x 24), .int .i64 (x 25), .int .i64 (x 26), .int .i64 (x 27), .int .i64 (x 28), .int .i64 (x 29), .int .i64 (x 30)] 25)) w.heap.size x := cr_new
    have B0 : Below w.heap.size w (w.alloc (Obj.cells #[.int .i64 (x 0), .int .i64 (x 1), .int .i64 (x 2), .int .i64 (x 3), .int .i64 (x 4), .int .i64 (x 5), .int .i64 (x 6), .int .i64 (x 7), .int .i64 (x 8), .int .i64 (x 9), .int .i64 (x 10), .int .i64 (x 11), .int .i64 (x 12), .int .i64 (x 13), .int .i64 (x 14), .int .i64 (x 15), .int .i64 (x 16), .int .i64 (x 17), .int .i64 (x 18), .int .i64 (x 19), .int .i64 (x 20), .int .i64 (x 21), .int .i64 (x 22), .int .i64 (x 23), .int .i64 (x 24), .int .i64 (x 25), .int .i64 (x 26), .int .i64 (x 27), .int .i64 (x 28), .int .i64 (x 29), .int .i64 (x 30)] 25)) := b_alloc (Below.refl _ _)
    have B1 : Below (w.alloc (Obj.cells #[.int .i64 (x 0), .int .i64 (x 1), .int .i64 (x 2), .int .i64 (x 3), .int .i64 (x 4), .int .i64 (x 5), .int .i64 (x 6), .int .i64 (x 7), .int .i64 (x 8), .int .i64 (x 9), .int .i64 (x 10), .int .i64 (x 11), .int .i64 (x 12), .int .i64 (x 13), .int .i64 (x 14), .int .i64 (x 15), .int .i64 (x 16), .int .i64 (x 17), .int .i64 (x 18), .int .i64 (x 19), .int .i64 (x 20), .int .i64 (x 21), .int .i64 (x 22), .int .i64 (x 23), .int .i64 (x 24), .int .i64 (x 25), .int .i64 (x 26), .int .i64 (x 27), .int .i64 (x 28), .int .i64 (x 29), .int .i64 (x 30)] 25)).heap.size (w.alloc (Obj.cells #[.int .i64 (x 0), .int .i64 (x 1), .int .i64 (x 2), .int .i64 (x 3), .int .i64 (x 4), .int .i64 (x 5), .int .i64 (x 6), .int .i64 (x 7), .int .i64 (x 8), .int .i64 (x 9), .int .i64 (x 10), .int .i64 (x 11), .int .i64 (x 12), .int .i64 (x 13), .int .i64 (x 14), .int .i64 (x 15), .int .i64 (x 16), .int .i64 (x 17), .int .i64 (x 18), .int .i64 (x 19), .int .i64 (x 20), .int .i64 (x 21), .int .i64 (x 22), .int .i64 (x 23), .int .i64 (x 24), .int .i64 (x 25), .int .i64 (x 26), .int .i64 (x 27), .int .i64 (x 28), .int .i64 (x 29), .int .i64 (x 30)] 25)) ((w.alloc (Obj.cells #[.int .i64 (x 0), .int .i64 (x 1), .int .i64 (x 2), .int .i64 (x 3), .int .i64 (x 4), .int .i64 (x 5), .int .i64 (x 6), .int .i64 (x 7), .int .i64 (x 8), .int .i64 (x 9), .int .i64 (x 10), .int .i64 (x 11), .int .i64 (x 12), .int .i64 (x 13), .int .i64 (x 14), .int .i64 (x 15), .int .i64 (x 16), .int .i64 (x 17), .int .i64 (x 18), .int .i64 (x 19), .int .i64 (x 20), .int .i64 (x 21), .int .i64 (x 22), .int .i64 (x 23), .int .i64 (x 24), .int .i64 (x 25), .int .i64 (x 26), .int .i64 (x 27), .int .i64 (x 28), .int .i64 (x 29), .int .i64 (x 30)] 25)).alloc (Obj.cells #[.int .i64 (c 0), .int .i64 (c 1), .int .i64 (c 2), .int .i64 (c 3), .int .i64 (c 4), .int .i64 (c 5), .int .i64 (c 6), .int .i64 (c 7), .int .i64 (c 8), .int .i64 (c 9), .int .i64 (c 10), .int .i64 (c 11), .int .i64 (c 12), .int .i64 (c 13), .int .i64 (c 14), .int .i64 (c 15)] 61)) := b_alloc (Below.refl _ _)
    have cr := cr_keep B1 cr0
    have E0 := b_trans B0 B1
    have ka : K16 ((w.alloc (Obj.cells #[.int .i64 (x 0), .int .i64 (x 1), .int .i64 (x 2), .int .i64 (x 3), .int .i64 (x 4), .int .i64 (x 5), .int .i64 (x 6), .int .i64 (x 7), .int .i64 (x 8), .int .i64 (x 9), .int .i64 (x 10), .int .i64 (x 11), .int .i64 (x 12), .int .i64 (x 13), .int .i64 (x 14), .int .i64 (x 15), .int .i64 (x 16), .int .i64 (x 17), .int .i64 (x 18), .int .i64 (x 19), .int .i64 (x 20), .int .i64 (x 21), .int .i64 (x 22), .int .i64 (x 23), .int .i64 (x 24), .int .i64 (x 25), .int .i64 (x 26), .int .i64 (x 27), .int .i64 (x 28), .int .i64 (x 29), .int .i64 (x 30)] 25)).alloc (Obj.cells #[.int .i64 (c 0), .int .i64 (c 1), .int .i64 (c 2), .int .i64 (c 3), .int .i64 (c 4), .int .i64 (c 5), .int .i64 (c 6), .int .i64 (c 7), .int .i64 (c 8), .int .i64 (c 9), .int .i64 (c 10), .int .i64 (c 11), .int .i64 (c 12), .int .i64 (c 13), .int .i64 (c 14), .int .i64 (c 15)] 61)) (w.heap.size + 1) c := k16_new (by simp)
    replace T := t3_keep E0 T
    have cc := check_any x hx
    clear B0 B1 cr0
    go_enter Tryz.func4, Tryz.ntmps4
    go_wp2_with (with_reducible refine stop_at (some 25) rfl ?_)
    generalize ((w.alloc (Obj.cells #[.int .i64 (x 0), .int .i64 (x 1), .int .i64 (x 2), .int .i64 (x 3), .int .i64 (x 4), .int .i64 (x 5), .int .i64 (x 6), .int .i64 (x 7), .int .i64 (x 8), .int .i64 (x 9), .int .i64 (x 10), .int .i64 (x 11), .int .i64 (x 12), .int .i64 (x 13), .int .i64 (x 14), .int .i64 (x 15), .int .i64 (x 16), .int .i64 (x 17), .int .i64 (x 18), .int .i64 (x 19), .int .i64 (x 20), .int .i64 (x 21), .int .i64 (x 22), .int .i64 (x 23), .int .i64 (x 24), .int .i64 (x 25), .int .i64 (x 26), .int .i64 (x 27), .int .i64 (x 28), .int .i64 (x 29), .int .i64 (x 30)] 25)).alloc (Obj.cells #[.int .i64 (c 0), .int .i64 (c 1), .int .i64 (c 2), .int .i64 (c 3), .int .i64 (c 4), .int .i64 (c 5), .int .i64 (c 6), .int .i64 (c 7), .int .i64 (c 8), .int .i64 (c 9), .int .i64 (c 10), .int .i64 (c 11), .int .i64 (c 12), .int .i64 (c 13), .int .i64 (c 14), .int .i64 (c 15)] 61)) = z0 at *
    refine unstop ?_
    refine wpList_load_row rfl 25 (.tmp 3) rfl w.heap.size rfl 25 _ (0, 0) _ cr Tryz.underlying25 rfl (by kernel_rfl) ?_
    rw [ck] at cc
    go_wp2_with fail
    refine (cc _).mono ?_
    rintro e_ y1 ⟨rfl, hb1⟩
    replace T := t3_keep hb1 T
    replace E0 := b_trans E0 hb1
    replace cr := cr_keep hb1 cr
    replace ka := row_keep hb1 ka
    clear hb1 cc
    go_wp2_with fail
    refine (fixed_cha _ T).mono ?_
    rintro e_ y9 ⟨rfl, hb9⟩
    go_wp2
    go_ret
    exact ⟨rfl, b_trans E0 hb9⟩
  have q1 : ¬ (300 : Int) < (len : Int) := by omega
  have cr0 : CR (w.alloc (Obj.cells #[.int .i64 (x 0), .int .i64 (x 1), .int .i64 (x 2), .int .i64 (x 3), .int .i64 (x 4), .int .i64 (x 5), .int .i64 (x 6), .int .i64 (x 7), .int .i64 (x 8), .int .i64 (x 9), .int .i64 (x 10), .int .i64 (x 11), .int .i64 (x 12), .int .i64 (x 13), .int .i64 (x 14), .int .i64 (x 15), .int .i64 (x 16), .int .i64 (x 17), .int .i64 (x 18), .int .i64 (x 19), .int .i64 (x 20), .int .i64 (x 21), .int .i64 (x 22), .int .i64 (x 23), .int .i64 (x 24), .int .i64 (x 25), .int .i64 (x 26), .int .i64 (x 27), .int .i64 (x 28), .int .i64 (x 29), .int .i64 (x 30)] 25)) w.heap.size x := cr_new
  have B0 : Below w.heap.size w (w.alloc (Obj.cells #[.int .i64 (x 0), .int .i64 (x 1), .int .i64 (x 2), .int .i64 (x 3), .int .i64 (x 4), .int .i64 (x 5), .int .i64 (x 6), .int .i64 (x 7), .int .i64 (x 8), .int .i64 (x 9), .int .i64 (x 10), .int .i64 (x 11), .int .i64 (x 12), .int .i64 (x 13), .int .i64 (x 14), .int .i64 (x 15), .int .i64 (x 16), .int .i64 (x 17), .int .i64 (x 18), .int .i64 (x 19), .int .i64 (x 20), .int .i64 (x 21), .int .i64 (x 22), .int .i64 (x 23), .int .i64 (x 24), .int .i64 (x 25), .int .i64 (x 26), .int .i64 (x 27), .int .i64 (x 28), .int .i64 (x 29), .int .i64 (x 30)] 25)) := b_alloc (Below.refl _ _)
  have B1 : Below (w.alloc (Obj.cells #[.int .i64 (x 0), .int .i64 (x 1), .int .i64 (x 2), .int .i64 (x 3), .int .i64 (x 4), .int .i64 (x 5), .int .i64 (x 6), .int .i64 (x 7), .int .i64 (x 8), .int .i64 (x 9), .int .i64 (x 10), .int .i64 (x 11), .int .i64 (x 12), .int .i64 (x 13), .int .i64 (x 14), .int .i64 (x 15), .int .i64 (x 16), .int .i64 (x 17), .int .i64 (x 18), .int .i64 (x 19), .int .i64 (x 20), .int .i64 (x 21), .int .i64 (x 22), .int .i64 (x 23), .int .i64 (x 24), .int .i64 (x 25), .int .i64 (x 26), .int .i64 (x 27), .int .i64 (x 28), .int .i64 (x 29), .int .i64 (x 30)] 25)).heap.size (w.alloc (Obj.cells #[.int .i64 (x 0), .int .i64 (x 1), .int .i64 (x 2), .int .i64 (x 3), .int .i64 (x 4), .int .i64 (x 5), .int .i64 (x 6), .int .i64 (x 7), .int .i64 (x 8), .int .i64 (x 9), .int .i64 (x 10), .int .i64 (x 11), .int .i64 (x 12), .int .i64 (x 13), .int .i64 (x 14), .int .i64 (x 15), .int .i64 (x 16), .int .i64 (x 17), .int .i64 (x 18), .int .i64 (x 19), .int .i64 (x 20), .int .i64 (x 21), .int .i64 (x 22), .int .i64 (x 23), .int .i64 (x 24), .int .i64 (x 25), .int .i64 (x 26), .int .i64 (x 27), .int .i64 (x 28), .int .i64 (x 29), .int .i64 (x 30)] 25)) ((w.alloc (Obj.cells #[.int .i64 (x 0), .int .i64 (x 1), .int .i64 (x 2), .int .i64 (x 3), .int .i64 (x 4), .int .i64 (x 5), .int .i64 (x 6), .int .i64 (x 7), .int .i64 (x 8), .int .i64 (x 9), .int .i64 (x 10), .int .i64 (x 11), .int .i64 (x 12), .int .i64 (x 13), .int .i64 (x 14), .int .i64 (x 15), .int .i64 (x 16), .int .i64 (x 17), .int .i64 (x 18), .int .i64 (x 19), .int .i64 (x 20), .int .i64 (x 21), .int .i64 (x 22), .int .i64 (x 23), .int .i64 (x 24), .int .i64 (x 25), .int .i64 (x 26), .int .i64 (x 27), .int .i64 (x 28), .int .i64 (x 29), .int .i64 (x 30)] 25)).alloc (Obj.cells #[.int .i64 (c 0), .int .i64 (c 1), .int .i64 (c 2), .int .i64 (c 3), .int .i64 (c 4), .int .i64 (c 5), .int .i64 (c 6), .int .i64 (c 7), .int .i64 (c 8), .int .i64 (c 9), .int .i64 (c 10), .int .i64 (c 11), .int .i64 (c 12), .int .i64 (c 13), .int .i64 (c 14), .int .i64 (c 15)] 61)) := b_alloc (Below.refl _ _)
  have cr := cr_keep B1 cr0
  have E0 := b_trans B0 B1
  have ka : K16 ((w.alloc (Obj.cells #[.int .i64 (x 0), .int .i64 (x 1), .int .i64 (x 2), .int .i64 (x 3), .int .i64 (x 4), .int .i64 (x 5), .int .i64 (x 6), .int .i64 (x 7), .int .i64 (x 8), .int .i64 (x 9), .int .i64 (x 10), .int .i64 (x 11), .int .i64 (x 12), .int .i64 (x 13), .int .i64 (x 14), .int .i64 (x 15), .int .i64 (x 16), .int .i64 (x 17), .int .i64 (x 18), .int .i64 (x 19), .int .i64 (x 20), .int .i64 (x 21), .int .i64 (x 22), .int .i64 (x 23), .int .i64 (x 24), .int .i64 (x 25), .int .i64 (x 26), .int .i64 (x 27), .int .i64 (x 28), .int .i64 (x 29), .int .i64 (x 30)] 25)).alloc (Obj.cells #[.int .i64 (c 0), .int .i64 (c 1), .int .i64 (c 2), .int .i64 (c 3), .int .i64 (c 4), .int .i64 (c 5), .int .i64 (c 6), .int .i64 (c 7), .int .i64 (c 8), .int .i64 (c 9), .int .i64 (c 10), .int .i64 (c 11), .int .i64 (c 12), .int .i64 (c 13), .int .i64 (c 14), .int .i64 (c 15)] 61)) (w.heap.size + 1) c := k16_new (by simp)
  replace T := t3_keep E0 T
  have cc := check_any x hx
  clear B0 B1 cr0
  go_enter Tryz.func4, Tryz.ntmps4
  go_wp2_with (with_reducible refine stop_at (some 25) rfl ?_)
  generalize ((w.alloc (Obj.cells #[.int .i64 (x 0), .int .i64 (x 1), .int .i64 (x 2), .int .i64 (x 3), .int .i64 (x 4), .int .i64 (x 5), .int .i64 (x 6), .int .i64 (x 7), .int .i64 (x 8), .int .i64 (x 9), .int .i64 (x 10), .int .i64 (x 11), .int .i64 (x 12), .int .i64 (x 13), .int .i64 (x 14), .int .i64 (x 15), .int .i64 (x 16), .int .i64 (x 17), .int .i64 (x 18), .int .i64 (x 19), .int .i64 (x 20), .int .i64 (x 21), .int .i64 (x 22), .int .i64 (x 23), .int .i64 (x 24), .int .i64 (x 25), .int .i64 (x 26), .int .i64 (x 27), .int .i64 (x 28), .int .i64 (x 29), .int .i64 (x 30)] 25)).alloc (Obj.cells #[.int .i64 (c 0), .int .i64 (c 1), .int .i64 (c 2), .int .i64 (c 3), .int .i64 (c 4), .int .i64 (c 5), .int .i64 (c 6), .int .i64 (c 7), .int .i64 (c 8), .int .i64 (c 9), .int .i64 (c 10), .int .i64 (c 11), .int .i64 (c 12), .int .i64 (c 13), .int .i64 (c 14), .int .i64 (c 15)] 61)) = z0 at *
  refine unstop ?_
  refine wpList_load_row rfl 25 (.tmp 3) rfl w.heap.size rfl 25 _ (0, 0) _ cr Tryz.underlying25 rfl (by kernel_rfl) ?_
  rw [ck] at cc
  go_wp2_with fail
  refine (cc _).mono ?_
  rintro e_ y1 ⟨rfl, hb1⟩
  replace T := t3_keep hb1 T
  replace E0 := b_trans E0 hb1
  replace cr := cr_keep hb1 cr
  replace ka := row_keep hb1 ka
  clear hb1 cc
  go_wp2_with (with_reducible refine stop_at (some 34) rfl ?_)
  refine unstop ?_
  refine wpList_load_row rfl 61 (.tmp 5) rfl (w.heap.size + 1) rfl 61 _ (0, 0) _ ka Tryz.underlying61 rfl (by kernel_rfl) ?_
  go_wp2
  clear q1
  have E1 := Lib.hid E0
  have cr1 := Lib.hid cr
  have ka1 := Lib.hid ka
  replace T := Lib.hid T
  clear E0 cr ka
  go_loopw [35] (fun iv wr => ∃ i : Nat, i ≤ 16 ∧ iv = .int .i64 i ∧ Hid (∀ j, j < i → gd (c j) = true) ∧ Hid (Below y1.heap.size y1 wr)) (fun iv _ => 16 - (intOf iv).toNat)
  case atStart => exact ⟨0, Nat.zero_le _, rfl, Lib.hid (fun _ q => absurd q (Nat.not_lt_zero _)), Lib.hid (Below.refl _ _)⟩
  case round =>
    obtain ⟨i, hi, rfl, hg, E⟩ := hrel
    by_cases hlt : i < 16
    · have i0 : (0 : Int) ≤ i := by omega
      have i1 : (i : Int) < 16 := by omega
      have ws : IntKind.i64.wrap ((i : Int) + 1) = (i : Int) + 1 := by rw [IntKind.wrap_i64]; omega
      have ix := ix_16 c i hlt
      have cg := rgood_any (c i)
      obtain ⟨q, hq⟩ : ∃ q, gd (c i) = q := ⟨_, rfl⟩
      rw [hq] at cg
      replace hq := Lib.hid hq
      generalize hci : c i = ci at *
      replace hci := Lib.hid hci
      go_wp2_with fail
      refine (cg _).mono ?_
      rintro e_ y2 ⟨rfl, hb2⟩
      clear cg ix
      replace E := Lib.hid (b_trans E.out hb2)
      clear hb2
      cases q
      · replace T := t3_keep E.out T.out
        go_wp2_with fail
        refine (fixed_cha _ T).mono ?_
        rintro e_ y9 ⟨rfl, hb9⟩
        go_wp2
        go_ret
        exact ⟨rfl, b_trans (b_trans E1.out E.out) hb9⟩
      · have hg2 : Hid (∀ j, j < i + 1 → gd (c j) = true) := Lib.hid (fun j hj => by
          by_cases e : j < i
          · exact hg.out j e
          · rw [show j = i by omega, hci.out]; exact hq.out)
        clear hq hci hg
        go_wp2
        refine ⟨⟨i + 1, hlt, by go_num, hg2, E⟩, ?_⟩
        simp only [intOf]
        omega
    · have hlk : ¬ (i : Int) < 16 := by omega
      obtain rfl : i = 16 := by omega
      have cr := cr_keep E.out cr1.out
      replace T := t3_keep E.out T.out
      clear hlt hi
      go_wp2_with (with_reducible refine stop_at (some 44) rfl ?_)
      refine unstop ?_
      refine wpList_load_row rfl 25 (.tmp 3) rfl w.heap.size rfl 25 _ (0, 0) _ cr Tryz.underlying25 rfl (by kernel_rfl) ?_
      go_wp2_with fail
      refine (chnew_ok x hx ck _ T).mono ?_
      rintro e_ y3 ⟨b, fb, gb, rfl, c0, h0, h1, h2_, hb3⟩
      have S := Lib.hid (lc_new (W := y1) E.out T c0 h0 h1 h2_ hb3)
      clear T c0 h0 h1 h2_ hb3 cr E
      go_wp2
      go_loopw [56] (fun iv wr => ∃ (k : Nat) (h1 : Value), k ≤ len ∧ iv = .int .i64 k ∧ Hid (LC y1 b fb gb h1 x (itr x a p h s k) wr)) (fun iv _ => len - (intOf iv).toNat)
      case atStart => exact ⟨0, _, Nat.zero_le _, rfl, S⟩
      case round =>
        clear S
        obtain ⟨k, h1, hk, rfl, S⟩ := hrel
        by_cases hlt : k < len
        · obtain ⟨gs, off, rfl, tw⟩ := hc k hlt
          have gl : gs < w.heap.size := World.block_lt_of_cell? w _ tw.1
          replace tw := tw_keep (b_trans E1.out S.out.b) tw
          have hlk : (k : Int) < len := by omega
          have hk0 : (0 : Int) ≤ k := by omega
          have hk1 : (0 : Int) ≤ (k : Int) + 1 := by omega
          have hk2 : (k : Int) + 1 ≤ cap := by omega
          have ws : IntKind.i64.wrap ((k : Int) + 1) = (k : Int) + 1 := by rw [IntKind.wrap_i64]; omega
          have tn : ((k : Int) + 1).toNat = k + 1 := by omega
          have ro := itr_r x a p h s k
          have ok := ok_itr hx ck a p h s k
          have Z : Below wr.heap.size wr (wr.alloc (Obj.cells #[.int .i64 (a k), .bool (h k), .int .i64 (p k), .bool (s k)] 49)) := b_alloc (Below.refl _ _)
          have S1 := Lib.hid (lc_keep S.out Z)
          have cs := step_any (b := b) (fb := fb) (gb := gb) (hl := h1) hx ck (C := itr x a p h s k) ok (by omega) (a k) (h k) (p k) (s k) _ S1.out.c S1.out.t
          have eI : Hid (itr x a p h s (k + 1) = (stp x (itr x a p h s k) (a k) (h k) (p k) (s k)).1) := Lib.hid rfl
          generalize stp x (itr x a p h s k) (a k) (h k) (p k) (s k) = R at *
          replace hlt := Lib.hid hlt
          obtain ⟨t0, t1, t2, t3⟩ := tw
          clear ro ok Z S
          go_wp2_with fail
          refine cs.mono ?_
          rintro e_ y3 ⟨rfl, h2_, c2, q2, k2⟩
          have S2 := Lib.hid (lc_step S1.out c2 q2 k2)
          clear cs c2 q2 k2 S1 t0 t1 t2 t3
          go_wp2
          refine ⟨⟨k + 1, h2_, hlt.out, by go_num, by rw [eI.out]; exact S2⟩, ?_⟩
          simp only [intOf]
          have := hlt.out
          omega
        · have hlk : ¬ (k : Int) < len := by omega
          obtain rfl : k = len := by omega
          have ok0 := ok_itr hx ck a p h s k
          have r0 := itr_r x a p h s k
          have m0 := itr_m x a p h s k
          have HK : Hid (Okc (itr x a p h s k) ∧ (0 : Int) ≤ (itr x a p h s k).r ∧ (itr x a p h s k).r ≤ 300 + 0 ∧ 0 ≤ (itr x a p h s k).m ∧ (itr x a p h s k).m ≤ 3) := Lib.hid ⟨ok0, ok0.r, by omega, m0⟩
          generalize itr x a p h s k = C0 at *
          clear ok0 r0 m0 hlt hk hc
          obtain ⟨H, hH, h1000⟩ := hold_in ck
          have x27 : wr.cell? ⟨w.heap.size, 27, none⟩ = some (.int .i64 (H : Int)) := by rw [← hH]; exact (cell_of_row _ _ 27 _ _ _ (cr_keep S.out.b cr1.out)).trans rfl
          replace hH := Lib.hid hH
          go_wp2
          clear x27
          go_loopw [66] (fun iv wr => ∃ (j : Nat) (h1 : Value) (C : Cn), j ≤ H ∧ iv = .int .i64 j ∧ Hid (LC y1 b fb gb h1 x C wr) ∧ Hid (Okc C ∧ (j : Int) ≤ C.r ∧ C.r ≤ 300 + (j : Int) ∧ 0 ≤ C.m ∧ C.m ≤ 3)) (fun iv _ => H - (intOf iv).toNat)
          case atStart => exact ⟨0, _, _, Nat.zero_le _, rfl, S, HK⟩
          case round =>
            clear S HK C0
            obtain ⟨j, h1, C, hj, rfl, S, HK⟩ := hrel
            by_cases hlt : j < H
            · obtain ⟨ok, q1, q2, m0⟩ := HK.out
              clear HK
              have j0 : (0 : Int) ≤ j := by omega
              have j1 : (j : Int) < H := by omega
              have ws : IntKind.i64.wrap ((j : Int) + 1) = (j : Int) + 1 := by rw [IntKind.wrap_i64]; omega
              have x26 : wr.cell? ⟨w.heap.size, 26, none⟩ = some (.int .i64 (x 26)) := (cell_of_row _ _ 26 _ _ _ (cr_keep S.out.b cr1.out)).trans rfl
              have cl := clip_in ck
              have nt : ¬ the x (x 26) = 0 := clip_the ck (by omega)
              have r1 := clip_r nt false 0 false (C := C)
              have ok1 := ok_stp hx ck ok (x 26) false 0 false
              have m1 := stp_m (x := x) m0 (x 26) false 0 false
              have cs := step_any (b := b) (fb := fb) (gb := gb) (hl := h1) hx ck (C := C) ok (by omega) (x 26) false 0 false _ S.out.c S.out.t
              generalize stp x C (x 26) false 0 false = R at *
              have HK1 : Hid (Okc R.1 ∧ ((j + 1 : Nat) : Int) ≤ R.1.r ∧ R.1.r ≤ 300 + ((j + 1 : Nat) : Int) ∧ 0 ≤ R.1.m ∧ R.1.m ≤ 3) := Lib.hid ⟨ok1, by omega, by omega, m1⟩
              clear ok q1 q2 m0 r1 ok1 m1 nt cl
              replace hlt := Lib.hid hlt
              go_wp2_with fail
              clear x26
              refine cs.mono ?_
              rintro e_ y4 ⟨rfl, h3, c3, q3, k3⟩
              have S3 := Lib.hid (lc_step S.out c3 q3 k3)
              clear cs c3 q3 k3 S
              go_wp2
              refine ⟨⟨j + 1, h3, R.1, hlt.out, by go_num, S3, HK1⟩, ?_⟩
              simp only [intOf]
              have := hlt.out
              omega
            · have hlk : ¬ (j : Int) < H := by omega
              obtain rfl : j = H := by omega
              obtain ⟨ok, q1, q2, m0⟩ := HK.out
              clear HK hlt hj
              have x26 : wr.cell? ⟨w.heap.size, 26, none⟩ = some (.int .i64 (x 26)) := (cell_of_row _ _ 26 _ _ _ (cr_keep S.out.b cr1.out)).trans rfl
              have ka := row_keep S.out.b ka1.out
              have c0 : wr.cell? ⟨w.heap.size + 1, 0, none⟩ = some (.int .i64 (c 0)) := (cell_of_row _ _ 0 _ _ _ ka).trans rfl
              clear ka
              have cl := clip_in ck
              have wn : IntKind.i64.wrap (-(x 26)) = -(x 26) := by rw [IntKind.wrap_i64]; omega
              have nt : ¬ the x (-(x 26)) = 0 := clip_the ck (by omega)
              obtain ⟨ag, td⟩ := ag_lost (x := x) m0 nt (by rw [hH.out]; exact q1) true (c 0) false c
              have ok1 := ok_stp hx ck ok (-(x 26)) true (c 0) false
              have r1 := stp_r x C (-(x 26)) true (c 0) false
              have r2 := ar_le x C.r (-(x 26)) ok.r
              have cs := step_any (b := b) (fb := fb) (gb := gb) (hl := h1) hx ck (C := C) ok (by omega) (-(x 26)) true (c 0) false _ S.out.c S.out.t
              obtain ⟨R, hR⟩ : ∃ R, stp x C (-(x 26)) true (c 0) false = R := ⟨_, rfl⟩
              rw [hR] at ag td ok1 r1 cs
              rw [td] at cs
              have HK1 : Hid (Ag R.1 0 c ∧ Okc R.1 ∧ R.1.r ≤ 2000) := Lib.hid ⟨ag, ok1, by omega⟩
              clear hR ag td ok1 r1 r2 ok q1 q2 m0 nt cl
              rw [show tdw ⟨3, false, false, false, true, false, 0, 0, 0⟩ = tdv 3 false false false true false 0 0 0 from rfl] at cs
              go_wp2_with fail
              clear x26 c0 wn
              refine cs.mono ?_
              rintro e_ y4 ⟨rfl, h3, c3, q3, k3⟩
              have S3 := Lib.hid (lc_step S.out c3 q3 k3)
              clear cs c3 q3 k3 S
              have Z2 : Below y4.heap.size y4 (y4.alloc (Obj.cells #[.int .i64 3, .bool false, .bool false, .bool false, .bool true, .bool false, .int .i64 0, .int .i64 0, .int .i64 0] 51)) := b_alloc (Below.refl _ _)
              have kG : (y4.alloc (Obj.cells #[.int .i64 3, .bool false, .bool false, .bool false, .bool true, .bool false, .int .i64 0, .int .i64 0, .int .i64 0] 51)).heap[y4.heap.size]? = some (.cells #[.int .i64 3, .bool false, .bool false, .bool false, .bool true, .bool false, .int .i64 0, .int .i64 0, .int .i64 0] 51 (0, 0)) := heap_alloc_last _ _
              replace S3 := Lib.hid (lc_keep S3.out Z2)
              obtain ⟨d0, d1, d2, d3, d4, d5, d6, d7, d8⟩ := row9 kG
              clear Z2 kG
              have ka := row_keep S3.out.b ka1.out
              go_wp2_with (with_reducible refine stop_at (some 98) rfl ?_)
              generalize y4.alloc (Obj.cells #[.int .i64 3, .bool false, .bool false, .bool false, .bool true, .bool false, .int .i64 0, .int .i64 0, .int .i64 0] 51) = y5 at *
              refine unstop ?_
              refine wpList_load_row rfl 61 (.tmp 5) rfl (w.heap.size + 1) rfl 61 _ (0, 0) _ ka Tryz.underlying61 rfl (by kernel_rfl) ?_
              clear d0 d1 d2 d3 d4 d5 d6 d7 d8 ka
              go_wp2
              go_loopw [99] (fun iv wr => ∃ (i : Nat) (h1 : Value) (C : Cn), i ≤ 16 ∧ iv = .int .i64 i ∧ Hid (LC y1 b fb gb h1 x C wr) ∧ Hid (i < 16 → Ag C i c ∧ Okc C ∧ C.r ≤ 2000) ∧ Hid (i = 16 → C.m = 1 ∧ C.s = 0 ∧ C.v = tri (az (mv c 16)) 0 0 ∧ C.u = dgm (x 8) (x 9) (x 10))) (fun iv _ => 16 - (intOf iv).toNat)
              case atStart => exact ⟨0, _, _, Nat.zero_le _, rfl, S3, Lib.hid (fun _ => HK1.out), Lib.hid (fun q => absurd q (by decide))⟩
              case round =>
                clear S3 HK1 R C
                obtain ⟨i, h1, C, hi, rfl, S, HA, HB⟩ := hrel
                by_cases hlt : i < 16
                · obtain ⟨ag, ok, r2⟩ := HA.out hlt
                  have i0 : (0 : Int) ≤ i := by omega
                  have i1 : (i : Int) < 16 := by omega
                  have ws : IntKind.i64.wrap ((i : Int) + 1) = (i : Int) + 1 := by rw [IntKind.wrap_i64]; omega
                  have ix := ix_16 c i hlt
                  have x25 : wr.cell? ⟨w.heap.size, 25, none⟩ = some (.int .i64 (x 25)) := (cell_of_row _ _ 25 _ _ _ (cr_keep S.out.b cr1.out)).trans rfl
                  have tq := (thq_rest ck).2
                  have gz := hg.out i hlt
                  have ok1 := ok_stp hx ck ok (x 25) true (c i) false
                  have r1 : (stp x C (x 25) true (c i) false).1.r = 0 := by rw [stp_r]; exact if_pos tq
                  have cs := step_any (b := b) (fb := fb) (gb := gb) (hl := h1) hx ck (C := C) ok (by omega) (x 25) true (c i) false _ S.out.c S.out.t
                  by_cases i15 : i < 15
                  · have q := ag_gather ag i15 (a := x 25) false tq gz
                    have jq : ((i : Int) == 15) = false := beq_eq_false_iff_ne.2 (by omega)
                    clear gz tq ok r2 ag
                    obtain ⟨R, hR⟩ : ∃ R, stp x C (x 25) true (c i) false = R := ⟨_, rfl⟩
                    rw [hR] at ok1 r1 cs q
                    rw [q.2, show tdw ⟨3, false, false, false, false, false, 0, 0, 0⟩ = tdv 3 false false false false false 0 0 0 from rfl] at cs
                    have HA1 : Hid (i + 1 < 16 → Ag R.1 (i + 1) c ∧ Okc R.1 ∧ R.1.r ≤ 2000) := Lib.hid (fun _ => ⟨q.1, ok1, by omega⟩)
                    clear hR q ok1 r1
                    go_wp2_with fail
                    clear x25 ix
                    refine cs.mono ?_
                    rintro e_ y6 ⟨rfl, h3, c3, q3, k3⟩
                    have S3 := Lib.hid (lc_step S.out c3 q3 k3)
                    clear cs c3 q3 k3 S HA HB
                    have Z2 : Below y6.heap.size y6 (y6.alloc (Obj.cells #[.int .i64 3, .bool false, .bool false, .bool false, .bool false, .bool false, .int .i64 0, .int .i64 0, .int .i64 0] 51)) := b_alloc (Below.refl _ _)
                    have kG : (y6.alloc (Obj.cells #[.int .i64 3, .bool false, .bool false, .bool false, .bool false, .bool false, .int .i64 0, .int .i64 0, .int .i64 0] 51)).heap[y6.heap.size]? = some (.cells #[.int .i64 3, .bool false, .bool false, .bool false, .bool false, .bool false, .int .i64 0, .int .i64 0, .int .i64 0] 51 (0, 0)) := heap_alloc_last _ _
                    replace S3 := Lib.hid (lc_keep S3.out Z2)
                    obtain ⟨d0, d1, d2, d3, d4, d5, d6, d7, d8⟩ := row9 kG
                    clear Z2 kG
                    go_wp2
                    refine ⟨⟨i + 1, h3, R.1, hlt, by go_num, S3, HA1, Lib.hid (fun q => by omega)⟩, ?_⟩
                    simp only [intOf]
                    omega
                  · obtain rfl : i = 15 := by omega
                    have q := ag_enter ag (a := x 25) false tq gz
                    obtain ⟨av, hav⟩ : ∃ q, evn (az (mv c 16)) 16777216 = q := ⟨_, rfl⟩
                    rw [hav] at q
                    have jq : ((15 : Int) == 15) = true := rfl
                    replace ix : ∀ w, (Instr.index 61 (.agg (ca16 c)) (.int .i64 15)).run Tryz.prog w = .ok (.int .i64 (c 15)) w := ix_16 c 15 (by decide)
                    clear gz tq ok r2 ag hav
                    obtain ⟨R, hR⟩ : ∃ R, stp x C (x 25) true (c 15) false = R := ⟨_, rfl⟩
                    rw [hR] at ok1 r1 cs q
                    rw [q.2.2.2.2, show tdw ⟨1, true, true, false, false, false, av, 0, 0⟩ = tdv 1 true true false false false av 0 0 from rfl] at cs
                    have HB1 : Hid (R.1.m = 1 ∧ R.1.s = 0 ∧ R.1.v = tri (az (mv c 16)) 0 0 ∧ R.1.u = dgm (x 8) (x 9) (x 10)) := Lib.hid ⟨q.1, q.2.1, q.2.2.1, q.2.2.2.1⟩
                    clear hR q ok1 r1
                    go_wp2_with fail
                    clear x25 ix
                    refine cs.mono ?_
                    rintro e_ y6 ⟨rfl, h3, c3, q3, k3⟩
                    have S3 := Lib.hid (lc_step S.out c3 q3 k3)
                    clear cs c3 q3 k3 S HA HB
                    have Z2 : Below y6.heap.size y6 (y6.alloc (Obj.cells #[.int .i64 1, .bool true, .bool true, .bool false, .bool false, .bool false, .int .i64 av, .int .i64 0, .int .i64 0] 51)) := b_alloc (Below.refl _ _)
                    have kG : (y6.alloc (Obj.cells #[.int .i64 1, .bool true, .bool true, .bool false, .bool false, .bool false, .int .i64 av, .int .i64 0, .int .i64 0] 51)).heap[y6.heap.size]? = some (.cells #[.int .i64 1, .bool true, .bool true, .bool false, .bool false, .bool false, .int .i64 av, .int .i64 0, .int .i64 0] 51 (0, 0)) := heap_alloc_last _ _
                    replace S3 := Lib.hid (lc_keep S3.out Z2)
                    obtain ⟨d0, d1, d2, d3, d4, d5, d6, d7, d8⟩ := row9 kG
                    clear Z2 kG
                    go_wp2
                    refine ⟨⟨16, h3, R.1, Nat.le_refl _, by go_num, S3, Lib.hid (fun q => absurd q (by decide)), Lib.hid (fun _ => HB1.out)⟩, ?_⟩
                    simp only [intOf]
                    omega
                · have hlk : ¬ (i : Int) < 16 := by omega
                  obtain rfl : i = 16 := by omega
                  have q1 := HB.out rfl
                  have ka := row_keep S.out.b ka1.out
                  clear HA HB hlt hi
                  have cm := rmean_any 0 c (some ⟨w.heap.size + 1, 0, none⟩) 16 16 (by decide)
                  have al_ := raltitude_any (mv c 16)
                  have cst : ∀ u, CB u b fb gb h1 x C.m C.s C.v C.u → Calls Tryz.prog 12 #[.pointer (some ⟨b, 0, none⟩)] u (RetV (.tuple #[.agg #[.int .i64 (az (mv c 16)), .int .i64 0, .int .i64 0], .agg #[.int .i64 (x 8), .int .i64 0, .int .i64 0, .int .i64 (x 9), .int .i64 0, .int .i64 (x 10)]]) u) := fun u hu => by
                                        have q := chstate_any b fb gb h1 x C.m C.s C.v C.u u hu
                                        rw [q1.2.2.1, q1.2.2.2] at q
                                        exact q
                  have ccl : ∀ u, CB u b fb gb h1 x C.m C.s C.v C.u → Calls Tryz.prog 13 #[.pointer (some ⟨b, 0, none⟩)] u (RetV (.tuple #[.int .i64 1, .int .i64 0]) u) := fun u hu => by
                                        have q := chclock_any b fb gb h1 x C.m C.s C.v C.u u hu
                                        rw [q1.1, q1.2.1] at q
                                        exact q
                  have is := k16_is ka
                  clear q1 ka
                  generalize mv c 16 = M at *
                  generalize me c 16 = me_ at *
                  generalize az M = z at *
                  generalize ae M = ae_ at *
                  go_wp2_with fail
                  refine (cm _ is).mono ?_
                  rintro e_ y7 ⟨rfl, hb⟩
                  clear cm is
                  replace S := Lib.hid (lc_keep S.out hb)
                  clear hb
                  go_wp2_with fail
                  refine (al_ _).mono ?_
                  rintro e_ y8 ⟨rfl, hb⟩
                  clear al_
                  replace S := Lib.hid (lc_keep S.out hb)
                  clear hb
                  go_wp2_with fail
                  refine (cst _ S.out.c.c).mono ?_
                  rintro e_ y9 ⟨rfl, hb⟩
                  clear cst
                  replace S := Lib.hid (lc_keep S.out hb)
                  clear hb
                  have b3 : Below y9.heap.size y9 ((y9.alloc (Obj.cells #[.int .i64 z, .int .i64 0, .int .i64 0] 23)).alloc (Obj.cells #[.int .i64 (x 8), .int .i64 0, .int .i64 0, .int .i64 (x 9), .int .i64 0, .int .i64 (x 10)] 40)) := b_alloc (b_alloc (Below.refl _ _))
                  have kV : ((y9.alloc (Obj.cells #[.int .i64 z, .int .i64 0, .int .i64 0] 23)).alloc (Obj.cells #[.int .i64 (x 8), .int .i64 0, .int .i64 0, .int .i64 (x 9), .int .i64 0, .int .i64 (x 10)] 40)).heap[y9.heap.size]? = some (.cells #[.int .i64 z, .int .i64 0, .int .i64 0] 23 (0, 0)) := lay_old _ _ _
                  have kS : ((y9.alloc (Obj.cells #[.int .i64 z, .int .i64 0, .int .i64 0] 23)).alloc (Obj.cells #[.int .i64 (x 8), .int .i64 0, .int .i64 0, .int .i64 (x 9), .int .i64 0, .int .i64 (x 10)] 40)).heap[y9.heap.size + 1]? = some (.cells #[.int .i64 (x 8), .int .i64 0, .int .i64 0, .int .i64 (x 9), .int .i64 0, .int .i64 (x 10)] 40 (0, 0)) := lay_new _ _ _
                  replace S := Lib.hid (lc_keep S.out b3)
                  clear b3
                  go_wp2_with fail
                  generalize ((y9.alloc (Obj.cells #[.int .i64 z, .int .i64 0, .int .i64 0] 23)).alloc (Obj.cells #[.int .i64 (x 8), .int .i64 0, .int .i64 0, .int .i64 (x 9), .int .i64 0, .int .i64 (x 10)] 40)) = y10 at *
                  generalize y9.heap.size = X9 at *
                  refine (ccl _ S.out.c.c).mono ?_
                  rintro e_ y11 ⟨rfl, hb⟩
                  clear ccl
                  replace kV := row_keep hb kV
                  replace kS := row_keep hb kS
                  replace S := Lib.hid (lc_keep S.out hb)
                  clear hb
                  have cr4 := cr_keep S.out.b cr1.out
                  have x8 : y11.cell? ⟨w.heap.size, 8, none⟩ = some (.int .i64 (x 8)) := (cell_of_row _ _ 8 _ _ _ cr4).trans rfl
                  have x9 : y11.cell? ⟨w.heap.size, 9, none⟩ = some (.int .i64 (x 9)) := (cell_of_row _ _ 9 _ _ _ cr4).trans rfl
                  have x10 : y11.cell? ⟨w.heap.size, 10, none⟩ = some (.int .i64 (x 10)) := (cell_of_row _ _ 10 _ _ _ cr4).trans rfl
                  clear cr4
                  obtain ⟨v0, v1, v2⟩ := row3 kV
                  obtain ⟨u0, u1, u2, u3, u4, u5⟩ := row6 kS
                  have ve := vec_eq_self z 0 0
                  have se := vsym_eq_self (x 8) 0 0 (x 9) 0 (x 10)
                  clear kV kS
                  have cf := fixed_rg S.out.t
                  have cd : ∀ d os, Calls Tryz.prog 18 #[tv (x 8) (x 9) (x 10)] (Sort.grow (redrawn y11 d) os) fun e w'' => e = .returned (.agg #[.int .i64 (x 8), .int .i64 0, .int .i64 0, .int .i64 (x 9), .int .i64 0, .int .i64 (x 10)]) ∧ ∃ p : Regrown, w'' = Sort.grow (redrawn y11 p.d) p.os := diag_rg S.out.t (x 8) (x 9) (x 10)
                  go_upto_region 35 with fail
                  replace v0 := cell_regrown v0
                  replace v1 := cell_regrown v1
                  replace v2 := cell_regrown v2
                  replace u0 := cell_regrown u0
                  replace u1 := cell_regrown u1
                  replace u2 := cell_regrown u2
                  replace u3 := cell_regrown u3
                  replace u4 := cell_regrown u4
                  replace u5 := cell_regrown u5
                  replace x8 := cell_regrown x8
                  replace x9 := cell_regrown x9
                  replace x10 := cell_regrown x10
                  refine wp_region_quiet_below (by kernel_rfl) (by kernel_rfl) ?_
                  repeat (first | go_big_quiet_skip | (go_big_quiet_want; go_big_quiet_op; first | go_big_quiet_on | (apply Exists.intro; refine ⟨fun _ => ?_, ?_⟩; (with_reducible first | exact cf _ _ | exact cd _ _); go_big_quiet_on)))
                  refine wpQuiet_nil ?_
                  intro _ hw'
                  obtain ⟨⟨dq, osq⟩, hw''⟩ := hw'
                  subst hw''
                  have RG := Lib.hid (b_trans E1.out (b_trans S.out.b (below_regrown y11 dq osq)))
                  clear S cf cd ve se v0 v1 v2 u0 u1 u2 u3 u4 u5 x8 x9 x10
                  generalize Sort.grow (redrawn y11 dq) osq = y12 at *
                  go_wp2
                  go_ret
                  exact ⟨rfl, RG.out⟩
end Go.Proofs.YtjifkmldigemkaaGreatDoor
