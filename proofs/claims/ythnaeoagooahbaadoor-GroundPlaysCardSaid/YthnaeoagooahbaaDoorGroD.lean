/- Layer 18: the program's ground: New, known, Known, Set, Near. -/
import Derived.Test.YthnaeoagooahbaaDoorGroB
namespace Go.Proofs.YthnaeoagooahbaaDoor
open Go.RowKit Go.Shelf Go.Joins

/-- A band: never below 0. -/
def bd (x : Int) : Int := if x < 0 then 0 else x
theorem bd_range {x : Int} (h : x ≤ 9223372036854775807) : 0 ≤ bd x ∧ bd x ≤ 9223372036854775807 := by
  unfold bd
  split <;> omega
/-- What a count makes of a ground, and why it doesn't. -/
def sc (c p : Int) : Int := if gd p = true ∧ c = 0 then p else c
def sne (c p : Int) : Int := if gd p = true then (if c = 0 then 0 else 7) else 2
theorem s_bad {c p : Int} (g : gd p = false) : sc c p = c ∧ sne c p = 2 := by simp [sc, sne, g]
theorem s_full {c p : Int} (g : gd p = true) (h : c ≠ 0) : sc c p = c ∧ sne c p = 7 := by simp [sc, sne, g, h]
theorem s_ok {p : Int} (g : gd p = true) : sc 0 p = p ∧ sne 0 p = 0 := by simp [sc, sne, g]
/-- A ground's count: 0, or a good one. -/
def GK (c : Int) : Prop := c = 0 ∨ gd c = true
theorem gk_range {c : Int} (h : GK c) : 0 ≤ c ∧ c ≤ 430515 := by
  rcases h with h | h
  · omega
  · have := gd_range h
    omega
theorem gk_set {c : Int} (h : GK c) (p : Int) : GK (sc c p) := by
  unfold sc
  split
  · rename_i g
    exact Or.inr g.1
  · exact h
theorem gk_good {c : Int} (h : GK c) (n : c ≠ 0) : gd c = true := by
  rcases h with h | h
  · exact absurd h n
  · exact h

/-- Block b is a ground. -/
abbrev GR (w : World) (b : Nat) (c m n r : Int) : Prop := w.heap[b]? = some (.cells #[.int .i64 c, .int .i64 m, .int .i64 n, .int .i64 r] 47 (0, 0))
theorem gr_0 {w : World} {b : Nat} {c m n r v : Int} (h : GR w b c m n r) : GR (w.setCell ⟨b, 0, none⟩ (.int .i64 v)) b v m n r := (heap_setCell_same w b 0 _ _ _ h).trans rfl

set_option maxHeartbeats 4000000 in
set_option maxRecDepth 10000 in
theorem newground_any (x y z : Int) (w : World) : Calls Tryd.prog 6 #[.int .i64 x, .int .i64 y, .int .i64 z] w fun e w' => ∃ b, e = .returned (.pointer (some ⟨b, 0, none⟩)) ∧ w.heap.size ≤ b ∧ GR w' b 0 (bd x) y z ∧ Below w.heap.size w w' := by
  have hm : (if x < 0 then 0 else x) = bd x := rfl
  generalize bd x = m at *
  go_enter Tryd.func6, Tryd.ntmps6
  go_wp2
  go_ret
  exact ⟨_, rfl, Nat.le_refl _, heap_alloc_last _ _, b_alloc (Below.refl _ _)⟩
set_option maxHeartbeats 4000000 in
set_option maxRecDepth 10000 in
theorem isknown_any (b : Nat) (c m n r : Int) (w : World) (h : GR w b c m n r) : Calls Tryd.prog 17 #[.pointer (some ⟨b, 0, none⟩)] w (RetV (.bool (decide (c ≠ 0))) w) := by
  have g0 : w.cell? ⟨b, 0, none⟩ = some (.int .i64 c) := (cell_of_row _ _ 0 _ _ _ h).trans rfl
  clear h
  by_cases k : c = 0
  · subst k
    rw [show decide ((0 : Int) ≠ 0) = false from rfl]
    go_enter Tryd.func17, Tryd.ntmps17
    go_wp2
    go_ret
    exact ⟨rfl, Below.refl _ _⟩
  · rw [decide_eq_true k]
    have k' : (c != 0) = true := by simpa using k
    clear k
    go_enter Tryd.func17, Tryd.ntmps17
    go_wp2
    go_ret
    exact ⟨rfl, Below.refl _ _⟩
/-- In a world that has grown alone. -/
theorem known_grown {b : Nat} {c m n r : Int} {w : World} (h : GR w b c m n r) : ∀ d os, Calls Tryd.prog 17 #[.pointer (some ⟨b, 0, none⟩)] (Sort.grow (redrawn w d) os) fun e w'' => e = .returned (.bool (decide (c ≠ 0))) ∧ ∃ p : Regrown, w'' = Sort.grow (redrawn w p.d) p.os :=
  fun d os => Calls.regrown_of (isknown_any b c m n r _ (row_keep (below_regrown w d os) h))
set_option maxHeartbeats 4000000 in
set_option maxRecDepth 10000 in
theorem Known_any (b : Nat) (c m n r : Int) (w : World) (h : GR w b c m n r) : Calls Tryd.prog 12 #[.pointer (some ⟨b, 0, none⟩)] w (RetV (.tuple #[.int .i64 c, .bool (decide (c ≠ 0))]) w) := by
  have c0 := known_grown h
  go_enter Tryd.func12, Tryd.ntmps12
  have q0 := cell_regrown (show w.cell? ⟨b, 0, none⟩ = some (.int .i64 c) from (cell_of_row _ _ 0 _ _ _ h).trans rfl)
  clear h
  generalize decide (c ≠ 0) = k at *
  go_wp2
  refine wp_region_quiet_below (by kernel_rfl) (by kernel_rfl) ?_
  repeat (with_reducible refine wpQuiet_step (fun KQ hKQ => ?_); go_simp; first | (with_reducible refine hKQ _ ?_; clear hKQ KQ) | (apply Exists.intro; with_reducible refine ⟨fun _ => ?_, hKQ _ ?_⟩; (with_reducible exact c0 _ _); clear hKQ KQ))
  refine wpQuiet_nil ?_
  intro _ hw'
  obtain ⟨⟨dq, osq⟩, hw''⟩ := hw'
  subst hw''
  have E := below_regrown w dq osq
  clear q0 c0
  generalize Sort.grow (redrawn w dq) osq = y1 at *
  go_wp2
  go_ret2
  exact ⟨rfl, E⟩
set_option maxHeartbeats 4000000 in
set_option maxRecDepth 10000 in
theorem set_any (b : Nat) (c m n r p : Int) (w : World) (h : GR w b c m n r) : Calls Tryd.prog 8 #[.pointer (some ⟨b, 0, none⟩), .int .i64 p] w fun e w' => e = .returned (.int .i64 (sne c p)) ∧ GR w' b (sc c p) m n r ∧ But b w w' := by
  have cg := good_any p
  cases g : gd p
  · rw [(s_bad g).1, (s_bad g).2]
    rw [g] at cg
    clear g
    go_enter Tryd.func8, Tryd.ntmps8
    go_wp2_with fail
    refine (cg _).mono ?_
    rintro e y0 ⟨rfl, hb⟩
    replace h := row_keep hb h
    go_wp2
    go_ret
    exact ⟨rfl, h, but_below hb⟩
  · rw [g] at cg
    by_cases k : c = 0
    · subst k
      rw [(s_ok g).1, (s_ok g).2]
      clear g
      go_enter Tryd.func8, Tryd.ntmps8
      go_wp2_with fail
      refine (cg _).mono ?_
      rintro e y0 ⟨rfl, hb⟩
      replace h := row_keep hb h
      have B := but_below (b := b) hb
      clear hb cg
      go_wp2_with fail
      refine (isknown_any b 0 m n r _ h).mono ?_
      rintro e y1 ⟨rfl, hb⟩
      rw [show decide ((0 : Int) ≠ 0) = false from rfl]
      replace h := row_keep hb h
      replace B := but_trans B (but_below (b := b) hb)
      clear hb
      have z0 := frozen_of_row y1 b 0 _ _ h
      have g0 : y1.cell? ⟨b, 0, none⟩ = some (.int .i64 0) := (cell_of_row _ _ 0 _ _ _ h).trans rfl
      replace h := gr_0 (v := p) h
      replace B := but_trans B (but_set (i := 0) (v := .int .i64 p))
      go_wp2
      go_ret
      exact ⟨rfl, h, B⟩
    · rw [(s_full g k).1, (s_full g k).2]
      clear g
      go_enter Tryd.func8, Tryd.ntmps8
      go_wp2_with fail
      refine (cg _).mono ?_
      rintro e y0 ⟨rfl, hb⟩
      replace h := row_keep hb h
      have B := but_below (b := b) hb
      clear hb cg
      go_wp2_with fail
      refine (isknown_any b c m n r _ h).mono ?_
      rintro e y1 ⟨rfl, hb⟩
      rw [decide_eq_true k]
      replace h := row_keep hb h
      replace B := but_trans B (but_below (b := b) hb)
      clear hb
      go_wp2
      go_ret
      exact ⟨rfl, h, B⟩
set_option maxHeartbeats 4000000 in
set_option maxRecDepth 10000 in
theorem near_go (b : Nat) (c m n r p l : Int) (x y z : Bool) (hx : Hid (gd p = x)) (hy : Hid (decide (c ≠ 0) = y)) (w : World) (h : GR w b c m n r)
    (hl : IntKind.i64.wrap (c - m) = l) (hz : Hid (decide (l ≤ p) = z)) : Calls Tryd.prog 13 #[.pointer (some ⟨b, 0, none⟩), .int .i64 p] w (RetV (.bool (x && y && z)) w) := by
  have c1 := retV_regrown (w := w) (good_any p)
  have c0 := known_grown h
  rw [hx.out] at c1
  rw [hy.out] at c0
  clear hx hy
  have q0 := cell_regrown (show w.cell? ⟨b, 0, none⟩ = some (.int .i64 c) from (cell_of_row _ _ 0 _ _ _ h).trans rfl)
  have q1 := cell_regrown (show w.cell? ⟨b, 1, none⟩ = some (.int .i64 m) from (cell_of_row _ _ 1 _ _ _ h).trans rfl)
  clear h
  cases x
  · clear hl hz
    go_enter Tryd.func13, Tryd.ntmps13
    go_wp2
    refine wp_region_quiet_below (by kernel_rfl) (by kernel_rfl) ?_
    repeat (with_reducible refine wpQuiet_step (fun KQ hKQ => ?_); go_simp; first | (with_reducible refine hKQ _ ?_; clear hKQ KQ) | (apply Exists.intro; with_reducible refine ⟨fun _ => ?_, hKQ _ ?_⟩; (first | (with_reducible exact c0 _ _) | (with_reducible exact c1 _ _)); clear hKQ KQ))
    refine wpQuiet_nil ?_
    intro _ hw'
    obtain ⟨⟨dq, osq⟩, hw''⟩ := hw'
    subst hw''
    have E := below_regrown w dq osq
    clear q0 q1 c0 c1
    generalize Sort.grow (redrawn w dq) osq = y1 at *
    go_wp2
    go_ret
    exact ⟨rfl, E⟩
  · cases y
    · clear hl hz
      go_enter Tryd.func13, Tryd.ntmps13
      go_wp2
      refine wp_region_quiet_below (by kernel_rfl) (by kernel_rfl) ?_
      repeat (with_reducible refine wpQuiet_step (fun KQ hKQ => ?_); go_simp; first | (with_reducible refine hKQ _ ?_; clear hKQ KQ) | (apply Exists.intro; with_reducible refine ⟨fun _ => ?_, hKQ _ ?_⟩; (first | (with_reducible exact c0 _ _) | (with_reducible exact c1 _ _)); clear hKQ KQ))
      refine wpQuiet_nil ?_
      intro _ hw'
      obtain ⟨⟨dq, osq⟩, hw''⟩ := hw'
      subst hw''
      have E := below_regrown w dq osq
      clear q0 q1 c0 c1
      generalize Sort.grow (redrawn w dq) osq = y1 at *
      go_wp2
      go_ret
      exact ⟨rfl, E⟩
    · cases z
      · have e : decide (l ≤ p) = false := hz.out
        clear hz
        go_enter Tryd.func13, Tryd.ntmps13
        go_wp2
        refine wp_region_quiet_below (by kernel_rfl) (by kernel_rfl) ?_
        repeat (with_reducible refine wpQuiet_step (fun KQ hKQ => ?_); go_simp; first | (with_reducible refine hKQ _ ?_; clear hKQ KQ) | (apply Exists.intro; with_reducible refine ⟨fun _ => ?_, hKQ _ ?_⟩; (first | (with_reducible exact c0 _ _) | (with_reducible exact c1 _ _)); clear hKQ KQ))
        refine wpQuiet_nil ?_
        intro _ hw'
        obtain ⟨⟨dq, osq⟩, hw''⟩ := hw'
        subst hw''
        have E := below_regrown w dq osq
        clear q0 q1 c0 c1
        generalize Sort.grow (redrawn w dq) osq = y1 at *
        go_wp2
        go_ret
        exact ⟨rfl, E⟩
      · have e : l ≤ p := by simpa using hz.out
        clear hz
        go_enter Tryd.func13, Tryd.ntmps13
        go_wp2
        refine wp_region_quiet_below (by kernel_rfl) (by kernel_rfl) ?_
        repeat (with_reducible refine wpQuiet_step (fun KQ hKQ => ?_); go_simp; first | (with_reducible refine hKQ _ ?_; clear hKQ KQ) | (apply Exists.intro; with_reducible refine ⟨fun _ => ?_, hKQ _ ?_⟩; (first | (with_reducible exact c0 _ _) | (with_reducible exact c1 _ _)); clear hKQ KQ))
        refine wpQuiet_nil ?_
        intro _ hw'
        obtain ⟨⟨dq, osq⟩, hw''⟩ := hw'
        subst hw''
        have E := below_regrown w dq osq
        clear q0 q1 c0 c1
        generalize Sort.grow (redrawn w dq) osq = y1 at *
        go_wp2
        go_ret
        exact ⟨rfl, E⟩
theorem near_any (b : Nat) (c m n r p : Int) (hc : GK c) (m0 : 0 ≤ m) (m1 : m ≤ 9223372036854775807) (w : World) (h : GR w b c m n r) : Calls Tryd.prog 13 #[.pointer (some ⟨b, 0, none⟩), .int .i64 p] w (RetV (.bool (nr c m p)) w) := by
  have := gk_range hc
  exact near_go b c m n r p (c - m) _ _ _ (Lib.hid rfl) (Lib.hid rfl) w h (by rw [IntKind.wrap_i64]; omega) (Lib.hid rfl)
end Go.Proofs.YthnaeoagooahbaaDoor
