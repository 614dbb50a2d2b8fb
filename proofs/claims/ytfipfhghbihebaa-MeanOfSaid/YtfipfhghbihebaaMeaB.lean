/- Layer 17: the program's calls: the mean of counts; a heap. -/
import Derived.Test.YtfipfhghbihebaaMeaA
import Derived.Test.YtfipfhghbihebaaRegion
namespace Go.Proofs.Ytfipfhghbihebaa
open Go.RowKit Go.Shelf Go.Joins

set_option maxHeartbeats 4000000 in
set_option maxRecDepth 10000 in
theorem through_none (s : Int) (w : World) : Calls Try.prog 18 #[.int .i64 s, .int .i64 0] w (RetV (.tuple #[.int .i64 0, .int .i64 4]) w) := by
  go_enter Try.func18, Try.ntmps18
  go_wp2
  go_ret2
  exact ⟨rfl, Below.refl _ _⟩
set_option maxHeartbeats 4000000 in
set_option maxRecDepth 10000 in
theorem through_some (s n : Int) (s0 : 0 ≤ s) (s1 : s ≤ 1000000000000) (n0 : 0 < n) (w : World) : Calls Try.prog 18 #[.int .i64 s, .int .i64 n] w (RetV (.tuple #[.int .i64 (s / n), .int .i64 0]) w) := by
  have hn : ¬ n = 0 := by omega
  have hq : s.tdiv n = s / n := Int.tdiv_eq_ediv_of_nonneg s0
  have q0 : 0 ≤ s / n := Int.ediv_nonneg s0 (by omega)
  have q1 : s / n ≤ s := Int.ediv_le_self _ s0
  generalize s / n = q at *
  have hw : IntKind.i64.wrap q = q := by rw [IntKind.wrap_i64]; omega
  go_enter Try.func18, Try.ntmps18
  go_wp2
  go_ret2
  exact ⟨rfl, Below.refl _ _⟩
theorem through_any (z : Nat → Int) (n : Nat) (h : ag z n = true) (h1 : n ≤ 1000000) (w : World) : Calls Try.prog 18 #[.int .i64 (sm z n), .int .i64 n] w (RetV (.tuple #[.int .i64 (mv z n), .int .i64 (me z n)]) w) := by
  have r := sm_range h
  rcases Nat.eq_zero_or_pos n with rfl | hn
  · exact through_none _ w
  · rw [(m_ok hn h).1, (m_ok hn h).2]
    exact through_some _ _ (by omega) (by omega) (by omega) w

set_option maxHeartbeats 4000000 in
set_option maxRecDepth 10000 in
/-- The mean of a slice's counts, or why there is none. -/
theorem of_any (B : Nat) (z : Nat → Int) (sa : Option Addr) (len cap : Nat) (hm : len ≤ 1000000) (w : World) (hc : IS w B sa len z) :
    Calls Try.prog 14 #[.slice sa len cap] w (RetV (.tuple #[.int .i64 (mv z len), .int .i64 (me z len)]) w) := by
  go_enter Try.func14, Try.ntmps14
  go_wp2
  go_loopw [4, 9] (fun sv iv wr => ∃ k : Nat, k ≤ len ∧ iv = .int .i64 k ∧ sv = .int .i64 (sm z k) ∧ ag z k = true ∧ Below w.heap.size w wr) (fun _ iv _ => len - (intOf iv).toNat)
  case atStart => exact ⟨0, Nat.zero_le _, rfl, rfl, rfl, Below.refl _ _⟩
  case round =>
    obtain ⟨k, hk, rfl, rfl, ha, E⟩ := hrel
    have r := sm_range ha
    by_cases hlt : k < len
    · obtain ⟨gb, off, rfl, -, c0⟩ := hc k hlt
      replace c0 := cell_keep E c0
      have hlk : (k : Int) < len := by omega
      have hk0 : (0 : Int) ≤ k := by omega
      have cg := good_any (z k)
      have ws : IntKind.i64.wrap ((k : Int) + 1) = (k : Int) + 1 := by rw [IntKind.wrap_i64]; omega
      cases g : gd (z k)
      · have hb := m_bad (ag_not hlt g)
        rw [g] at cg
        have HB := Lib.hid hb
        clear hb g r ha hc
        generalize mv z len = mm at *
        generalize me z len = ee at *
        generalize z k = v at *
        generalize sm z k = s at *
        go_wp2_with fail
        refine (cg _).mono ?_
        rintro e y0 ⟨rfl, hb⟩
        replace E := b_trans E hb
        clear hb cg c0
        obtain ⟨rfl, rfl⟩ := HB.out
        go_wp2
        exact bodyPost_ret (v := .tuple #[.int .i64 0, .int .i64 2]) (by simp [results, Try.results14, go_sem]) rfl ⟨rfl, E⟩
      · have gr := gd_range g
        have e0 := Lib.hid (ag_yes ha g)
        have e1 : Hid (sm z (k + 1) = sm z k + z k) := Lib.hid rfl
        rw [g] at cg
        clear g ha hc
        generalize z k = v at *
        generalize sm z k = s at *
        have wx : IntKind.i64.wrap (s + v) = s + v := by rw [IntKind.wrap_i64]; omega
        go_wp2_with fail
        refine (cg _).mono ?_
        rintro e y0 ⟨rfl, hb⟩
        replace E := b_trans E hb
        clear hb cg c0
        go_wp2
        refine ⟨⟨k + 1, by omega, rfl, by rw [e1.out], e0.out, E⟩, ?_⟩
        simp only [intOf]
        omega
    · have hlk : ¬ (k : Int) < len := by omega
      have e : k = len := by omega
      subst e
      have ct := through_any z k ha hm
      clear hlt hk hc ha r
      go_wp2_with fail
      refine (ct _).mono ?_
      rintro e y0 ⟨rfl, hb⟩
      replace E := b_trans E hb
      clear hb ct
      go_wp2
      exact bodyPost_ret (v := .tuple #[.int .i64 (mv z k), .int .i64 (me z k)]) (by simp [results, Try.results14, go_sem]) rfl ⟨rfl, E⟩

/-- Block b is a heap: its counts' sum, how many they are. -/
abbrev HR (w : World) (b : Nat) (s n : Int) : Prop := w.heap[b]? = some (.cells #[.int .i64 s, .int .i64 n] 41 (0, 0))
theorem hr_0 {w : World} {b : Nat} {s n v : Int} (h : HR w b s n) : HR (w.setCell ⟨b, 0, none⟩ (.int .i64 v)) b v n := (heap_setCell_same w b 0 _ _ _ h).trans rfl
theorem hr_1 {w : World} {b : Nat} {s n v : Int} (h : HR w b s n) : HR (w.setCell ⟨b, 1, none⟩ (.int .i64 v)) b s v := (heap_setCell_same w b 1 _ _ _ h).trans rfl

set_option maxHeartbeats 4000000 in
set_option maxRecDepth 10000 in
theorem newheap_any (w : World) : Calls Try.prog 7 #[] w fun e w' => ∃ b, e = .returned (.pointer (some ⟨b, 0, none⟩)) ∧ w.heap.size ≤ b ∧ HR w' b 0 0 ∧ Below w.heap.size w w' := by
  go_enter Try.func7, Try.ntmps7
  go_wp2
  go_ret
  exact ⟨_, rfl, Nat.le_refl _, heap_alloc_last _ _, b_alloc (Below.refl _ _)⟩
set_option maxHeartbeats 4000000 in
set_option maxRecDepth 10000 in
theorem hlen_any (b : Nat) (s n : Int) (w : World) (h : HR w b s n) : Calls Try.prog 13 #[.pointer (some ⟨b, 0, none⟩)] w (RetV (.int .i64 n) w) := by
  have g1 : w.cell? ⟨b, 1, none⟩ = some (.int .i64 n) := (cell_of_row _ _ 1 _ _ _ h).trans rfl
  clear h
  go_enter Try.func13, Try.ntmps13
  go_wp2
  go_ret
  exact ⟨rfl, Below.refl _ _⟩
set_option maxHeartbeats 4000000 in
set_option maxRecDepth 10000 in
theorem full_yes (b : Nat) (s : Int) (w : World) (h : HR w b s 16) : Calls Try.prog 16 #[.pointer (some ⟨b, 0, none⟩)] w (RetV (.bool true) w) := by
  have g1 : w.cell? ⟨b, 1, none⟩ = some (.int .i64 16) := (cell_of_row _ _ 1 _ _ _ h).trans rfl
  clear h
  go_enter Try.func16, Try.ntmps16
  go_wp2
  go_ret
  exact ⟨rfl, Below.refl _ _⟩
set_option maxHeartbeats 4000000 in
set_option maxRecDepth 10000 in
theorem full_no (b : Nat) (s n : Int) (hn : n ≠ 16) (w : World) (h : HR w b s n) : Calls Try.prog 16 #[.pointer (some ⟨b, 0, none⟩)] w (RetV (.bool false) w) := by
  have g1 : w.cell? ⟨b, 1, none⟩ = some (.int .i64 n) := (cell_of_row _ _ 1 _ _ _ h).trans rfl
  have hn' : (n == 16) = false := by simpa using hn
  clear h hn
  go_enter Try.func16, Try.ntmps16
  go_wp2
  go_ret
  exact ⟨rfl, Below.refl _ _⟩
set_option maxHeartbeats 4000000 in
set_option maxRecDepth 10000 in
theorem hclear_any (b : Nat) (s n : Int) (w : World) (h : HR w b s n) : Calls Try.prog 8 #[.pointer (some ⟨b, 0, none⟩)] w fun e w' => e = .returned (.tuple #[]) ∧ HR w' b 0 0 ∧ But b w w' := by
  have z0 := frozen_of_row w b 0 _ _ h
  have z1 := frozen_of_row w b 1 _ _ h
  have g0 : w.cell? ⟨b, 0, none⟩ = some (.int .i64 s) := (cell_of_row _ _ 0 _ _ _ h).trans rfl
  have g1 : w.cell? ⟨b, 1, none⟩ = some (.int .i64 n) := (cell_of_row _ _ 1 _ _ _ h).trans rfl
  go_enter Try.func8, Try.ntmps8
  go_wp2
  go_end0
  exact ⟨rfl, hr_1 (hr_0 h), but_trans but_set but_set⟩
set_option maxHeartbeats 4000000 in
set_option maxRecDepth 10000 in
theorem hmean_any (b : Nat) (z : Nat → Int) (n : Nat) (ha : ag z n = true) (h1 : n ≤ 1000000) (w : World) (h : HR w b (sm z n) n) : Calls Try.prog 11 #[.pointer (some ⟨b, 0, none⟩)] w (RetV (.tuple #[.int .i64 (mv z n), .int .i64 (me z n)]) w) := by
  have c0 := retV_regrown (w := w) (through_any z n ha h1)
  go_enter Try.func11, Try.ntmps11
  have q0 := cell_regrown (show w.cell? ⟨b, 0, none⟩ = some (.int .i64 (sm z n)) from (cell_of_row _ _ 0 _ _ _ h).trans rfl)
  have q1 := cell_regrown (show w.cell? ⟨b, 1, none⟩ = some (.int .i64 n) from (cell_of_row _ _ 1 _ _ _ h).trans rfl)
  clear h
  go_wp2
  refine wp_region_quiet_below (by kernel_rfl) (by kernel_rfl) ?_
  repeat (with_reducible refine wpQuiet_step (fun KQ hKQ => ?_); go_simp; first | (with_reducible refine hKQ _ ?_; clear hKQ KQ) | (apply Exists.intro; with_reducible refine ⟨fun _ => ?_, hKQ _ ?_⟩; (with_reducible exact c0 _ _); clear hKQ KQ))
  refine wpQuiet_nil ?_
  intro _ hw'
  obtain ⟨⟨dq, osq⟩, hw''⟩ := hw'
  subst hw''
  have E := below_regrown w dq osq
  clear q0 q1 c0
  generalize Sort.grow (redrawn w dq) osq = y1 at *
  go_wp2
  go_ret2
  exact ⟨rfl, E⟩
set_option maxHeartbeats 4000000 in
set_option maxRecDepth 10000 in
theorem hadd_bad (b : Nat) (s n c : Int) (g : gd c = false) (w : World) (h : HR w b s n) : Calls Try.prog 9 #[.pointer (some ⟨b, 0, none⟩), .int .i64 c] w fun e w' => e = .returned (.tuple #[.bool false, .int .i64 2]) ∧ HR w' b s n ∧ But b w w' := by
  have cg := good_any c
  rw [g] at cg
  clear g
  go_enter Try.func9, Try.ntmps9
  go_wp2_with fail
  refine (cg _).mono ?_
  rintro e y0 ⟨rfl, hb⟩
  replace h := row_keep hb h
  go_wp2
  go_ret2
  exact ⟨rfl, h, but_below hb⟩
set_option maxHeartbeats 4000000 in
set_option maxRecDepth 10000 in
theorem hadd_full (b : Nat) (s c : Int) (g : gd c = true) (w : World) (h : HR w b s 16) : Calls Try.prog 9 #[.pointer (some ⟨b, 0, none⟩), .int .i64 c] w fun e w' => e = .returned (.tuple #[.bool false, .int .i64 7]) ∧ HR w' b s 16 ∧ But b w w' := by
  have cg := good_any c
  rw [g] at cg
  clear g
  go_enter Try.func9, Try.ntmps9
  go_wp2_with fail
  refine (cg _).mono ?_
  rintro e y0 ⟨rfl, hb⟩
  replace h := row_keep hb h
  have B := but_below (b := b) hb
  clear hb cg
  go_wp2_with fail
  refine (full_yes b s _ h).mono ?_
  rintro e y1 ⟨rfl, hb⟩
  replace h := row_keep hb h
  replace B := but_trans B (but_below (b := b) hb)
  clear hb
  go_wp2
  go_ret2
  exact ⟨rfl, h, B⟩
set_option maxHeartbeats 4000000 in
set_option maxRecDepth 10000 in
theorem hadd_ok (b : Nat) (s n c : Int) (g : gd c = true) (s0 : 0 ≤ s) (s1 : s ≤ 1000000000000) (n0 : 0 ≤ n) (n1 : n ≤ 15) (w : World) (h : HR w b s n) : Calls Try.prog 9 #[.pointer (some ⟨b, 0, none⟩), .int .i64 c] w fun e w' => e = .returned (.tuple #[.bool (decide (n = 15)), .int .i64 0]) ∧ HR w' b (s + c) (n + 1) ∧ But b w w' := by
  have cg := good_any c
  rw [g] at cg
  have gr := gd_range g
  clear g
  have wx : IntKind.i64.wrap (s + c) = s + c := by rw [IntKind.wrap_i64]; omega
  have wn : IntKind.i64.wrap (n + 1) = n + 1 := by rw [IntKind.wrap_i64]; omega
  by_cases c15 : n = 15
  · subst c15
    go_enter Try.func9, Try.ntmps9
    go_wp2_with fail
    refine (cg _).mono ?_
    rintro e y0 ⟨rfl, hb⟩
    replace h := row_keep hb h
    have B := but_below (b := b) hb
    clear hb cg
    go_wp2_with fail
    refine (full_no b s 15 (by decide) _ h).mono ?_
    rintro e y1 ⟨rfl, hb⟩
    replace h := row_keep hb h
    replace B := but_trans B (but_below (b := b) hb)
    clear hb
    have z0 := frozen_of_row y1 b 0 _ _ h
    have z1 := frozen_of_row y1 b 1 _ _ h
    have g0 : y1.cell? ⟨b, 0, none⟩ = some (.int .i64 s) := (cell_of_row _ _ 0 _ _ _ h).trans rfl
    have g1 : y1.cell? ⟨b, 1, none⟩ = some (.int .i64 15) := (cell_of_row _ _ 1 _ _ _ h).trans rfl
    replace h := hr_1 (v := 16) (hr_0 (v := s + c) h)
    replace B := but_trans B (but_trans (but_set (i := 0) (v := .int .i64 (s + c))) (but_set (i := 1) (v := .int .i64 16)))
    go_wp2_with fail
    refine (full_yes b _ _ h).mono ?_
    rintro e y4 ⟨rfl, hb⟩
    replace h := row_keep hb h
    replace B := but_trans B (but_below (b := b) hb)
    clear hb
    go_wp2
    go_ret2
    exact ⟨rfl, h, B⟩
  · rw [decide_eq_false c15]
    go_enter Try.func9, Try.ntmps9
    go_wp2_with fail
    refine (cg _).mono ?_
    rintro e y0 ⟨rfl, hb⟩
    replace h := row_keep hb h
    have B := but_below (b := b) hb
    clear hb cg
    go_wp2_with fail
    refine (full_no b s n (by omega) _ h).mono ?_
    rintro e y1 ⟨rfl, hb⟩
    replace h := row_keep hb h
    replace B := but_trans B (but_below (b := b) hb)
    clear hb
    have z0 := frozen_of_row y1 b 0 _ _ h
    have z1 := frozen_of_row y1 b 1 _ _ h
    have g0 : y1.cell? ⟨b, 0, none⟩ = some (.int .i64 s) := (cell_of_row _ _ 0 _ _ _ h).trans rfl
    have g1 : y1.cell? ⟨b, 1, none⟩ = some (.int .i64 n) := (cell_of_row _ _ 1 _ _ _ h).trans rfl
    replace h := hr_1 (v := n + 1) (hr_0 (v := s + c) h)
    replace B := but_trans B (but_trans (but_set (i := 0) (v := .int .i64 (s + c))) (but_set (i := 1) (v := .int .i64 (n + 1))))
    go_wp2_with fail
    refine (full_no b _ _ (by omega) _ h).mono ?_
    rintro e y4 ⟨rfl, hb⟩
    replace h := row_keep hb h
    replace B := but_trans B (but_below (b := b) hb)
    clear hb
    go_wp2
    go_ret2
    exact ⟨rfl, h, B⟩
end Go.Proofs.Ytfipfhghbihebaa
