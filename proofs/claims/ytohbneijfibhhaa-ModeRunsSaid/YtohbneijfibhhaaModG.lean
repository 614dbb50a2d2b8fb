/- Layer 19: ModeRuns. -/
import Derived.Test.YtohbneijfibhhaaModF
namespace Go.Proofs.Ytohbneijfibhhaa
open Go.RowKit Go.Shelf Go.Joins

theorem cw_set {w : World} {b n g i : Nat} {v : Value} {z : Nat → Int} {co ou : Int} (hb : g ≠ b) (h : CW w b n z co ou) : CW (w.setCell ⟨g, i, none⟩ v) b n z co ou := fun k hk => by
  rw [World.cell?_setCell_far _ _ _ _ (by show g ≠ b; exact hb), World.cell?_setCell_far _ _ _ _ (by show g ≠ b; exact hb)]
  exact h k hk
theorem ref_step {z : Nat → Int} {co ou : Int} {k : Nat} {m1 s1 m2 s2 : Int} (h1 : clk z co ou k = (m1, s1)) (h2 : clk z co ou (k + 1) = (m2, s2)) (hk : k ≤ 300) {w : World} :
    Calls Try.prog 8 #[ckv (m1, s1), .int .i64 (z k), .int .i64 co, .int .i64 ou] w (RetV (ckv (m2, s2)) w) := by
  have e : nxt (m1, s1) (z k) co ou = (m2, s2) := by
    rw [← h1]
    exact h2
  have hs := clk_since z co ou k
  rw [h1] at hs
  have h := ref_clock m1 s1 (z k) co ou (Int.le_trans (by decide) hs.1) (by have := hs.2; simp only at this; omega) w
  rw [e] at h
  exact h

set_option maxHeartbeats 4000000 in
set_option maxRecDepth 10000 in
theorem modeRuns_any (sa : Option Addr) (m c : Nat) (z : Nat → Int) (co ou : Int) (ho : ou ≤ 9223372036854775807) (w : World) (hz : ∀ k, k < m → ∃ gb off, sa = some ⟨gb, off, none⟩ ∧ w.cell? ⟨gb, off + k, none⟩ = some (.int .i64 (z k))) :
    Calls Try.prog 4 #[.slice sa m c, .int .i64 co, .int .i64 ou] w (RetV (.bool true) w) := by
  by_cases hm : 300 < m
  · have hm' : (300 : Int) < (m : Int) := by omega
    clear hz
    go_enter Try.func4, Try.ntmps4
    go_wp2_with fail
    refine (fixed_mod _).mono ?_
    rintro e y0 ⟨rfl, hb⟩
    go_wp2
    go_ret
    exact ⟨rfl, hb⟩
  · have hm' : ¬ (300 : Int) < (m : Int) := by omega
    have HZ := Lib.hid hz
    have cR := run_any sa m c z co ou (by omega) ho w hz
    clear hz
    go_enter Try.func4, Try.ntmps4
    go_wp2_with fail
    refine cR.mono ?_
    rintro e y0 ⟨rfl, hc, E⟩
    have HC := Lib.hid (cw_keep (b_alloc (o := Obj.cells #[.int .i64 0, .int .i64 0] 27) (Below.refl _ _)) hc)
    have HE := Lib.hid (b_alloc (o := Obj.cells #[.int .i64 0, .int .i64 0] 27) E)
    have HK : Hid (KR (y0.alloc (Obj.cells #[.int .i64 0, .int .i64 0] 27)) y0.heap.size 27 0 0) := Lib.hid (heap_alloc_last _ _)
    have hlt : w.heap.size ≤ y0.heap.size := E.size
    have hne : Hid (m = 0 ∨ w.heap.size < y0.heap.size) := Lib.hid (by
      rcases Nat.eq_zero_or_pos m with h | h
      · exact Or.inl h
      · exact Or.inr (World.block_lt_of_cell? y0 _ (hc 0 h).1))
    clear hc cR E
    go_wp2
    go_loopw [27] (fun iv wr => ∃ k : Nat, k ≤ m ∧ iv = .int .i64 k ∧ KR wr y0.heap.size 27 (clk z co ou k).1 (clk z co ou k).2 ∧ CW wr w.heap.size m z co ou ∧ Below w.heap.size w wr) (fun iv _ => m - (intOf iv).toNat)
    case atStart => exact ⟨0, Nat.zero_le _, rfl, HK.out, HC.out, HE.out⟩
    case round =>
      clear HC HE HK
      obtain ⟨k, hk, rfl, hR, hC, E⟩ := hrel
      by_cases d : k < m
      · obtain ⟨gb, off, rfl, g⟩ := HZ.out k d
        have hlb : gb < w.heap.size := World.block_lt_of_cell? w _ g
        replace g := (E.cell (p := ⟨gb, off + k, none⟩) hlb).trans g
        obtain ⟨⟨m1, s1⟩, h1⟩ : ∃ q, clk z co ou k = q := ⟨_, rfl⟩
        obtain ⟨⟨m2, s2⟩, h2⟩ : ∃ q, clk z co ou (k + 1) = q := ⟨_, rfl⟩
        have cO := fun w => ref_step (w := w) h1 h2 (by omega)
        rw [h1] at hR
        have hd := hC k d
        rw [h2] at hd
        have HR := Lib.hid hR
        have HC := Lib.hid hC
        have HE := Lib.hid E
        have HD := Lib.hid hd
        have H2 := Lib.hid h2
        have q0 : (0 : Int) ≤ (k : Int) := by omega
        have q1 : (k : Int) < (m : Int) := by omega
        have ws : IntKind.i64.wrap ((k : Int) + 1) = (k : Int) + 1 := by rw [IntKind.wrap_i64]; omega
        have g0 : wr.cell? ⟨y0.heap.size, 0, none⟩ = some (.int .i64 m1) := (cell_of_row _ _ 0 _ _ _ hR).trans rfl
        have g1 : wr.cell? ⟨y0.heap.size, 1, none⟩ = some (.int .i64 s1) := (cell_of_row _ _ 1 _ _ _ hR).trans rfl
        clear h1 h2 hR hC E hd
        generalize z k = v at *
        go_wp2_with fail
        refine (cO _).mono ?_
        rintro e y1 ⟨rfl, hb⟩
        have R1 : KR y1 y0.heap.size 27 m1 s1 := row_keep hb HR.out
        have h0 : y1.cell? ⟨y0.heap.size, 0, none⟩ = some (.int .i64 m1) := (cell_of_row _ _ 0 _ _ _ R1).trans rfl
        have h1 : y1.cell? ⟨y0.heap.size, 1, none⟩ = some (.int .i64 s1) := (cell_of_row _ _ 1 _ _ _ R1).trans rfl
        have f0 := frozen_of_row y1 y0.heap.size 0 _ _ R1
        have f1 := frozen_of_row y1 y0.heap.size 1 _ _ R1
        have R2 := kr_set (m' := m2) (s' := s2) R1
        have nb : y0.heap.size ≠ w.heap.size := by rcases hne.out with h | h <;> omega
        have C2 := cw_set (i := 1) (v := .int .i64 s2) nb (cw_set (i := 0) (v := .int .i64 m2) nb (cw_keep hb HC.out))
        have E2 := b_set (p := ⟨y0.heap.size, 1, none⟩) (v := .int .i64 s2) (b_set (p := ⟨y0.heap.size, 0, none⟩) (v := .int .i64 m2) (b_trans HE.out hb) hlt) hlt
        replace HR := Lib.hid R2
        replace HC := Lib.hid C2
        replace HE := Lib.hid E2
        clear R1 R2 C2 E2 hb cO g g0 g1
        go_wp2_with fail
        generalize (y1.setCell ⟨y0.heap.size, 0, none⟩ (.int .i64 m2)).setCell ⟨y0.heap.size, 1, none⟩ (.int .i64 s2) = y2 at *
        have hd := HC.out k d
        rw [H2.out] at hd
        obtain ⟨d0, d1⟩ := hd
        have r0 : y2.cell? ⟨y0.heap.size, 0, none⟩ = some (.int .i64 m2) := (cell_of_row _ _ 0 _ _ _ HR.out).trans rfl
        have r1 : y2.cell? ⟨y0.heap.size, 1, none⟩ = some (.int .i64 s2) := (cell_of_row _ _ 1 _ _ _ HR.out).trans rfl
        clear h0 h1 f0 f1 HD
        go_quiet (fail)
        have hb : Below y2.heap.size y2 (y2.drewN nq) := ⟨rfl, rfl, rfl, Nat.le_refl _, fun _ _ => rfl⟩
        have R3 := row_keep hb HR.out
        have C3 := cw_keep hb HC.out
        have E3 := b_trans HE.out hb
        rw [show m2 = (clk z co ou (k + 1)).1 by rw [H2.out], show s2 = (clk z co ou (k + 1)).2 by rw [H2.out]] at R3
        replace HR := Lib.hid R3
        replace HC := Lib.hid C3
        replace HE := Lib.hid E3
        clear R3 C3 E3 hb d0 d1 r0 r1
        generalize y2.drewN nq = y3 at *
        go_wp2
        go_roundw
        case rel => exact ⟨k + 1, d, rfl, HR.out, HC.out, HE.out⟩
        case measure => simp [intOf]; omega
      · obtain rfl : k = m := by omega
        have hlk : ¬ (k : Int) < k := by omega
        clear hR hC HZ hne
        go_wp2_with fail
        refine (fixed_mod _).mono ?_
        rintro e y2 ⟨rfl, hb⟩
        replace E := b_trans E hb
        go_wp2
        go_ret
        exact ⟨rfl, E⟩
end Go.Proofs.Ytohbneijfibhhaa
