/- Layer 18: GroundPlays. -/
import Derived.Test.YthnaeoagooahbaaDoorGroF
import Derived.Test.YthnaeoagooahbaaDoorGroG
import Derived.Test.YthnaeoagooahbaaDoorInts
namespace Go.Proofs.YthnaeoagooahbaaDoor
open Go.RowKit Go.Shelf Go.Joins

theorem but4 {w : World} {b : Nat} {m n r c : Int} : But b w ((((w.setCell ⟨b, 0, none⟩ (.int .i64 m)).setCell ⟨b, 1, none⟩ (.int .i64 n)).setCell ⟨b, 2, none⟩ (.int .i64 r)).setCell ⟨b, 3, none⟩ (.int .i64 c)) :=
  but_trans but_set (but_trans but_set (but_trans but_set but_set))
theorem qg_set {w : World} {b : Nat} {m n r c m' n' r' c' : Int} (H : QG w b m n r c) : QG ((((w.setCell ⟨b, 0, none⟩ (.int .i64 m')).setCell ⟨b, 1, none⟩ (.int .i64 n')).setCell ⟨b, 2, none⟩ (.int .i64 r')).setCell ⟨b, 3, none⟩ (.int .i64 c')) b m' n' r' c' := by
  have h0 : QG (w.setCell ⟨b, 0, none⟩ (.int .i64 m')) b m' n r c := (heap_setCell_same w b 0 _ _ _ H).trans rfl
  have h1 : QG ((w.setCell ⟨b, 0, none⟩ (.int .i64 m')).setCell ⟨b, 1, none⟩ (.int .i64 n')) b m' n' r c := (heap_setCell_same _ b 1 _ _ _ h0).trans rfl
  have h2 : QG (((w.setCell ⟨b, 0, none⟩ (.int .i64 m')).setCell ⟨b, 1, none⟩ (.int .i64 n')).setCell ⟨b, 2, none⟩ (.int .i64 r')) b m' n' r' c := (heap_setCell_same _ b 2 _ _ _ h1).trans rfl
  exact (heap_setCell_same _ b 3 _ _ _ h2).trans rfl
set_option maxHeartbeats 8000000 in
set_option maxRecDepth 10000 in
theorem groundPlays_any (x y z : Int) (x1 : x ≤ 9223372036854775807) (zz : Nat → Int) (sa : Option Addr) (len cap : Nat) (w : World) (hc : IS w 0 sa len zz) (hT : TB w) : Calls Tryd.prog 3 #[.agg #[.int .i64 x, .int .i64 y, .int .i64 z], .slice sa len cap] w (RetV (.bool true) w) := by
  have m2 := bd_range x1
  have cn := newground_any x y z
  have cr := rnew_any x y z
  generalize bd x = m at *
  by_cases hl : len ≤ 60
  · have h2 : ¬ (60 : Int) < (len : Int) := by omega
    have HC := Lib.hid hc
    have E := b_alloc (o := (Obj.cells #[.int .i64 x, .int .i64 y, .int .i64 z] 22)) (Below.refl w.heap.size w)
    have P := heap_alloc_last w (Obj.cells #[.int .i64 x, .int .i64 y, .int .i64 z] 22)
    have hw := tb_lt hT
    replace hT := tb_keep E hT
    have HP := Lib.hid (And.intro P (And.intro E hT))
    clear P E hT hc
    go_enter Tryd.func3, Tryd.ntmps3
    go_wp2_with (with_reducible refine stop_at (some 19) rfl ?_)
    obtain ⟨P, E, hT⟩ := HP.out
    clear HP
    generalize w.alloc (Obj.cells #[.int .i64 x, .int .i64 y, .int .i64 z] 22) = y9 at *
    have E9 := E
    have t0 : y9.cell? ⟨w.heap.size, 0, none⟩ = some (Value.int .i64 x) := (cell_of_row _ _ 0 _ _ _ P).trans rfl
    have t1 : y9.cell? ⟨w.heap.size, 1, none⟩ = some (Value.int .i64 y) := (cell_of_row _ _ 1 _ _ _ P).trans rfl
    have t2 : y9.cell? ⟨w.heap.size, 2, none⟩ = some (Value.int .i64 z) := (cell_of_row _ _ 2 _ _ _ P).trans rfl
    clear P
    refine unstop ?_
    go_wp2
    refine region_each [23, 24, 25, 26, 27, 28, 29, 30, 31, 32, 33, 34, 35, 36, 6] (fun i_ X_ U_ => match i_ with | 0 => X_ = .pointer (some ⟨w.heap.size, 0, none⟩) | 1 => X_ = .int .i64 x | 2 => X_ = .pointer (some ⟨w.heap.size, 1, none⟩) | 3 => X_ = .int .i64 y | 4 => X_ = .pointer (some ⟨w.heap.size, 2, none⟩) | 5 => X_ = .int .i64 z | 6 => ∃ g, X_ = .pointer (some ⟨g, 0, none⟩) ∧ y9.heap.size ≤ g ∧ GR U_ g 0 m y z | 7 => X_ = .pointer (some ⟨w.heap.size, 0, none⟩) | 8 => X_ = .int .i64 x | 9 => X_ = .pointer (some ⟨w.heap.size, 1, none⟩) | 10 => X_ = .int .i64 y | 11 => X_ = .pointer (some ⟨w.heap.size, 2, none⟩) | 12 => X_ = .int .i64 z | 13 => X_ = gvd m y z 0 | 14 => ∃ g, X_ = .pointer (some ⟨g, 0, none⟩) ∧ y9.heap.size ≤ g ∧ QG U_ g 0 0 0 0 ∧ True | _ => True) (fun i_ => i_ == 14) (by kernel_rfl) (by kernel_rfl) (by kernel_rfl) (by kernel_rfl) (by kernel_rfl) ?_ ?_ ?_ ?_
    · refine swp (upS (upS (upS (upS (upS (upS (upS (upS (upS (upS (upS (upS (upS (upS (upS up0 ?_) ?_) ?_) ?_) ?_) ?_) ?_) ?_) ?_) ?_) ?_) ?_) ?_) ?_) ?_)
      · exact fun _ _ _ h _ => h
      · exact fun _ _ _ h _ => h
      · exact fun _ _ _ h _ => h
      · exact fun _ _ _ h _ => h
      · exact fun _ _ _ h _ => h
      · exact fun _ _ _ h _ => h
      · intro x w w' h hb; obtain ⟨g, e, hg, hc⟩ := h; exact ⟨g, e, hg, row_keep hb hc⟩
      · exact fun _ _ _ h _ => h
      · exact fun _ _ _ h _ => h
      · exact fun _ _ _ h _ => h
      · exact fun _ _ _ h _ => h
      · exact fun _ _ _ h _ => h
      · exact fun _ _ _ h _ => h
      · exact fun _ _ _ h _ => h
      · intro x w w' h hb; obtain ⟨g, e, hg, hc, _⟩ := h; exact ⟨g, e, hg, row_keep hb hc, trivial⟩
    · refine swa (upS (upS (upS (upS (upS (upS (upS (upS (upS (upS (upS (upS (upS (upS (upS up0 ?_) ?_) ?_) ?_) ?_) ?_) ?_) ?_) ?_) ?_) ?_) ?_) ?_) ?_) ?_)
      · exact fun _ _ ha => absurd ha (by decide)
      · exact fun _ _ ha => absurd ha (by decide)
      · exact fun _ _ ha => absurd ha (by decide)
      · exact fun _ _ ha => absurd ha (by decide)
      · exact fun _ _ ha => absurd ha (by decide)
      · exact fun _ _ ha => absurd ha (by decide)
      · exact fun _ _ ha => absurd ha (by decide)
      · exact fun _ _ ha => absurd ha (by decide)
      · exact fun _ _ ha => absurd ha (by decide)
      · exact fun _ _ ha => absurd ha (by decide)
      · exact fun _ _ ha => absurd ha (by decide)
      · exact fun _ _ ha => absurd ha (by decide)
      · exact fun _ _ ha => absurd ha (by decide)
      · exact fun _ _ ha => absurd ha (by decide)
      · intro x w _ h; obtain ⟨g, rfl, _, hg, _⟩ := h; exact (Array.getElem?_eq_some_iff.1 hg).1
    · refine upS (upS (upS (upS (upS (upS (upS (upS (upS (upS (upS (upS (upS (upS (upS up0 ?_) ?_) ?_) ?_) ?_) ?_) ?_) ?_) ?_) ?_) ?_) ?_) ?_) ?_) ?_
      all_goals intro v f w' hb hv hB hd
      · have b2 : f.tmps[2]? = some (.pointer (some ⟨w.heap.size, 0, none⟩)) := (hb 2 (by decide)).trans rfl
        clear hb hv hd
        refine wpOp_step rfl fun K hK => ?_
        go_simp
        exact hK _ _ ⟨_, rfl, Below.refl _ _, rfl, fun h => absurd h (by decide)⟩
      · have d0 := got (hv 0 23 rfl) (hd 0 (by kernel_rfl))
        clear hb hv hd
        have c_ := cell_keep hB t0
        refine wpOp_step rfl fun K hK => ?_
        go_simp
        exact hK _ _ ⟨_, rfl, Below.refl _ _, rfl, fun h => absurd h (by decide)⟩
      · have b2 : f.tmps[2]? = some (.pointer (some ⟨w.heap.size, 0, none⟩)) := (hb 2 (by decide)).trans rfl
        clear hb hv hd
        refine wpOp_step rfl fun K hK => ?_
        go_simp
        exact hK _ _ ⟨_, rfl, Below.refl _ _, rfl, fun h => absurd h (by decide)⟩
      · have d2 := got (hv 2 25 rfl) (hd 2 (by kernel_rfl))
        clear hb hv hd
        have c_ := cell_keep hB t1
        refine wpOp_step rfl fun K hK => ?_
        go_simp
        exact hK _ _ ⟨_, rfl, Below.refl _ _, rfl, fun h => absurd h (by decide)⟩
      · have b2 : f.tmps[2]? = some (.pointer (some ⟨w.heap.size, 0, none⟩)) := (hb 2 (by decide)).trans rfl
        clear hb hv hd
        refine wpOp_step rfl fun K hK => ?_
        go_simp
        exact hK _ _ ⟨_, rfl, Below.refl _ _, rfl, fun h => absurd h (by decide)⟩
      · have d4 := got (hv 4 27 rfl) (hd 4 (by kernel_rfl))
        clear hb hv hd
        have c_ := cell_keep hB t2
        refine wpOp_step rfl fun K hK => ?_
        go_simp
        exact hK _ _ ⟨_, rfl, Below.refl _ _, rfl, fun h => absurd h (by decide)⟩
      · have d1 := got (hv 1 24 rfl) (hd 1 (by kernel_rfl))
        have d3 := got (hv 3 26 rfl) (hd 3 (by kernel_rfl))
        have d5 := got (hv 5 28 rfl) (hd 5 (by kernel_rfl))
        clear hb hv hd
        refine wpOp_call rfl Tryd.call6 (args3 (eval_tmp d1) (eval_tmp d3) (eval_tmp d5)) (cn _) ?_
        rintro e5 w5 ⟨g5, rfl, hg5, h5, hb5⟩
        exact ⟨_, rfl, _, rfl, hb5, ⟨g5, rfl, Nat.le_trans hB.size hg5, h5⟩, fun h => absurd h (by decide)⟩
      · have b2 : f.tmps[2]? = some (.pointer (some ⟨w.heap.size, 0, none⟩)) := (hb 2 (by decide)).trans rfl
        clear hb hv hd
        refine wpOp_step rfl fun K hK => ?_
        go_simp
        exact hK _ _ ⟨_, rfl, Below.refl _ _, rfl, fun h => absurd h (by decide)⟩
      · have d7 := got (hv 7 30 rfl) (hd 7 (by kernel_rfl))
        clear hb hv hd
        have c_ := cell_keep hB t0
        refine wpOp_step rfl fun K hK => ?_
        go_simp
        exact hK _ _ ⟨_, rfl, Below.refl _ _, rfl, fun h => absurd h (by decide)⟩
      · have b2 : f.tmps[2]? = some (.pointer (some ⟨w.heap.size, 0, none⟩)) := (hb 2 (by decide)).trans rfl
        clear hb hv hd
        refine wpOp_step rfl fun K hK => ?_
        go_simp
        exact hK _ _ ⟨_, rfl, Below.refl _ _, rfl, fun h => absurd h (by decide)⟩
      · have d9 := got (hv 9 32 rfl) (hd 9 (by kernel_rfl))
        clear hb hv hd
        have c_ := cell_keep hB t1
        refine wpOp_step rfl fun K hK => ?_
        go_simp
        exact hK _ _ ⟨_, rfl, Below.refl _ _, rfl, fun h => absurd h (by decide)⟩
      · have b2 : f.tmps[2]? = some (.pointer (some ⟨w.heap.size, 0, none⟩)) := (hb 2 (by decide)).trans rfl
        clear hb hv hd
        refine wpOp_step rfl fun K hK => ?_
        go_simp
        exact hK _ _ ⟨_, rfl, Below.refl _ _, rfl, fun h => absurd h (by decide)⟩
      · have d11 := got (hv 11 34 rfl) (hd 11 (by kernel_rfl))
        clear hb hv hd
        have c_ := cell_keep hB t2
        refine wpOp_step rfl fun K hK => ?_
        go_simp
        exact hK _ _ ⟨_, rfl, Below.refl _ _, rfl, fun h => absurd h (by decide)⟩
      · have d8 := got (hv 8 31 rfl) (hd 8 (by kernel_rfl))
        have d10 := got (hv 10 33 rfl) (hd 10 (by kernel_rfl))
        have d12 := got (hv 12 35 rfl) (hd 12 (by kernel_rfl))
        clear hb hv hd
        refine wpOp_call rfl Tryd.call7 (args3 (eval_tmp d8) (eval_tmp d10) (eval_tmp d12)) (cr _) ?_
        rintro e5 w5 ⟨rfl, hb5⟩
        exact ⟨_, rfl, _, rfl, hb5, rfl, fun h => absurd h (by decide)⟩
      · clear hb hv hd
        refine wpOp_step rfl fun K hK => ?_
        go_simp
        exact hK _ _ ⟨_, rfl, b_alloc (Below.refl _ _), ⟨_, rfl, hB.size, heap_alloc_last _ _, trivial⟩, fun _ => Nat.le_refl _⟩
    · intro v w' hB hF hD
      have F0 : v 0 = _ := hF 0 (by simp)
      have F1 : v 1 = _ := hF 1 (by simp)
      have F2 : v 2 = _ := hF 2 (by simp)
      have F3 : v 3 = _ := hF 3 (by simp)
      have F4 : v 4 = _ := hF 4 (by simp)
      have F5 : v 5 = _ := hF 5 (by simp)
      have F6 : ∃ g, (v 6) = .pointer (some ⟨g, 0, none⟩) ∧ y9.heap.size ≤ g ∧ GR w' g 0 m y z := hF 6 (by simp)
      have F7 : v 7 = _ := hF 7 (by simp)
      have F8 : v 8 = _ := hF 8 (by simp)
      have F9 : v 9 = _ := hF 9 (by simp)
      have F10 : v 10 = _ := hF 10 (by simp)
      have F11 : v 11 = _ := hF 11 (by simp)
      have F12 : v 12 = _ := hF 12 (by simp)
      have F13 : v 13 = _ := hF 13 (by simp)
      have F14 : ∃ g, (v 14) = .pointer (some ⟨g, 0, none⟩) ∧ y9.heap.size ≤ g ∧ QG w' g 0 0 0 0 ∧ True := hF 14 (by simp)
      clear hF
      obtain ⟨b, e6, gb, h⟩ := F6
      obtain ⟨g, e14, gg, hq, _⟩ := F14
      simp only [frOf, frGo, Nat.zero_add, Nat.reduceAdd, F0, F1, F2, F3, F4, F5, e6, F7, F8, F9, F10, F11, F12, F13, e14]
      have ne : b ≠ g := fun e => by subst e; have := h.symm.trans hq; simp at this
      replace hT := tb_keep hB hT
      replace E := b_trans E hB
      replace gb := Nat.le_trans E9.size gb
      replace gg := Nat.le_trans E9.size gg
      clear hB hD e6 e14 t0 t1 t2 cn cr E9 F0 F1 F2 F3 F4 F5 F7 F8 F9 F10 F11 F12 F13
      have q0 : w'.cell? ⟨g, 0, none⟩ = some (Value.int .i64 0) := (cell_of_row _ _ 0 _ _ _ hq).trans rfl
      have f0 := frozen_of_row w' (g) 0 _ _ hq
      have q1 : w'.cell? ⟨g, 1, none⟩ = some (Value.int .i64 0) := (cell_of_row _ _ 1 _ _ _ hq).trans rfl
      have f1 := frozen_of_row w' (g) 1 _ _ hq
      have q2 : w'.cell? ⟨g, 2, none⟩ = some (Value.int .i64 0) := (cell_of_row _ _ 2 _ _ _ hq).trans rfl
      have f2 := frozen_of_row w' (g) 2 _ _ hq
      have q3 : w'.cell? ⟨g, 3, none⟩ = some (Value.int .i64 0) := (cell_of_row _ _ 3 _ _ _ hq).trans rfl
      have f3 := frozen_of_row w' (g) 3 _ _ hq
      have B := but4 (w := w') (b := g) (m := m) (n := y) (r := z) (c := 0)
      replace hq := qg_set (m' := m) (n' := y) (r' := z) (c' := 0) hq
      replace h := but_row B ne h
      replace hT := tb_but B (by omega) hT
      replace E := below_but E gg B
      clear B
      have HP := Lib.hid (And.intro hq (And.intro h (And.intro hT E)))
      clear hq h hT E v
      go_wp2
      clear q0 q1 q2 q3 f0 f1 f2 f3
      obtain ⟨hq, h, hT, E⟩ := HP.out
      clear HP
      generalize (((w'.setCell ⟨g, 0, none⟩ (.int .i64 m)).setCell ⟨g, 1, none⟩ (.int .i64 y)).setCell ⟨g, 2, none⟩ (.int .i64 z)).setCell ⟨g, 3, none⟩ (.int .i64 0) = y0 at *
      go_loopw [41] (fun iv wr => ∃ (k : Nat) (c : Int), k ≤ len ∧ iv = .int .i64 k ∧ GK c ∧ GR wr b c m y z ∧ QG wr g m y z c ∧ TB wr ∧ Below w.heap.size w wr) (fun iv _ => len - (intOf iv).toNat)
      case atStart => exact ⟨0, 0, Nat.zero_le _, rfl, Or.inl rfl, h, hq, hT, E⟩
      case round =>
        clear h hq hT E
        obtain ⟨k, c, hk, rfl, gc, h, hq, hT, E⟩ := hrel
        by_cases hlt : k < len
        · obtain ⟨gs, off, rfl, -, cv⟩ := HC.out k hlt
          replace cv := cell_keep E cv
          have hlk : (k : Int) < len := by omega
          have hk0 : (0 : Int) ≤ k := by omega
          have ws : IntKind.i64.wrap ((k : Int) + 1) = (k : Int) + 1 := by rw [IntKind.wrap_i64]; omega
          generalize zz k = v at *
          have HF := Lib.hid (And.intro h (And.intro hq (And.intro hT E)))
          clear h hq hT E
          by_cases o : k % 2 = 1
          · have o2 : ((k : Int).tmod 2 == 1) = true := by simp [Int.tmod_eq_emod_of_nonneg hk0]; omega
            have cs := fun w h => set_any b c m y z v w h
            have cr := rset_any m y z c v gc
            have gd := gk_set gc v
            generalize sc c v = d at *
            generalize sne c v = ee at *
            clear gc
            have gc := gd
            clear gd
            have cL := fun w hT h => Level_any b d m y z v gc m2.1 m2.2 w hT h
            have cR := rlevel_any m y z d v gc m2.1
            have cN := fun w h => near_any b d m y z v gc m2.1 m2.2 w h
            have cS := rnear_any m y z d v gc m2.1
            have cK := fun w h => Known_any b d m y z w h
            have kk : decide (0 < d) = decide (d ≠ 0) := by have := gk_range gc; by_cases u : d = 0 <;> simp [u] <;> omega
            generalize lz d m v = A at *
            generalize ln d m y z v = NN at *
            generalize nr d m v = K at *
            generalize ae v = AE at *
            generalize decide (d ≠ 0) = KK at *
            have GK := Lib.hid gc
            clear gc
            go_wp2_with fail
            obtain ⟨h, hq, hT, E⟩ := HF.out
            clear HF
            refine (cs _ h).mono ?_
            rintro e y1 ⟨rfl, h, hb⟩
            replace hq := but_row hb (Ne.symm ne) hq
            replace hT := tb_but hb (by omega) hT
            replace E := below_but E gb hb
            clear hb cs
            have q0 : y1.cell? ⟨g, 0, none⟩ = some (Value.int .i64 m) := (cell_of_row _ _ 0 _ _ _ hq).trans rfl
            have q1 : y1.cell? ⟨g, 1, none⟩ = some (Value.int .i64 y) := (cell_of_row _ _ 1 _ _ _ hq).trans rfl
            have q2 : y1.cell? ⟨g, 2, none⟩ = some (Value.int .i64 z) := (cell_of_row _ _ 2 _ _ _ hq).trans rfl
            have q3 : y1.cell? ⟨g, 3, none⟩ = some (Value.int .i64 c) := (cell_of_row _ _ 3 _ _ _ hq).trans rfl
            have HF := Lib.hid (And.intro h (And.intro hq (And.intro hT E)))
            clear h hq hT E
            go_wp2_with fail
            obtain ⟨h, hq, hT, E⟩ := HF.out
            clear HF
            refine (cr _).mono ?_
            rintro e y2 ⟨rfl, hb⟩
            clear q0 q1 q2 q3 cr
            replace h := row_keep hb h
            replace hq := row_keep hb hq
            replace hT := tb_keep hb hT
            replace E := b_trans E hb
            clear hb
            go_wp2_with (with_reducible refine stop_at (some 58) rfl ?_)
            have hn := heap_alloc_last y2 (Obj.cells #[.int .i64 m, .int .i64 y, .int .i64 z, .int .i64 d] 28)
            have hb := b_alloc (o := Obj.cells #[.int .i64 m, .int .i64 y, .int .i64 z, .int .i64 d] 28) (Below.refl y2.heap.size y2)
            replace h := row_keep hb h
            replace hq := row_keep hb hq
            replace hT := tb_keep hb hT
            replace E := b_trans E hb
            clear hb
            generalize y2.alloc (Obj.cells #[.int .i64 m, .int .i64 y, .int .i64 z, .int .i64 d] 28) = y3 at *
            generalize y2.heap.size = g3 at *
            have p0 : y3.cell? ⟨g3, 0, none⟩ = some (Value.int .i64 m) := (cell_of_row _ _ 0 _ _ _ hn).trans rfl
            have p1 : y3.cell? ⟨g3, 1, none⟩ = some (Value.int .i64 y) := (cell_of_row _ _ 1 _ _ _ hn).trans rfl
            have p2 : y3.cell? ⟨g3, 2, none⟩ = some (Value.int .i64 z) := (cell_of_row _ _ 2 _ _ _ hn).trans rfl
            have p3 : y3.cell? ⟨g3, 3, none⟩ = some (Value.int .i64 d) := (cell_of_row _ _ 3 _ _ _ hn).trans rfl
            have q0 : y3.cell? ⟨g, 0, none⟩ = some (Value.int .i64 m) := (cell_of_row _ _ 0 _ _ _ hq).trans rfl
            have f0 := frozen_of_row y3 (g) 0 _ _ hq
            have q1 : y3.cell? ⟨g, 1, none⟩ = some (Value.int .i64 y) := (cell_of_row _ _ 1 _ _ _ hq).trans rfl
            have f1 := frozen_of_row y3 (g) 1 _ _ hq
            have q2 : y3.cell? ⟨g, 2, none⟩ = some (Value.int .i64 z) := (cell_of_row _ _ 2 _ _ _ hq).trans rfl
            have f2 := frozen_of_row y3 (g) 2 _ _ hq
            have q3 : y3.cell? ⟨g, 3, none⟩ = some (Value.int .i64 c) := (cell_of_row _ _ 3 _ _ _ hq).trans rfl
            have f3 := frozen_of_row y3 (g) 3 _ _ hq
            clear hn
            have B := but4 (w := y3) (b := g) (m := m) (n := y) (r := z) (c := d)
            replace hq := qg_set (m' := m) (n' := y) (r' := z) (c' := d) hq
            replace h := but_row B ne h
            replace hT := tb_but B (by omega) hT
            replace E := below_but E gg B
            clear B
            have HF := Lib.hid (And.intro h (And.intro hq (And.intro hT E)))
            clear h hq hT E
            refine unstop ?_
            go_wp2_with fail
            obtain ⟨h, hq, hT, E⟩ := HF.out
            clear HF q0 q1 q2 q3 f0 f1 f2 f3 p0 p1 p2 p3
            generalize (((y3.setCell ⟨g, 0, none⟩ (.int .i64 m)).setCell ⟨g, 1, none⟩ (.int .i64 y)).setCell ⟨g, 2, none⟩ (.int .i64 z)).setCell ⟨g, 3, none⟩ (.int .i64 d) = y4 at *
            refine (cL _ hT h).mono ?_
            rintro e z1 ⟨rfl, hb⟩
            clear cL
            replace h := row_keep hb h
            replace hq := row_keep hb hq
            replace hT := tb_keep hb hT
            replace E := b_trans E hb
            clear hb
            have q0 : z1.cell? ⟨g, 0, none⟩ = some (Value.int .i64 m) := (cell_of_row _ _ 0 _ _ _ hq).trans rfl
            have q1 : z1.cell? ⟨g, 1, none⟩ = some (Value.int .i64 y) := (cell_of_row _ _ 1 _ _ _ hq).trans rfl
            have q2 : z1.cell? ⟨g, 2, none⟩ = some (Value.int .i64 z) := (cell_of_row _ _ 2 _ _ _ hq).trans rfl
            have q3 : z1.cell? ⟨g, 3, none⟩ = some (Value.int .i64 d) := (cell_of_row _ _ 3 _ _ _ hq).trans rfl
            have HF := Lib.hid (And.intro h (And.intro hq (And.intro hT E)))
            clear h hq hT E
            go_wp2_with fail
            obtain ⟨h, hq, hT, E⟩ := HF.out
            clear HF
            refine (cR _).mono ?_
            rintro e z2 ⟨rfl, hb⟩
            clear q0 q1 q2 q3 cR
            replace h := row_keep hb h
            replace hq := row_keep hb hq
            replace hT := tb_keep hb hT
            replace E := b_trans E hb
            clear hb
            have hn := heap_alloc_last z2 (Obj.cells #[.int .i64 A, .int .i64 NN, .bool K, .int .i64 AE] 37)
            have hb := b_alloc (o := (Obj.cells #[.int .i64 A, .int .i64 NN, .bool K, .int .i64 AE] 37)) (Below.refl z2.heap.size z2)
            replace h := row_keep hb h
            replace hq := row_keep hb hq
            replace hT := tb_keep hb hT
            replace E := b_trans E hb
            clear hb
            have HF := Lib.hid (And.intro h (And.intro hq (And.intro hT (And.intro E hn))))
            clear h hq hT E hn
            go_wp2_with fail
            obtain ⟨h, hq, hT, E, hn⟩ := HF.out
            clear HF
            generalize z2.alloc (Obj.cells #[.int .i64 A, .int .i64 NN, .bool K, .int .i64 AE] 37) = z3 at *
            generalize z2.heap.size = gl at *
            refine (cK _ h).mono ?_
            rintro e z4 ⟨rfl, hb⟩
            clear cK
            replace hn := row_keep hb hn
            replace h := row_keep hb h
            replace hq := row_keep hb hq
            replace hT := tb_keep hb hT
            replace E := b_trans E hb
            clear hb
            have r0 := cell_regrown (show z4.cell? ⟨gl, 0, none⟩ = some (Value.int .i64 A) from (cell_of_row _ _ 0 _ _ _ hn).trans rfl)
            have r1 := cell_regrown (show z4.cell? ⟨gl, 1, none⟩ = some (Value.int .i64 NN) from (cell_of_row _ _ 1 _ _ _ hn).trans rfl)
            have r2 := cell_regrown (show z4.cell? ⟨gl, 2, none⟩ = some (Value.bool K) from (cell_of_row _ _ 2 _ _ _ hn).trans rfl)
            have r3 := cell_regrown (show z4.cell? ⟨gl, 3, none⟩ = some (Value.int .i64 AE) from (cell_of_row _ _ 3 _ _ _ hn).trans rfl)
            have q0 := cell_regrown (show z4.cell? ⟨g, 0, none⟩ = some (Value.int .i64 m) from (cell_of_row _ _ 0 _ _ _ hq).trans rfl)
            have q1 := cell_regrown (show z4.cell? ⟨g, 1, none⟩ = some (Value.int .i64 y) from (cell_of_row _ _ 1 _ _ _ hq).trans rfl)
            have q2 := cell_regrown (show z4.cell? ⟨g, 2, none⟩ = some (Value.int .i64 z) from (cell_of_row _ _ 2 _ _ _ hq).trans rfl)
            have q3 := cell_regrown (show z4.cell? ⟨g, 3, none⟩ = some (Value.int .i64 d) from (cell_of_row _ _ 3 _ _ _ hq).trans rfl)
            have c0 := fun d os => Calls.regrown_of (cN _ (row_keep (below_regrown z4 d os) h))
            have c1 := retV_regrown (w := z4) cS
            clear hn cN cS
            have HF := Lib.hid (And.intro h (And.intro hq (And.intro hT E)))
            clear h hq hT E
            try go_wp2
            refine wp_region_quiet_below (by kernel_rfl) (by kernel_rfl) ?_
            repeat (with_reducible refine wpQuiet_step (fun KQ hKQ => ?_); go_simp; first | (with_reducible refine hKQ _ ?_; clear hKQ KQ) | (apply Exists.intro; with_reducible refine ⟨fun _ => ?_, hKQ _ ?_⟩; (first | (with_reducible exact c0 _ _) | (with_reducible exact c1 _ _)); clear hKQ KQ))
            refine wpQuiet_nil ?_
            intro _ hw'
            obtain ⟨⟨dq, osq⟩, hw''⟩ := hw'
            subst hw''
            obtain ⟨h, hq, hT, E⟩ := HF.out
            clear HF
            have hb := below_regrown z4 dq osq
            clear r0 r1 r2 r3 q0 q1 q2 q3 c0 c1
            replace h := row_keep hb h
            replace hq := row_keep hb hq
            replace hT := tb_keep hb hT
            replace E := b_trans E hb
            clear hb
            generalize Sort.grow (redrawn z4 dq) osq = z5 at *
            have HF := Lib.hid (And.intro h (And.intro hq (And.intro hT E)))
            clear h hq hT E
            go_wp2
            obtain ⟨h, hq, hT, E⟩ := HF.out
            clear HF
            refine ⟨⟨k + 1, d, by omega, rfl, GK.out, h, hq, hT, E⟩, ?_⟩
            simp only [intOf]
            omega
          · have o2 : ((k : Int).tmod 2 == 1) = false := by simp [Int.tmod_eq_emod_of_nonneg hk0]; omega
            have cL := fun w hT h => Level_any b c m y z v gc m2.1 m2.2 w hT h
            have cR := rlevel_any m y z c v gc m2.1
            have cN := fun w h => near_any b c m y z v gc m2.1 m2.2 w h
            have cS := rnear_any m y z c v gc m2.1
            have cK := fun w h => Known_any b c m y z w h
            have kk : decide (0 < c) = decide (c ≠ 0) := by have := gk_range gc; by_cases u : c = 0 <;> simp [u] <;> omega
            generalize lz c m v = A at *
            generalize ln c m y z v = NN at *
            generalize nr c m v = K at *
            generalize ae v = AE at *
            generalize decide (c ≠ 0) = KK at *
            have GK := Lib.hid gc
            clear gc
            go_wp2_with fail
            obtain ⟨h, hq, hT, E⟩ := HF.out
            clear HF
            refine (cL _ hT h).mono ?_
            rintro e z1 ⟨rfl, hb⟩
            clear cL
            replace h := row_keep hb h
            replace hq := row_keep hb hq
            replace hT := tb_keep hb hT
            replace E := b_trans E hb
            clear hb
            have q0 : z1.cell? ⟨g, 0, none⟩ = some (Value.int .i64 m) := (cell_of_row _ _ 0 _ _ _ hq).trans rfl
            have q1 : z1.cell? ⟨g, 1, none⟩ = some (Value.int .i64 y) := (cell_of_row _ _ 1 _ _ _ hq).trans rfl
            have q2 : z1.cell? ⟨g, 2, none⟩ = some (Value.int .i64 z) := (cell_of_row _ _ 2 _ _ _ hq).trans rfl
            have q3 : z1.cell? ⟨g, 3, none⟩ = some (Value.int .i64 c) := (cell_of_row _ _ 3 _ _ _ hq).trans rfl
            have HF := Lib.hid (And.intro h (And.intro hq (And.intro hT E)))
            clear h hq hT E
            go_wp2_with fail
            obtain ⟨h, hq, hT, E⟩ := HF.out
            clear HF
            refine (cR _).mono ?_
            rintro e z2 ⟨rfl, hb⟩
            clear q0 q1 q2 q3 cR
            replace h := row_keep hb h
            replace hq := row_keep hb hq
            replace hT := tb_keep hb hT
            replace E := b_trans E hb
            clear hb
            have hn := heap_alloc_last z2 (Obj.cells #[.int .i64 A, .int .i64 NN, .bool K, .int .i64 AE] 37)
            have hb := b_alloc (o := (Obj.cells #[.int .i64 A, .int .i64 NN, .bool K, .int .i64 AE] 37)) (Below.refl z2.heap.size z2)
            replace h := row_keep hb h
            replace hq := row_keep hb hq
            replace hT := tb_keep hb hT
            replace E := b_trans E hb
            clear hb
            have HF := Lib.hid (And.intro h (And.intro hq (And.intro hT (And.intro E hn))))
            clear h hq hT E hn
            go_wp2_with fail
            obtain ⟨h, hq, hT, E, hn⟩ := HF.out
            clear HF
            generalize z2.alloc (Obj.cells #[.int .i64 A, .int .i64 NN, .bool K, .int .i64 AE] 37) = z3 at *
            generalize z2.heap.size = gl at *
            refine (cK _ h).mono ?_
            rintro e z4 ⟨rfl, hb⟩
            clear cK
            replace hn := row_keep hb hn
            replace h := row_keep hb h
            replace hq := row_keep hb hq
            replace hT := tb_keep hb hT
            replace E := b_trans E hb
            clear hb
            have r0 := cell_regrown (show z4.cell? ⟨gl, 0, none⟩ = some (Value.int .i64 A) from (cell_of_row _ _ 0 _ _ _ hn).trans rfl)
            have r1 := cell_regrown (show z4.cell? ⟨gl, 1, none⟩ = some (Value.int .i64 NN) from (cell_of_row _ _ 1 _ _ _ hn).trans rfl)
            have r2 := cell_regrown (show z4.cell? ⟨gl, 2, none⟩ = some (Value.bool K) from (cell_of_row _ _ 2 _ _ _ hn).trans rfl)
            have r3 := cell_regrown (show z4.cell? ⟨gl, 3, none⟩ = some (Value.int .i64 AE) from (cell_of_row _ _ 3 _ _ _ hn).trans rfl)
            have q0 := cell_regrown (show z4.cell? ⟨g, 0, none⟩ = some (Value.int .i64 m) from (cell_of_row _ _ 0 _ _ _ hq).trans rfl)
            have q1 := cell_regrown (show z4.cell? ⟨g, 1, none⟩ = some (Value.int .i64 y) from (cell_of_row _ _ 1 _ _ _ hq).trans rfl)
            have q2 := cell_regrown (show z4.cell? ⟨g, 2, none⟩ = some (Value.int .i64 z) from (cell_of_row _ _ 2 _ _ _ hq).trans rfl)
            have q3 := cell_regrown (show z4.cell? ⟨g, 3, none⟩ = some (Value.int .i64 c) from (cell_of_row _ _ 3 _ _ _ hq).trans rfl)
            have c0 := fun d os => Calls.regrown_of (cN _ (row_keep (below_regrown z4 d os) h))
            have c1 := retV_regrown (w := z4) cS
            clear hn cN cS
            have HF := Lib.hid (And.intro h (And.intro hq (And.intro hT E)))
            clear h hq hT E
            try go_wp2
            refine wp_region_quiet_below (by kernel_rfl) (by kernel_rfl) ?_
            repeat (with_reducible refine wpQuiet_step (fun KQ hKQ => ?_); go_simp; first | (with_reducible refine hKQ _ ?_; clear hKQ KQ) | (apply Exists.intro; with_reducible refine ⟨fun _ => ?_, hKQ _ ?_⟩; (first | (with_reducible exact c0 _ _) | (with_reducible exact c1 _ _)); clear hKQ KQ))
            refine wpQuiet_nil ?_
            intro _ hw'
            obtain ⟨⟨dq, osq⟩, hw''⟩ := hw'
            subst hw''
            obtain ⟨h, hq, hT, E⟩ := HF.out
            clear HF
            have hb := below_regrown z4 dq osq
            clear r0 r1 r2 r3 q0 q1 q2 q3 c0 c1
            replace h := row_keep hb h
            replace hq := row_keep hb hq
            replace hT := tb_keep hb hT
            replace E := b_trans E hb
            clear hb
            generalize Sort.grow (redrawn z4 dq) osq = z5 at *
            have HF := Lib.hid (And.intro h (And.intro hq (And.intro hT E)))
            clear h hq hT E
            go_wp2
            obtain ⟨h, hq, hT, E⟩ := HF.out
            clear HF
            refine ⟨⟨k + 1, c, by omega, rfl, GK.out, h, hq, hT, E⟩, ?_⟩
            simp only [intOf]
            omega
        · have hlk : ¬ (k : Int) < len := by omega
          clear h hq hT
          go_wp2_with fail
          refine (fixed_gro _).mono ?_
          rintro e z9 ⟨rfl, hb⟩
          replace E := b_trans E hb
          clear hb
          go_wp2
          exact bodyPost_ret (v := .bool true) (by simp [results, Tryd.results3, go_sem]) rfl ⟨rfl, E⟩
  · have h2 : (60 : Int) < (len : Int) := by omega
    have E := b_alloc (o := (Obj.cells #[.int .i64 x, .int .i64 y, .int .i64 z] 22)) (Below.refl w.heap.size w)
    go_enter Tryd.func3, Tryd.ntmps3
    go_wp2_with fail
    refine (fixed_gro _).mono ?_
    rintro e y1 ⟨rfl, hb⟩
    replace E := b_trans E hb
    clear hb
    go_wp2
    go_ret
    exact ⟨rfl, E⟩
end Go.Proofs.YthnaeoagooahbaaDoor
