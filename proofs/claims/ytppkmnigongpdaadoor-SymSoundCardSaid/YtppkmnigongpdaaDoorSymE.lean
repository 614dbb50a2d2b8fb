/- Whether a matrix is sound over a floor: the document's Sound, for every matrix and floor. -/
import Derived.Test.YtppkmnigongpdaaDoorSymD
import Derived.Test.YtppkmnigongpdaaDoorBigM
namespace Go.Proofs.YtppkmnigongpdaaDoor
open Go.RowKit Go.Shelf Go.Joins

theorem Tryd.infoB : (Tryd.prog.info? 63).map (fun i => (i.zero, i.size, i.bytes)) = some (some (.agg #[.bool false, .slice none 0 0]), 2, 32) := by kernel_rfl

/-- The cells of whole numbers, one behind the other. -/
def flat (bs : List (Value × Int)) : List Value := bs.flatMap fun p => p.1.cells.toList
abbrev RB (w : World) (base : Nat) (v : Value) (bs : List (Value × Int)) : Prop := w.ownsRow base 63 2 v bs.length (flat bs)
theorem rb_keep {w w' : World} {base n : Nat} {v : Value} {xs : List Value} (h : w.ownsRow base 63 2 v n xs) (hb : Below w.heap.size w w') : w'.ownsRow base 63 2 v n xs := by
  refine ⟨h.1, ?_⟩
  rcases h.2 with h1 | ⟨g, cap, cur, h1, h2, h3, h4⟩
  · exact Or.inl h1
  · exact Or.inr ⟨g, cap, cur, h1, h2, by rw [hb.block g (Array.getElem?_eq_some_iff.1 h3).1]; exact h3, h4⟩
theorem rb_block {w : World} {base n : Nat} {v : Value} {xs : List Value} (h : w.ownsRow base 63 2 v n xs) : ∀ k, v.ownBlock = some k → base ≤ k := fun k hk => (h.lt k hk).1
theorem bg_grown {w w' : World} {base n : Nat} {v : Value} {xs : List Value} {u : Value} {z : Int} (h : BG w u z) (ho : w.ownsRow base 63 2 v n xs) (hg : w.grownBy w' v.ownBlock) : BG w' u z := by
  obtain ⟨nb, dv, l, h1, h2, h3⟩ := h
  refine ⟨nb, dv, l, h1, ?_, h3⟩
  rcases h2 with h2 | ⟨g, cap, cur, fr, k1, k2, k3⟩
  · exact Or.inl h2
  · refine Or.inr ⟨g, cap, cur, fr, k1, ?_, k3⟩
    rw [hg.block g (Array.getElem?_eq_some_iff.1 k2).1 ?_]
    · exact k2
    · intro e
      rcases ho.2 with ⟨rfl, _⟩ | ⟨g2, cap2, cur2, rfl, _, k4, _⟩
      · simp [Value.ownBlock] at e
      · simp [Value.ownBlock] at e
        subst e
        rw [k4] at k2
        simp at k2

/-- What the first loop of Sound keeps. -/
def VJ (W : World) (A B base : Nat) (m : Nat → Int) (f0 f1 f2 : Int) (v : Value) (bs : List (Value × Int)) (w : World) : Prop :=
  Below W.heap.size W w ∧ SC w A m ∧ TC w B f0 f1 f2 ∧ RB w base v bs ∧ (∀ p, p ∈ bs → BG w p.1 p.2) ∧ A < base ∧ B < base ∧ W.heap.size ≤ base ∧ base ≤ w.heap.size
theorem vj_keep {W : World} {A B base : Nat} {m : Nat → Int} {f0 f1 f2 : Int} {v : Value} {bs : List (Value × Int)} {w w' : World} (h : VJ W A B base m f0 f1 f2 v bs w) (hb : Below w.heap.size w w') : VJ W A B base m f0 f1 f2 v bs w' := by
  obtain ⟨h0, h1, h2, h3, h4, h5, h6, h7, h8⟩ := h
  exact ⟨b_trans h0 hb, sc_keep hb h1, tc_keep hb h2, rb_keep h3 hb, fun p hp => bg_keep (h4 p hp) hb, h5, h6, h7, Nat.le_trans h8 hb.size⟩
theorem vj_sc {W : World} {A B base : Nat} {m : Nat → Int} {f0 f1 f2 : Int} {v : Value} {bs : List (Value × Int)} {w : World} (h : VJ W A B base m f0 f1 f2 v bs w) : SC w A m := h.2.1
theorem vj_tc {W : World} {A B base : Nat} {m : Nat → Int} {f0 f1 f2 : Int} {v : Value} {bs : List (Value × Int)} {w : World} (h : VJ W A B base m f0 f1 f2 v bs w) : TC w B f0 f1 f2 := h.2.2.1
theorem vj_start {W w : World} {A B n : Nat} {m : Nat → Int} {f0 f1 f2 : Int} (hn : n = w.heap.size) (h0 : Below W.heap.size W w) (h1 : SC w A m) (h2 : TC w B f0 f1 f2) (q : W.heap.size ≤ w.heap.size) : VJ W A B w.heap.size m f0 f1 f2 (.slice (some ⟨n, 0, none⟩) 0 0) [] (w.alloc (Obj.cells #[] 63)) := by
  subst hn
  refine ⟨b_alloc h0, sc_alloc h1, tc_alloc h2, ⟨rfl, Or.inr ⟨w.heap.size, 0, #[], rfl, Nat.le_refl _, (MapKept.heap_alloc w _).1, Nat.le_refl _, by decide, rfl, rfl⟩⟩, (fun p hp => absurd hp (by simp)), sc_lt h1, tc_lt h2, q, ?_⟩
  rw [World.size_alloc]; omega
theorem vj_grow {W : World} {A B base : Nat} {m : Nat → Int} {f0 f1 f2 : Int} {v v' : Value} {bs : List (Value × Int)} {w w' : World} {n : Bool} {d : Value} {z : Int} (h : VJ W A B base m f0 f1 f2 v bs w)
    (ho : w'.ownsRow base 63 2 v' (bs.length + 1) (flat bs ++ [.bool n, d])) (hg : w.grownBy w' v.ownBlock) (hz : BG w (.agg #[.bool n, d]) z) : VJ W A B base m f0 f1 f2 v' (bs ++ [(.agg #[.bool n, d], z)]) w' := by
  obtain ⟨h0, h1, h2, h3, h4, h5, h6, h7, h8⟩ := h
  have far : ∀ b, b < base → some b ≠ v.ownBlock := fun b hb e => by have := (h3.lt b e.symm).1; omega
  refine ⟨h0.grown hg (Nat.le_trans h7 h8) (fun k hk => Nat.le_trans h7 (rb_block h3 k hk)), fun i hi => hg.cell (h1 i hi) (far A h5), ⟨hg.cell h2.1 (far B h6), hg.cell h2.2.1 (far B h6), hg.cell h2.2.2 (far B h6)⟩, ?_, ?_, h5, h6, h7, Nat.le_trans h8 hg.size⟩
  · unfold RB flat
    rw [List.length_append, List.flatMap_append]
    exact ho
  · intro p hp
    rcases List.mem_append.1 hp with hp | hp
    · exact bg_grown (h4 p hp) h3 hg
    · simp at hp; subst hp; exact bg_grown hz h3 hg
/-- Three whole numbers lie in block g, one behind the other. -/
abbrev G6 (w : World) (g : Nat) (n0 n1 n2 : Bool) (d0 d1 d2 : Value) : Prop := w.cell? ⟨g, 0, none⟩ = some (.bool n0) ∧ w.cell? ⟨g, 1, none⟩ = some d0 ∧ w.cell? ⟨g, 2, none⟩ = some (.bool n1) ∧ w.cell? ⟨g, 3, none⟩ = some d1 ∧ w.cell? ⟨g, 4, none⟩ = some (.bool n2) ∧ w.cell? ⟨g, 5, none⟩ = some d2
theorem g6_keep {w w' : World} (hb : Below w.heap.size w w') {g : Nat} {n0 n1 n2 : Bool} {d0 d1 d2 : Value} (h : G6 w g n0 n1 n2 d0 d1 d2) : G6 w' g n0 n1 n2 d0 d1 d2 :=
  ⟨cell_keep hb h.1, cell_keep hb h.2.1, cell_keep hb h.2.2.1, cell_keep hb h.2.2.2.1, cell_keep hb h.2.2.2.2.1, cell_keep hb h.2.2.2.2.2⟩
theorem rb_three {w : World} {base : Nat} {v : Value} {n0 n1 n2 : Bool} {d0 d1 d2 : Value} {z0 z1 z2 : Int} (h : RB w base v [(.agg #[.bool n0, d0], z0), (.agg #[.bool n1, d1], z1), (.agg #[.bool n2, d2], z2)]) : ∃ g cap, v = .slice (some ⟨g, 0, none⟩) 3 cap ∧ G6 w g n0 n1 n2 d0 d1 d2 := by
  rcases h.2 with ⟨_, h1⟩ | ⟨g, cap, cur, h1, h2, h3, h4, h5, h6, h7⟩
  · cases h1
  · refine ⟨g, cap, h1, ?_⟩
    have K : ∀ i u, i < 6 → (flat [(.agg #[.bool n0, d0], z0), (.agg #[.bool n1, d1], z1), (.agg #[.bool n2, d2], z2)])[i]? = some u → w.cell? ⟨g, i, none⟩ = some u := by
      intro i u hi hu
      rw [cell_of_block h3, ← Array.getElem?_toList]
      rw [← h7, List.getElem?_take_of_lt (by exact hi)] at hu
      exact hu
    exact ⟨K 0 _ (by decide) rfl, K 1 _ (by decide) rfl, K 2 _ (by decide) rfl, K 3 _ (by decide) rfl, K 4 _ (by decide) rfl, K 5 _ (by decide) rfl⟩
/-- What the second loop of Sound keeps. -/
def WJ (W : World) (A g : Nat) (m : Nat → Int) (n0 n1 n2 : Bool) (d0 d1 d2 : Value) (z0 z1 z2 : Int) (w : World) : Prop :=
  Below W.heap.size W w ∧ SC w A m ∧ G6 w g n0 n1 n2 d0 d1 d2 ∧ BG w (.agg #[.bool n0, d0]) z0 ∧ BG w (.agg #[.bool n1, d1]) z1 ∧ BG w (.agg #[.bool n2, d2]) z2
theorem wj_keep {W : World} {A g : Nat} {m : Nat → Int} {n0 n1 n2 : Bool} {d0 d1 d2 : Value} {z0 z1 z2 : Int} {w w' : World} (h : WJ W A g m n0 n1 n2 d0 d1 d2 z0 z1 z2 w) (hb : Below w.heap.size w w') : WJ W A g m n0 n1 n2 d0 d1 d2 z0 z1 z2 w' := by
  obtain ⟨h0, h1, h2, h3, h4, h5⟩ := h
  exact ⟨b_trans h0 hb, sc_keep hb h1, g6_keep hb h2, bg_keep h3 hb, bg_keep h4 hb, bg_keep h5 hb⟩
theorem wj_of {W : World} {A B base : Nat} {m : Nat → Int} {f0 f1 f2 : Int} {v : Value} {n0 n1 n2 : Bool} {d0 d1 d2 : Value} {z0 z1 z2 : Int} {w : World} (h : VJ W A B base m f0 f1 f2 v [(.agg #[.bool n0, d0], z0), (.agg #[.bool n1, d1], z1), (.agg #[.bool n2, d2], z2)] w) : ∃ g cap, v = .slice (some ⟨g, 0, none⟩) 3 cap ∧ WJ W A g m n0 n1 n2 d0 d1 d2 z0 z1 z2 w := by
  obtain ⟨g, cap, h1, h2⟩ := rb_three h.2.2.2.1
  exact ⟨g, cap, h1, h.1, h.2.1, h2, h.2.2.2.2.1 (.agg #[.bool n0, d0], z0) (by simp), h.2.2.2.2.1 (.agg #[.bool n1, d1], z1) (by simp), h.2.2.2.2.1 (.agg #[.bool n2, d2], z2) (by simp)⟩
/-- What was put into a slice of one. -/
abbrev N1 (w : World) (u : Value) (z : Int) : Prop := ∃ g n d, u = .slice (some ⟨g, 0, none⟩) 1 1 ∧ w.heap[g]? = some (.cells #[.bool n, d] 63 (0, 0)) ∧ BG w (.agg #[.bool n, d]) z
theorem n1_keep {w w' : World} {u : Value} {z : Int} (h : N1 w u z) (hb : Below w.heap.size w w') : N1 w' u z := by
  obtain ⟨g, n, d, h1, h2, h3⟩ := h
  exact ⟨g, n, d, h1, by rw [hb.block g (Array.getElem?_eq_some_iff.1 h2).1]; exact h2, bg_keep h3 hb⟩
theorem n1_new {w : World} {n : Bool} {d : Value} {z : Int} (h : BG w (.agg #[.bool n, d]) z) : N1 (w.alloc (Obj.cells #[.bool n, d] 63)) (.slice (some ⟨w.heap.size, 0, none⟩) 1 1) z :=
  ⟨w.heap.size, n, d, rfl, (MapKept.heap_alloc w _).1, bg_keep h (b_alloc (Below.refl _ _))⟩

theorem cmm {a b c : Int} (h : a ≤ b * c) : a ≤ c * b := by rw [Int.mul_comm]; exact h
theorem small128 {z : Int} (h : Fits z) : Small z := by
  obtain ⟨h0, h1⟩ := h
  exact small_of (by omega) (by omega)
theorem small64 {x : Int} (h : I64 x) : Small x := small_of (by omega) (by omega)
theorem one_cells {w : World} {n : Bool} {d : Value} {z : Int} (h : BG w (.agg #[.bool n, d]) z) : ∀ u, u ∈ [Value.bool n, d] → u.oneCell' = true := by
  obtain ⟨n1, a1, k1, c1, e1⟩ := bg_form h
  simp at e1
  obtain ⟨rfl, rfl⟩ := e1
  intro u hu
  simp at hu
  rcases hu with rfl | rfl <;> rfl
set_option maxHeartbeats 8000000 in
theorem sound_sref (m : Nat → Int) (f0 f1 f2 : Int) (hm : I6 m) (hf0 : I64 f0) (hf1 : I64 f1) (hf2 : I64 f2) (w : World) :
    Calls Tryd.prog 16 #[sv m, tv f0 f1 f2] w (RetV (.bool (sndb m f0 f1 f2)) w) := by
  have hf := Lib.hid (And.intro hf0 (And.intro hf1 hf2))
  have kA : SC ((w.alloc (Obj.cells #[.int .i64 (m 0), .int .i64 (m 1), .int .i64 (m 2), .int .i64 (m 3), .int .i64 (m 4), .int .i64 (m 5)] 23)).alloc (Obj.cells #[.int .i64 f0, .int .i64 f1, .int .i64 f2] 32)) w.heap.size m := sc_alloc (sc_new (w := w) (m := m) (t := 23) rfl)
  have kB : TC ((w.alloc (Obj.cells #[.int .i64 (m 0), .int .i64 (m 1), .int .i64 (m 2), .int .i64 (m 3), .int .i64 (m 4), .int .i64 (m 5)] 23)).alloc (Obj.cells #[.int .i64 f0, .int .i64 f1, .int .i64 f2] 32)) (w.heap.size + 1) f0 f1 f2 := tc_new (w := (w.alloc (Obj.cells #[.int .i64 (m 0), .int .i64 (m 1), .int .i64 (m 2), .int .i64 (m 3), .int .i64 (m 4), .int .i64 (m 5)] 23))) (t := 32) (by simp)
  have hB0 : Below w.heap.size w ((w.alloc (Obj.cells #[.int .i64 (m 0), .int .i64 (m 1), .int .i64 (m 2), .int .i64 (m 3), .int .i64 (m 4), .int .i64 (m 5)] 23)).alloc (Obj.cells #[.int .i64 f0, .int .i64 f1, .int .i64 f2] 32)) := b_alloc (b_alloc (Below.refl _ _))
  by_cases ca : F6 m
  rotate_left
  · have ea := Lib.hid (f6b_no ca)
    have E := Lib.hid (sndb_no (f0 := f0) (f1 := f1) (f2 := f2) (fun h => ca h.1))
    have l6 := sc_six kA
    clear ca kA
    go_enter Tryd.func16, Tryd.ntmps16
    go_wp2_with fail
    refine (fits_sref m hm _).mono ?_
    rintro e1 w1 ⟨rfl, hb9⟩
    rw [ea.out]
    replace hB0 := b_trans hB0 hb9
    clear l6 kB hb9
    go_wp2
    go_ret
    exact ⟨by rw [E.out]; rfl, hB0⟩
  have ea := Lib.hid (f6b_yes ca)
  have CA := Lib.hid ca
  clear ca
  have l6 := sc_six kA
  go_enter Tryd.func16, Tryd.ntmps16
  go_wp2_with fail
  refine (fits_sref m hm _).mono ?_
  rintro e1 w1 ⟨rfl, hb9⟩
  rw [ea.out]
  replace kA := sc_keep hb9 kA
  replace kB := tc_keep hb9 kB
  replace hB0 := b_trans hB0 hb9
  clear l6 hb9 ea
  have zB := tc_lt kB
  have s0 := Lib.hid (vj_start (W := w) (n := w1.heap.size) rfl hB0 kA kB (by omega))
  clear kA kB hB0 zB
  obtain ⟨i0, hi, hz0, hz1, hz2⟩ := info_parts Tryd.infoB
  go_wp2
  generalize (.slice (some ⟨w1.heap.size, 0, none⟩) 0 0 : Value) = v0 at *
  generalize w1.heap.size = Q at *
  generalize w1.alloc (Obj.cells #[] 63) = u0 at *
  replace s0 := s0.out
  refine wp_loop_rounds 4 ?_
  rw [rounds_succ]
  go_wp2_with fail
  refine (place_ok 0 0 0 (by decide) _).mono ?_
  rintro e5 w5 ⟨rfl, hb5⟩
  replace s0 := vj_keep s0 hb5
  clear hb5
  have cs := sc_six (vj_sc s0)
  have c := vj_tc s0
  by_cases c0 : f0 ≤ m 0
  rotate_left
  · have E := Lib.hid (sndb_no (m := m) (f0 := f0) (f1 := f1) (f2 := f2) (fun h => c0 h.2.1))
    have hl : m 0 < f0 := by omega
    have B9 := s0.1
    clear s0 c0
    go_wp2
    go_ret
    exact ⟨by rw [E.out]; rfl, B9⟩
  have hl : ¬ m 0 < f0 := by omega
  go_wp2
  clear c cs hl
  have xb := fit_i64 (CA.out 0 (by decide))
  have sm0 : Hid (Small (m 0)) := Lib.hid (small64 xb)
  have sf0 : Hid (Small f0) := Lib.hid (small64 hf.out.1)
  refine region_each [29, 30, 31, 32, 33, 34, 35, 36, 37] (fun i X_ U_ => match i with | 0 => X_ = v0 | 1 => X_ = .int .i64 (m 0) | 2 => BG U_ X_ (m 0) | 3 => X_ = .int .i64 0 | 4 => X_ = .pointer (some ⟨w.heap.size + 1, 0, none⟩) | 5 => X_ = .int .i64 f0 | 6 => BG U_ X_ (f0) | 7 => BG U_ X_ (m 0 - f0) | 8 => N1 U_ X_ (m 0 - f0) | _ => True) (fun i => false) (by kernel_rfl) (by kernel_rfl) (by kernel_rfl) (by kernel_rfl) (by kernel_rfl) ?_ (fun i x w hi ha h => by cases ha) ?_ ?_
  · refine swp (upS (upS (upS (upS (upS (upS (upS (upS (upS up0 ?_) ?_) ?_) ?_) ?_) ?_) ?_) ?_) ?_)
    · exact fun _ _ _ h _ => h
    · exact fun _ _ _ h _ => h
    · intro x w w' h hb; exact bg_keep h hb
    · exact fun _ _ _ h _ => h
    · exact fun _ _ _ h _ => h
    · exact fun _ _ _ h _ => h
    · intro x w w' h hb; exact bg_keep h hb
    · intro x w w' h hb; exact bg_keep h hb
    · intro x w w' h hb; exact n1_keep h hb
  · refine upS (upS (upS (upS (upS (upS (upS (upS (upS up0 ?_) ?_) ?_) ?_) ?_) ?_) ?_) ?_) ?_
    all_goals intro v f w' hb hv hB hd
    · have b5 : f.tmps[5]? = some (v0) := (hb 5 (by decide)).trans rfl
      clear hb hv hd
      refine wpOp_step rfl fun K hK => ?_
      go_simp
      exact hK _ _ ⟨_, rfl, Below.refl _ _, rfl, fun h => absurd h (by decide)⟩
    · have b7 : f.tmps[7]? = some (.int .i64 (m 0)) := (hb 7 (by decide)).trans rfl
      clear hb hv hd
      refine wpOp_step rfl fun K hK => ?_
      go_simp
      exact hK _ _ ⟨_, rfl, Below.refl _ _, rfl, fun h => absurd h (by decide)⟩
    · have d1 := got (hv 1 30 rfl) (hd 1 (by kernel_rfl))
      clear hb hv hd
      refine wpOp_call rfl Tryd.call27 (args1 (eval_tmp d1)) (of_big (m 0) xb.1 xb.2 _) ?_
      rintro e w5 ⟨v5, rfl, h5, hb5⟩
      exact ⟨_, rfl, _, rfl, hb5, h5, fun h => absurd h (by decide)⟩
    · have b6 : f.tmps[6]? = some (.int .i64 0) := (hb 6 (by decide)).trans rfl
      clear hb hv hd
      refine wpOp_step rfl fun K hK => ?_
      go_simp
      exact hK _ _ ⟨_, rfl, Below.refl _ _, rfl, fun h => absurd h (by decide)⟩
    · have b3 : f.tmps[3]? = some (.pointer (some ⟨w.heap.size + 1, 0, none⟩)) := (hb 3 (by decide)).trans rfl
      have d3 := got (hv 3 32 rfl) (hd 3 (by kernel_rfl))
      clear hb hv hd
      refine wpOp_step rfl fun K hK => ?_
      go_simp
      exact hK _ _ ⟨_, rfl, Below.refl _ _, rfl, fun h => absurd h (by decide)⟩
    · have d4 := got (hv 4 33 rfl) (hd 4 (by kernel_rfl))
      clear hb hv hd
      have c := tc_keep hB (vj_tc s0)
      refine wpOp_step rfl fun K hK => ?_
      go_simp
      exact hK _ _ ⟨_, rfl, Below.refl _ _, rfl, fun h => absurd h (by decide)⟩
    · have d5 := got (hv 5 34 rfl) (hd 5 (by kernel_rfl))
      clear hb hv hd
      refine wpOp_call rfl Tryd.call27 (args1 (eval_tmp d5)) (of_big f0 hf.out.1.1 hf.out.1.2 _) ?_
      rintro e w5 ⟨v5, rfl, h5, hb5⟩
      exact ⟨_, rfl, _, rfl, hb5, h5, fun h => absurd h (by decide)⟩
    · have h2 : BG w' (v 2) (m 0) := hd 2 (by kernel_rfl)
      have d2 : f.tmps[31]? = some (v 2) := hv 2 31 rfl
      have h6 : BG w' (v 6) (f0) := hd 6 (by kernel_rfl)
      have d6 : f.tmps[35]? = some (v 6) := hv 6 35 rfl
      clear hb hv hd
      refine wpOp_call rfl Tryd.call26 (args2 (eval_tmp d2) (eval_tmp d6)) (sub_big _ _ (m 0) f0 _ h2 h6 sm0.out sf0.out) ?_
      rintro e w5 ⟨v5, rfl, h5, hb5⟩
      exact ⟨_, rfl, _, rfl, hb5, h5, fun h => absurd h (by decide)⟩
    · have h7 : BG w' (v 7) (m 0 - f0) := hd 7 (by kernel_rfl)
      have d7 : f.tmps[36]? = some (v 7) := hv 7 36 rfl
      clear hb hv hd
      obtain ⟨n9, a9, k9, c9, e9⟩ := bg_form h7
      rw [e9] at d7 h7
      refine wpOp_step rfl fun K hK => ?_
      go_simp
      skip
      exact hK _ _ ⟨_, rfl, b_alloc (Below.refl _ _), n1_new h7, fun h => absurd h (by decide)⟩
  · intro v w' hB hF hD
    have F0 : v 0 = _ := hF 0 (by simp)
    have F1 : v 1 = _ := hF 1 (by simp)
    have F2 : BG w' (v 2) (m 0) := hF 2 (by simp)
    have F3 : v 3 = _ := hF 3 (by simp)
    have F4 : v 4 = _ := hF 4 (by simp)
    have F5 : v 5 = _ := hF 5 (by simp)
    have F6 : BG w' (v 6) (f0) := hF 6 (by simp)
    have F7 : BG w' (v 7) (m 0 - f0) := hF 7 (by simp)
    have F8 : N1 w' (v 8) (m 0 - f0) := hF 8 (by simp)
    clear hF
    simp only [frOf, frGo, Nat.zero_add, Nat.reduceAdd, F0, F1, F3, F4, F5]
    obtain ⟨g9_0, n9_0, d9_0, E9_, hc9_0, hg9_0⟩ := F8
    rw [E9_]
    replace s0 := vj_keep s0 hB
    clear hD hB xb sm0 sf0 F0 F1 F2 F3 F4 F5 F6 F7
    generalize v 2 = y2
    generalize v 6 = y6
    generalize v 7 = y7
    clear E9_ v
    have zQ := s0.2.2.2.2.2.2.2.2
    simp only [List.length_cons, List.length_nil, Nat.zero_add, Nat.reduceAdd, List.drop_succ_cons, List.drop_zero, Act.put, List.setIfInBounds_toArray, List.set_cons_zero, List.set_cons_succ]
    refine wpList_append_own _ rfl _ _ 60 rfl Q 63 i0 (.agg #[.bool false, .slice none 0 0]) 2 32 Tryd.underlying60 hi hz0 hz1 hz2 rfl (by decide) v0 0 _ rfl s0.2.2.2.1 ⟨g9_0, 0, none⟩ 1 1 [.bool n9_0, d9_0] rfl rfl ?c1 ?c2 ?c3 ?c4 ?c5 ?_
    case c1 =>
      intro j u hj
      rw [show (⟨g9_0, 0, none⟩ : Addr).add j = ⟨g9_0, j, none⟩ by simp [Addr.add]; exact fun h => h.symm, cell_of_block hc9_0]
      simpa using hj
    case c2 => exact fun u hu => one_cells hg9_0 u hu
    case c3 => unfold maxLen; omega
    case c4 => omega
    case c5 => exact zQ
    intro v1 w9_0 hown' hgrow _
    have s1 := Lib.hid (vj_grow s0 hown' hgrow hg9_0)
    clear hown' hgrow hg9_0 hc9_0 s0 zQ
    go_wp2
    replace s0 := s1.out
    clear s1
    rw [rounds_succ]
    go_wp2_with fail
    refine (place_ok 1 1 3 (by decide) _).mono ?_
    rintro e5 w5 ⟨rfl, hb5⟩
    replace s0 := vj_keep s0 hb5
    clear hb5
    have cs := sc_six (vj_sc s0)
    have c := vj_tc s0
    by_cases c1 : f1 ≤ m 3
    rotate_left
    · have E := Lib.hid (sndb_no (m := m) (f0 := f0) (f1 := f1) (f2 := f2) (fun h => c1 h.2.2.1))
      have hl : m 3 < f1 := by omega
      have B9 := s0.1
      clear s0 c1
      go_wp2
      go_ret
      exact ⟨by rw [E.out]; rfl, B9⟩
    have hl : ¬ m 3 < f1 := by omega
    go_wp2
    clear c cs hl
    have xb := fit_i64 (CA.out 3 (by decide))
    have sm1 : Hid (Small (m 3)) := Lib.hid (small64 xb)
    have sf1 : Hid (Small f1) := Lib.hid (small64 hf.out.2.1)
    refine region_each [29, 30, 31, 32, 33, 34, 35, 36, 37] (fun i X_ U_ => match i with | 0 => X_ = v1 | 1 => X_ = .int .i64 (m 3) | 2 => BG U_ X_ (m 3) | 3 => X_ = .int .i64 1 | 4 => X_ = .pointer (some ⟨w.heap.size + 1, 1, none⟩) | 5 => X_ = .int .i64 f1 | 6 => BG U_ X_ (f1) | 7 => BG U_ X_ (m 3 - f1) | 8 => N1 U_ X_ (m 3 - f1) | _ => True) (fun i => false) (by kernel_rfl) (by kernel_rfl) (by kernel_rfl) (by kernel_rfl) (by kernel_rfl) ?_ (fun i x w hi ha h => by cases ha) ?_ ?_
    · refine swp (upS (upS (upS (upS (upS (upS (upS (upS (upS up0 ?_) ?_) ?_) ?_) ?_) ?_) ?_) ?_) ?_)
      · exact fun _ _ _ h _ => h
      · exact fun _ _ _ h _ => h
      · intro x w w' h hb; exact bg_keep h hb
      · exact fun _ _ _ h _ => h
      · exact fun _ _ _ h _ => h
      · exact fun _ _ _ h _ => h
      · intro x w w' h hb; exact bg_keep h hb
      · intro x w w' h hb; exact bg_keep h hb
      · intro x w w' h hb; exact n1_keep h hb
    · refine upS (upS (upS (upS (upS (upS (upS (upS (upS up0 ?_) ?_) ?_) ?_) ?_) ?_) ?_) ?_) ?_
      all_goals intro v f w' hb hv hB hd
      · have b5 : f.tmps[5]? = some (v1) := (hb 5 (by decide)).trans rfl
        clear hb hv hd
        refine wpOp_step rfl fun K hK => ?_
        go_simp
        exact hK _ _ ⟨_, rfl, Below.refl _ _, rfl, fun h => absurd h (by decide)⟩
      · have b7 : f.tmps[7]? = some (.int .i64 (m 3)) := (hb 7 (by decide)).trans rfl
        clear hb hv hd
        refine wpOp_step rfl fun K hK => ?_
        go_simp
        exact hK _ _ ⟨_, rfl, Below.refl _ _, rfl, fun h => absurd h (by decide)⟩
      · have d1 := got (hv 1 30 rfl) (hd 1 (by kernel_rfl))
        clear hb hv hd
        refine wpOp_call rfl Tryd.call27 (args1 (eval_tmp d1)) (of_big (m 3) xb.1 xb.2 _) ?_
        rintro e w5 ⟨v5, rfl, h5, hb5⟩
        exact ⟨_, rfl, _, rfl, hb5, h5, fun h => absurd h (by decide)⟩
      · have b6 : f.tmps[6]? = some (.int .i64 1) := (hb 6 (by decide)).trans rfl
        clear hb hv hd
        refine wpOp_step rfl fun K hK => ?_
        go_simp
        exact hK _ _ ⟨_, rfl, Below.refl _ _, rfl, fun h => absurd h (by decide)⟩
      · have b3 : f.tmps[3]? = some (.pointer (some ⟨w.heap.size + 1, 0, none⟩)) := (hb 3 (by decide)).trans rfl
        have d3 := got (hv 3 32 rfl) (hd 3 (by kernel_rfl))
        clear hb hv hd
        refine wpOp_step rfl fun K hK => ?_
        go_simp
        exact hK _ _ ⟨_, rfl, Below.refl _ _, rfl, fun h => absurd h (by decide)⟩
      · have d4 := got (hv 4 33 rfl) (hd 4 (by kernel_rfl))
        clear hb hv hd
        have c := tc_keep hB (vj_tc s0)
        refine wpOp_step rfl fun K hK => ?_
        go_simp
        exact hK _ _ ⟨_, rfl, Below.refl _ _, rfl, fun h => absurd h (by decide)⟩
      · have d5 := got (hv 5 34 rfl) (hd 5 (by kernel_rfl))
        clear hb hv hd
        refine wpOp_call rfl Tryd.call27 (args1 (eval_tmp d5)) (of_big f1 hf.out.2.1.1 hf.out.2.1.2 _) ?_
        rintro e w5 ⟨v5, rfl, h5, hb5⟩
        exact ⟨_, rfl, _, rfl, hb5, h5, fun h => absurd h (by decide)⟩
      · have h2 : BG w' (v 2) (m 3) := hd 2 (by kernel_rfl)
        have d2 : f.tmps[31]? = some (v 2) := hv 2 31 rfl
        have h6 : BG w' (v 6) (f1) := hd 6 (by kernel_rfl)
        have d6 : f.tmps[35]? = some (v 6) := hv 6 35 rfl
        clear hb hv hd
        refine wpOp_call rfl Tryd.call26 (args2 (eval_tmp d2) (eval_tmp d6)) (sub_big _ _ (m 3) f1 _ h2 h6 sm1.out sf1.out) ?_
        rintro e w5 ⟨v5, rfl, h5, hb5⟩
        exact ⟨_, rfl, _, rfl, hb5, h5, fun h => absurd h (by decide)⟩
      · have h7 : BG w' (v 7) (m 3 - f1) := hd 7 (by kernel_rfl)
        have d7 : f.tmps[36]? = some (v 7) := hv 7 36 rfl
        clear hb hv hd
        obtain ⟨n9_0, a9, k9, c9, e9⟩ := bg_form h7
        rw [e9] at d7 h7
        refine wpOp_step rfl fun K hK => ?_
        go_simp
        skip
        exact hK _ _ ⟨_, rfl, b_alloc (Below.refl _ _), n1_new h7, fun h => absurd h (by decide)⟩
    · intro v w' hB hF hD
      have F0 : v 0 = _ := hF 0 (by simp)
      have F1 : v 1 = _ := hF 1 (by simp)
      have F2 : BG w' (v 2) (m 3) := hF 2 (by simp)
      have F3 : v 3 = _ := hF 3 (by simp)
      have F4 : v 4 = _ := hF 4 (by simp)
      have F5 : v 5 = _ := hF 5 (by simp)
      have F6 : BG w' (v 6) (f1) := hF 6 (by simp)
      have F7 : BG w' (v 7) (m 3 - f1) := hF 7 (by simp)
      have F8 : N1 w' (v 8) (m 3 - f1) := hF 8 (by simp)
      clear hF
      simp only [frOf, frGo, Nat.zero_add, Nat.reduceAdd, F0, F1, F3, F4, F5]
      obtain ⟨g9_1, n9_1, d9_1, E9_, hc9_1, hg9_1⟩ := F8
      rw [E9_]
      replace s0 := vj_keep s0 hB
      clear hD hB xb sm1 sf1 F0 F1 F2 F3 F4 F5 F6 F7
      generalize v 2 = y2
      generalize v 6 = y6
      generalize v 7 = y7
      clear E9_ v
      have zQ := s0.2.2.2.2.2.2.2.2
      simp only [List.length_cons, List.length_nil, Nat.zero_add, Nat.reduceAdd, List.drop_succ_cons, List.drop_zero, Act.put, List.setIfInBounds_toArray, List.set_cons_zero, List.set_cons_succ]
      refine wpList_append_own _ rfl _ _ 60 rfl Q 63 i0 (.agg #[.bool false, .slice none 0 0]) 2 32 Tryd.underlying60 hi hz0 hz1 hz2 rfl (by decide) v1 1 _ rfl s0.2.2.2.1 ⟨g9_1, 0, none⟩ 1 1 [.bool n9_1, d9_1] rfl rfl ?c1 ?c2 ?c3 ?c4 ?c5 ?_
      case c1 =>
        intro j u hj
        rw [show (⟨g9_1, 0, none⟩ : Addr).add j = ⟨g9_1, j, none⟩ by simp [Addr.add]; exact fun h => h.symm, cell_of_block hc9_1]
        simpa using hj
      case c2 => exact fun u hu => one_cells hg9_1 u hu
      case c3 => unfold maxLen; omega
      case c4 => omega
      case c5 => exact zQ
      intro v2 w9_1 hown' hgrow _
      have s1 := Lib.hid (vj_grow s0 hown' hgrow hg9_1)
      clear hown' hgrow hg9_1 hc9_1 s0 zQ
      go_wp2
      replace s0 := s1.out
      clear s1
      rw [rounds_succ]
      go_wp2_with fail
      refine (place_ok 2 2 5 (by decide) _).mono ?_
      rintro e5 w5 ⟨rfl, hb5⟩
      replace s0 := vj_keep s0 hb5
      clear hb5
      have cs := sc_six (vj_sc s0)
      have c := vj_tc s0
      by_cases c2 : f2 ≤ m 5
      rotate_left
      · have E := Lib.hid (sndb_no (m := m) (f0 := f0) (f1 := f1) (f2 := f2) (fun h => c2 h.2.2.2.1))
        have hl : m 5 < f2 := by omega
        have B9 := s0.1
        clear s0 c2
        go_wp2
        go_ret
        exact ⟨by rw [E.out]; rfl, B9⟩
      have hl : ¬ m 5 < f2 := by omega
      go_wp2
      clear c cs hl
      have xb := fit_i64 (CA.out 5 (by decide))
      have sm2 : Hid (Small (m 5)) := Lib.hid (small64 xb)
      have sf2 : Hid (Small f2) := Lib.hid (small64 hf.out.2.2)
      refine region_each [29, 30, 31, 32, 33, 34, 35, 36, 37] (fun i X_ U_ => match i with | 0 => X_ = v2 | 1 => X_ = .int .i64 (m 5) | 2 => BG U_ X_ (m 5) | 3 => X_ = .int .i64 2 | 4 => X_ = .pointer (some ⟨w.heap.size + 1, 2, none⟩) | 5 => X_ = .int .i64 f2 | 6 => BG U_ X_ (f2) | 7 => BG U_ X_ (m 5 - f2) | 8 => N1 U_ X_ (m 5 - f2) | _ => True) (fun i => false) (by kernel_rfl) (by kernel_rfl) (by kernel_rfl) (by kernel_rfl) (by kernel_rfl) ?_ (fun i x w hi ha h => by cases ha) ?_ ?_
      · refine swp (upS (upS (upS (upS (upS (upS (upS (upS (upS up0 ?_) ?_) ?_) ?_) ?_) ?_) ?_) ?_) ?_)
        · exact fun _ _ _ h _ => h
        · exact fun _ _ _ h _ => h
        · intro x w w' h hb; exact bg_keep h hb
        · exact fun _ _ _ h _ => h
        · exact fun _ _ _ h _ => h
        · exact fun _ _ _ h _ => h
        · intro x w w' h hb; exact bg_keep h hb
        · intro x w w' h hb; exact bg_keep h hb
        · intro x w w' h hb; exact n1_keep h hb
      · refine upS (upS (upS (upS (upS (upS (upS (upS (upS up0 ?_) ?_) ?_) ?_) ?_) ?_) ?_) ?_) ?_
        all_goals intro v f w' hb hv hB hd
        · have b5 : f.tmps[5]? = some (v2) := (hb 5 (by decide)).trans rfl
          clear hb hv hd
          refine wpOp_step rfl fun K hK => ?_
          go_simp
          exact hK _ _ ⟨_, rfl, Below.refl _ _, rfl, fun h => absurd h (by decide)⟩
        · have b7 : f.tmps[7]? = some (.int .i64 (m 5)) := (hb 7 (by decide)).trans rfl
          clear hb hv hd
          refine wpOp_step rfl fun K hK => ?_
          go_simp
          exact hK _ _ ⟨_, rfl, Below.refl _ _, rfl, fun h => absurd h (by decide)⟩
        · have d1 := got (hv 1 30 rfl) (hd 1 (by kernel_rfl))
          clear hb hv hd
          refine wpOp_call rfl Tryd.call27 (args1 (eval_tmp d1)) (of_big (m 5) xb.1 xb.2 _) ?_
          rintro e w5 ⟨v5, rfl, h5, hb5⟩
          exact ⟨_, rfl, _, rfl, hb5, h5, fun h => absurd h (by decide)⟩
        · have b6 : f.tmps[6]? = some (.int .i64 2) := (hb 6 (by decide)).trans rfl
          clear hb hv hd
          refine wpOp_step rfl fun K hK => ?_
          go_simp
          exact hK _ _ ⟨_, rfl, Below.refl _ _, rfl, fun h => absurd h (by decide)⟩
        · have b3 : f.tmps[3]? = some (.pointer (some ⟨w.heap.size + 1, 0, none⟩)) := (hb 3 (by decide)).trans rfl
          have d3 := got (hv 3 32 rfl) (hd 3 (by kernel_rfl))
          clear hb hv hd
          refine wpOp_step rfl fun K hK => ?_
          go_simp
          exact hK _ _ ⟨_, rfl, Below.refl _ _, rfl, fun h => absurd h (by decide)⟩
        · have d4 := got (hv 4 33 rfl) (hd 4 (by kernel_rfl))
          clear hb hv hd
          have c := tc_keep hB (vj_tc s0)
          refine wpOp_step rfl fun K hK => ?_
          go_simp
          exact hK _ _ ⟨_, rfl, Below.refl _ _, rfl, fun h => absurd h (by decide)⟩
        · have d5 := got (hv 5 34 rfl) (hd 5 (by kernel_rfl))
          clear hb hv hd
          refine wpOp_call rfl Tryd.call27 (args1 (eval_tmp d5)) (of_big f2 hf.out.2.2.1 hf.out.2.2.2 _) ?_
          rintro e w5 ⟨v5, rfl, h5, hb5⟩
          exact ⟨_, rfl, _, rfl, hb5, h5, fun h => absurd h (by decide)⟩
        · have h2 : BG w' (v 2) (m 5) := hd 2 (by kernel_rfl)
          have d2 : f.tmps[31]? = some (v 2) := hv 2 31 rfl
          have h6 : BG w' (v 6) (f2) := hd 6 (by kernel_rfl)
          have d6 : f.tmps[35]? = some (v 6) := hv 6 35 rfl
          clear hb hv hd
          refine wpOp_call rfl Tryd.call26 (args2 (eval_tmp d2) (eval_tmp d6)) (sub_big _ _ (m 5) f2 _ h2 h6 sm2.out sf2.out) ?_
          rintro e w5 ⟨v5, rfl, h5, hb5⟩
          exact ⟨_, rfl, _, rfl, hb5, h5, fun h => absurd h (by decide)⟩
        · have h7 : BG w' (v 7) (m 5 - f2) := hd 7 (by kernel_rfl)
          have d7 : f.tmps[36]? = some (v 7) := hv 7 36 rfl
          clear hb hv hd
          obtain ⟨n9_1, a9, k9, c9, e9⟩ := bg_form h7
          rw [e9] at d7 h7
          refine wpOp_step rfl fun K hK => ?_
          go_simp
          skip
          exact hK _ _ ⟨_, rfl, b_alloc (Below.refl _ _), n1_new h7, fun h => absurd h (by decide)⟩
      · intro v w' hB hF hD
        have F0 : v 0 = _ := hF 0 (by simp)
        have F1 : v 1 = _ := hF 1 (by simp)
        have F2 : BG w' (v 2) (m 5) := hF 2 (by simp)
        have F3 : v 3 = _ := hF 3 (by simp)
        have F4 : v 4 = _ := hF 4 (by simp)
        have F5 : v 5 = _ := hF 5 (by simp)
        have F6 : BG w' (v 6) (f2) := hF 6 (by simp)
        have F7 : BG w' (v 7) (m 5 - f2) := hF 7 (by simp)
        have F8 : N1 w' (v 8) (m 5 - f2) := hF 8 (by simp)
        clear hF
        simp only [frOf, frGo, Nat.zero_add, Nat.reduceAdd, F0, F1, F3, F4, F5]
        obtain ⟨g9_2, n9_2, d9_2, E9_, hc9_2, hg9_2⟩ := F8
        rw [E9_]
        replace s0 := vj_keep s0 hB
        clear hD hB xb sm2 sf2 F0 F1 F2 F3 F4 F5 F6 F7
        generalize v 2 = y2
        generalize v 6 = y6
        generalize v 7 = y7
        clear E9_ v
        have zQ := s0.2.2.2.2.2.2.2.2
        simp only [List.length_cons, List.length_nil, Nat.zero_add, Nat.reduceAdd, List.drop_succ_cons, List.drop_zero, Act.put, List.setIfInBounds_toArray, List.set_cons_zero, List.set_cons_succ]
        refine wpList_append_own _ rfl _ _ 60 rfl Q 63 i0 (.agg #[.bool false, .slice none 0 0]) 2 32 Tryd.underlying60 hi hz0 hz1 hz2 rfl (by decide) v2 2 _ rfl s0.2.2.2.1 ⟨g9_2, 0, none⟩ 1 1 [.bool n9_2, d9_2] rfl rfl ?c1 ?c2 ?c3 ?c4 ?c5 ?_
        case c1 =>
          intro j u hj
          rw [show (⟨g9_2, 0, none⟩ : Addr).add j = ⟨g9_2, j, none⟩ by simp [Addr.add]; exact fun h => h.symm, cell_of_block hc9_2]
          simpa using hj
        case c2 => exact fun u hu => one_cells hg9_2 u hu
        case c3 => unfold maxLen; omega
        case c4 => omega
        case c5 => exact zQ
        intro v3 w9_2 hown' hgrow _
        have s1 := Lib.hid (vj_grow s0 hown' hgrow hg9_2)
        clear hown' hgrow hg9_2 hc9_2 s0 zQ
        go_wp2
        replace s0 := s1.out
        clear s1
        have ob0 : 0 ≤ m 0 - f0 ∧ m 0 - f0 ≤ 9511602413006487552 := ob_of (CA.out 0 (by decide)) hf.out.1 c0
        have ob1 : 0 ≤ m 3 - f1 ∧ m 3 - f1 ≤ 9511602413006487552 := ob_of (CA.out 3 (by decide)) hf.out.2.1 c1
        have ob2 : 0 ≤ m 5 - f2 ∧ m 5 - f2 ≤ 9511602413006487552 := ob_of (CA.out 5 (by decide)) hf.out.2.2 c2
        obtain ⟨g, cap, rfl, s1⟩ := wj_of (n0 := n9_0) (n1 := n9_1) (n2 := n9_2) (d0 := d9_0) (d1 := d9_1) (d2 := d9_2) s0
        clear s0
        clear hm hf0 hf1 hf2
        rw [rounds_succ]
        go_wp2
        refine wp_loop_rounds 4 ?_
        rw [rounds_succ]
        go_wp2
        refine wp_loop_rounds 3 ?_
        have xb := fit_i64 (CA.out 1 (by decide))
        rw [rounds_succ]
        go_wp2_with fail
        refine (place_ok 0 1 1 (by decide) _).mono ?_
        rintro e5 w5 ⟨rfl, hb5⟩
        replace s1 := wj_keep s1 hb5
        clear hb5
        have cs := sc_six s1.2.1
        go_wp2_with fail
        refine (of_big (m 1) xb.1 xb.2 _).mono ?_
        rintro e5 w6 ⟨v5, rfl, h5, hb5⟩
        obtain ⟨nx, ax, kx, cx, rfl⟩ := bg_form h5
        replace s1 := wj_keep s1 hb5
        clear hb5 cs
        go_wp2
        replace s1 := wj_keep s1 (b_alloc (o := Obj.cells #[.bool nx, .slice ax kx cx] 63) (Below.refl _ _))
        replace h5 := bg_keep h5 (b_alloc (o := Obj.cells #[.bool nx, .slice ax kx cx] 63) (Below.refl _ _))
        have kX : BC (w6.alloc (Obj.cells #[.bool nx, .slice ax kx cx] 63)) w6.heap.size nx (.slice ax kx cx) := by simp [BC, go_sem]
        generalize w6.alloc (Obj.cells #[.bool nx, .slice ax kx cx] 63) = w7 at *
        generalize w6.heap.size = X at *
        have sm : Hid (Small (m 1)) := Lib.hid (small64 xb)
        have sq : Hid (Small (m 1 * m 1)) := Lib.hid (small128 (mul_fits xb.1 xb.2 xb.1 xb.2))
        have sp : Hid (Small ((m 0 - f0) * (m 3 - f1))) := Lib.hid (small128 (fits_prod (prod_fits ob0.1 ob0.2 ob1.1 ob1.2)))
        have si : Hid (Small (m 0 - f0)) := Lib.hid (small_of (by omega) (by omega))
        have sj : Hid (Small (m 3 - f1)) := Lib.hid (small_of (by omega) (by omega))
        refine region_each [55, 56, 57, 58, 59, 60, 61, 62, 63, 64, 65, 66, 67, 68] (fun i X_ U_ => match i with | 0 => X_ = .agg #[.bool nx, .slice ax kx cx] | 1 => X_ = .agg #[.bool nx, .slice ax kx cx] | 2 => BG U_ X_ (m 1 * m 1) | 3 => X_ = .slice (some ⟨g, 0, none⟩) 3 cap | 4 => X_ = .int .i64 0 | 5 => X_ = .pointer (some ⟨g, 0, none⟩) | 6 => X_ = .agg #[.bool n9_0, d9_0] | 7 => X_ = .slice (some ⟨g, 0, none⟩) 3 cap | 8 => X_ = .int .i64 1 | 9 => X_ = .pointer (some ⟨g, 2, none⟩) | 10 => X_ = .agg #[.bool n9_1, d9_1] | 11 => BG U_ X_ ((m 0 - f0) * (m 3 - f1)) | 12 => X_ = .int .i64 (cmp3 (m 1 * m 1) ((m 0 - f0) * (m 3 - f1))) | 13 => X_ = .bool (decide (0 < cmp3 (m 1 * m 1) ((m 0 - f0) * (m 3 - f1)))) | _ => True) (fun i => false) (by kernel_rfl) (by kernel_rfl) (by kernel_rfl) (by kernel_rfl) (by kernel_rfl) ?_ (fun i x w hi ha h => by cases ha) ?_ ?_
        · refine swp (upS (upS (upS (upS (upS (upS (upS (upS (upS (upS (upS (upS (upS (upS up0 ?_) ?_) ?_) ?_) ?_) ?_) ?_) ?_) ?_) ?_) ?_) ?_) ?_) ?_)
          · exact fun _ _ _ h _ => h
          · exact fun _ _ _ h _ => h
          · intro x w w' h hb; exact bg_keep h hb
          · exact fun _ _ _ h _ => h
          · exact fun _ _ _ h _ => h
          · exact fun _ _ _ h _ => h
          · exact fun _ _ _ h _ => h
          · exact fun _ _ _ h _ => h
          · exact fun _ _ _ h _ => h
          · exact fun _ _ _ h _ => h
          · exact fun _ _ _ h _ => h
          · intro x w w' h hb; exact bg_keep h hb
          · exact fun _ _ _ h _ => h
          · exact fun _ _ _ h _ => h
        · refine upS (upS (upS (upS (upS (upS (upS (upS (upS (upS (upS (upS (upS (upS up0 ?_) ?_) ?_) ?_) ?_) ?_) ?_) ?_) ?_) ?_) ?_) ?_) ?_) ?_
          all_goals intro v f w' hb hv hB hd
          · have b10 : f.tmps[10]? = some (.pointer (some ⟨X, 0, none⟩)) := (hb 10 (by decide)).trans rfl
            clear hb hv hd
            have c := bc_keep hB kX
            refine wpOp_step rfl fun K hK => ?_
            go_simp
            exact hK _ _ ⟨_, rfl, Below.refl _ _, rfl, fun h => absurd h (by decide)⟩
          · have b10 : f.tmps[10]? = some (.pointer (some ⟨X, 0, none⟩)) := (hb 10 (by decide)).trans rfl
            clear hb hv hd
            have c := bc_keep hB kX
            refine wpOp_step rfl fun K hK => ?_
            go_simp
            exact hK _ _ ⟨_, rfl, Below.refl _ _, rfl, fun h => absurd h (by decide)⟩
          · have d0 := got (hv 0 55 rfl) (hd 0 (by kernel_rfl))
            have d1 := got (hv 1 56 rfl) (hd 1 (by kernel_rfl))
            clear hb hv hd
            refine wpOp_call rfl Tryd.call29 (args2 (eval_tmp d0) (eval_tmp d1)) (mul_big _ _ (m 1) (m 1) _ (bg_keep h5 hB) (bg_keep h5 hB) sm.out sm.out) ?_
            rintro e w5 ⟨v5, rfl, h5, hb5⟩
            exact ⟨_, rfl, _, rfl, hb5, h5, fun h => absurd h (by decide)⟩
          · have b5 : f.tmps[5]? = some (.slice (some ⟨g, 0, none⟩) 3 cap) := (hb 5 (by decide)).trans rfl
            clear hb hv hd
            refine wpOp_step rfl fun K hK => ?_
            go_simp
            exact hK _ _ ⟨_, rfl, Below.refl _ _, rfl, fun h => absurd h (by decide)⟩
          · have b8 : f.tmps[8]? = some (.int .i64 0) := (hb 8 (by decide)).trans rfl
            clear hb hv hd
            refine wpOp_step rfl fun K hK => ?_
            go_simp
            exact hK _ _ ⟨_, rfl, Below.refl _ _, rfl, fun h => absurd h (by decide)⟩
          · have d3 := got (hv 3 58 rfl) (hd 3 (by kernel_rfl))
            have d4 := got (hv 4 59 rfl) (hd 4 (by kernel_rfl))
            clear hb hv hd
            refine wpOp_step rfl fun K hK => ?_
            go_simp
            exact hK _ _ ⟨_, rfl, Below.refl _ _, rfl, fun h => absurd h (by decide)⟩
          · have d5 := got (hv 5 60 rfl) (hd 5 (by kernel_rfl))
            clear hb hv hd
            have c := g6_keep hB s1.2.2.1
            refine wpOp_step rfl fun K hK => ?_
            go_simp
            exact hK _ _ ⟨_, rfl, Below.refl _ _, rfl, fun h => absurd h (by decide)⟩
          · have b5 : f.tmps[5]? = some (.slice (some ⟨g, 0, none⟩) 3 cap) := (hb 5 (by decide)).trans rfl
            clear hb hv hd
            refine wpOp_step rfl fun K hK => ?_
            go_simp
            exact hK _ _ ⟨_, rfl, Below.refl _ _, rfl, fun h => absurd h (by decide)⟩
          · have b9 : f.tmps[9]? = some (.int .i64 1) := (hb 9 (by decide)).trans rfl
            clear hb hv hd
            refine wpOp_step rfl fun K hK => ?_
            go_simp
            exact hK _ _ ⟨_, rfl, Below.refl _ _, rfl, fun h => absurd h (by decide)⟩
          · have d7 := got (hv 7 62 rfl) (hd 7 (by kernel_rfl))
            have d8 := got (hv 8 63 rfl) (hd 8 (by kernel_rfl))
            clear hb hv hd
            refine wpOp_step rfl fun K hK => ?_
            go_simp
            exact hK _ _ ⟨_, rfl, Below.refl _ _, rfl, fun h => absurd h (by decide)⟩
          · have d9_2 := got (hv 9 64 rfl) (hd 9 (by kernel_rfl))
            clear hb hv hd
            have c := g6_keep hB s1.2.2.1
            refine wpOp_step rfl fun K hK => ?_
            go_simp
            exact hK _ _ ⟨_, rfl, Below.refl _ _, rfl, fun h => absurd h (by decide)⟩
          · have d6 := got (hv 6 61 rfl) (hd 6 (by kernel_rfl))
            have d10 := got (hv 10 65 rfl) (hd 10 (by kernel_rfl))
            clear hb hv hd
            refine wpOp_call rfl Tryd.call29 (args2 (eval_tmp d6) (eval_tmp d10)) (mul_big _ _ (m 0 - f0) (m 3 - f1) _ (bg_keep s1.2.2.2.1 hB) (bg_keep s1.2.2.2.2.1 hB) si.out sj.out) ?_
            rintro e w5 ⟨v5, rfl, h5, hb5⟩
            exact ⟨_, rfl, _, rfl, hb5, h5, fun h => absurd h (by decide)⟩
          · have h2 : BG w' (v 2) (m 1 * m 1) := hd 2 (by kernel_rfl)
            have d2 : f.tmps[57]? = some (v 2) := hv 2 57 rfl
            have h11 : BG w' (v 11) ((m 0 - f0) * (m 3 - f1)) := hd 11 (by kernel_rfl)
            have d11 : f.tmps[66]? = some (v 11) := hv 11 66 rfl
            clear hb hv hd
            refine wpOp_call rfl Tryd.call28 (args2 (eval_tmp d2) (eval_tmp d11)) (cmp_big _ _ (m 1 * m 1) ((m 0 - f0) * (m 3 - f1)) _ h2 h11 sq.out sp.out) ?_
            rintro e5 w5 ⟨rfl, hb5⟩
            exact ⟨_, rfl, _, rfl, hb5, rfl, fun h => absurd h (by decide)⟩
          · have d12 := got (hv 12 67 rfl) (hd 12 (by kernel_rfl))
            clear hb hv hd
            refine wpOp_step rfl fun K hK => ?_
            go_simp
            exact hK _ _ ⟨_, rfl, Below.refl _ _, rfl, fun h => absurd h (by decide)⟩
        · intro v w' hB hF hD
          have F0 : v 0 = _ := hF 0 (by simp)
          have F1 : v 1 = _ := hF 1 (by simp)
          have F2 : BG w' (v 2) (m 1 * m 1) := hF 2 (by simp)
          have F3 : v 3 = _ := hF 3 (by simp)
          have F4 : v 4 = _ := hF 4 (by simp)
          have F5 : v 5 = _ := hF 5 (by simp)
          have F6 : v 6 = _ := hF 6 (by simp)
          have F7 : v 7 = _ := hF 7 (by simp)
          have F8 : v 8 = _ := hF 8 (by simp)
          have F9 : v 9 = _ := hF 9 (by simp)
          have F10 : v 10 = _ := hF 10 (by simp)
          have F11 : BG w' (v 11) ((m 0 - f0) * (m 3 - f1)) := hF 11 (by simp)
          have F12 : v 12 = _ := hF 12 (by simp)
          have F13 : v 13 = _ := hF 13 (by simp)
          clear hF
          simp only [frOf, frGo, Nat.zero_add, Nat.reduceAdd, F0, F1, F3, F4, F5, F6, F7, F8, F9, F10, F12, F13]
          rw [List.drop_eq_nil_of_le (by simp)]
          refine wpList_end ?_
          simp only [Act.put, List.setIfInBounds_toArray, List.set_cons_zero, List.set_cons_succ]
          replace s1 := wj_keep s1 hB
          clear F0 F1 F3 F4 F5 F6 F7 F8 F9 F10 F12 F13 F2 F11 hD hB xb sm sq sp si sj h5 kX
          generalize v 2 = y2
          generalize v 11 = y11
          by_cases c01 : m 1 * m 1 ≤ (m 0 - f0) * (m 3 - f1)
          rotate_left
          · have E := Lib.hid (sndb_no (m := m) (f0 := f0) (f1 := f1) (f2 := f2) (fun h => c01 (cmm h.2.2.2.2.1)))
            have hq := cmp_gt c01
            have B9 := s1.1
            clear s1
            generalize cmp3 (m 1 * m 1) ((m 0 - f0) * (m 3 - f1)) = q at *
            clear c01
            go_wp2
            go_ret
            exact ⟨by rw [E.out]; rfl, B9⟩
          have hq := cmp_le c01
          generalize cmp3 (m 1 * m 1) ((m 0 - f0) * (m 3 - f1)) = q01 at *
          have C01 := Lib.hid c01
          clear c01
          go_wp2
          clear hq
          have xb := fit_i64 (CA.out 2 (by decide))
          rw [rounds_succ]
          go_wp2_with fail
          refine (place_ok 0 2 2 (by decide) _).mono ?_
          rintro e5 w5 ⟨rfl, hb5⟩
          replace s1 := wj_keep s1 hb5
          clear hb5
          have cs := sc_six s1.2.1
          go_wp2_with fail
          refine (of_big (m 2) xb.1 xb.2 _).mono ?_
          rintro e5 w6 ⟨v5, rfl, h5, hb5⟩
          obtain ⟨nx, ax, kx, cx, rfl⟩ := bg_form h5
          replace s1 := wj_keep s1 hb5
          clear hb5 cs
          go_wp2
          replace s1 := wj_keep s1 (b_alloc (o := Obj.cells #[.bool nx, .slice ax kx cx] 63) (Below.refl _ _))
          replace h5 := bg_keep h5 (b_alloc (o := Obj.cells #[.bool nx, .slice ax kx cx] 63) (Below.refl _ _))
          have kX : BC (w6.alloc (Obj.cells #[.bool nx, .slice ax kx cx] 63)) w6.heap.size nx (.slice ax kx cx) := by simp [BC, go_sem]
          generalize w6.alloc (Obj.cells #[.bool nx, .slice ax kx cx] 63) = w7 at *
          generalize w6.heap.size = X at *
          have sm : Hid (Small (m 2)) := Lib.hid (small64 xb)
          have sq : Hid (Small (m 2 * m 2)) := Lib.hid (small128 (mul_fits xb.1 xb.2 xb.1 xb.2))
          have sp : Hid (Small ((m 0 - f0) * (m 5 - f2))) := Lib.hid (small128 (fits_prod (prod_fits ob0.1 ob0.2 ob2.1 ob2.2)))
          have si : Hid (Small (m 0 - f0)) := Lib.hid (small_of (by omega) (by omega))
          have sj : Hid (Small (m 5 - f2)) := Lib.hid (small_of (by omega) (by omega))
          refine region_each [55, 56, 57, 58, 59, 60, 61, 62, 63, 64, 65, 66, 67, 68] (fun i X_ U_ => match i with | 0 => X_ = .agg #[.bool nx, .slice ax kx cx] | 1 => X_ = .agg #[.bool nx, .slice ax kx cx] | 2 => BG U_ X_ (m 2 * m 2) | 3 => X_ = .slice (some ⟨g, 0, none⟩) 3 cap | 4 => X_ = .int .i64 0 | 5 => X_ = .pointer (some ⟨g, 0, none⟩) | 6 => X_ = .agg #[.bool n9_0, d9_0] | 7 => X_ = .slice (some ⟨g, 0, none⟩) 3 cap | 8 => X_ = .int .i64 2 | 9 => X_ = .pointer (some ⟨g, 4, none⟩) | 10 => X_ = .agg #[.bool n9_2, d9_2] | 11 => BG U_ X_ ((m 0 - f0) * (m 5 - f2)) | 12 => X_ = .int .i64 (cmp3 (m 2 * m 2) ((m 0 - f0) * (m 5 - f2))) | 13 => X_ = .bool (decide (0 < cmp3 (m 2 * m 2) ((m 0 - f0) * (m 5 - f2)))) | _ => True) (fun i => false) (by kernel_rfl) (by kernel_rfl) (by kernel_rfl) (by kernel_rfl) (by kernel_rfl) ?_ (fun i x w hi ha h => by cases ha) ?_ ?_
          · refine swp (upS (upS (upS (upS (upS (upS (upS (upS (upS (upS (upS (upS (upS (upS up0 ?_) ?_) ?_) ?_) ?_) ?_) ?_) ?_) ?_) ?_) ?_) ?_) ?_) ?_)
            · exact fun _ _ _ h _ => h
            · exact fun _ _ _ h _ => h
            · intro x w w' h hb; exact bg_keep h hb
            · exact fun _ _ _ h _ => h
            · exact fun _ _ _ h _ => h
            · exact fun _ _ _ h _ => h
            · exact fun _ _ _ h _ => h
            · exact fun _ _ _ h _ => h
            · exact fun _ _ _ h _ => h
            · exact fun _ _ _ h _ => h
            · exact fun _ _ _ h _ => h
            · intro x w w' h hb; exact bg_keep h hb
            · exact fun _ _ _ h _ => h
            · exact fun _ _ _ h _ => h
          · refine upS (upS (upS (upS (upS (upS (upS (upS (upS (upS (upS (upS (upS (upS up0 ?_) ?_) ?_) ?_) ?_) ?_) ?_) ?_) ?_) ?_) ?_) ?_) ?_) ?_
            all_goals intro v f w' hb hv hB hd
            · have b10 : f.tmps[10]? = some (.pointer (some ⟨X, 0, none⟩)) := (hb 10 (by decide)).trans rfl
              clear hb hv hd
              have c := bc_keep hB kX
              refine wpOp_step rfl fun K hK => ?_
              go_simp
              exact hK _ _ ⟨_, rfl, Below.refl _ _, rfl, fun h => absurd h (by decide)⟩
            · have b10 : f.tmps[10]? = some (.pointer (some ⟨X, 0, none⟩)) := (hb 10 (by decide)).trans rfl
              clear hb hv hd
              have c := bc_keep hB kX
              refine wpOp_step rfl fun K hK => ?_
              go_simp
              exact hK _ _ ⟨_, rfl, Below.refl _ _, rfl, fun h => absurd h (by decide)⟩
            · have d0 := got (hv 0 55 rfl) (hd 0 (by kernel_rfl))
              have d1 := got (hv 1 56 rfl) (hd 1 (by kernel_rfl))
              clear hb hv hd
              refine wpOp_call rfl Tryd.call29 (args2 (eval_tmp d0) (eval_tmp d1)) (mul_big _ _ (m 2) (m 2) _ (bg_keep h5 hB) (bg_keep h5 hB) sm.out sm.out) ?_
              rintro e w5 ⟨v5, rfl, h5, hb5⟩
              exact ⟨_, rfl, _, rfl, hb5, h5, fun h => absurd h (by decide)⟩
            · have b5 : f.tmps[5]? = some (.slice (some ⟨g, 0, none⟩) 3 cap) := (hb 5 (by decide)).trans rfl
              clear hb hv hd
              refine wpOp_step rfl fun K hK => ?_
              go_simp
              exact hK _ _ ⟨_, rfl, Below.refl _ _, rfl, fun h => absurd h (by decide)⟩
            · have b8 : f.tmps[8]? = some (.int .i64 0) := (hb 8 (by decide)).trans rfl
              clear hb hv hd
              refine wpOp_step rfl fun K hK => ?_
              go_simp
              exact hK _ _ ⟨_, rfl, Below.refl _ _, rfl, fun h => absurd h (by decide)⟩
            · have d3 := got (hv 3 58 rfl) (hd 3 (by kernel_rfl))
              have d4 := got (hv 4 59 rfl) (hd 4 (by kernel_rfl))
              clear hb hv hd
              refine wpOp_step rfl fun K hK => ?_
              go_simp
              exact hK _ _ ⟨_, rfl, Below.refl _ _, rfl, fun h => absurd h (by decide)⟩
            · have d5 := got (hv 5 60 rfl) (hd 5 (by kernel_rfl))
              clear hb hv hd
              have c := g6_keep hB s1.2.2.1
              refine wpOp_step rfl fun K hK => ?_
              go_simp
              exact hK _ _ ⟨_, rfl, Below.refl _ _, rfl, fun h => absurd h (by decide)⟩
            · have b5 : f.tmps[5]? = some (.slice (some ⟨g, 0, none⟩) 3 cap) := (hb 5 (by decide)).trans rfl
              clear hb hv hd
              refine wpOp_step rfl fun K hK => ?_
              go_simp
              exact hK _ _ ⟨_, rfl, Below.refl _ _, rfl, fun h => absurd h (by decide)⟩
            · have b9 : f.tmps[9]? = some (.int .i64 2) := (hb 9 (by decide)).trans rfl
              clear hb hv hd
              refine wpOp_step rfl fun K hK => ?_
              go_simp
              exact hK _ _ ⟨_, rfl, Below.refl _ _, rfl, fun h => absurd h (by decide)⟩
            · have d7 := got (hv 7 62 rfl) (hd 7 (by kernel_rfl))
              have d8 := got (hv 8 63 rfl) (hd 8 (by kernel_rfl))
              clear hb hv hd
              refine wpOp_step rfl fun K hK => ?_
              go_simp
              exact hK _ _ ⟨_, rfl, Below.refl _ _, rfl, fun h => absurd h (by decide)⟩
            · have d9_2 := got (hv 9 64 rfl) (hd 9 (by kernel_rfl))
              clear hb hv hd
              have c := g6_keep hB s1.2.2.1
              refine wpOp_step rfl fun K hK => ?_
              go_simp
              exact hK _ _ ⟨_, rfl, Below.refl _ _, rfl, fun h => absurd h (by decide)⟩
            · have d6 := got (hv 6 61 rfl) (hd 6 (by kernel_rfl))
              have d10 := got (hv 10 65 rfl) (hd 10 (by kernel_rfl))
              clear hb hv hd
              refine wpOp_call rfl Tryd.call29 (args2 (eval_tmp d6) (eval_tmp d10)) (mul_big _ _ (m 0 - f0) (m 5 - f2) _ (bg_keep s1.2.2.2.1 hB) (bg_keep s1.2.2.2.2.2 hB) si.out sj.out) ?_
              rintro e w5 ⟨v5, rfl, h5, hb5⟩
              exact ⟨_, rfl, _, rfl, hb5, h5, fun h => absurd h (by decide)⟩
            · have h2 : BG w' (v 2) (m 2 * m 2) := hd 2 (by kernel_rfl)
              have d2 : f.tmps[57]? = some (v 2) := hv 2 57 rfl
              have h11 : BG w' (v 11) ((m 0 - f0) * (m 5 - f2)) := hd 11 (by kernel_rfl)
              have d11 : f.tmps[66]? = some (v 11) := hv 11 66 rfl
              clear hb hv hd
              refine wpOp_call rfl Tryd.call28 (args2 (eval_tmp d2) (eval_tmp d11)) (cmp_big _ _ (m 2 * m 2) ((m 0 - f0) * (m 5 - f2)) _ h2 h11 sq.out sp.out) ?_
              rintro e5 w5 ⟨rfl, hb5⟩
              exact ⟨_, rfl, _, rfl, hb5, rfl, fun h => absurd h (by decide)⟩
            · have d12 := got (hv 12 67 rfl) (hd 12 (by kernel_rfl))
              clear hb hv hd
              refine wpOp_step rfl fun K hK => ?_
              go_simp
              exact hK _ _ ⟨_, rfl, Below.refl _ _, rfl, fun h => absurd h (by decide)⟩
          · intro v w' hB hF hD
            have F0 : v 0 = _ := hF 0 (by simp)
            have F1 : v 1 = _ := hF 1 (by simp)
            have F2 : BG w' (v 2) (m 2 * m 2) := hF 2 (by simp)
            have F3 : v 3 = _ := hF 3 (by simp)
            have F4 : v 4 = _ := hF 4 (by simp)
            have F5 : v 5 = _ := hF 5 (by simp)
            have F6 : v 6 = _ := hF 6 (by simp)
            have F7 : v 7 = _ := hF 7 (by simp)
            have F8 : v 8 = _ := hF 8 (by simp)
            have F9 : v 9 = _ := hF 9 (by simp)
            have F10 : v 10 = _ := hF 10 (by simp)
            have F11 : BG w' (v 11) ((m 0 - f0) * (m 5 - f2)) := hF 11 (by simp)
            have F12 : v 12 = _ := hF 12 (by simp)
            have F13 : v 13 = _ := hF 13 (by simp)
            clear hF
            simp only [frOf, frGo, Nat.zero_add, Nat.reduceAdd, F0, F1, F3, F4, F5, F6, F7, F8, F9, F10, F12, F13]
            rw [List.drop_eq_nil_of_le (by simp)]
            refine wpList_end ?_
            simp only [Act.put, List.setIfInBounds_toArray, List.set_cons_zero, List.set_cons_succ]
            replace s1 := wj_keep s1 hB
            clear F0 F1 F3 F4 F5 F6 F7 F8 F9 F10 F12 F13 F2 F11 hD hB xb sm sq sp si sj h5 kX
            generalize v 2 = y2
            generalize v 11 = y11
            by_cases c02 : m 2 * m 2 ≤ (m 0 - f0) * (m 5 - f2)
            rotate_left
            · have E := Lib.hid (sndb_no (m := m) (f0 := f0) (f1 := f1) (f2 := f2) (fun h => c02 (cmm h.2.2.2.2.2.1)))
              have hq := cmp_gt c02
              have B9 := s1.1
              clear s1
              generalize cmp3 (m 2 * m 2) ((m 0 - f0) * (m 5 - f2)) = q at *
              clear c02
              go_wp2
              go_ret
              exact ⟨by rw [E.out]; rfl, B9⟩
            have hq := cmp_le c02
            generalize cmp3 (m 2 * m 2) ((m 0 - f0) * (m 5 - f2)) = q02 at *
            have C02 := Lib.hid c02
            clear c02
            go_wp2
            clear hq
            rw [rounds_succ]
            go_wp2
            rw [rounds_succ]
            go_wp2
            refine wp_loop_rounds 3 ?_
            have xb := fit_i64 (CA.out 4 (by decide))
            rw [rounds_succ]
            go_wp2_with fail
            refine (place_ok 1 2 4 (by decide) _).mono ?_
            rintro e5 w5 ⟨rfl, hb5⟩
            replace s1 := wj_keep s1 hb5
            clear hb5
            have cs := sc_six s1.2.1
            go_wp2_with fail
            refine (of_big (m 4) xb.1 xb.2 _).mono ?_
            rintro e5 w6 ⟨v5, rfl, h5, hb5⟩
            obtain ⟨nx, ax, kx, cx, rfl⟩ := bg_form h5
            replace s1 := wj_keep s1 hb5
            clear hb5 cs
            go_wp2
            replace s1 := wj_keep s1 (b_alloc (o := Obj.cells #[.bool nx, .slice ax kx cx] 63) (Below.refl _ _))
            replace h5 := bg_keep h5 (b_alloc (o := Obj.cells #[.bool nx, .slice ax kx cx] 63) (Below.refl _ _))
            have kX : BC (w6.alloc (Obj.cells #[.bool nx, .slice ax kx cx] 63)) w6.heap.size nx (.slice ax kx cx) := by simp [BC, go_sem]
            generalize w6.alloc (Obj.cells #[.bool nx, .slice ax kx cx] 63) = w7 at *
            generalize w6.heap.size = X at *
            have sm : Hid (Small (m 4)) := Lib.hid (small64 xb)
            have sq : Hid (Small (m 4 * m 4)) := Lib.hid (small128 (mul_fits xb.1 xb.2 xb.1 xb.2))
            have sp : Hid (Small ((m 3 - f1) * (m 5 - f2))) := Lib.hid (small128 (fits_prod (prod_fits ob1.1 ob1.2 ob2.1 ob2.2)))
            have si : Hid (Small (m 3 - f1)) := Lib.hid (small_of (by omega) (by omega))
            have sj : Hid (Small (m 5 - f2)) := Lib.hid (small_of (by omega) (by omega))
            refine region_each [55, 56, 57, 58, 59, 60, 61, 62, 63, 64, 65, 66, 67, 68] (fun i X_ U_ => match i with | 0 => X_ = .agg #[.bool nx, .slice ax kx cx] | 1 => X_ = .agg #[.bool nx, .slice ax kx cx] | 2 => BG U_ X_ (m 4 * m 4) | 3 => X_ = .slice (some ⟨g, 0, none⟩) 3 cap | 4 => X_ = .int .i64 1 | 5 => X_ = .pointer (some ⟨g, 2, none⟩) | 6 => X_ = .agg #[.bool n9_1, d9_1] | 7 => X_ = .slice (some ⟨g, 0, none⟩) 3 cap | 8 => X_ = .int .i64 2 | 9 => X_ = .pointer (some ⟨g, 4, none⟩) | 10 => X_ = .agg #[.bool n9_2, d9_2] | 11 => BG U_ X_ ((m 3 - f1) * (m 5 - f2)) | 12 => X_ = .int .i64 (cmp3 (m 4 * m 4) ((m 3 - f1) * (m 5 - f2))) | 13 => X_ = .bool (decide (0 < cmp3 (m 4 * m 4) ((m 3 - f1) * (m 5 - f2)))) | _ => True) (fun i => false) (by kernel_rfl) (by kernel_rfl) (by kernel_rfl) (by kernel_rfl) (by kernel_rfl) ?_ (fun i x w hi ha h => by cases ha) ?_ ?_
            · refine swp (upS (upS (upS (upS (upS (upS (upS (upS (upS (upS (upS (upS (upS (upS up0 ?_) ?_) ?_) ?_) ?_) ?_) ?_) ?_) ?_) ?_) ?_) ?_) ?_) ?_)
              · exact fun _ _ _ h _ => h
              · exact fun _ _ _ h _ => h
              · intro x w w' h hb; exact bg_keep h hb
              · exact fun _ _ _ h _ => h
              · exact fun _ _ _ h _ => h
              · exact fun _ _ _ h _ => h
              · exact fun _ _ _ h _ => h
              · exact fun _ _ _ h _ => h
              · exact fun _ _ _ h _ => h
              · exact fun _ _ _ h _ => h
              · exact fun _ _ _ h _ => h
              · intro x w w' h hb; exact bg_keep h hb
              · exact fun _ _ _ h _ => h
              · exact fun _ _ _ h _ => h
            · refine upS (upS (upS (upS (upS (upS (upS (upS (upS (upS (upS (upS (upS (upS up0 ?_) ?_) ?_) ?_) ?_) ?_) ?_) ?_) ?_) ?_) ?_) ?_) ?_) ?_
              all_goals intro v f w' hb hv hB hd
              · have b10 : f.tmps[10]? = some (.pointer (some ⟨X, 0, none⟩)) := (hb 10 (by decide)).trans rfl
                clear hb hv hd
                have c := bc_keep hB kX
                refine wpOp_step rfl fun K hK => ?_
                go_simp
                exact hK _ _ ⟨_, rfl, Below.refl _ _, rfl, fun h => absurd h (by decide)⟩
              · have b10 : f.tmps[10]? = some (.pointer (some ⟨X, 0, none⟩)) := (hb 10 (by decide)).trans rfl
                clear hb hv hd
                have c := bc_keep hB kX
                refine wpOp_step rfl fun K hK => ?_
                go_simp
                exact hK _ _ ⟨_, rfl, Below.refl _ _, rfl, fun h => absurd h (by decide)⟩
              · have d0 := got (hv 0 55 rfl) (hd 0 (by kernel_rfl))
                have d1 := got (hv 1 56 rfl) (hd 1 (by kernel_rfl))
                clear hb hv hd
                refine wpOp_call rfl Tryd.call29 (args2 (eval_tmp d0) (eval_tmp d1)) (mul_big _ _ (m 4) (m 4) _ (bg_keep h5 hB) (bg_keep h5 hB) sm.out sm.out) ?_
                rintro e w5 ⟨v5, rfl, h5, hb5⟩
                exact ⟨_, rfl, _, rfl, hb5, h5, fun h => absurd h (by decide)⟩
              · have b5 : f.tmps[5]? = some (.slice (some ⟨g, 0, none⟩) 3 cap) := (hb 5 (by decide)).trans rfl
                clear hb hv hd
                refine wpOp_step rfl fun K hK => ?_
                go_simp
                exact hK _ _ ⟨_, rfl, Below.refl _ _, rfl, fun h => absurd h (by decide)⟩
              · have b8 : f.tmps[8]? = some (.int .i64 1) := (hb 8 (by decide)).trans rfl
                clear hb hv hd
                refine wpOp_step rfl fun K hK => ?_
                go_simp
                exact hK _ _ ⟨_, rfl, Below.refl _ _, rfl, fun h => absurd h (by decide)⟩
              · have d3 := got (hv 3 58 rfl) (hd 3 (by kernel_rfl))
                have d4 := got (hv 4 59 rfl) (hd 4 (by kernel_rfl))
                clear hb hv hd
                refine wpOp_step rfl fun K hK => ?_
                go_simp
                exact hK _ _ ⟨_, rfl, Below.refl _ _, rfl, fun h => absurd h (by decide)⟩
              · have d5 := got (hv 5 60 rfl) (hd 5 (by kernel_rfl))
                clear hb hv hd
                have c := g6_keep hB s1.2.2.1
                refine wpOp_step rfl fun K hK => ?_
                go_simp
                exact hK _ _ ⟨_, rfl, Below.refl _ _, rfl, fun h => absurd h (by decide)⟩
              · have b5 : f.tmps[5]? = some (.slice (some ⟨g, 0, none⟩) 3 cap) := (hb 5 (by decide)).trans rfl
                clear hb hv hd
                refine wpOp_step rfl fun K hK => ?_
                go_simp
                exact hK _ _ ⟨_, rfl, Below.refl _ _, rfl, fun h => absurd h (by decide)⟩
              · have b9 : f.tmps[9]? = some (.int .i64 2) := (hb 9 (by decide)).trans rfl
                clear hb hv hd
                refine wpOp_step rfl fun K hK => ?_
                go_simp
                exact hK _ _ ⟨_, rfl, Below.refl _ _, rfl, fun h => absurd h (by decide)⟩
              · have d7 := got (hv 7 62 rfl) (hd 7 (by kernel_rfl))
                have d8 := got (hv 8 63 rfl) (hd 8 (by kernel_rfl))
                clear hb hv hd
                refine wpOp_step rfl fun K hK => ?_
                go_simp
                exact hK _ _ ⟨_, rfl, Below.refl _ _, rfl, fun h => absurd h (by decide)⟩
              · have d9_2 := got (hv 9 64 rfl) (hd 9 (by kernel_rfl))
                clear hb hv hd
                have c := g6_keep hB s1.2.2.1
                refine wpOp_step rfl fun K hK => ?_
                go_simp
                exact hK _ _ ⟨_, rfl, Below.refl _ _, rfl, fun h => absurd h (by decide)⟩
              · have d6 := got (hv 6 61 rfl) (hd 6 (by kernel_rfl))
                have d10 := got (hv 10 65 rfl) (hd 10 (by kernel_rfl))
                clear hb hv hd
                refine wpOp_call rfl Tryd.call29 (args2 (eval_tmp d6) (eval_tmp d10)) (mul_big _ _ (m 3 - f1) (m 5 - f2) _ (bg_keep s1.2.2.2.2.1 hB) (bg_keep s1.2.2.2.2.2 hB) si.out sj.out) ?_
                rintro e w5 ⟨v5, rfl, h5, hb5⟩
                exact ⟨_, rfl, _, rfl, hb5, h5, fun h => absurd h (by decide)⟩
              · have h2 : BG w' (v 2) (m 4 * m 4) := hd 2 (by kernel_rfl)
                have d2 : f.tmps[57]? = some (v 2) := hv 2 57 rfl
                have h11 : BG w' (v 11) ((m 3 - f1) * (m 5 - f2)) := hd 11 (by kernel_rfl)
                have d11 : f.tmps[66]? = some (v 11) := hv 11 66 rfl
                clear hb hv hd
                refine wpOp_call rfl Tryd.call28 (args2 (eval_tmp d2) (eval_tmp d11)) (cmp_big _ _ (m 4 * m 4) ((m 3 - f1) * (m 5 - f2)) _ h2 h11 sq.out sp.out) ?_
                rintro e5 w5 ⟨rfl, hb5⟩
                exact ⟨_, rfl, _, rfl, hb5, rfl, fun h => absurd h (by decide)⟩
              · have d12 := got (hv 12 67 rfl) (hd 12 (by kernel_rfl))
                clear hb hv hd
                refine wpOp_step rfl fun K hK => ?_
                go_simp
                exact hK _ _ ⟨_, rfl, Below.refl _ _, rfl, fun h => absurd h (by decide)⟩
            · intro v w' hB hF hD
              have F0 : v 0 = _ := hF 0 (by simp)
              have F1 : v 1 = _ := hF 1 (by simp)
              have F2 : BG w' (v 2) (m 4 * m 4) := hF 2 (by simp)
              have F3 : v 3 = _ := hF 3 (by simp)
              have F4 : v 4 = _ := hF 4 (by simp)
              have F5 : v 5 = _ := hF 5 (by simp)
              have F6 : v 6 = _ := hF 6 (by simp)
              have F7 : v 7 = _ := hF 7 (by simp)
              have F8 : v 8 = _ := hF 8 (by simp)
              have F9 : v 9 = _ := hF 9 (by simp)
              have F10 : v 10 = _ := hF 10 (by simp)
              have F11 : BG w' (v 11) ((m 3 - f1) * (m 5 - f2)) := hF 11 (by simp)
              have F12 : v 12 = _ := hF 12 (by simp)
              have F13 : v 13 = _ := hF 13 (by simp)
              clear hF
              simp only [frOf, frGo, Nat.zero_add, Nat.reduceAdd, F0, F1, F3, F4, F5, F6, F7, F8, F9, F10, F12, F13]
              rw [List.drop_eq_nil_of_le (by simp)]
              refine wpList_end ?_
              simp only [Act.put, List.setIfInBounds_toArray, List.set_cons_zero, List.set_cons_succ]
              replace s1 := wj_keep s1 hB
              clear F0 F1 F3 F4 F5 F6 F7 F8 F9 F10 F12 F13 F2 F11 hD hB xb sm sq sp si sj h5 kX
              generalize v 2 = y2
              generalize v 11 = y11
              by_cases c12 : m 4 * m 4 ≤ (m 3 - f1) * (m 5 - f2)
              rotate_left
              · have E := Lib.hid (sndb_no (m := m) (f0 := f0) (f1 := f1) (f2 := f2) (fun h => c12 (cmm h.2.2.2.2.2.2)))
                have hq := cmp_gt c12
                have B9 := s1.1
                clear s1
                generalize cmp3 (m 4 * m 4) ((m 3 - f1) * (m 5 - f2)) = q at *
                clear c12
                go_wp2
                go_ret
                exact ⟨by rw [E.out]; rfl, B9⟩
              have hq := cmp_le c12
              generalize cmp3 (m 4 * m 4) ((m 3 - f1) * (m 5 - f2)) = q12 at *
              have C12 := Lib.hid c12
              clear c12
              go_wp2
              clear hq
              have B9 := s1.1
              have E := Lib.hid (sndb_yes (m := m) (f0 := f0) (f1 := f1) (f2 := f2) ⟨CA.out, c0, c1, c2, cmm C01.out, cmm C02.out, cmm C12.out⟩)
              clear s1
              rw [rounds_succ]
              go_wp2
              rw [rounds_succ]
              go_wp2
              refine wp_loop_rounds 1 ?_
              rw [rounds_succ]
              go_wp2
              rw [rounds_succ]
              go_wp2
              go_ret
              exact ⟨by rw [E.out]; rfl, B9⟩
end Go.Proofs.YtppkmnigongpdaaDoor
