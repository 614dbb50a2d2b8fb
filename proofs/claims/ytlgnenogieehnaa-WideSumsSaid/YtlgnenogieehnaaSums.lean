/- WideSums: what the law's call answers: true, for every two wide numbers. -/
import Derived.Test.YtlgnenogieehnaaSame
namespace Go.Proofs.Ytlgnenogieehnaa
open Go.RowKit Go.Shelf

set_option maxHeartbeats 4000000 in
set_option maxRecDepth 10000 in
theorem wsums_any (ah al a bh bl b : Int) (x : IsW ah al a) (y : IsW bh bl b) (w : World) :
    Calls Try.prog 3 #[wv ah al, wv bh bl] w (RetV (.bool true) w) := by
  have a0 := x.fits.lo; have a1 := x.fits.hi; have b0 := y.fits.lo; have b1 := y.fits.hi
  go_enter Try.func3, Try.ntmps3
  go_wp2_with fail
  have B1 : Below w.heap.size w ((w.alloc (Obj.cells #[.int .i64 ah, .int .u64 al] 24)).alloc (Obj.cells #[.int .i64 bh, .int .u64 bl] 24)) := b_alloc (b_alloc (Below.refl _ _))
  have k1 : WC ((w.alloc (Obj.cells #[.int .i64 ah, .int .u64 al] 24)).alloc (Obj.cells #[.int .i64 bh, .int .u64 bl] 24)) w.heap.size ah al := by simp [WC, go_sem, World.cell?_alloc_past]
  have k2 : WC ((w.alloc (Obj.cells #[.int .i64 ah, .int .u64 al] 24)).alloc (Obj.cells #[.int .i64 bh, .int .u64 bl] 24)) (w.heap.size + 1) bh bl := by simp [WC, go_sem]
  have HS := Lib.hid (show ((w.alloc (Obj.cells #[.int .i64 ah, .int .u64 al] 24)).alloc (Obj.cells #[.int .i64 bh, .int .u64 bl] 24)).heap.size = w.heap.size + 1 + 1 by simp)
  generalize ((w.alloc (Obj.cells #[.int .i64 ah, .int .u64 al] 24)).alloc (Obj.cells #[.int .i64 bh, .int .u64 bl] 24)) = W0 at *
  refine region_each [11, 12, 13, 14, 5, 6] (fun i X_ U_ => match i with | 0 => X_ = wv ah al | 1 => BG U_ X_ (a) | 2 => X_ = wv bh bl | 3 => BG U_ X_ (b) | 4 => ∃ g, X_ = .pointer (some ⟨g, 0, none⟩) ∧ W0.heap.size ≤ g ∧ BV U_ g ∧ True | 5 => ∃ g, X_ = .pointer (some ⟨g, 0, none⟩) ∧ W0.heap.size ≤ g ∧ BV U_ g ∧ True | _ => True) (fun i => i == 4 || i == 5) (by kernel_rfl) (by kernel_rfl) (by kernel_rfl) (by kernel_rfl) (by kernel_rfl) ?_ ?_ ?_ ?_
  · intro i x w w' hi h hb
    match i, hi with
    | 0, _ => exact h
    | 1, _ => exact bg_keep h hb
    | 2, _ => exact h
    | 3, _ => exact bg_keep h hb
    | 4, _ => obtain ⟨g, e, hg, hc, _⟩ := h; exact ⟨g, e, hg, bv_keep hb hc, trivial⟩
    | 5, _ => obtain ⟨g, e, hg, hc, _⟩ := h; exact ⟨g, e, hg, bv_keep hb hc, trivial⟩
    | k + 6, hk => exact absurd hk (by simp)
  · intro i x w hi ha h
    match i, hi with
    | 0, _ => exact absurd ha (by decide)
    | 1, _ => exact absurd ha (by decide)
    | 2, _ => exact absurd ha (by decide)
    | 3, _ => exact absurd ha (by decide)
    | 4, _ => obtain ⟨g, rfl, _, hg, _⟩ := h; exact bv_lt hg
    | 5, _ => obtain ⟨g, rfl, _, hg, _⟩ := h; exact bv_lt hg
    | k + 6, hk => exact absurd hk (by simp)
  · intro i hi v f w' hb hv hB hd
    match i, hi with
    | 0, _ =>
      have b2 : f.tmps[2]? = some (.pointer (some ⟨w.heap.size, 0, none⟩)) := (hb 2 (by decide)).trans rfl
      clear hb hv hd
      have c := wc_keep hB k1
      refine wpOp_step rfl (fun K hK => ?_)
      go_simp
      exact hK _ _ ⟨_, rfl, Below.refl _ _, rfl, fun h => absurd h (by decide)⟩
    | 1, _ =>
      have h0 : (v 0) = wv ah al := hd 0 (by kernel_rfl)
      have d0 : f.tmps[11]? = some (wv ah al) := (hv 0 11 rfl).trans (congrArg some h0)
      clear h0
      clear hb hv hd
      refine wpOp_step rfl (fun K hK => ?_)
      go_simp
      refine (from_any ah al a x _).mono ?_
      rintro e w5 ⟨v5, rfl, h5, hb5⟩
      exact hK _ _ ⟨_, rfl, hb5, h5, fun h => absurd h (by decide)⟩
    | 2, _ =>
      have b3 : f.tmps[3]? = some (.pointer (some ⟨w.heap.size + 1, 0, none⟩)) := (hb 3 (by decide)).trans rfl
      clear hb hv hd
      have c := wc_keep hB k2
      refine wpOp_step rfl (fun K hK => ?_)
      go_simp
      exact hK _ _ ⟨_, rfl, Below.refl _ _, rfl, fun h => absurd h (by decide)⟩
    | 3, _ =>
      have h2 : (v 2) = wv bh bl := hd 2 (by kernel_rfl)
      have d2 : f.tmps[13]? = some (wv bh bl) := (hv 2 13 rfl).trans (congrArg some h2)
      clear h2
      clear hb hv hd
      refine wpOp_step rfl (fun K hK => ?_)
      go_simp
      refine (from_any bh bl b y _).mono ?_
      rintro e w5 ⟨v5, rfl, h5, hb5⟩
      exact hK _ _ ⟨_, rfl, hb5, h5, fun h => absurd h (by decide)⟩
    | 4, _ =>
      clear hb hv hd
      refine wpOp_step rfl (fun K hK => ?_)
      go_simp
      exact hK _ _ ⟨_, rfl, b_alloc (Below.refl _ _), ⟨_, rfl, hB.size, bv_new _ _ _ _ rfl, trivial⟩, fun _ => Nat.le_refl _⟩
    | 5, _ =>
      clear hb hv hd
      refine wpOp_step rfl (fun K hK => ?_)
      go_simp
      exact hK _ _ ⟨_, rfl, b_alloc (Below.refl _ _), ⟨_, rfl, hB.size, bv_new _ _ _ _ rfl, trivial⟩, fun _ => Nat.le_refl _⟩
    | k + 6, hk => exact absurd hk (by simp)
  · intro v w' hB hF hD
    have F0 : (v 0) = wv ah al := hF 0 (by simp)
    have F1 : BG w' (v 1) (a) := hF 1 (by simp)
    have F2 : (v 2) = wv bh bl := hF 2 (by simp)
    have F3 : BG w' (v 3) (b) := hF 3 (by simp)
    have F4 : ∃ g, (v 4) = .pointer (some ⟨g, 0, none⟩) ∧ W0.heap.size ≤ g ∧ BV w' g ∧ True := hF 4 (by simp)
    have F5 : ∃ g, (v 5) = .pointer (some ⟨g, 0, none⟩) ∧ W0.heap.size ≤ g ∧ BV w' g ∧ True := hF 5 (by simp)
    clear hF
    obtain ⟨n1_, a1_, k1_, c1_, e1⟩ := bg_form F1
    obtain ⟨n3_, a3_, k3_, c3_, e3⟩ := bg_form F3
    obtain ⟨g5, e4, p5, v5, _⟩ := F4
    obtain ⟨g6, e5, p6, v6, _⟩ := F5
    have dn : g5 ≠ g6 := by have := hD 4 5 (by decide) (by decide) rfl rfl (by decide); rw [e4, e5] at this; exact this
    rw [e1] at F1
    rw [e3] at F3
    simp only [frOf, frGo, Nat.zero_add, Nat.reduceAdd, F0, e1, F2, e3, e4, e5]
    have hs : W0.heap.size = w.heap.size + 1 + 1 := HS.out
    have B2 := b_set (p := ⟨g6, 1, none⟩) (v := .slice a3_ k3_ c3_) (b_set (p := ⟨g6, 0, none⟩) (v := .bool n3_) (b_set (p := ⟨g5, 1, none⟩) (v := .slice a1_ k1_ c1_) (b_set (p := ⟨g5, 0, none⟩) (v := .bool n1_) (b_trans B1 hB) (by show _ ≤ g5; omega)) (by show _ ≤ g5; omega)) (by show _ ≤ g6; omega)) (by show _ ≤ g6; omega)
    have q5 := vb_store v5 F1
    have q6 := vb_store (bv_other (u := .bool n1_) (u' := .slice a1_ k1_ c1_) v6 (fun h => dn h.symm)) (bg_store (u := .bool n1_) (u' := .slice a1_ k1_ c1_) v5 F3)
    have q5 := vb_other (u := .bool n3_) (u' := .slice a3_ k3_ c3_) (bv_other (u := .bool n1_) (u' := .slice a1_ k1_ c1_) v6 (fun h => dn h.symm)) q5 dn
    have k1 := wc_set (b1 := g6) (o := 1) (v := .slice a3_ k3_ c3_) (wc_set (b1 := g6) (o := 0) (v := .bool n3_) (wc_set (b1 := g5) (o := 1) (v := .slice a1_ k1_ c1_) (wc_set (b1 := g5) (o := 0) (v := .bool n1_) (wc_keep hB k1) (by omega)) (by omega)) (by omega)) (by omega)
    have k2 := wc_set (b1 := g6) (o := 1) (v := .slice a3_ k3_ c3_) (wc_set (b1 := g6) (o := 0) (v := .bool n3_) (wc_set (b1 := g5) (o := 1) (v := .slice a1_ k1_ c1_) (wc_set (b1 := g5) (o := 0) (v := .bool n1_) (wc_keep hB k2) (by omega)) (by omega)) (by omega)) (by omega)
    have KK := Lib.hid (And.intro k1 (And.intro k2 (And.intro q5 (And.intro q6 B2))))
    obtain ⟨_, _, _, _, u5, f5⟩ := bv_use v5
    obtain ⟨_, _, _, _, u6, f6⟩ := bv_use v6
    clear F0 F1 F2 F3 e1 e3 e4 e5 hB hD B1 B2 q5 q6 hs v v5 v6
    go_wp2_with fail
    obtain ⟨_, _, q5, q6, B2⟩ := KK.out
    refine (add_any ah al a bh bl b x y _).mono ?_
    rintro e w2 ⟨h7, l7, rfl, x7, hb7⟩
    have k1 := wc_keep hb7 k1
    have k2 := wc_keep hb7 k2
    have q5 := vb_keep q5 hb7
    have q6 := vb_keep q6 hb7
    have B2 := b_trans B2 hb7
    clear KK hb7 u5 f5 u6 f6
    generalize he7 : fe (a + b) = e7 at *
    have E7 := Lib.hid he7
    clear he7
    have B3 := b_alloc (o := Obj.cells #[.int .i64 h7, .int .u64 l7] 24) (Below.refl w2.heap.size w2)
    have KK := Lib.hid (And.intro (wc_keep B3 k1) (And.intro (wc_keep B3 k2) (And.intro (vb_keep q5 B3) (And.intro (vb_keep q6 B3) (b_trans B2 B3)))))
    clear B3 q5 q6 B2
    have k1' := k1
    have k2' := k2
    have k1 := KK.out.1
    have k2 := KK.out.2.1
    clear k1' k2'
    go_wp2_with fail
    obtain ⟨k1, k2, q5, q6, B2⟩ := KK.out
    have k7 : WC (w2.alloc (Obj.cells #[.int .i64 h7, .int .u64 l7] 24)) w2.heap.size h7 l7 := by simp [WC, go_sem]
    refine (sub_any ah al a bh bl b x y _).mono ?_
    rintro e w3 ⟨h9, l9, rfl, x9, hb9⟩
    have k1 := wc_keep hb9 k1
    have k2 := wc_keep hb9 k2
    have k7 := wc_keep hb9 k7
    have q5 := vb_keep q5 hb9
    have q6 := vb_keep q6 hb9
    have B2 := b_trans B2 hb9
    clear KK hb9
    generalize he9 : fe (a - b) = e9 at *
    have E9 := Lib.hid he9
    clear he9
    go_wp2_with fail
    have B3 := b_alloc (o := Obj.cells #[.int .i64 h9, .int .u64 l9] 24) (Below.refl w3.heap.size w3)
    have k1 := wc_keep B3 k1
    have k2 := wc_keep B3 k2
    have k7 := wc_keep B3 k7
    have q5 := vb_keep q5 B3
    have q6 := vb_keep q6 B3
    have B4 := b_trans B2 B3
    have k9 : WC (w3.alloc (Obj.cells #[.int .i64 h9, .int .u64 l9] 24)) w3.heap.size h9 l9 := by simp [WC, go_sem]
    clear B3 B2
    generalize w3.alloc (Obj.cells #[.int .i64 h9, .int .u64 l9] 24) = W4 at *
    generalize w3.heap.size = g9 at *
    generalize w2.heap.size = g7 at *
    obtain ⟨n5, a5, l5, c5, k5, f5, g5'⟩ := vb_use q5
    obtain ⟨n6, a6, l6, c6, k6, f6, g6'⟩ := vb_use q6
    clear q5 q6 f5 f6
    refine region_each [27, 28, 29, 30, 31, 32, 33, 34, 35, 36, 37, 38, 39, 40, 41, 42, 43, 44, 45, 46, 47, 48, 49, 50, 51, 52] (fun i X_ U_ => match i with | 0 => X_ = .bool true | 1 => X_ = .bool true | 2 => X_ = wv h7 l7 | 3 => X_ = .int .i64 e7 | 4 => X_ = .agg #[.bool n5, .slice a5 l5 c5] | 5 => X_ = .agg #[.bool n6, .slice a6 l6 c6] | 6 => BG U_ X_ (a + b) | 7 => X_ = .bool true | 8 => X_ = .bool true | 9 => X_ = .bool true | 10 => X_ = wv h9 l9 | 11 => X_ = .int .i64 e9 | 12 => X_ = .agg #[.bool n5, .slice a5 l5 c5] | 13 => X_ = .agg #[.bool n6, .slice a6 l6 c6] | 14 => BG U_ X_ (a - b) | 15 => X_ = .bool true | 16 => X_ = .bool true | 17 => X_ = .bool true | 18 => X_ = wv ah al | 19 => X_ = wv bh bl | 20 => X_ = .int .i64 (cmp3 a b) | 21 => X_ = .agg #[.bool n5, .slice a5 l5 c5] | 22 => X_ = .agg #[.bool n6, .slice a6 l6 c6] | 23 => X_ = .int .i64 (cmp3 a b) | 24 => X_ = .bool true | 25 => X_ = .bool true | _ => True) (fun i => false) (by kernel_rfl) (by kernel_rfl) (by kernel_rfl) (by kernel_rfl) (by kernel_rfl) ?_ ?_ ?_ ?_
    · intro i x w w' hi h hb
      match i, hi with
      | 0, _ => exact h
      | 1, _ => exact h
      | 2, _ => exact h
      | 3, _ => exact h
      | 4, _ => exact h
      | 5, _ => exact h
      | 6, _ => exact bg_keep h hb
      | 7, _ => exact h
      | 8, _ => exact h
      | 9, _ => exact h
      | 10, _ => exact h
      | 11, _ => exact h
      | 12, _ => exact h
      | 13, _ => exact h
      | 14, _ => exact bg_keep h hb
      | 15, _ => exact h
      | 16, _ => exact h
      | 17, _ => exact h
      | 18, _ => exact h
      | 19, _ => exact h
      | 20, _ => exact h
      | 21, _ => exact h
      | 22, _ => exact h
      | 23, _ => exact h
      | 24, _ => exact h
      | 25, _ => exact h
      | k + 26, hk => exact absurd hk (by simp)
    · intro i x w hi ha h
      cases ha
    · intro i hi v f w' hb hv hB hd
      match i, hi with
      | 0, _ =>
        clear hb hv hd
        refine wpOp_step rfl (fun K hK => ?_)
        go_simp
        refine (fixed_any _).mono ?_
        rintro e w5 ⟨rfl, hb5⟩
        exact hK _ _ ⟨_, rfl, hb5, rfl, fun h => absurd h (by decide)⟩
      | 1, _ =>
        have h0 : (v 0) = .bool true := hd 0 (by kernel_rfl)
        have d0 : f.tmps[27]? = some (.bool true) := (hv 0 27 rfl).trans (congrArg some h0)
        clear h0
        clear hb hv hd
        refine wpOp_step rfl (fun K hK => ?_)
        go_simp
        exact hK _ _ ⟨_, rfl, Below.refl _ _, rfl, fun h => absurd h (by decide)⟩
      | 2, _ =>
        have b7 : f.tmps[7]? = some (.pointer (some ⟨g7, 0, none⟩)) := (hb 7 (by decide)).trans rfl
        have h1 : (v 1) = .bool true := hd 1 (by kernel_rfl)
        have d1 : f.tmps[28]? = some (.bool true) := (hv 1 28 rfl).trans (congrArg some h1)
        clear h1
        clear hb hv hd
        have c := wc_keep hB k7
        refine wpOp_step rfl (fun K hK => ?_)
        go_simp
        exact hK _ _ ⟨_, rfl, Below.refl _ _, rfl, fun h => absurd h (by decide)⟩
      | 3, _ =>
        have b8 : f.tmps[8]? = some (.int .i64 e7) := (hb 8 (by decide)).trans rfl
        have h1 : (v 1) = .bool true := hd 1 (by kernel_rfl)
        have d1 : f.tmps[28]? = some (.bool true) := (hv 1 28 rfl).trans (congrArg some h1)
        clear h1
        clear hb hv hd
        refine wpOp_step rfl (fun K hK => ?_)
        go_simp
        exact hK _ _ ⟨_, rfl, Below.refl _ _, rfl, fun h => absurd h (by decide)⟩
      | 4, _ =>
        have b5 : f.tmps[5]? = some (.pointer (some ⟨g5, 0, none⟩)) := (hb 5 (by decide)).trans rfl
        have h1 : (v 1) = .bool true := hd 1 (by kernel_rfl)
        have d1 : f.tmps[28]? = some (.bool true) := (hv 1 28 rfl).trans (congrArg some h1)
        clear h1
        clear hb hv hd
        have c := bc_keep hB k5
        refine wpOp_step rfl (fun K hK => ?_)
        go_simp
        exact hK _ _ ⟨_, rfl, Below.refl _ _, rfl, fun h => absurd h (by decide)⟩
      | 5, _ =>
        have b6 : f.tmps[6]? = some (.pointer (some ⟨g6, 0, none⟩)) := (hb 6 (by decide)).trans rfl
        have h1 : (v 1) = .bool true := hd 1 (by kernel_rfl)
        have d1 : f.tmps[28]? = some (.bool true) := (hv 1 28 rfl).trans (congrArg some h1)
        clear h1
        clear hb hv hd
        have c := bc_keep hB k6
        refine wpOp_step rfl (fun K hK => ?_)
        go_simp
        exact hK _ _ ⟨_, rfl, Below.refl _ _, rfl, fun h => absurd h (by decide)⟩
      | 6, _ =>
        have h4 : (v 4) = .agg #[.bool n5, .slice a5 l5 c5] := hd 4 (by kernel_rfl)
        have d4 : f.tmps[31]? = some (.agg #[.bool n5, .slice a5 l5 c5]) := (hv 4 31 rfl).trans (congrArg some h4)
        clear h4
        have h5 : (v 5) = .agg #[.bool n6, .slice a6 l6 c6] := hd 5 (by kernel_rfl)
        have d5 : f.tmps[32]? = some (.agg #[.bool n6, .slice a6 l6 c6]) := (hv 5 32 rfl).trans (congrArg some h5)
        clear h5
        have h1 : (v 1) = .bool true := hd 1 (by kernel_rfl)
        have d1 : f.tmps[28]? = some (.bool true) := (hv 1 28 rfl).trans (congrArg some h1)
        clear h1
        clear hb hv hd
        refine wpOp_step rfl (fun K hK => ?_)
        go_simp
        refine (add_big _ _ a b _ (bg_keep g5' hB) (bg_keep g6' hB) (small_of (by omega) (by omega)) (small_of (by omega) (by omega))).mono ?_
        rintro e w5 ⟨v5, rfl, h5, hb5⟩
        exact hK _ _ ⟨_, rfl, hb5, h5, fun h => absurd h (by decide)⟩
      | 7, _ =>
        have h2 : (v 2) = wv h7 l7 := hd 2 (by kernel_rfl)
        have d2 : f.tmps[29]? = some (wv h7 l7) := (hv 2 29 rfl).trans (congrArg some h2)
        clear h2
        have h3 : (v 3) = .int .i64 e7 := hd 3 (by kernel_rfl)
        have d3 : f.tmps[30]? = some (.int .i64 e7) := (hv 3 30 rfl).trans (congrArg some h3)
        clear h3
        have h6 : BG w' (v 6) (a + b) := hd 6 (by kernel_rfl)
        have d6 : f.tmps[33]? = some (v 6) := hv 6 33 rfl
        have h1 : (v 1) = .bool true := hd 1 (by kernel_rfl)
        have d1 : f.tmps[28]? = some (.bool true) := (hv 1 28 rfl).trans (congrArg some h1)
        clear h1
        clear hb hv hd
        refine wpOp_step rfl (fun K hK => ?_)
        go_simp
        refine (same_true h7 l7 (a + b) e7 x7 E7.out _ _ h6 ⟨by omega, by omega⟩).mono ?_
        rintro e w5 ⟨rfl, hb5⟩
        exact hK _ _ ⟨_, rfl, hb5, rfl, fun h => absurd h (by decide)⟩
      | 8, _ =>
        have h1 : (v 1) = .bool true := hd 1 (by kernel_rfl)
        have d1 : f.tmps[28]? = some (.bool true) := (hv 1 28 rfl).trans (congrArg some h1)
        clear h1
        have h7 : (v 7) = .bool true := hd 7 (by kernel_rfl)
        have d7 : f.tmps[34]? = some (.bool true) := (hv 7 34 rfl).trans (congrArg some h7)
        clear h7
        clear hb hv hd
        refine wpOp_step rfl (fun K hK => ?_)
        go_simp
        exact hK _ _ ⟨_, rfl, Below.refl _ _, rfl, fun h => absurd h (by decide)⟩
      | 9, _ =>
        have h8 : (v 8) = .bool true := hd 8 (by kernel_rfl)
        have d8 : f.tmps[35]? = some (.bool true) := (hv 8 35 rfl).trans (congrArg some h8)
        clear h8
        clear hb hv hd
        refine wpOp_step rfl (fun K hK => ?_)
        go_simp
        exact hK _ _ ⟨_, rfl, Below.refl _ _, rfl, fun h => absurd h (by decide)⟩
      | 10, _ =>
        have b9 : f.tmps[9]? = some (.pointer (some ⟨g9, 0, none⟩)) := (hb 9 (by decide)).trans rfl
        have h9 : (v 9) = .bool true := hd 9 (by kernel_rfl)
        have d9 : f.tmps[36]? = some (.bool true) := (hv 9 36 rfl).trans (congrArg some h9)
        clear h9
        clear hb hv hd
        have c := wc_keep hB k9
        refine wpOp_step rfl (fun K hK => ?_)
        go_simp
        exact hK _ _ ⟨_, rfl, Below.refl _ _, rfl, fun h => absurd h (by decide)⟩
      | 11, _ =>
        have b10 : f.tmps[10]? = some (.int .i64 e9) := (hb 10 (by decide)).trans rfl
        have h9 : (v 9) = .bool true := hd 9 (by kernel_rfl)
        have d9 : f.tmps[36]? = some (.bool true) := (hv 9 36 rfl).trans (congrArg some h9)
        clear h9
        clear hb hv hd
        refine wpOp_step rfl (fun K hK => ?_)
        go_simp
        exact hK _ _ ⟨_, rfl, Below.refl _ _, rfl, fun h => absurd h (by decide)⟩
      | 12, _ =>
        have b5 : f.tmps[5]? = some (.pointer (some ⟨g5, 0, none⟩)) := (hb 5 (by decide)).trans rfl
        have h9 : (v 9) = .bool true := hd 9 (by kernel_rfl)
        have d9 : f.tmps[36]? = some (.bool true) := (hv 9 36 rfl).trans (congrArg some h9)
        clear h9
        clear hb hv hd
        have c := bc_keep hB k5
        refine wpOp_step rfl (fun K hK => ?_)
        go_simp
        exact hK _ _ ⟨_, rfl, Below.refl _ _, rfl, fun h => absurd h (by decide)⟩
      | 13, _ =>
        have b6 : f.tmps[6]? = some (.pointer (some ⟨g6, 0, none⟩)) := (hb 6 (by decide)).trans rfl
        have h9 : (v 9) = .bool true := hd 9 (by kernel_rfl)
        have d9 : f.tmps[36]? = some (.bool true) := (hv 9 36 rfl).trans (congrArg some h9)
        clear h9
        clear hb hv hd
        have c := bc_keep hB k6
        refine wpOp_step rfl (fun K hK => ?_)
        go_simp
        exact hK _ _ ⟨_, rfl, Below.refl _ _, rfl, fun h => absurd h (by decide)⟩
      | 14, _ =>
        have h12 : (v 12) = .agg #[.bool n5, .slice a5 l5 c5] := hd 12 (by kernel_rfl)
        have d12 : f.tmps[39]? = some (.agg #[.bool n5, .slice a5 l5 c5]) := (hv 12 39 rfl).trans (congrArg some h12)
        clear h12
        have h13 : (v 13) = .agg #[.bool n6, .slice a6 l6 c6] := hd 13 (by kernel_rfl)
        have d13 : f.tmps[40]? = some (.agg #[.bool n6, .slice a6 l6 c6]) := (hv 13 40 rfl).trans (congrArg some h13)
        clear h13
        have h9 : (v 9) = .bool true := hd 9 (by kernel_rfl)
        have d9 : f.tmps[36]? = some (.bool true) := (hv 9 36 rfl).trans (congrArg some h9)
        clear h9
        clear hb hv hd
        refine wpOp_step rfl (fun K hK => ?_)
        go_simp
        refine (sub_big _ _ a b _ (bg_keep g5' hB) (bg_keep g6' hB) (small_of (by omega) (by omega)) (small_of (by omega) (by omega))).mono ?_
        rintro e w5 ⟨v5, rfl, h5, hb5⟩
        exact hK _ _ ⟨_, rfl, hb5, h5, fun h => absurd h (by decide)⟩
      | 15, _ =>
        have h10 : (v 10) = wv h9 l9 := hd 10 (by kernel_rfl)
        have d10 : f.tmps[37]? = some (wv h9 l9) := (hv 10 37 rfl).trans (congrArg some h10)
        clear h10
        have h11 : (v 11) = .int .i64 e9 := hd 11 (by kernel_rfl)
        have d11 : f.tmps[38]? = some (.int .i64 e9) := (hv 11 38 rfl).trans (congrArg some h11)
        clear h11
        have h14 : BG w' (v 14) (a - b) := hd 14 (by kernel_rfl)
        have d14 : f.tmps[41]? = some (v 14) := hv 14 41 rfl
        have h9 : (v 9) = .bool true := hd 9 (by kernel_rfl)
        have d9 : f.tmps[36]? = some (.bool true) := (hv 9 36 rfl).trans (congrArg some h9)
        clear h9
        clear hb hv hd
        refine wpOp_step rfl (fun K hK => ?_)
        go_simp
        refine (same_true h9 l9 (a - b) e9 x9 E9.out _ _ h14 ⟨by omega, by omega⟩).mono ?_
        rintro e w5 ⟨rfl, hb5⟩
        exact hK _ _ ⟨_, rfl, hb5, rfl, fun h => absurd h (by decide)⟩
      | 16, _ =>
        have h9 : (v 9) = .bool true := hd 9 (by kernel_rfl)
        have d9 : f.tmps[36]? = some (.bool true) := (hv 9 36 rfl).trans (congrArg some h9)
        clear h9
        have h15 : (v 15) = .bool true := hd 15 (by kernel_rfl)
        have d15 : f.tmps[42]? = some (.bool true) := (hv 15 42 rfl).trans (congrArg some h15)
        clear h15
        clear hb hv hd
        refine wpOp_step rfl (fun K hK => ?_)
        go_simp
        exact hK _ _ ⟨_, rfl, Below.refl _ _, rfl, fun h => absurd h (by decide)⟩
      | 17, _ =>
        have h16 : (v 16) = .bool true := hd 16 (by kernel_rfl)
        have d16 : f.tmps[43]? = some (.bool true) := (hv 16 43 rfl).trans (congrArg some h16)
        clear h16
        clear hb hv hd
        refine wpOp_step rfl (fun K hK => ?_)
        go_simp
        exact hK _ _ ⟨_, rfl, Below.refl _ _, rfl, fun h => absurd h (by decide)⟩
      | 18, _ =>
        have b2 : f.tmps[2]? = some (.pointer (some ⟨w.heap.size, 0, none⟩)) := (hb 2 (by decide)).trans rfl
        have h17 : (v 17) = .bool true := hd 17 (by kernel_rfl)
        have d17 : f.tmps[44]? = some (.bool true) := (hv 17 44 rfl).trans (congrArg some h17)
        clear h17
        clear hb hv hd
        have c := wc_keep hB k1
        refine wpOp_step rfl (fun K hK => ?_)
        go_simp
        exact hK _ _ ⟨_, rfl, Below.refl _ _, rfl, fun h => absurd h (by decide)⟩
      | 19, _ =>
        have b3 : f.tmps[3]? = some (.pointer (some ⟨w.heap.size + 1, 0, none⟩)) := (hb 3 (by decide)).trans rfl
        have h17 : (v 17) = .bool true := hd 17 (by kernel_rfl)
        have d17 : f.tmps[44]? = some (.bool true) := (hv 17 44 rfl).trans (congrArg some h17)
        clear h17
        clear hb hv hd
        have c := wc_keep hB k2
        refine wpOp_step rfl (fun K hK => ?_)
        go_simp
        exact hK _ _ ⟨_, rfl, Below.refl _ _, rfl, fun h => absurd h (by decide)⟩
      | 20, _ =>
        have h18 : (v 18) = wv ah al := hd 18 (by kernel_rfl)
        have d18 : f.tmps[45]? = some (wv ah al) := (hv 18 45 rfl).trans (congrArg some h18)
        clear h18
        have h19 : (v 19) = wv bh bl := hd 19 (by kernel_rfl)
        have d19 : f.tmps[46]? = some (wv bh bl) := (hv 19 46 rfl).trans (congrArg some h19)
        clear h19
        have h17 : (v 17) = .bool true := hd 17 (by kernel_rfl)
        have d17 : f.tmps[44]? = some (.bool true) := (hv 17 44 rfl).trans (congrArg some h17)
        clear h17
        clear hb hv hd
        refine wpOp_step rfl (fun K hK => ?_)
        go_simp
        refine (cmp_any ah al a bh bl b x y _).mono ?_
        rintro e w5 ⟨rfl, hb5⟩
        exact hK _ _ ⟨_, rfl, hb5, rfl, fun h => absurd h (by decide)⟩
      | 21, _ =>
        have b5 : f.tmps[5]? = some (.pointer (some ⟨g5, 0, none⟩)) := (hb 5 (by decide)).trans rfl
        have h17 : (v 17) = .bool true := hd 17 (by kernel_rfl)
        have d17 : f.tmps[44]? = some (.bool true) := (hv 17 44 rfl).trans (congrArg some h17)
        clear h17
        clear hb hv hd
        have c := bc_keep hB k5
        refine wpOp_step rfl (fun K hK => ?_)
        go_simp
        exact hK _ _ ⟨_, rfl, Below.refl _ _, rfl, fun h => absurd h (by decide)⟩
      | 22, _ =>
        have b6 : f.tmps[6]? = some (.pointer (some ⟨g6, 0, none⟩)) := (hb 6 (by decide)).trans rfl
        have h17 : (v 17) = .bool true := hd 17 (by kernel_rfl)
        have d17 : f.tmps[44]? = some (.bool true) := (hv 17 44 rfl).trans (congrArg some h17)
        clear h17
        clear hb hv hd
        have c := bc_keep hB k6
        refine wpOp_step rfl (fun K hK => ?_)
        go_simp
        exact hK _ _ ⟨_, rfl, Below.refl _ _, rfl, fun h => absurd h (by decide)⟩
      | 23, _ =>
        have h21 : (v 21) = .agg #[.bool n5, .slice a5 l5 c5] := hd 21 (by kernel_rfl)
        have d21 : f.tmps[48]? = some (.agg #[.bool n5, .slice a5 l5 c5]) := (hv 21 48 rfl).trans (congrArg some h21)
        clear h21
        have h22 : (v 22) = .agg #[.bool n6, .slice a6 l6 c6] := hd 22 (by kernel_rfl)
        have d22 : f.tmps[49]? = some (.agg #[.bool n6, .slice a6 l6 c6]) := (hv 22 49 rfl).trans (congrArg some h22)
        clear h22
        have h17 : (v 17) = .bool true := hd 17 (by kernel_rfl)
        have d17 : f.tmps[44]? = some (.bool true) := (hv 17 44 rfl).trans (congrArg some h17)
        clear h17
        clear hb hv hd
        refine wpOp_step rfl (fun K hK => ?_)
        go_simp
        refine (cmp_big _ _ a b _ (bg_keep g5' hB) (bg_keep g6' hB) (small_of (by omega) (by omega)) (small_of (by omega) (by omega))).mono ?_
        rintro e w5 ⟨rfl, hb5⟩
        exact hK _ _ ⟨_, rfl, hb5, rfl, fun h => absurd h (by decide)⟩
      | 24, _ =>
        have h20 : (v 20) = .int .i64 (cmp3 a b) := hd 20 (by kernel_rfl)
        have d20 : f.tmps[47]? = some (.int .i64 (cmp3 a b)) := (hv 20 47 rfl).trans (congrArg some h20)
        clear h20
        have h23 : (v 23) = .int .i64 (cmp3 a b) := hd 23 (by kernel_rfl)
        have d23 : f.tmps[50]? = some (.int .i64 (cmp3 a b)) := (hv 23 50 rfl).trans (congrArg some h23)
        clear h23
        have h17 : (v 17) = .bool true := hd 17 (by kernel_rfl)
        have d17 : f.tmps[44]? = some (.bool true) := (hv 17 44 rfl).trans (congrArg some h17)
        clear h17
        clear hb hv hd
        refine wpOp_step rfl (fun K hK => ?_)
        go_simp
        exact hK _ _ ⟨_, rfl, Below.refl _ _, by simp, fun h => absurd h (by decide)⟩
      | 25, _ =>
        have h17 : (v 17) = .bool true := hd 17 (by kernel_rfl)
        have d17 : f.tmps[44]? = some (.bool true) := (hv 17 44 rfl).trans (congrArg some h17)
        clear h17
        have h24 : (v 24) = .bool true := hd 24 (by kernel_rfl)
        have d24 : f.tmps[51]? = some (.bool true) := (hv 24 51 rfl).trans (congrArg some h24)
        clear h24
        clear hb hv hd
        refine wpOp_step rfl (fun K hK => ?_)
        go_simp
        exact hK _ _ ⟨_, rfl, Below.refl _ _, rfl, fun h => absurd h (by decide)⟩
      | k + 26, hk => exact absurd hk (by simp)
    · intro v w' hB hF hD
      have F0 : (v 0) = .bool true := hF 0 (by simp)
      have F1 : (v 1) = .bool true := hF 1 (by simp)
      have F2 : (v 2) = wv h7 l7 := hF 2 (by simp)
      have F3 : (v 3) = .int .i64 e7 := hF 3 (by simp)
      have F4 : (v 4) = .agg #[.bool n5, .slice a5 l5 c5] := hF 4 (by simp)
      have F5 : (v 5) = .agg #[.bool n6, .slice a6 l6 c6] := hF 5 (by simp)
      have F6 : BG w' (v 6) (a + b) := hF 6 (by simp)
      have F7 : (v 7) = .bool true := hF 7 (by simp)
      have F8 : (v 8) = .bool true := hF 8 (by simp)
      have F9 : (v 9) = .bool true := hF 9 (by simp)
      have F10 : (v 10) = wv h9 l9 := hF 10 (by simp)
      have F11 : (v 11) = .int .i64 e9 := hF 11 (by simp)
      have F12 : (v 12) = .agg #[.bool n5, .slice a5 l5 c5] := hF 12 (by simp)
      have F13 : (v 13) = .agg #[.bool n6, .slice a6 l6 c6] := hF 13 (by simp)
      have F14 : BG w' (v 14) (a - b) := hF 14 (by simp)
      have F15 : (v 15) = .bool true := hF 15 (by simp)
      have F16 : (v 16) = .bool true := hF 16 (by simp)
      have F17 : (v 17) = .bool true := hF 17 (by simp)
      have F18 : (v 18) = wv ah al := hF 18 (by simp)
      have F19 : (v 19) = wv bh bl := hF 19 (by simp)
      have F20 : (v 20) = .int .i64 (cmp3 a b) := hF 20 (by simp)
      have F21 : (v 21) = .agg #[.bool n5, .slice a5 l5 c5] := hF 21 (by simp)
      have F22 : (v 22) = .agg #[.bool n6, .slice a6 l6 c6] := hF 22 (by simp)
      have F23 : (v 23) = .int .i64 (cmp3 a b) := hF 23 (by simp)
      have F24 : (v 24) = .bool true := hF 24 (by simp)
      have F25 : (v 25) = .bool true := hF 25 (by simp)
      clear hF
      obtain ⟨n6_, a6_, k6_, c6_, e6⟩ := bg_form F6
      obtain ⟨n14_, a14_, k14_, c14_, e14⟩ := bg_form F14
      simp only [frOf, frGo, Nat.zero_add, Nat.reduceAdd, F0, F1, F2, F3, F4, F5, e6, F7, F8, F9, F10, F11, F12, F13, e14, F15, F16, F17, F18, F19, F20, F21, F22, F23, F24, F25]
      have B5 := b_trans B4 hB
      clear F0 F1 F2 F3 F4 F5 F6 F7 F8 F9 F10 F11 F12 F13 F14 F15 F16 F17 F18 F19 F20 F21 F22 F23 F24 F25 hB hD e6 e14 B4 k1 k2 k7 k9 k5 k6
      go_wp2
      go_ret
      exact ⟨rfl, B5⟩

end Go.Proofs.Ytlgnenogieehnaa
