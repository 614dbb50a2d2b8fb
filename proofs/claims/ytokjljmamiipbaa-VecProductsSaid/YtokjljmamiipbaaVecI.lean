/- Rows: Dot of the document. -/
import Derived.Test.YtokjljmamiipbaaVecE
import Derived.Test.YtokjljmamiipbaaFixE
namespace Go.Proofs.Ytokjljmamiipbaa
open Go.RowKit Go.Shelf

/-- A call's two rows, which stay, and its sum, a whole number, which is written. -/
structure GS (w : World) (A B S : Nat) (a0 a1 a2 b0 b1 b2 z : Int) (U : World) : Prop where
  b : Below w.heap.size w U
  ka : TC U A a0 a1 a2
  kb : TC U B b0 b1 b2
  vs : VB U S z
theorem gs_put {w U : World} {A B S : Nat} {a0 a1 a2 b0 b1 b2 z z' : Int} {n : Bool} {a : Option Addr} {k c : Nat} (s : GS w A B S a0 a1 a2 b0 b1 b2 z U) (g : BG U (.agg #[.bool n, .slice a k c]) z') (nA : S ≠ A) (nB : S ≠ B) (h : w.heap.size ≤ S) :
    GS w A B S a0 a1 a2 b0 b1 b2 z' ((U.setCell ⟨S, 0, none⟩ (.bool n)).setCell ⟨S, 1, none⟩ (.slice a k c)) :=
  ⟨b_set (b_set s.b h) h, tc_set (tc_set s.ka nA) nA, tc_set (tc_set s.kb nB) nB, vb_store (vb_bv s.vs) g⟩
theorem gs_keep {w U U' : World} {A B S : Nat} {a0 a1 a2 b0 b1 b2 z : Int} (s : GS w A B S a0 a1 a2 b0 b1 b2 z U) (hb : Below U.heap.size U U') : GS w A B S a0 a1 a2 b0 b1 b2 z U' :=
  ⟨b_trans s.b hb, tc_keep hb s.ka, tc_keep hb s.kb, vb_keep s.vs hb⟩

set_option maxHeartbeats 1000000 in
theorem dot_ref_bad (a0 a1 a2 b0 b1 b2 : Int) (ha0 : I64 a0) (ha1 : I64 a1) (ha2 : I64 a2) (hb0 : I64 b0) (hb1 : I64 b1) (hb2 : I64 b2) (c : ¬ (F3 a0 a1 a2 ∧ F3 b0 b1 b2)) (w : World) :
    Calls Try.prog 17 #[tv a0 a1 a2, tv b0 b1 b2] w (RetV (.tuple #[.int .i64 0, .int .i64 1]) w) := by
  by_cases ca : F3 a0 a1 a2
  · have ea := Lib.hid (f3b_yes ca)
    have eb := Lib.hid (f3b_no (fun h => c ⟨ca, h⟩))
    clear ca c
    have kA : TC ((w.alloc (Obj.cells #[.int .i64 a0, .int .i64 a1, .int .i64 a2] 23)).alloc (Obj.cells #[.int .i64 b0, .int .i64 b1, .int .i64 b2] 23)) (w.heap.size) a0 a1 a2 := tc_alloc (tc_new rfl)
    have kB : TC ((w.alloc (Obj.cells #[.int .i64 a0, .int .i64 a1, .int .i64 a2] 23)).alloc (Obj.cells #[.int .i64 b0, .int .i64 b1, .int .i64 b2] 23)) (w.heap.size + 1) b0 b1 b2 := tc_new (by simp)
    have B0 : Below w.heap.size w ((w.alloc (Obj.cells #[.int .i64 a0, .int .i64 a1, .int .i64 a2] 23)).alloc (Obj.cells #[.int .i64 b0, .int .i64 b1, .int .i64 b2] 23)) := b_alloc (b_alloc (Below.refl _ _))
    go_enter Try.func17, Try.ntmps17
    go_wp2_with fail
    refine (fits3_ref a0 a1 a2 ha0 ha1 ha2 _).mono ?_
    rintro e1 w1 ⟨rfl, hb9⟩
    rw [ea.out]
    replace kA := tc_keep hb9 kA
    replace kB := tc_keep hb9 kB
    replace B0 := b_trans B0 hb9
    clear hb9
    go_wp2_with fail
    refine (fits3_ref b0 b1 b2 hb0 hb1 hb2 _).mono ?_
    rintro e2 w2 ⟨rfl, hb9⟩
    rw [eb.out]
    replace kA := tc_keep hb9 kA
    replace kB := tc_keep hb9 kB
    replace B0 := b_trans B0 hb9
    clear hb9
    clear kA kB
    go_wp2
    go_ret2
    exact ⟨rfl, B0⟩
  · have ea := Lib.hid (f3b_no ca)
    clear ca c
    have kA : TC ((w.alloc (Obj.cells #[.int .i64 a0, .int .i64 a1, .int .i64 a2] 23)).alloc (Obj.cells #[.int .i64 b0, .int .i64 b1, .int .i64 b2] 23)) (w.heap.size) a0 a1 a2 := tc_alloc (tc_new rfl)
    have kB : TC ((w.alloc (Obj.cells #[.int .i64 a0, .int .i64 a1, .int .i64 a2] 23)).alloc (Obj.cells #[.int .i64 b0, .int .i64 b1, .int .i64 b2] 23)) (w.heap.size + 1) b0 b1 b2 := tc_new (by simp)
    have B0 : Below w.heap.size w ((w.alloc (Obj.cells #[.int .i64 a0, .int .i64 a1, .int .i64 a2] 23)).alloc (Obj.cells #[.int .i64 b0, .int .i64 b1, .int .i64 b2] 23)) := b_alloc (b_alloc (Below.refl _ _))
    go_enter Try.func17, Try.ntmps17
    go_wp2_with fail
    refine (fits3_ref a0 a1 a2 ha0 ha1 ha2 _).mono ?_
    rintro e1 w1 ⟨rfl, hb9⟩
    rw [ea.out]
    replace kA := tc_keep hb9 kA
    replace kB := tc_keep hb9 kB
    replace B0 := b_trans B0 hb9
    clear hb9
    clear kA kB
    go_wp2
    go_ret2
    exact ⟨rfl, B0⟩

theorem small_zero : Small 0 := small_of (by decide) (by decide)
set_option maxHeartbeats 4000000 in
theorem dot_ref_go (a0 a1 a2 b0 b1 b2 z1 z2 z3 E X Y : Int) (ha0 : I64 a0) (ha1 : I64 a1) (ha2 : I64 a2) (hb0 : I64 b0) (hb1 : I64 b1) (hb2 : I64 b2) (ca : F3 a0 a1 a2) (cb : F3 b0 b1 b2)
    (o0 : ∀ w, Calls Try.prog 35 #[.int .i64 0] w (RetB 0 w))
    (oA0 : ∀ w, Calls Try.prog 35 #[.int .i64 a0] w (RetB a0 w)) (oB0 : ∀ w, Calls Try.prog 35 #[.int .i64 b0] w (RetB b0 w))
    (sa0 : Small a0) (sb0 : Small b0) (sp0 : Small (a0 * b0)) (Z1 : Hid (0 + a0 * b0 = z1)) 
    (oA1 : ∀ w, Calls Try.prog 35 #[.int .i64 a1] w (RetB a1 w)) (oB1 : ∀ w, Calls Try.prog 35 #[.int .i64 b1] w (RetB b1 w))
    (sa1 : Small a1) (sb1 : Small b1) (sp1 : Small (a1 * b1)) (Z2 : Hid (z1 + a1 * b1 = z2)) (sz1 : Small z1)
    (oA2 : ∀ w, Calls Try.prog 35 #[.int .i64 a2] w (RetB a2 w)) (oB2 : ∀ w, Calls Try.prog 35 #[.int .i64 b2] w (RetB b2 w))
    (sa2 : Small a2) (sb2 : Small b2) (sp2 : Small (a2 * b2)) (Z3 : Hid (z2 + a2 * b2 = z3)) (sz2 : Small z2)
    (tz3 : Tiny z3) (EF : Hid (ef z3 1099511627776 = E))
    (cTo : ∀ v w, BG w v E → Calls Try.prog 38 #[v] w (RetV (.tuple #[.int .i64 X, .int .i64 Y]) w)) (w : World) :
    Calls Try.prog 17 #[tv a0 a1 a2, tv b0 b1 b2] w (RetV (.tuple #[.int .i64 X, .int .i64 Y]) w) := by
  have ea := Lib.hid (f3b_yes ca)
  have eb := Lib.hid (f3b_yes cb)
  clear ca cb
  have kA : TC ((w.alloc (Obj.cells #[.int .i64 a0, .int .i64 a1, .int .i64 a2] 23)).alloc (Obj.cells #[.int .i64 b0, .int .i64 b1, .int .i64 b2] 23)) (w.heap.size) a0 a1 a2 := tc_alloc (tc_new rfl)
  have kB : TC ((w.alloc (Obj.cells #[.int .i64 a0, .int .i64 a1, .int .i64 a2] 23)).alloc (Obj.cells #[.int .i64 b0, .int .i64 b1, .int .i64 b2] 23)) (w.heap.size + 1) b0 b1 b2 := tc_new (by simp)
  have B0 : Below w.heap.size w ((w.alloc (Obj.cells #[.int .i64 a0, .int .i64 a1, .int .i64 a2] 23)).alloc (Obj.cells #[.int .i64 b0, .int .i64 b1, .int .i64 b2] 23)) := b_alloc (b_alloc (Below.refl _ _))
  go_enter Try.func17, Try.ntmps17
  go_wp2_with fail
  refine (fits3_ref a0 a1 a2 ha0 ha1 ha2 _).mono ?_
  rintro e1 w1 ⟨rfl, hb9⟩
  rw [ea.out]
  replace kA := tc_keep hb9 kA
  replace kB := tc_keep hb9 kB
  replace B0 := b_trans B0 hb9
  clear hb9
  go_wp2_with fail
  refine (fits3_ref b0 b1 b2 hb0 hb1 hb2 _).mono ?_
  rintro e2 w2 ⟨rfl, hb9⟩
  rw [eb.out]
  replace kA := tc_keep hb9 kA
  replace kB := tc_keep hb9 kB
  replace B0 := b_trans B0 hb9
  clear hb9
  clear ha0 ha1 ha2 hb0 hb1 hb2
  go_wp2_with fail
  refine (o0 _).mono ?_
  rintro e3 w3 ⟨v3, rfl, g3, hb9⟩
  obtain ⟨n, a, k, c, rfl⟩ := bg_form g3
  replace kA := tc_keep hb9 kA
  replace kB := tc_keep hb9 kB
  replace B0 := b_trans B0 hb9
  clear hb9 o0
  have hz := B0.size
  have kS : w.heap.size ≤ w3.heap.size := hz
  have lB := tc_lt kB
  have nA : w3.heap.size ≠ w.heap.size := by omega
  have nB : w3.heap.size ≠ w.heap.size + 1 := by omega
  have s0 : GS w (w.heap.size) (w.heap.size + 1) w3.heap.size a0 a1 a2 b0 b1 b2 0 (w3.alloc (Obj.cells #[.bool n, .slice a k c] 59)) := ⟨b_alloc B0, tc_alloc kA, tc_alloc kB, vb_new rfl g3⟩
  clear kA kB B0 hz lB g3
  go_wp2
  generalize w3.alloc (Obj.cells #[.bool n, .slice a k c] 59) = u0 at *
  generalize w3.heap.size = S at *
  obtain ⟨n, a, k, c, kc, kf, kg⟩ := vb_use s0.vs
  refine wp_loop_rounds 4 ?_
  rw [rounds_succ]
  go_wp2
  refine region_each [21, 22, 23, 24, 25, 26, 27, 28, 29, 30, 31] (fun i X_ U_ => match i with | 0 => X_ = .agg #[.bool n, .slice a k c] | 1 => X_ = .int .i64 0 | 2 => X_ = .pointer (some ⟨w.heap.size, 0, none⟩) | 3 => X_ = .int .i64 a0 | 4 => BG U_ X_ (a0) | 5 => X_ = .int .i64 0 | 6 => X_ = .pointer (some ⟨w.heap.size + 1, 0, none⟩) | 7 => X_ = .int .i64 b0 | 8 => BG U_ X_ (b0) | 9 => BG U_ X_ (a0 * b0) | 10 => BG U_ X_ (z1) | _ => True) (fun i => false) (by kernel_rfl) (by kernel_rfl) (by kernel_rfl) (by kernel_rfl) (by kernel_rfl) ?_ ?_ ?_ ?_
  · intro i x w w' hi h hb
    match i, hi with
    | 0, _ => exact h
    | 1, _ => exact h
    | 2, _ => exact h
    | 3, _ => exact h
    | 4, _ => exact bg_keep h hb
    | 5, _ => exact h
    | 6, _ => exact h
    | 7, _ => exact h
    | 8, _ => exact bg_keep h hb
    | 9, _ => exact bg_keep h hb
    | 10, _ => exact bg_keep h hb
    | k + 11, hk => exact absurd hk (by simp)
  · intro i x w hi ha h
    cases ha
  · intro i hi v f w' hb hv hB hd
    match i, hi with
    | 0, _ =>
      have b6 : f.tmps[6]? = some (.pointer (some ⟨S, 0, none⟩)) := (hb 6 (by decide)).trans rfl
      clear hb hv hd
      have c := bc_keep hB kc
      refine wpOp_step rfl (fun K hK => ?_)
      go_simp
      exact hK _ _ ⟨_, rfl, Below.refl _ _, rfl, fun h => absurd h (by decide)⟩
    | 1, _ =>
      have b7 : f.tmps[7]? = some (.int .i64 0) := (hb 7 (by decide)).trans rfl
      clear hb hv hd
      refine wpOp_step rfl (fun K hK => ?_)
      go_simp
      exact hK _ _ ⟨_, rfl, Below.refl _ _, rfl, fun h => absurd h (by decide)⟩
    | 2, _ =>
      have b2 : f.tmps[2]? = some (.pointer (some ⟨w.heap.size, 0, none⟩)) := (hb 2 (by decide)).trans rfl
      have h1 : (v 1) = .int .i64 0 := hd 1 (by kernel_rfl)
      have d1 : f.tmps[22]? = some (.int .i64 0) := (hv 1 22 rfl).trans (congrArg some h1)
      clear h1
      clear hb hv hd
      refine wpOp_step rfl (fun K hK => ?_)
      go_simp
      exact hK _ _ ⟨_, rfl, Below.refl _ _, rfl, fun h => absurd h (by decide)⟩
    | 3, _ =>
      have h2 : (v 2) = .pointer (some ⟨w.heap.size, 0, none⟩) := hd 2 (by kernel_rfl)
      have d2 : f.tmps[23]? = some (.pointer (some ⟨w.heap.size, 0, none⟩)) := (hv 2 23 rfl).trans (congrArg some h2)
      clear h2
      clear hb hv hd
      have c := tc_keep hB s0.ka
      refine wpOp_step rfl (fun K hK => ?_)
      go_simp
      exact hK _ _ ⟨_, rfl, Below.refl _ _, rfl, fun h => absurd h (by decide)⟩
    | 4, _ =>
      have h3 : (v 3) = .int .i64 a0 := hd 3 (by kernel_rfl)
      have d3 : f.tmps[24]? = some (.int .i64 a0) := (hv 3 24 rfl).trans (congrArg some h3)
      clear h3
      clear hb hv hd
      refine wpOp_step rfl (fun K hK => ?_)
      go_simp
      refine (oA0 _).mono ?_
      rintro e w5 ⟨v5, rfl, h5, hb5⟩
      exact hK _ _ ⟨_, rfl, hb5, h5, fun h => absurd h (by decide)⟩
    | 5, _ =>
      have b7 : f.tmps[7]? = some (.int .i64 0) := (hb 7 (by decide)).trans rfl
      clear hb hv hd
      refine wpOp_step rfl (fun K hK => ?_)
      go_simp
      exact hK _ _ ⟨_, rfl, Below.refl _ _, rfl, fun h => absurd h (by decide)⟩
    | 6, _ =>
      have b3 : f.tmps[3]? = some (.pointer (some ⟨w.heap.size + 1, 0, none⟩)) := (hb 3 (by decide)).trans rfl
      have h5 : (v 5) = .int .i64 0 := hd 5 (by kernel_rfl)
      have d5 : f.tmps[26]? = some (.int .i64 0) := (hv 5 26 rfl).trans (congrArg some h5)
      clear h5
      clear hb hv hd
      refine wpOp_step rfl (fun K hK => ?_)
      go_simp
      exact hK _ _ ⟨_, rfl, Below.refl _ _, rfl, fun h => absurd h (by decide)⟩
    | 7, _ =>
      have h6 : (v 6) = .pointer (some ⟨w.heap.size + 1, 0, none⟩) := hd 6 (by kernel_rfl)
      have d6 : f.tmps[27]? = some (.pointer (some ⟨w.heap.size + 1, 0, none⟩)) := (hv 6 27 rfl).trans (congrArg some h6)
      clear h6
      clear hb hv hd
      have c := tc_keep hB s0.kb
      refine wpOp_step rfl (fun K hK => ?_)
      go_simp
      exact hK _ _ ⟨_, rfl, Below.refl _ _, rfl, fun h => absurd h (by decide)⟩
    | 8, _ =>
      have h7 : (v 7) = .int .i64 b0 := hd 7 (by kernel_rfl)
      have d7 : f.tmps[28]? = some (.int .i64 b0) := (hv 7 28 rfl).trans (congrArg some h7)
      clear h7
      clear hb hv hd
      refine wpOp_step rfl (fun K hK => ?_)
      go_simp
      refine (oB0 _).mono ?_
      rintro e w5 ⟨v5, rfl, h5, hb5⟩
      exact hK _ _ ⟨_, rfl, hb5, h5, fun h => absurd h (by decide)⟩
    | 9, _ =>
      have h4 : BG w' (v 4) (a0) := hd 4 (by kernel_rfl)
      have d4 : f.tmps[25]? = some (v 4) := hv 4 25 rfl
      have h8 : BG w' (v 8) (b0) := hd 8 (by kernel_rfl)
      have d8 : f.tmps[29]? = some (v 8) := hv 8 29 rfl
      clear hb hv hd
      refine wpOp_step rfl (fun K hK => ?_)
      go_simp
      refine (mul_big _ _ a0 b0 _ h4 h8 sa0 sb0).mono ?_
      rintro e w5 ⟨v5, rfl, h5, hb5⟩
      exact hK _ _ ⟨_, rfl, hb5, h5, fun h => absurd h (by decide)⟩
    | 10, _ =>
      have h0 : (v 0) = .agg #[.bool n, .slice a k c] := hd 0 (by kernel_rfl)
      have d0 : f.tmps[21]? = some (.agg #[.bool n, .slice a k c]) := (hv 0 21 rfl).trans (congrArg some h0)
      clear h0
      have h9 : BG w' (v 9) (a0 * b0) := hd 9 (by kernel_rfl)
      have d9 : f.tmps[30]? = some (v 9) := hv 9 30 rfl
      clear hb hv hd
      refine wpOp_step rfl (fun K hK => ?_)
      go_simp
      refine ((add_big _ _ 0 (a0 * b0) _ (bg_keep kg hB) h9 small_zero sp0)).mono ?_
      rintro e w5 ⟨v5, rfl, h5, hb5⟩
      exact hK _ _ ⟨_, rfl, hb5, by rwa [Z1.out] at h5, fun h => absurd h (by decide)⟩
    | k + 11, hk => exact absurd hk (by simp)
  · intro v w' hB hF hD
    have F0 : (v 0) = .agg #[.bool n, .slice a k c] := hF 0 (by simp)
    have F1 : (v 1) = .int .i64 0 := hF 1 (by simp)
    have F2 : (v 2) = .pointer (some ⟨w.heap.size, 0, none⟩) := hF 2 (by simp)
    have F3 : (v 3) = .int .i64 a0 := hF 3 (by simp)
    have F4 : BG w' (v 4) (a0) := hF 4 (by simp)
    have F5 : (v 5) = .int .i64 0 := hF 5 (by simp)
    have F6 : (v 6) = .pointer (some ⟨w.heap.size + 1, 0, none⟩) := hF 6 (by simp)
    have F7 : (v 7) = .int .i64 b0 := hF 7 (by simp)
    have F8 : BG w' (v 8) (b0) := hF 8 (by simp)
    have F9 : BG w' (v 9) (a0 * b0) := hF 9 (by simp)
    have F10 : BG w' (v 10) (z1) := hF 10 (by simp)
    clear hF
    obtain ⟨n4_, a4_, k4_, c4_, e4⟩ := bg_form F4
    obtain ⟨n8_, a8_, k8_, c8_, e8⟩ := bg_form F8
    obtain ⟨n9_, a9_, k9_, c9_, e9⟩ := bg_form F9
    obtain ⟨n10_, a10_, k10_, c10_, e10⟩ := bg_form F10
    rw [e10] at F10
    simp only [frOf, frGo, Nat.zero_add, Nat.reduceAdd, F0, F1, F2, F3, e4, F5, F6, F7, e8, e9, e10]
    have sN := gs_put (gs_keep s0 hB) F10 nA nB kS
    have c := bc_keep hB kc
    have cf := bf_keep hB kc kf
    clear F0 F1 F2 F3 F4 F5 F6 F7 F8 F9 F10 e4 e8 e9 e10 hD hB s0 kc kf kg oA0 oB0 sa0 sb0 sp0 Z1
    go_wp2
    clear c cf
    generalize (w'.setCell ⟨S, 0, none⟩ (.bool n10_)).setCell ⟨S, 1, none⟩ (.slice a10_ k10_ c10_) = u1 at *
    rw [rounds_succ]
    obtain ⟨n, a, k, c, kc, kf, kg⟩ := vb_use sN.vs
    have s0 := sN
    clear sN
    go_wp2
    refine region_each [21, 22, 23, 24, 25, 26, 27, 28, 29, 30, 31] (fun i X_ U_ => match i with | 0 => X_ = .agg #[.bool n, .slice a k c] | 1 => X_ = .int .i64 1 | 2 => X_ = .pointer (some ⟨w.heap.size, 1, none⟩) | 3 => X_ = .int .i64 a1 | 4 => BG U_ X_ (a1) | 5 => X_ = .int .i64 1 | 6 => X_ = .pointer (some ⟨w.heap.size + 1, 1, none⟩) | 7 => X_ = .int .i64 b1 | 8 => BG U_ X_ (b1) | 9 => BG U_ X_ (a1 * b1) | 10 => BG U_ X_ (z2) | _ => True) (fun i => false) (by kernel_rfl) (by kernel_rfl) (by kernel_rfl) (by kernel_rfl) (by kernel_rfl) ?_ ?_ ?_ ?_
    · intro i x w w' hi h hb
      match i, hi with
      | 0, _ => exact h
      | 1, _ => exact h
      | 2, _ => exact h
      | 3, _ => exact h
      | 4, _ => exact bg_keep h hb
      | 5, _ => exact h
      | 6, _ => exact h
      | 7, _ => exact h
      | 8, _ => exact bg_keep h hb
      | 9, _ => exact bg_keep h hb
      | 10, _ => exact bg_keep h hb
      | k + 11, hk => exact absurd hk (by simp)
    · intro i x w hi ha h
      cases ha
    · intro i hi v f w' hb hv hB hd
      match i, hi with
      | 0, _ =>
        have b6 : f.tmps[6]? = some (.pointer (some ⟨S, 0, none⟩)) := (hb 6 (by decide)).trans rfl
        clear hb hv hd
        have c := bc_keep hB kc
        refine wpOp_step rfl (fun K hK => ?_)
        go_simp
        exact hK _ _ ⟨_, rfl, Below.refl _ _, rfl, fun h => absurd h (by decide)⟩
      | 1, _ =>
        have b7 : f.tmps[7]? = some (.int .i64 1) := (hb 7 (by decide)).trans rfl
        clear hb hv hd
        refine wpOp_step rfl (fun K hK => ?_)
        go_simp
        exact hK _ _ ⟨_, rfl, Below.refl _ _, rfl, fun h => absurd h (by decide)⟩
      | 2, _ =>
        have b2 : f.tmps[2]? = some (.pointer (some ⟨w.heap.size, 0, none⟩)) := (hb 2 (by decide)).trans rfl
        have h1 : (v 1) = .int .i64 1 := hd 1 (by kernel_rfl)
        have d1 : f.tmps[22]? = some (.int .i64 1) := (hv 1 22 rfl).trans (congrArg some h1)
        clear h1
        clear hb hv hd
        refine wpOp_step rfl (fun K hK => ?_)
        go_simp
        exact hK _ _ ⟨_, rfl, Below.refl _ _, rfl, fun h => absurd h (by decide)⟩
      | 3, _ =>
        have h2 : (v 2) = .pointer (some ⟨w.heap.size, 1, none⟩) := hd 2 (by kernel_rfl)
        have d2 : f.tmps[23]? = some (.pointer (some ⟨w.heap.size, 1, none⟩)) := (hv 2 23 rfl).trans (congrArg some h2)
        clear h2
        clear hb hv hd
        have c := tc_keep hB s0.ka
        refine wpOp_step rfl (fun K hK => ?_)
        go_simp
        exact hK _ _ ⟨_, rfl, Below.refl _ _, rfl, fun h => absurd h (by decide)⟩
      | 4, _ =>
        have h3 : (v 3) = .int .i64 a1 := hd 3 (by kernel_rfl)
        have d3 : f.tmps[24]? = some (.int .i64 a1) := (hv 3 24 rfl).trans (congrArg some h3)
        clear h3
        clear hb hv hd
        refine wpOp_step rfl (fun K hK => ?_)
        go_simp
        refine (oA1 _).mono ?_
        rintro e w5 ⟨v5, rfl, h5, hb5⟩
        exact hK _ _ ⟨_, rfl, hb5, h5, fun h => absurd h (by decide)⟩
      | 5, _ =>
        have b7 : f.tmps[7]? = some (.int .i64 1) := (hb 7 (by decide)).trans rfl
        clear hb hv hd
        refine wpOp_step rfl (fun K hK => ?_)
        go_simp
        exact hK _ _ ⟨_, rfl, Below.refl _ _, rfl, fun h => absurd h (by decide)⟩
      | 6, _ =>
        have b3 : f.tmps[3]? = some (.pointer (some ⟨w.heap.size + 1, 0, none⟩)) := (hb 3 (by decide)).trans rfl
        have h5 : (v 5) = .int .i64 1 := hd 5 (by kernel_rfl)
        have d5 : f.tmps[26]? = some (.int .i64 1) := (hv 5 26 rfl).trans (congrArg some h5)
        clear h5
        clear hb hv hd
        refine wpOp_step rfl (fun K hK => ?_)
        go_simp
        exact hK _ _ ⟨_, rfl, Below.refl _ _, rfl, fun h => absurd h (by decide)⟩
      | 7, _ =>
        have h6 : (v 6) = .pointer (some ⟨w.heap.size + 1, 1, none⟩) := hd 6 (by kernel_rfl)
        have d6 : f.tmps[27]? = some (.pointer (some ⟨w.heap.size + 1, 1, none⟩)) := (hv 6 27 rfl).trans (congrArg some h6)
        clear h6
        clear hb hv hd
        have c := tc_keep hB s0.kb
        refine wpOp_step rfl (fun K hK => ?_)
        go_simp
        exact hK _ _ ⟨_, rfl, Below.refl _ _, rfl, fun h => absurd h (by decide)⟩
      | 8, _ =>
        have h7 : (v 7) = .int .i64 b1 := hd 7 (by kernel_rfl)
        have d7 : f.tmps[28]? = some (.int .i64 b1) := (hv 7 28 rfl).trans (congrArg some h7)
        clear h7
        clear hb hv hd
        refine wpOp_step rfl (fun K hK => ?_)
        go_simp
        refine (oB1 _).mono ?_
        rintro e w5 ⟨v5, rfl, h5, hb5⟩
        exact hK _ _ ⟨_, rfl, hb5, h5, fun h => absurd h (by decide)⟩
      | 9, _ =>
        have h4 : BG w' (v 4) (a1) := hd 4 (by kernel_rfl)
        have d4 : f.tmps[25]? = some (v 4) := hv 4 25 rfl
        have h8 : BG w' (v 8) (b1) := hd 8 (by kernel_rfl)
        have d8 : f.tmps[29]? = some (v 8) := hv 8 29 rfl
        clear hb hv hd
        refine wpOp_step rfl (fun K hK => ?_)
        go_simp
        refine (mul_big _ _ a1 b1 _ h4 h8 sa1 sb1).mono ?_
        rintro e w5 ⟨v5, rfl, h5, hb5⟩
        exact hK _ _ ⟨_, rfl, hb5, h5, fun h => absurd h (by decide)⟩
      | 10, _ =>
        have h0 : (v 0) = .agg #[.bool n, .slice a k c] := hd 0 (by kernel_rfl)
        have d0 : f.tmps[21]? = some (.agg #[.bool n, .slice a k c]) := (hv 0 21 rfl).trans (congrArg some h0)
        clear h0
        have h9 : BG w' (v 9) (a1 * b1) := hd 9 (by kernel_rfl)
        have d9 : f.tmps[30]? = some (v 9) := hv 9 30 rfl
        clear hb hv hd
        refine wpOp_step rfl (fun K hK => ?_)
        go_simp
        refine ((add_big _ _ z1 (a1 * b1) _ (bg_keep kg hB) h9 sz1 sp1)).mono ?_
        rintro e w5 ⟨v5, rfl, h5, hb5⟩
        exact hK _ _ ⟨_, rfl, hb5, by rwa [Z2.out] at h5, fun h => absurd h (by decide)⟩
      | k + 11, hk => exact absurd hk (by simp)
    · intro v w' hB hF hD
      have F0 : (v 0) = .agg #[.bool n, .slice a k c] := hF 0 (by simp)
      have F1 : (v 1) = .int .i64 1 := hF 1 (by simp)
      have F2 : (v 2) = .pointer (some ⟨w.heap.size, 1, none⟩) := hF 2 (by simp)
      have F3 : (v 3) = .int .i64 a1 := hF 3 (by simp)
      have F4 : BG w' (v 4) (a1) := hF 4 (by simp)
      have F5 : (v 5) = .int .i64 1 := hF 5 (by simp)
      have F6 : (v 6) = .pointer (some ⟨w.heap.size + 1, 1, none⟩) := hF 6 (by simp)
      have F7 : (v 7) = .int .i64 b1 := hF 7 (by simp)
      have F8 : BG w' (v 8) (b1) := hF 8 (by simp)
      have F9 : BG w' (v 9) (a1 * b1) := hF 9 (by simp)
      have F10 : BG w' (v 10) (z2) := hF 10 (by simp)
      clear hF
      obtain ⟨n4_, a4_, k4_, c4_, e4⟩ := bg_form F4
      obtain ⟨n8_, a8_, k8_, c8_, e8⟩ := bg_form F8
      obtain ⟨n9_, a9_, k9_, c9_, e9⟩ := bg_form F9
      obtain ⟨n10_, a10_, k10_, c10_, e10⟩ := bg_form F10
      rw [e10] at F10
      simp only [frOf, frGo, Nat.zero_add, Nat.reduceAdd, F0, F1, F2, F3, e4, F5, F6, F7, e8, e9, e10]
      have sN := gs_put (gs_keep s0 hB) F10 nA nB kS
      have c := bc_keep hB kc
      have cf := bf_keep hB kc kf
      clear F0 F1 F2 F3 F4 F5 F6 F7 F8 F9 F10 e4 e8 e9 e10 hD hB s0 kc kf kg oA1 oB1 sa1 sb1 sp1 Z2
      go_wp2
      clear c cf
      generalize (w'.setCell ⟨S, 0, none⟩ (.bool n10_)).setCell ⟨S, 1, none⟩ (.slice a10_ k10_ c10_) = u2 at *
      rw [rounds_succ]
      obtain ⟨n, a, k, c, kc, kf, kg⟩ := vb_use sN.vs
      have s0 := sN
      clear sN
      go_wp2
      refine region_each [21, 22, 23, 24, 25, 26, 27, 28, 29, 30, 31] (fun i X_ U_ => match i with | 0 => X_ = .agg #[.bool n, .slice a k c] | 1 => X_ = .int .i64 2 | 2 => X_ = .pointer (some ⟨w.heap.size, 2, none⟩) | 3 => X_ = .int .i64 a2 | 4 => BG U_ X_ (a2) | 5 => X_ = .int .i64 2 | 6 => X_ = .pointer (some ⟨w.heap.size + 1, 2, none⟩) | 7 => X_ = .int .i64 b2 | 8 => BG U_ X_ (b2) | 9 => BG U_ X_ (a2 * b2) | 10 => BG U_ X_ (z3) | _ => True) (fun i => false) (by kernel_rfl) (by kernel_rfl) (by kernel_rfl) (by kernel_rfl) (by kernel_rfl) ?_ ?_ ?_ ?_
      · intro i x w w' hi h hb
        match i, hi with
        | 0, _ => exact h
        | 1, _ => exact h
        | 2, _ => exact h
        | 3, _ => exact h
        | 4, _ => exact bg_keep h hb
        | 5, _ => exact h
        | 6, _ => exact h
        | 7, _ => exact h
        | 8, _ => exact bg_keep h hb
        | 9, _ => exact bg_keep h hb
        | 10, _ => exact bg_keep h hb
        | k + 11, hk => exact absurd hk (by simp)
      · intro i x w hi ha h
        cases ha
      · intro i hi v f w' hb hv hB hd
        match i, hi with
        | 0, _ =>
          have b6 : f.tmps[6]? = some (.pointer (some ⟨S, 0, none⟩)) := (hb 6 (by decide)).trans rfl
          clear hb hv hd
          have c := bc_keep hB kc
          refine wpOp_step rfl (fun K hK => ?_)
          go_simp
          exact hK _ _ ⟨_, rfl, Below.refl _ _, rfl, fun h => absurd h (by decide)⟩
        | 1, _ =>
          have b7 : f.tmps[7]? = some (.int .i64 2) := (hb 7 (by decide)).trans rfl
          clear hb hv hd
          refine wpOp_step rfl (fun K hK => ?_)
          go_simp
          exact hK _ _ ⟨_, rfl, Below.refl _ _, rfl, fun h => absurd h (by decide)⟩
        | 2, _ =>
          have b2 : f.tmps[2]? = some (.pointer (some ⟨w.heap.size, 0, none⟩)) := (hb 2 (by decide)).trans rfl
          have h1 : (v 1) = .int .i64 2 := hd 1 (by kernel_rfl)
          have d1 : f.tmps[22]? = some (.int .i64 2) := (hv 1 22 rfl).trans (congrArg some h1)
          clear h1
          clear hb hv hd
          refine wpOp_step rfl (fun K hK => ?_)
          go_simp
          exact hK _ _ ⟨_, rfl, Below.refl _ _, rfl, fun h => absurd h (by decide)⟩
        | 3, _ =>
          have h2 : (v 2) = .pointer (some ⟨w.heap.size, 2, none⟩) := hd 2 (by kernel_rfl)
          have d2 : f.tmps[23]? = some (.pointer (some ⟨w.heap.size, 2, none⟩)) := (hv 2 23 rfl).trans (congrArg some h2)
          clear h2
          clear hb hv hd
          have c := tc_keep hB s0.ka
          refine wpOp_step rfl (fun K hK => ?_)
          go_simp
          exact hK _ _ ⟨_, rfl, Below.refl _ _, rfl, fun h => absurd h (by decide)⟩
        | 4, _ =>
          have h3 : (v 3) = .int .i64 a2 := hd 3 (by kernel_rfl)
          have d3 : f.tmps[24]? = some (.int .i64 a2) := (hv 3 24 rfl).trans (congrArg some h3)
          clear h3
          clear hb hv hd
          refine wpOp_step rfl (fun K hK => ?_)
          go_simp
          refine (oA2 _).mono ?_
          rintro e w5 ⟨v5, rfl, h5, hb5⟩
          exact hK _ _ ⟨_, rfl, hb5, h5, fun h => absurd h (by decide)⟩
        | 5, _ =>
          have b7 : f.tmps[7]? = some (.int .i64 2) := (hb 7 (by decide)).trans rfl
          clear hb hv hd
          refine wpOp_step rfl (fun K hK => ?_)
          go_simp
          exact hK _ _ ⟨_, rfl, Below.refl _ _, rfl, fun h => absurd h (by decide)⟩
        | 6, _ =>
          have b3 : f.tmps[3]? = some (.pointer (some ⟨w.heap.size + 1, 0, none⟩)) := (hb 3 (by decide)).trans rfl
          have h5 : (v 5) = .int .i64 2 := hd 5 (by kernel_rfl)
          have d5 : f.tmps[26]? = some (.int .i64 2) := (hv 5 26 rfl).trans (congrArg some h5)
          clear h5
          clear hb hv hd
          refine wpOp_step rfl (fun K hK => ?_)
          go_simp
          exact hK _ _ ⟨_, rfl, Below.refl _ _, rfl, fun h => absurd h (by decide)⟩
        | 7, _ =>
          have h6 : (v 6) = .pointer (some ⟨w.heap.size + 1, 2, none⟩) := hd 6 (by kernel_rfl)
          have d6 : f.tmps[27]? = some (.pointer (some ⟨w.heap.size + 1, 2, none⟩)) := (hv 6 27 rfl).trans (congrArg some h6)
          clear h6
          clear hb hv hd
          have c := tc_keep hB s0.kb
          refine wpOp_step rfl (fun K hK => ?_)
          go_simp
          exact hK _ _ ⟨_, rfl, Below.refl _ _, rfl, fun h => absurd h (by decide)⟩
        | 8, _ =>
          have h7 : (v 7) = .int .i64 b2 := hd 7 (by kernel_rfl)
          have d7 : f.tmps[28]? = some (.int .i64 b2) := (hv 7 28 rfl).trans (congrArg some h7)
          clear h7
          clear hb hv hd
          refine wpOp_step rfl (fun K hK => ?_)
          go_simp
          refine (oB2 _).mono ?_
          rintro e w5 ⟨v5, rfl, h5, hb5⟩
          exact hK _ _ ⟨_, rfl, hb5, h5, fun h => absurd h (by decide)⟩
        | 9, _ =>
          have h4 : BG w' (v 4) (a2) := hd 4 (by kernel_rfl)
          have d4 : f.tmps[25]? = some (v 4) := hv 4 25 rfl
          have h8 : BG w' (v 8) (b2) := hd 8 (by kernel_rfl)
          have d8 : f.tmps[29]? = some (v 8) := hv 8 29 rfl
          clear hb hv hd
          refine wpOp_step rfl (fun K hK => ?_)
          go_simp
          refine (mul_big _ _ a2 b2 _ h4 h8 sa2 sb2).mono ?_
          rintro e w5 ⟨v5, rfl, h5, hb5⟩
          exact hK _ _ ⟨_, rfl, hb5, h5, fun h => absurd h (by decide)⟩
        | 10, _ =>
          have h0 : (v 0) = .agg #[.bool n, .slice a k c] := hd 0 (by kernel_rfl)
          have d0 : f.tmps[21]? = some (.agg #[.bool n, .slice a k c]) := (hv 0 21 rfl).trans (congrArg some h0)
          clear h0
          have h9 : BG w' (v 9) (a2 * b2) := hd 9 (by kernel_rfl)
          have d9 : f.tmps[30]? = some (v 9) := hv 9 30 rfl
          clear hb hv hd
          refine wpOp_step rfl (fun K hK => ?_)
          go_simp
          refine ((add_big _ _ z2 (a2 * b2) _ (bg_keep kg hB) h9 sz2 sp2)).mono ?_
          rintro e w5 ⟨v5, rfl, h5, hb5⟩
          exact hK _ _ ⟨_, rfl, hb5, by rwa [Z3.out] at h5, fun h => absurd h (by decide)⟩
        | k + 11, hk => exact absurd hk (by simp)
      · intro v w' hB hF hD
        have F0 : (v 0) = .agg #[.bool n, .slice a k c] := hF 0 (by simp)
        have F1 : (v 1) = .int .i64 2 := hF 1 (by simp)
        have F2 : (v 2) = .pointer (some ⟨w.heap.size, 2, none⟩) := hF 2 (by simp)
        have F3 : (v 3) = .int .i64 a2 := hF 3 (by simp)
        have F4 : BG w' (v 4) (a2) := hF 4 (by simp)
        have F5 : (v 5) = .int .i64 2 := hF 5 (by simp)
        have F6 : (v 6) = .pointer (some ⟨w.heap.size + 1, 2, none⟩) := hF 6 (by simp)
        have F7 : (v 7) = .int .i64 b2 := hF 7 (by simp)
        have F8 : BG w' (v 8) (b2) := hF 8 (by simp)
        have F9 : BG w' (v 9) (a2 * b2) := hF 9 (by simp)
        have F10 : BG w' (v 10) (z3) := hF 10 (by simp)
        clear hF
        obtain ⟨n4_, a4_, k4_, c4_, e4⟩ := bg_form F4
        obtain ⟨n8_, a8_, k8_, c8_, e8⟩ := bg_form F8
        obtain ⟨n9_, a9_, k9_, c9_, e9⟩ := bg_form F9
        obtain ⟨n10_, a10_, k10_, c10_, e10⟩ := bg_form F10
        rw [e10] at F10
        simp only [frOf, frGo, Nat.zero_add, Nat.reduceAdd, F0, F1, F2, F3, e4, F5, F6, F7, e8, e9, e10]
        have sN := gs_put (gs_keep s0 hB) F10 nA nB kS
        have c := bc_keep hB kc
        have cf := bf_keep hB kc kf
        clear F0 F1 F2 F3 F4 F5 F6 F7 F8 F9 F10 e4 e8 e9 e10 hD hB s0 kc kf kg oA2 oB2 sa2 sb2 sp2 Z3
        go_wp2
        clear c cf
        generalize (w'.setCell ⟨S, 0, none⟩ (.bool n10_)).setCell ⟨S, 1, none⟩ (.slice a10_ k10_ c10_) = u3 at *
        rw [rounds_succ]
        obtain ⟨n, a, k, c, kc, kf, kg⟩ := vb_use sN.vs
        have s0 := sN
        clear sN
        have B0 := s0.b
        clear s0 kf
        go_wp2
        refine region_each [32, 33, 34, 35, 36, 37] (fun i X_ U_ => match i with | 0 => X_ = .agg #[.bool n, .slice a k c] | 1 => BG U_ X_ (1099511627776) | 2 => BG U_ X_ (E) | 3 => X_ = .tuple #[.int .i64 X, .int .i64 Y] | 4 => X_ = .int .i64 X | 5 => X_ = .int .i64 Y | _ => True) (fun i => false) (by kernel_rfl) (by kernel_rfl) (by kernel_rfl) (by kernel_rfl) (by kernel_rfl) ?_ ?_ ?_ ?_
        · intro i x w w' hi h hb
          match i, hi with
          | 0, _ => exact h
          | 1, _ => exact bg_keep h hb
          | 2, _ => exact bg_keep h hb
          | 3, _ => exact h
          | 4, _ => exact h
          | 5, _ => exact h
          | k + 6, hk => exact absurd hk (by simp)
        · intro i x w hi ha h
          cases ha
        · intro i hi v f w' hb hv hB hd
          match i, hi with
          | 0, _ =>
            have b6 : f.tmps[6]? = some (.pointer (some ⟨S, 0, none⟩)) := (hb 6 (by decide)).trans rfl
            clear hb hv hd
            have c := bc_keep hB kc
            refine wpOp_step rfl (fun K hK => ?_)
            go_simp
            exact hK _ _ ⟨_, rfl, Below.refl _ _, rfl, fun h => absurd h (by decide)⟩
          | 1, _ =>
            clear hb hv hd
            refine wpOp_step rfl (fun K hK => ?_)
            go_simp
            refine (power_40 _).mono ?_
            rintro e w5 ⟨v5, rfl, h5, hb5⟩
            exact hK _ _ ⟨_, rfl, hb5, h5, fun h => absurd h (by decide)⟩
          | 2, _ =>
            have h0 : (v 0) = .agg #[.bool n, .slice a k c] := hd 0 (by kernel_rfl)
            have d0 : f.tmps[32]? = some (.agg #[.bool n, .slice a k c]) := (hv 0 32 rfl).trans (congrArg some h0)
            clear h0
            have h1 : BG w' (v 1) (1099511627776) := hd 1 (by kernel_rfl)
            have d1 : f.tmps[33]? = some (v 1) := hv 1 33 rfl
            clear hb hv hd
            refine wpOp_step rfl (fun K hK => ?_)
            go_simp
            refine (even_big _ _ z3 1099511627776 _ (bg_keep kg hB) h1 (by decide) tz3 ⟨by decide, by decide⟩).mono ?_
            rintro e w5 ⟨v5, rfl, h5, hb5⟩
            exact hK _ _ ⟨_, rfl, hb5, by rwa [EF.out] at h5, fun h => absurd h (by decide)⟩
          | 3, _ =>
            have h2 : BG w' (v 2) (E) := hd 2 (by kernel_rfl)
            have d2 : f.tmps[34]? = some (v 2) := hv 2 34 rfl
            clear hb hv hd
            refine wpOp_step rfl (fun K hK => ?_)
            go_simp
            refine (cTo _ _ h2).mono ?_
            rintro e5 w5 ⟨rfl, hb5⟩
            exact hK _ _ ⟨_, rfl, hb5, rfl, fun h => absurd h (by decide)⟩
          | 4, _ =>
            have h3 : (v 3) = .tuple #[.int .i64 X, .int .i64 Y] := hd 3 (by kernel_rfl)
            have d3 : f.tmps[35]? = some (.tuple #[.int .i64 X, .int .i64 Y]) := (hv 3 35 rfl).trans (congrArg some h3)
            clear h3
            clear hb hv hd
            refine wpOp_step rfl (fun K hK => ?_)
            go_simp
            exact hK _ _ ⟨_, rfl, Below.refl _ _, rfl, fun h => absurd h (by decide)⟩
          | 5, _ =>
            have h3 : (v 3) = .tuple #[.int .i64 X, .int .i64 Y] := hd 3 (by kernel_rfl)
            have d3 : f.tmps[35]? = some (.tuple #[.int .i64 X, .int .i64 Y]) := (hv 3 35 rfl).trans (congrArg some h3)
            clear h3
            clear hb hv hd
            refine wpOp_step rfl (fun K hK => ?_)
            go_simp
            exact hK _ _ ⟨_, rfl, Below.refl _ _, rfl, fun h => absurd h (by decide)⟩
          | k + 6, hk => exact absurd hk (by simp)
        · intro v w' hB hF hD
          have F0 : (v 0) = .agg #[.bool n, .slice a k c] := hF 0 (by simp)
          have F1 : BG w' (v 1) (1099511627776) := hF 1 (by simp)
          have F2 : BG w' (v 2) (E) := hF 2 (by simp)
          have F3 : (v 3) = .tuple #[.int .i64 X, .int .i64 Y] := hF 3 (by simp)
          have F4 : (v 4) = .int .i64 X := hF 4 (by simp)
          have F5 : (v 5) = .int .i64 Y := hF 5 (by simp)
          clear hF
          obtain ⟨n1_, a1_, k1_, c1_, e1⟩ := bg_form F1
          obtain ⟨n2_, a2_, k2_, c2_, e2⟩ := bg_form F2
          simp only [frOf, frGo, Nat.zero_add, Nat.reduceAdd, F0, e1, e2, F3, F4, F5]
          have B9 := b_trans B0 hB
          clear F0 F1 F2 F3 F4 F5 e1 e2 hD hB kc kg cTo EF tz3 B0
          go_wp2
          go_ret2
          exact ⟨rfl, B9⟩

theorem small_i64 {x : Int} (h : I64 x) : Small x := small_of (by omega) (by omega)
theorem small_fit {x : Int} (h0 : -170141183460469231731687303715884105728 ≤ x) (h1 : x ≤ 170141183460469231731687303715884105728) : Small x := small_of (by omega) (by omega)
theorem dot_ref_ok (a0 a1 a2 b0 b1 b2 : Int) (ha0 : I64 a0) (ha1 : I64 a1) (ha2 : I64 a2) (hb0 : I64 b0) (hb1 : I64 b1) (hb2 : I64 b2) (ca : F3 a0 a1 a2) (cb : F3 b0 b1 b2) (w : World) :
    Calls Try.prog 17 #[tv a0 a1 a2, tv b0 b1 b2] w (RetV (.tuple #[.int .i64 (nz (evn (0 + a0 * b0 + a1 * b1 + a2 * b2) 1099511627776)), .int .i64 (ne (evn (0 + a0 * b0 + a1 * b1 + a2 * b2) 1099511627776))]) w) := by
  have h0 := mul_bd ca.1 cb.1
  have h1 := mul_bd ca.2.1 cb.2.1
  have h2 := mul_bd ca.2.2 cb.2.2
  have hE := evn_near (0 + a0 * b0 + a1 * b1 + a2 * b2) 1099511627776
  exact dot_ref_go a0 a1 a2 b0 b1 b2 _ _ _ _ _ _ ha0 ha1 ha2 hb0 hb1 hb2 ca cb
    (fun w => of_big 0 (by decide) (by decide) w)
    (fun w => of_big a0 ha0.1 ha0.2 w) (fun w => of_big b0 hb0.1 hb0.2 w) (small_i64 ha0) (small_i64 hb0) (small_fit (by omega) (by omega)) (Lib.hid rfl)
    (fun w => of_big a1 ha1.1 ha1.2 w) (fun w => of_big b1 hb1.1 hb1.2 w) (small_i64 ha1) (small_i64 hb1) (small_fit (by omega) (by omega)) (Lib.hid rfl) (small_fit (by omega) (by omega))
    (fun w => of_big a2 ha2.1 ha2.2 w) (fun w => of_big b2 hb2.1 hb2.2 w) (small_i64 ha2) (small_i64 hb2) (small_fit (by omega) (by omega)) (Lib.hid rfl) (small_fit (by omega) (by omega))
    ⟨by omega, by omega⟩ (Lib.hid (ef_pos _ (by decide)))
    (fun v w g => to_ref v _ w g ⟨by omega, by omega⟩) w

end Go.Proofs.Ytokjljmamiipbaa
