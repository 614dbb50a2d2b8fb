/- The document's F and Raw of layer 8: each call's answer. -/
import Derived.Test.YtlpmmnfijfljoaaDoorSprA
import Derived.Test.YtlpmmnfijfljoaaDoorBigI
namespace Go.Proofs.YtlpmmnfijfljoaaDoor
open Go.RowKit Go.Shelf

/-- A row of the first product, its first a terms; an entry of the second one, its first b terms. -/
def rwp (m : Nat → Int) (i b : Nat) : Nat → Int
  | 0 => 0
  | a + 1 => rwp m i b a + mvn i a * m (pln a b)
def clp (m : Nat → Int) (i j : Nat) : Nat → Int
  | 0 => 0
  | b + 1 => clp m i j b + rwp m i b 3 * mvn j b
theorem clp_rwn (m : Nat → Int) (i j : Nat) : clp m i j 3 = rwn m i j := by
  have e : rwn m i j = tmn m i j 0 + tmn m i j 1 + tmn m i j 2 + tmn m i j 3 + tmn m i j 4 + tmn m i j 5 + tmn m i j 6 + tmn m i j 7 + tmn m i j 8 := by
    have : List.range 9 = [0, 1, 2, 3, 4, 5, 6, 7, 8] := rfl
    simp [rwn, smT, this]
  rw [e]
  simp only [clp, rwp, tmn, Int.add_mul, Int.zero_add, Nat.reduceDiv, Nat.reduceMod]
  have h := fun (a b : Nat) => Int.mul_right_comm (mvn i a) (m (pln a b)) (mvn j b)
  have h00 := h 0 0
  have h01 := h 0 1
  have h02 := h 0 2
  have h10 := h 1 0
  have h11 := h 1 1
  have h12 := h 1 2
  have h20 := h 2 0
  have h21 := h 2 1
  have h22 := h 2 2
  omega
theorem ent_bd {m : Nat → Int} (hm : I6 m) (a b : Nat) : (m (pln a b)).natAbs ≤ 9223372036854775808 := by
  have := hm (pln a b) (pln_lt a b)
  omega
theorem mvn_abs (i a : Nat) : (mvn i a).natAbs ≤ 32768 := by have := mvn_bd i a; omega
theorem rwp_bd {m : Nat → Int} (hm : I6 m) (i b : Nat) : ∀ a, (rwp m i b a).natAbs ≤ a * 302231454903657293676544
  | 0 => by simp [rwp]
  | a + 1 => by
    have h := rwp_bd hm i b a
    have k := abs_mul (mvn_abs i a) (ent_bd hm a b)
    simp only [rwp, Nat.add_mul, Nat.one_mul]
    omega
theorem rwp_three {m : Nat → Int} (hm : I6 m) (i b : Nat) {a : Nat} (ha : a ≤ 3) : (rwp m i b a).natAbs ≤ 906694364710971881029632 := by
  have h := rwp_bd hm i b a
  have := Nat.mul_le_mul_right 302231454903657293676544 ha
  omega
theorem clp_bd {m : Nat → Int} (hm : I6 m) (i j : Nat) : ∀ b, (clp m i j b).natAbs ≤ b * 29710560942849126597578981376
  | 0 => by simp [clp]
  | b + 1 => by
    have h := clp_bd hm i j b
    have k := abs_mul (rwp_three hm i b (Nat.le_refl 3)) (mvn_abs j b)
    simp only [clp, Nat.add_mul, Nat.one_mul]
    omega
theorem clp_three {m : Nat → Int} (hm : I6 m) (i j : Nat) {b : Nat} (hb : b ≤ 3) : (clp m i j b).natAbs ≤ 89131682828547379792736944128 := by
  have h := clp_bd hm i j b
  have := Nat.mul_le_mul_right 29710560942849126597578981376 hb
  omega
theorem abs_small {z : Int} {B : Nat} (h : z.natAbs ≤ B) (hB : B ≤ 170141183460469231731687303715884105727) : Small z := small_of (by omega) (by omega)

/-- A slice of three rows: F. -/
structure FL (w : World) (B : Nat) (r : Nat → Nat) : Prop where
  p : ∀ k, k < 3 → w.cell? ⟨B, k, none⟩ = some (.slice (some ⟨r k, 0, none⟩) 3 3)
  c : ∀ k, k < 3 → ∀ a, a < 3 → w.cell? ⟨r k, a, none⟩ = some (.int .i64 (mvn k a))
theorem fl_keep {w w' : World} (hb : Below w.heap.size w w') {B : Nat} {r : Nat → Nat} (h : FL w B r) : FL w' B r := ⟨fun k hk => cell_keep hb (h.p k hk), fun k hk a ha => cell_keep hb (h.c k hk a ha)⟩
theorem fl_set {w : World} {B b1 o : Nat} {r : Nat → Nat} {v : Value} (h : FL w B r) (n : b1 ≠ B) (nr : ∀ k, k < 3 → b1 ≠ r k) : FL (w.setCell ⟨b1, o, none⟩ v) B r :=
  ⟨fun k hk => by rw [World.cell?_setCell_far _ _ _ _ n]; exact h.p k hk, fun k hk a ha => by rw [World.cell?_setCell_far _ _ _ _ (nr k hk)]; exact h.c k hk a ha⟩
theorem fl_lt {w : World} {B : Nat} {r : Nat → Nat} (h : FL w B r) : B < w.heap.size ∧ ∀ k, k < 3 → r k < w.heap.size := ⟨World.block_lt_of_cell? w _ (h.p 0 (by decide)), fun k hk => World.block_lt_of_cell? w _ (h.c k hk 0 (by decide))⟩
set_option maxHeartbeats 1000000 in
set_option maxRecDepth 10000 in
theorem f_ref (w : World) : Calls Tryd.prog 35 #[] w fun e w' => ∃ B r, e = .returned (.slice (some ⟨B, 0, none⟩) 3 3) ∧ FL w' B r ∧ Below w.heap.size w w' := by
  go_enter Tryd.func35, Tryd.ntmps35
  go_wp2
  go_ret
  refine ⟨_, fun k => w.heap.size + k, rfl, ⟨?_, ?_⟩, b_alloc (b_alloc (b_alloc (b_alloc (Below.refl _ _))))⟩
  · intro k hk
    rcases (show k = 0 ∨ k = 1 ∨ k = 2 by omega) with rfl | rfl | rfl
    all_goals simp [go_sem]
  · intro k hk a ha
    rcases (show k = 0 ∨ k = 1 ∨ k = 2 by omega) with rfl | rfl | rfl <;> rcases (show a = 0 ∨ a = 1 ∨ a = 2 by omega) with rfl | rfl | rfl
    all_goals simp [go_sem, mvn]

/-- What Raw keeps: the doubt A, the answer R, F, the sum S. -/
structure RG (W : World) (A R S B : Nat) (r : Nat → Nat) (m : Nat → Int) (z : Int) (U : World) : Prop where
  b : Below W.heap.size W U
  a : SC U A m
  f : FL U B r
  q : BV U R
  s : VB U S z
  nA : A < S
  nR : R < S
  nB : B < S
  nr : ∀ k, k < 3 → r k < S
  nW : W.heap.size ≤ S
theorem rg_keep {W U U' : World} {A R S B : Nat} {r : Nat → Nat} {m : Nat → Int} {z : Int} (h : RG W A R S B r m z U) (hb : Below U.heap.size U U') : RG W A R S B r m z U' :=
  ⟨b_trans h.b hb, sc_keep hb h.a, fl_keep hb h.f, bv_keep hb h.q, vb_keep h.s hb, h.nA, h.nR, h.nB, h.nr, h.nW⟩
theorem rg_other {W U : World} {A R S B T : Nat} {r : Nat → Nat} {m : Nat → Int} {z : Int} {u u' : Value} (h : RG W A R S B r m z U) (hT : BV U T) (l : S < T) : RG W A R S B r m z ((U.setCell ⟨T, 0, none⟩ u).setCell ⟨T, 1, none⟩ u') := by
  have hA := h.nA
  have hR := h.nR
  have hB := h.nB
  have hr := h.nr
  have hW := h.nW
  have nr : ∀ k, k < 3 → T ≠ r k := fun k hk => by have := hr k hk; omega
  exact ⟨b_set (b_set h.b (by simp; omega)) (by simp; omega), sc_set (sc_set h.a (by omega)) (by omega), fl_set (fl_set h.f (by omega) nr) (by omega) nr, bv_other h.q (by omega), vb_other hT h.s (by omega), hA, hR, hB, hr, hW⟩
theorem rg_sum {W U : World} {A R S B : Nat} {r : Nat → Nat} {m : Nat → Int} {z z' : Int} {n : Bool} {a : Option Addr} {k c : Nat} (h : RG W A R S B r m z U) (g : BG U (.agg #[.bool n, .slice a k c]) z') :
    RG W A R S B r m z' ((U.setCell ⟨S, 0, none⟩ (.bool n)).setCell ⟨S, 1, none⟩ (.slice a k c)) := by
  have hA := h.nA
  have hR := h.nR
  have hB := h.nB
  have hr := h.nr
  have hW := h.nW
  have nr : ∀ k, k < 3 → S ≠ r k := fun k hk => by have := hr k hk; omega
  exact ⟨b_set (b_set h.b (by simp; omega)) (by simp; omega), sc_set (sc_set h.a (by omega)) (by omega), fl_set (fl_set h.f (by omega) nr) (by omega) nr, bv_other h.q (by omega), vb_store (vb_bv h.s) g, hA, hR, hB, hr, hW⟩

set_option maxHeartbeats 8000000 in
set_option maxRecDepth 10000 in
theorem raw_ref (m : Nat → Int) (i j : Nat) (hm : I6 m) (hi : i < 3) (hj : j < 3) (w : World) :
    Calls Tryd.prog 11 #[sv m, .int .i64 i, .int .i64 j] w (RetB (rwn m i j) w) := by
  have kA : SC ((w.alloc (Obj.cells #[.int .i64 (m 0), .int .i64 (m 1), .int .i64 (m 2), .int .i64 (m 3), .int .i64 (m 4), .int .i64 (m 5)] 23)).alloc (Obj.cells #[.bool false, .slice none 0 0] 42)) w.heap.size m := sc_alloc (sc_new (w := w) (m := m) (t := 23) rfl)
  have kR : BV ((w.alloc (Obj.cells #[.int .i64 (m 0), .int .i64 (m 1), .int .i64 (m 2), .int .i64 (m 3), .int .i64 (m 4), .int .i64 (m 5)] 23)).alloc (Obj.cells #[.bool false, .slice none 0 0] 42)) (w.heap.size + 1) := bv_new _ _ _ _ (by simp)
  have B0 : Below w.heap.size w ((w.alloc (Obj.cells #[.int .i64 (m 0), .int .i64 (m 1), .int .i64 (m 2), .int .i64 (m 3), .int .i64 (m 4), .int .i64 (m 5)] 23)).alloc (Obj.cells #[.bool false, .slice none 0 0] 42)) := b_alloc (b_alloc (Below.refl _ _))
  go_enter Tryd.func11, Tryd.ntmps11
  go_wp2_with fail
  refine (f_ref _).mono ?_
  rintro e1 w1 ⟨BB, rr, rfl, hF, hb9⟩
  replace kA := sc_keep hb9 kA
  replace kR := bv_keep hb9 kR
  replace B0 := b_trans B0 hb9
  clear hb9
  go_wp2_with fail
  refine (of_big 0 (by decide) (by decide) _).mono ?_
  rintro e2 w2 ⟨v2, rfl, g2, hb9⟩
  obtain ⟨n, a, k, c, rfl⟩ := bg_form g2
  replace kA := sc_keep hb9 kA
  replace kR := bv_keep hb9 kR
  replace B0 := b_trans B0 hb9
  replace hF := fl_keep hb9 hF
  clear hb9
  have hj0 : RG w w.heap.size (w.heap.size + 1) w2.heap.size BB rr m (clp m i j 0) (w2.alloc (Obj.cells #[.bool n, .slice a k c] 42)) := ⟨b_alloc B0, sc_alloc kA, fl_keep (b_alloc (Below.refl _ _)) hF, bv_keep (b_alloc (Below.refl _ _)) kR, vb_new rfl g2, sc_lt kA, bv_lt kR, (fl_lt hF).1, (fl_lt hF).2, B0.size⟩
  replace hj0 := Lib.hid hj0
  clear kA kR B0 hF g2
  go_wp2
  generalize w2.heap.size = S at *
  have i0 : (0 : Int) ≤ (i : Int) := by omega
  have i3 : (i : Int) < 3 := by omega
  have j0 : (0 : Int) ≤ (j : Int) := by omega
  have j3 : (j : Int) < 3 := by omega
  go_loopw [9] (fun qv wr => ∃ q : Nat, q ≤ 3 ∧ qv = .int .i64 q ∧ Hid (RG w w.heap.size (w.heap.size + 1) S BB rr m (clp m i j q) wr)) (fun qv _ => 3 - (intOf qv).toNat)
  case atStart => exact ⟨0, by decide, rfl, hj0⟩
  case round =>
    obtain ⟨q, hq, rfl, hj1⟩ := hrel
    clear hj0
    by_cases cq : q = 3
    · subst cq
      have E := Lib.hid (clp_rwn m i j)
      have hR := Lib.hid hj1.out.q
      have B9 := hj1.out.b
      obtain ⟨n', a', k', c', kc, kf, kg⟩ := vb_use hj1.out.s
      obtain ⟨n2, a2, k2, c2, rc, rf⟩ := bv_use hR.out
      replace kg := Lib.hid kg
      clear hj1
      go_wp2
      exact bodyPost_ret (v := .agg #[.bool n', .slice a' k' c']) (by simp [results, Tryd.results11, go_sem, rc]) rfl ⟨_, rfl, by rw [← E.out]; exact bg_store hR.out kg.out, b_set (b_set B9 (Nat.le_succ _)) (Nat.le_succ _)⟩
    replace hq : q < 3 := by omega
    clear cq
    have q0 : (0 : Int) ≤ (q : Int) := by omega
    have q3 : (q : Int) < 3 := by omega
    go_wp2_with fail
    refine (of_big 0 (by decide) (by decide) _).mono ?_
    rintro e2 w3 ⟨v2, rfl, g2, hb9⟩
    obtain ⟨n, a, k, c, rfl⟩ := bg_form g2
    replace hj1 := rg_keep hj1.out hb9
    clear hb9
    have hS : S < w3.heap.size := by
      obtain ⟨n', a', k', c', h1, _⟩ := hj1.s
      exact (Array.getElem?_eq_some_iff.1 h1).1
    have hT : VB (w3.alloc (Obj.cells #[.bool n, .slice a k c] 42)) w3.heap.size (rwp m i q 0) := vb_new rfl g2
    replace hj1 := Lib.hid (rg_keep hj1 (b_alloc (o := Obj.cells #[.bool n, .slice a k c] 42) (Below.refl _ _)))
    replace hT := Lib.hid hT
    clear g2
    go_wp2
    generalize w3.heap.size = T at *
    go_loopw [11] (fun pv wr => ∃ p : Nat, p ≤ 3 ∧ pv = .int .i64 p ∧ Hid (RG w w.heap.size (w.heap.size + 1) S BB rr m (clp m i j q) wr) ∧ Hid (VB wr T (rwp m i q p))) (fun pv _ => 3 - (intOf pv).toNat)
    case atStart => exact ⟨0, by decide, rfl, hj1, hT⟩
    case round =>
      obtain ⟨p, hp, rfl, hj3, hT⟩ := hrel
      clear hj1
      have s0 := hj3.out
      by_cases cp : p = 3
      rotate_left
      · replace hp : p < 3 := by omega
        clear cp
        have p0 : (0 : Int) ≤ (p : Int) := by omega
        have p3 : (p : Int) < 3 := by omega
        have hpl := pln_lt p q
        have oF := of_big (mvn i p) (by have := mvn_bd i p; omega) (by have := mvn_bd i p; omega)
        have oM := of_big (m (pln p q)) (hm _ hpl).1 (hm _ hpl).2
        have cP := place_ok (p : Int) (q : Int) (pln p q) (pln_at hp hq)
        have sF := abs_small (mvn_abs i p) (by decide)
        have sM := abs_small (ent_bd hm p q) (by decide)
        have sR := abs_small (rwp_three hm i q (Nat.le_of_lt hp)) (by decide)
        have sP := abs_small (abs_mul (mvn_abs i p) (ent_bd hm p q)) (by decide)
        obtain ⟨n, a, k, c, kc, kf, kg⟩ := vb_use hT.out
        go_wp2
        refine region_each [23, 24, 25, 26, 27, 28, 29, 30, 31, 32, 33, 34, 35, 36, 37, 38, 39] (fun i_ X_ U_ => match i_ with | 0 => X_ = .agg #[.bool n, .slice a k c] | 1 => X_ = .slice (some ⟨BB, 0, none⟩) 3 3 | 2 => X_ = .int .i64 (i : Int) | 3 => X_ = .pointer (some ⟨BB, i, none⟩) | 4 => X_ = .slice (some ⟨rr i, 0, none⟩) 3 3 | 5 => X_ = .int .i64 (p : Int) | 6 => X_ = .pointer (some ⟨rr i, p, none⟩) | 7 => X_ = .int .i64 (mvn i p) | 8 => BG U_ X_ (mvn i p) | 9 => X_ = .int .i64 (p : Int) | 10 => X_ = .int .i64 (q : Int) | 11 => X_ = .int .i64 ((pln p q : Nat) : Int) | 12 => X_ = .pointer (some ⟨w.heap.size, pln p q, none⟩) | 13 => X_ = .int .i64 (m (pln p q)) | 14 => BG U_ X_ (m (pln p q)) | 15 => BG U_ X_ (mvn i p * m (pln p q)) | 16 => BG U_ X_ (rwp m i q (p + 1)) | _ => True) (fun i_ => false) (by kernel_rfl) (by kernel_rfl) (by kernel_rfl) (by kernel_rfl) (by kernel_rfl) ?_ (fun i x w hi ha h => by cases ha) ?_ ?_
        · refine swp (upS (upS (upS (upS (upS (upS (upS (upS (upS (upS (upS (upS (upS (upS (upS (upS (upS up0 ?_) ?_) ?_) ?_) ?_) ?_) ?_) ?_) ?_) ?_) ?_) ?_) ?_) ?_) ?_) ?_) ?_)
          · exact fun _ _ _ h _ => h
          · exact fun _ _ _ h _ => h
          · exact fun _ _ _ h _ => h
          · exact fun _ _ _ h _ => h
          · exact fun _ _ _ h _ => h
          · exact fun _ _ _ h _ => h
          · exact fun _ _ _ h _ => h
          · exact fun _ _ _ h _ => h
          · intro x w w' h hb; exact bg_keep h hb
          · exact fun _ _ _ h _ => h
          · exact fun _ _ _ h _ => h
          · exact fun _ _ _ h _ => h
          · exact fun _ _ _ h _ => h
          · exact fun _ _ _ h _ => h
          · intro x w w' h hb; exact bg_keep h hb
          · intro x w w' h hb; exact bg_keep h hb
          · intro x w w' h hb; exact bg_keep h hb
        · refine upS (upS (upS (upS (upS (upS (upS (upS (upS (upS (upS (upS (upS (upS (upS (upS (upS up0 ?_) ?_) ?_) ?_) ?_) ?_) ?_) ?_) ?_) ?_) ?_) ?_) ?_) ?_) ?_) ?_) ?_
          all_goals intro v f w' hb hv hB hd
          · have b10 : f.tmps[10]? = some (.pointer (some ⟨T, 0, none⟩)) := (hb 10 (by decide)).trans rfl
            clear hb hv hd
            have c := bc_keep hB kc
            refine wpOp_step rfl fun K hK => ?_
            go_simp
            exact hK _ _ ⟨_, rfl, Below.refl _ _, rfl, fun h => absurd h (by decide)⟩
          · have b7 : f.tmps[7]? = some (.slice (some ⟨BB, 0, none⟩) 3 3) := (hb 7 (by decide)).trans rfl
            clear hb hv hd
            refine wpOp_step rfl fun K hK => ?_
            go_simp
            exact hK _ _ ⟨_, rfl, Below.refl _ _, rfl, fun h => absurd h (by decide)⟩
          · have b1 : f.tmps[1]? = some (.int .i64 (i : Int)) := (hb 1 (by decide)).trans rfl
            clear hb hv hd
            refine wpOp_step rfl fun K hK => ?_
            go_simp
            exact hK _ _ ⟨_, rfl, Below.refl _ _, rfl, fun h => absurd h (by decide)⟩
          · have d1 := got (hv 1 24 rfl) (hd 1 (by kernel_rfl))
            have d2 := got (hv 2 25 rfl) (hd 2 (by kernel_rfl))
            clear hb hv hd
            refine wpOp_step rfl fun K hK => ?_
            go_simp
            exact hK _ _ ⟨_, rfl, Below.refl _ _, rfl, fun h => absurd h (by decide)⟩
          · have d3 := got (hv 3 26 rfl) (hd 3 (by kernel_rfl))
            clear hb hv hd
            have c := (fl_keep hB s0.f).p i hi
            refine wpOp_step rfl fun K hK => ?_
            go_simp
            exact hK _ _ ⟨_, rfl, Below.refl _ _, rfl, fun h => absurd h (by decide)⟩
          · have b11 : f.tmps[11]? = some (.int .i64 (p : Int)) := (hb 11 (by decide)).trans rfl
            clear hb hv hd
            refine wpOp_step rfl fun K hK => ?_
            go_simp
            exact hK _ _ ⟨_, rfl, Below.refl _ _, rfl, fun h => absurd h (by decide)⟩
          · have d4 := got (hv 4 27 rfl) (hd 4 (by kernel_rfl))
            have d5 := got (hv 5 28 rfl) (hd 5 (by kernel_rfl))
            clear hb hv hd
            refine wpOp_step rfl fun K hK => ?_
            go_simp
            exact hK _ _ ⟨_, rfl, Below.refl _ _, rfl, fun h => absurd h (by decide)⟩
          · have d6 := got (hv 6 29 rfl) (hd 6 (by kernel_rfl))
            clear hb hv hd
            have c := (fl_keep hB s0.f).c i hi p hp
            refine wpOp_step rfl fun K hK => ?_
            go_simp
            exact hK _ _ ⟨_, rfl, Below.refl _ _, rfl, fun h => absurd h (by decide)⟩
          · have d7 := got (hv 7 30 rfl) (hd 7 (by kernel_rfl))
            clear hb hv hd
            refine wpOp_call rfl Tryd.call36 (args1 (eval_tmp d7)) (oF _) ?_
            rintro e w5 ⟨v5, rfl, h5, hb5⟩
            exact ⟨_, rfl, _, rfl, hb5, h5, fun h => absurd h (by decide)⟩
          · have b11 : f.tmps[11]? = some (.int .i64 (p : Int)) := (hb 11 (by decide)).trans rfl
            clear hb hv hd
            refine wpOp_step rfl fun K hK => ?_
            go_simp
            exact hK _ _ ⟨_, rfl, Below.refl _ _, rfl, fun h => absurd h (by decide)⟩
          · have b9 : f.tmps[9]? = some (.int .i64 (q : Int)) := (hb 9 (by decide)).trans rfl
            clear hb hv hd
            refine wpOp_step rfl fun K hK => ?_
            go_simp
            exact hK _ _ ⟨_, rfl, Below.refl _ _, rfl, fun h => absurd h (by decide)⟩
          · have d9 := got (hv 9 32 rfl) (hd 9 (by kernel_rfl))
            have d10 := got (hv 10 33 rfl) (hd 10 (by kernel_rfl))
            clear hb hv hd
            refine wpOp_call rfl Tryd.call22 (args2 (eval_tmp d9) (eval_tmp d10)) (cP _) ?_
            rintro e5 w5 ⟨rfl, hb5⟩
            exact ⟨_, rfl, _, rfl, hb5, rfl, fun h => absurd h (by decide)⟩
          · have b3 : f.tmps[3]? = some (.pointer (some ⟨w.heap.size, 0, none⟩)) := (hb 3 (by decide)).trans rfl
            have d11 := got (hv 11 34 rfl) (hd 11 (by kernel_rfl))
            clear hb hv hd
            have y0 : (0 : Int) ≤ (pln p q : Int) := by omega
            have y6 : (pln p q : Int) < 6 := by omega
            refine wpOp_step rfl fun K hK => ?_
            go_simp
            exact hK _ _ ⟨_, rfl, Below.refl _ _, rfl, fun h => absurd h (by decide)⟩
          · have d12 := got (hv 12 35 rfl) (hd 12 (by kernel_rfl))
            clear hb hv hd
            have c := sc_keep hB s0.a (pln p q) hpl
            refine wpOp_step rfl fun K hK => ?_
            go_simp
            exact hK _ _ ⟨_, rfl, Below.refl _ _, rfl, fun h => absurd h (by decide)⟩
          · have d13 := got (hv 13 36 rfl) (hd 13 (by kernel_rfl))
            clear hb hv hd
            refine wpOp_call rfl Tryd.call36 (args1 (eval_tmp d13)) (oM _) ?_
            rintro e w5 ⟨v5, rfl, h5, hb5⟩
            exact ⟨_, rfl, _, rfl, hb5, h5, fun h => absurd h (by decide)⟩
          · have h8 : BG w' (v 8) (mvn i p) := hd 8 (by kernel_rfl)
            have d8 : f.tmps[31]? = some (v 8) := hv 8 31 rfl
            have h14 : BG w' (v 14) (m (pln p q)) := hd 14 (by kernel_rfl)
            have d14 : f.tmps[37]? = some (v 14) := hv 14 37 rfl
            clear hb hv hd
            refine wpOp_call rfl Tryd.call34 (args2 (eval_tmp d8) (eval_tmp d14)) (mul_big _ _ (mvn i p) (m (pln p q)) _ h8 h14 sF sM) ?_
            rintro e w5 ⟨v5, rfl, h5, hb5⟩
            exact ⟨_, rfl, _, rfl, hb5, h5, fun h => absurd h (by decide)⟩
          · have d0 := got (hv 0 23 rfl) (hd 0 (by kernel_rfl))
            have h15 : BG w' (v 15) (mvn i p * m (pln p q)) := hd 15 (by kernel_rfl)
            have d15 : f.tmps[38]? = some (v 15) := hv 15 38 rfl
            clear hb hv hd
            refine wpOp_call rfl Tryd.call37 (args2 (eval_tmp d0) (eval_tmp d15)) (add_big _ _ (rwp m i q p) (mvn i p * m (pln p q)) _ (bg_keep kg hB) h15 sR sP) ?_
            rintro e w5 ⟨v5, rfl, h5, hb5⟩
            exact ⟨_, rfl, _, rfl, hb5, h5, fun h => absurd h (by decide)⟩
        · intro v w' hB hF hD
          have F0 : v 0 = _ := hF 0 (by simp)
          have F1 : v 1 = _ := hF 1 (by simp)
          have F2 : v 2 = _ := hF 2 (by simp)
          have F3 : v 3 = _ := hF 3 (by simp)
          have F4 : v 4 = _ := hF 4 (by simp)
          have F5 : v 5 = _ := hF 5 (by simp)
          have F6 : v 6 = _ := hF 6 (by simp)
          have F7 : v 7 = _ := hF 7 (by simp)
          have F8 : BG w' (v 8) (mvn i p) := hF 8 (by simp)
          have F9 : v 9 = _ := hF 9 (by simp)
          have F10 : v 10 = _ := hF 10 (by simp)
          have F11 : v 11 = _ := hF 11 (by simp)
          have F12 : v 12 = _ := hF 12 (by simp)
          have F13 : v 13 = _ := hF 13 (by simp)
          have F14 : BG w' (v 14) (m (pln p q)) := hF 14 (by simp)
          have F15 : BG w' (v 15) (mvn i p * m (pln p q)) := hF 15 (by simp)
          have F16 : BG w' (v 16) (rwp m i q (p + 1)) := hF 16 (by simp)
          clear hF
          obtain ⟨n8_, a8_, k8_, c8_, e8⟩ := bg_form F8
          obtain ⟨n14_, a14_, k14_, c14_, e14⟩ := bg_form F14
          obtain ⟨n15_, a15_, k15_, c15_, e15⟩ := bg_form F15
          obtain ⟨n16_, a16_, k16_, c16_, e16⟩ := bg_form F16
          rw [e16] at F16
          simp only [frOf, frGo, Nat.zero_add, Nat.reduceAdd, F0, F1, F2, F3, F4, F5, F6, F7, e8, F9, F10, F11, F12, F13, e14, e15, e16]
          have kv := vb_keep hT.out hB
          have sN := Lib.hid (rg_other (u := .bool n16_) (u' := .slice a16_ k16_ c16_) (rg_keep s0 hB) (vb_bv kv) hS)
          have tN := Lib.hid (vb_store (vb_bv kv) F16)
          have c_ := bc_keep hB kc
          have cf := bf_keep hB kc kf
          clear F0 F1 F2 F3 F4 F5 F6 F7 F8 F9 F10 F11 F12 F13 F14 F15 F16 e8 e14 e15 e16 hD hB s0 kv kc kf kg oF oM cP sF sM sR sP hj3 hT
          go_wp2
          go_roundw
          case rel => exact ⟨p + 1, hp, by go_num, sN, tN⟩
          case measure => simp [intOf]; omega
      · subst cp
        have oF := of_big (mvn j q) (by have := mvn_bd j q; omega) (by have := mvn_bd j q; omega)
        have sF := abs_small (mvn_abs j q) (by decide)
        have sR := abs_small (rwp_three hm i q (Nat.le_refl 3)) (by decide)
        have sC := abs_small (clp_three hm i j (Nat.le_of_lt hq)) (by decide)
        have sP := abs_small (abs_mul (rwp_three hm i q (Nat.le_refl 3)) (mvn_abs j q)) (by decide)
        obtain ⟨n, a, k, c, kc, kf, kg⟩ := vb_use s0.s
        obtain ⟨n2, a2, k2, c2, kc2, kf2, kg2⟩ := vb_use hT.out
        go_wp2
        refine region_each [40, 41, 42, 43, 44, 45, 46, 47, 48, 49, 50, 51] (fun i_ X_ U_ => match i_ with | 0 => X_ = .agg #[.bool n, .slice a k c] | 1 => X_ = .agg #[.bool n2, .slice a2 k2 c2] | 2 => X_ = .slice (some ⟨BB, 0, none⟩) 3 3 | 3 => X_ = .int .i64 (j : Int) | 4 => X_ = .pointer (some ⟨BB, j, none⟩) | 5 => X_ = .slice (some ⟨rr j, 0, none⟩) 3 3 | 6 => X_ = .int .i64 (q : Int) | 7 => X_ = .pointer (some ⟨rr j, q, none⟩) | 8 => X_ = .int .i64 (mvn j q) | 9 => BG U_ X_ (mvn j q) | 10 => BG U_ X_ (rwp m i q 3 * mvn j q) | 11 => BG U_ X_ (clp m i j (q + 1)) | _ => True) (fun i_ => false) (by kernel_rfl) (by kernel_rfl) (by kernel_rfl) (by kernel_rfl) (by kernel_rfl) ?_ (fun i x w hi ha h => by cases ha) ?_ ?_
        · refine swp (upS (upS (upS (upS (upS (upS (upS (upS (upS (upS (upS (upS up0 ?_) ?_) ?_) ?_) ?_) ?_) ?_) ?_) ?_) ?_) ?_) ?_)
          · exact fun _ _ _ h _ => h
          · exact fun _ _ _ h _ => h
          · exact fun _ _ _ h _ => h
          · exact fun _ _ _ h _ => h
          · exact fun _ _ _ h _ => h
          · exact fun _ _ _ h _ => h
          · exact fun _ _ _ h _ => h
          · exact fun _ _ _ h _ => h
          · exact fun _ _ _ h _ => h
          · intro x w w' h hb; exact bg_keep h hb
          · intro x w w' h hb; exact bg_keep h hb
          · intro x w w' h hb; exact bg_keep h hb
        · refine upS (upS (upS (upS (upS (upS (upS (upS (upS (upS (upS (upS up0 ?_) ?_) ?_) ?_) ?_) ?_) ?_) ?_) ?_) ?_) ?_) ?_
          all_goals intro v f w' hb hv hB hd
          · have b8 : f.tmps[8]? = some (.pointer (some ⟨S, 0, none⟩)) := (hb 8 (by decide)).trans rfl
            clear hb hv hd
            have c := bc_keep hB kc
            refine wpOp_step rfl fun K hK => ?_
            go_simp
            exact hK _ _ ⟨_, rfl, Below.refl _ _, rfl, fun h => absurd h (by decide)⟩
          · have b10 : f.tmps[10]? = some (.pointer (some ⟨T, 0, none⟩)) := (hb 10 (by decide)).trans rfl
            clear hb hv hd
            have c := bc_keep hB kc2
            refine wpOp_step rfl fun K hK => ?_
            go_simp
            exact hK _ _ ⟨_, rfl, Below.refl _ _, rfl, fun h => absurd h (by decide)⟩
          · have b7 : f.tmps[7]? = some (.slice (some ⟨BB, 0, none⟩) 3 3) := (hb 7 (by decide)).trans rfl
            clear hb hv hd
            refine wpOp_step rfl fun K hK => ?_
            go_simp
            exact hK _ _ ⟨_, rfl, Below.refl _ _, rfl, fun h => absurd h (by decide)⟩
          · have b2 : f.tmps[2]? = some (.int .i64 (j : Int)) := (hb 2 (by decide)).trans rfl
            clear hb hv hd
            refine wpOp_step rfl fun K hK => ?_
            go_simp
            exact hK _ _ ⟨_, rfl, Below.refl _ _, rfl, fun h => absurd h (by decide)⟩
          · have d2 := got (hv 2 42 rfl) (hd 2 (by kernel_rfl))
            have d3 := got (hv 3 43 rfl) (hd 3 (by kernel_rfl))
            clear hb hv hd
            refine wpOp_step rfl fun K hK => ?_
            go_simp
            exact hK _ _ ⟨_, rfl, Below.refl _ _, rfl, fun h => absurd h (by decide)⟩
          · have d4 := got (hv 4 44 rfl) (hd 4 (by kernel_rfl))
            clear hb hv hd
            have c := (fl_keep hB s0.f).p j hj
            refine wpOp_step rfl fun K hK => ?_
            go_simp
            exact hK _ _ ⟨_, rfl, Below.refl _ _, rfl, fun h => absurd h (by decide)⟩
          · have b9 : f.tmps[9]? = some (.int .i64 (q : Int)) := (hb 9 (by decide)).trans rfl
            clear hb hv hd
            refine wpOp_step rfl fun K hK => ?_
            go_simp
            exact hK _ _ ⟨_, rfl, Below.refl _ _, rfl, fun h => absurd h (by decide)⟩
          · have d5 := got (hv 5 45 rfl) (hd 5 (by kernel_rfl))
            have d6 := got (hv 6 46 rfl) (hd 6 (by kernel_rfl))
            clear hb hv hd
            refine wpOp_step rfl fun K hK => ?_
            go_simp
            exact hK _ _ ⟨_, rfl, Below.refl _ _, rfl, fun h => absurd h (by decide)⟩
          · have d7 := got (hv 7 47 rfl) (hd 7 (by kernel_rfl))
            clear hb hv hd
            have c := (fl_keep hB s0.f).c j hj q hq
            refine wpOp_step rfl fun K hK => ?_
            go_simp
            exact hK _ _ ⟨_, rfl, Below.refl _ _, rfl, fun h => absurd h (by decide)⟩
          · have d8 := got (hv 8 48 rfl) (hd 8 (by kernel_rfl))
            clear hb hv hd
            refine wpOp_call rfl Tryd.call36 (args1 (eval_tmp d8)) (oF _) ?_
            rintro e w5 ⟨v5, rfl, h5, hb5⟩
            exact ⟨_, rfl, _, rfl, hb5, h5, fun h => absurd h (by decide)⟩
          · have d1 := got (hv 1 41 rfl) (hd 1 (by kernel_rfl))
            have h9 : BG w' (v 9) (mvn j q) := hd 9 (by kernel_rfl)
            have d9 : f.tmps[49]? = some (v 9) := hv 9 49 rfl
            clear hb hv hd
            refine wpOp_call rfl Tryd.call34 (args2 (eval_tmp d1) (eval_tmp d9)) (mul_big _ _ (rwp m i q 3) (mvn j q) _ (bg_keep kg2 hB) h9 sR sF) ?_
            rintro e w5 ⟨v5, rfl, h5, hb5⟩
            exact ⟨_, rfl, _, rfl, hb5, h5, fun h => absurd h (by decide)⟩
          · have d0 := got (hv 0 40 rfl) (hd 0 (by kernel_rfl))
            have h10 : BG w' (v 10) (rwp m i q 3 * mvn j q) := hd 10 (by kernel_rfl)
            have d10 : f.tmps[50]? = some (v 10) := hv 10 50 rfl
            clear hb hv hd
            refine wpOp_call rfl Tryd.call37 (args2 (eval_tmp d0) (eval_tmp d10)) (add_big _ _ (clp m i j q) (rwp m i q 3 * mvn j q) _ (bg_keep kg hB) h10 sC sP) ?_
            rintro e w5 ⟨v5, rfl, h5, hb5⟩
            exact ⟨_, rfl, _, rfl, hb5, h5, fun h => absurd h (by decide)⟩
        · intro v w' hB hF hD
          have F0 : v 0 = _ := hF 0 (by simp)
          have F1 : v 1 = _ := hF 1 (by simp)
          have F2 : v 2 = _ := hF 2 (by simp)
          have F3 : v 3 = _ := hF 3 (by simp)
          have F4 : v 4 = _ := hF 4 (by simp)
          have F5 : v 5 = _ := hF 5 (by simp)
          have F6 : v 6 = _ := hF 6 (by simp)
          have F7 : v 7 = _ := hF 7 (by simp)
          have F8 : v 8 = _ := hF 8 (by simp)
          have F9 : BG w' (v 9) (mvn j q) := hF 9 (by simp)
          have F10 : BG w' (v 10) (rwp m i q 3 * mvn j q) := hF 10 (by simp)
          have F11 : BG w' (v 11) (clp m i j (q + 1)) := hF 11 (by simp)
          clear hF
          obtain ⟨n9_, a9_, k9_, c9_, e9⟩ := bg_form F9
          obtain ⟨n10_, a10_, k10_, c10_, e10⟩ := bg_form F10
          obtain ⟨n11_, a11_, k11_, c11_, e11⟩ := bg_form F11
          rw [e11] at F11
          simp only [frOf, frGo, Nat.zero_add, Nat.reduceAdd, F0, F1, F2, F3, F4, F5, F6, F7, F8, e9, e10, e11]
          have sN := Lib.hid (rg_sum (rg_keep s0 hB) F11)
          have c_ := bc_keep hB kc
          have cf := bf_keep hB kc kf
          clear F0 F1 F2 F3 F4 F5 F6 F7 F8 F9 F10 F11 e9 e10 e11 hD hB s0 kc kf kg kc2 kf2 kg2 oF sF sR sC sP hj3 hT
          go_wp2
          go_roundw
          case rel => exact ⟨q + 1, hq, by go_num, sN⟩
          case measure => simp [intOf]; omega
end Go.Proofs.YtlpmmnfijfljoaaDoor
