/- The document's whole numbers: Down, Div, low, From: each call's answer. -/
import Derived.Test.YthnaeoagooahbaaDoorBigE
namespace Go.Proofs.YthnaeoagooahbaaDoor
open Go.RowKit Go.Shelf Go.Joins

theorem tiny_neg {z : Int} (h : Tiny z) : Tiny (-z) := by obtain ⟨a, b⟩ := h; exact ⟨by omega, by omega⟩
theorem down_big (va vb : Value) (x y : Int) (w : World) (hx : BG w va x) (hy : BG w vb y) (y1 : 1 ≤ y) (tx : Tiny x) (ty : Tiny y) :
    Calls Tryd.prog 40 #[va, vb] w (RetB (x / y) w) := by
  obtain ⟨n1, aa, a, ca, rfl, hA, da, na, la, rfl, ca1, ca2⟩ := bg_open hx
  have k := (sgn_neg da na la).2.2
  exact down_go n1 aa ca a vb y w hA da (small_len da na la (tiny_small tx)) hy y1 ty (by obtain ⟨a, b⟩ := tx; exact ⟨by omega, by omega⟩)

/-- The quotient, rounded down; y is not 0. -/
def qd (x y : Int) : Int := if y < 0 then -x / -y else x / y

set_option maxHeartbeats 2000000 in
set_option maxRecDepth 10000 in
theorem div_big (va vb : Value) (x y : Int) (w : World) (hx : BG w va x) (hy : BG w vb y) (y0 : y ≠ 0) (tx : Tiny x) (ty : Tiny y) :
    Calls Tryd.prog 30 #[va, vb] w (RetB (qd x y) w) := by
  obtain ⟨n1, aa, ka, ca, rfl⟩ := bg_form hx
  obtain ⟨n2, ab, b, cb, e, _, db, nb, lb, hz, _, _⟩ := bg_open hy
  subst e
  have ng := (sgn_neg db nb lb).1
  rw [← hz] at ng
  clear db nb lb hz
  generalize b.length = kb at *
  cases n2
  · have yp : ¬ y < 0 := fun h => by have := ng.1 h; cases this
    unfold qd
    rw [if_neg yp]
    go_enter Tryd.func30, Tryd.ntmps30
    go_wp2_with fail
    have B1 : Below w.heap.size w (((w.alloc (Obj.cells #[.bool n1, .slice aa ka ca] 62)).alloc (Obj.cells #[.bool false, .slice ab kb cb] 62)).alloc (Obj.cells #[.bool false, .slice none 0 0] 62)) := b_alloc (b_alloc (b_alloc (Below.refl _ _)))
    have k1 : BC (((w.alloc (Obj.cells #[.bool n1, .slice aa ka ca] 62)).alloc (Obj.cells #[.bool false, .slice ab kb cb] 62)).alloc (Obj.cells #[.bool false, .slice none 0 0] 62)) w.heap.size n1 (.slice aa ka ca) := by simp [BC, go_sem, World.cell?_alloc_past]
    have k2 : BC (((w.alloc (Obj.cells #[.bool n1, .slice aa ka ca] 62)).alloc (Obj.cells #[.bool false, .slice ab kb cb] 62)).alloc (Obj.cells #[.bool false, .slice none 0 0] 62)) (w.heap.size + 1) false (.slice ab kb cb) := by simp [BC, go_sem, World.cell?_alloc_past]
    have r1 : BV (((w.alloc (Obj.cells #[.bool n1, .slice aa ka ca] 62)).alloc (Obj.cells #[.bool false, .slice ab kb cb] 62)).alloc (Obj.cells #[.bool false, .slice none 0 0] 62)) (w.heap.size + 1 + 1) := bv_new _ _ _ _ (by simp)
    have g1 := bg_keep hx B1
    have g2 := bg_keep hy B1
    clear hx hy
    refine (down_big _ _ x y _ g1 g2 (by omega) tx ty).mono ?_
    rintro e w2 ⟨bv, rfl, hR, hb2⟩
    obtain ⟨n9, a9, k9, c9, rfl⟩ := bg_form hR
    have r2 := bv_keep hb2 r1
    obtain ⟨n', a', k', c'', r3, f3⟩ := bv_use r2
    have B3 : Below w.heap.size w w2 := b_trans B1 hb2
    have HB := Lib.hid (And.intro r2 hR)
    clear hb2 hR r2
    go_wp2
    exact bodyPost_ret (v := .agg #[.bool n9, .slice a9 k9 c9]) (by simp [results, Tryd.results30, go_sem, r3]) rfl ⟨_, rfl, bg_store HB.out.1 HB.out.2, b_set (b_set B3 (by simp; omega)) (by simp; omega)⟩
  · have yn : y < 0 := ng.2 rfl
    unfold qd
    rw [if_pos yn]
    go_enter Tryd.func30, Tryd.ntmps30
    go_wp2_with fail
    have B1 : Below w.heap.size w (((w.alloc (Obj.cells #[.bool n1, .slice aa ka ca] 62)).alloc (Obj.cells #[.bool true, .slice ab kb cb] 62)).alloc (Obj.cells #[.bool false, .slice none 0 0] 62)) := b_alloc (b_alloc (b_alloc (Below.refl _ _)))
    have k1 : BC (((w.alloc (Obj.cells #[.bool n1, .slice aa ka ca] 62)).alloc (Obj.cells #[.bool true, .slice ab kb cb] 62)).alloc (Obj.cells #[.bool false, .slice none 0 0] 62)) w.heap.size n1 (.slice aa ka ca) := by simp [BC, go_sem, World.cell?_alloc_past]
    have k2 : BC (((w.alloc (Obj.cells #[.bool n1, .slice aa ka ca] 62)).alloc (Obj.cells #[.bool true, .slice ab kb cb] 62)).alloc (Obj.cells #[.bool false, .slice none 0 0] 62)) (w.heap.size + 1) true (.slice ab kb cb) := by simp [BC, go_sem, World.cell?_alloc_past]
    have r1 : BV (((w.alloc (Obj.cells #[.bool n1, .slice aa ka ca] 62)).alloc (Obj.cells #[.bool true, .slice ab kb cb] 62)).alloc (Obj.cells #[.bool false, .slice none 0 0] 62)) (w.heap.size + 1 + 1) := bv_new _ _ _ _ (by simp)
    have g1 := bg_keep hx B1
    have g2 := bg_keep hy B1
    clear hx hy
    generalize (((w.alloc (Obj.cells #[.bool n1, .slice aa ka ca] 62)).alloc (Obj.cells #[.bool true, .slice ab kb cb] 62)).alloc (Obj.cells #[.bool false, .slice none 0 0] 62)) = W0 at *
    refine region_each [7, 8, 9, 10, 11] (fun i X_ U_ => match i with | 0 => X_ = .agg #[.bool n1, .slice aa ka ca] | 1 => BG U_ X_ (-x) | 2 => X_ = .agg #[.bool true, .slice ab kb cb] | 3 => BG U_ X_ (-y) | 4 => BG U_ X_ (-x / -y) | _ => True) (fun i => false) (by kernel_rfl) (by kernel_rfl) (by kernel_rfl) (by kernel_rfl) (by kernel_rfl) ?_ ?_ ?_ ?_
    · intro i x w w' hi h hb
      match i, hi with
      | 0, _ => exact h
      | 1, _ => exact bg_keep h hb
      | 2, _ => exact h
      | 3, _ => exact bg_keep h hb
      | 4, _ => exact bg_keep h hb
      | k + 5, hk => exact absurd hk (by simp)
    · intro i x w hi ha h
      cases ha
    · intro i hi v f w' hb hv hB hd
      match i, hi with
      | 0, _ =>
        have b2 : f.tmps[2]? = some (.pointer (some ⟨w.heap.size, 0, none⟩)) := (hb 2 (by decide)).trans rfl
        clear hb hv hd
        have c := bc_keep hB k1
        refine wpOp_step rfl (fun K hK => ?_)
        go_simp
        exact hK _ _ ⟨_, rfl, Below.refl _ _, rfl, fun h => absurd h (by decide)⟩
      | 1, _ =>
        have h0 : (v 0) = .agg #[.bool n1, .slice aa ka ca] := hd 0 (by kernel_rfl)
        have d0 : f.tmps[7]? = some (.agg #[.bool n1, .slice aa ka ca]) := (hv 0 7 rfl).trans (congrArg some h0)
        clear h0
        clear hb hv hd
        refine wpOp_step rfl (fun K hK => ?_)
        go_simp
        refine (turn_any _ x _ (bg_keep g1 hB)).mono ?_
        rintro e w5 ⟨v5, rfl, h5, hb5⟩
        exact hK _ _ ⟨_, rfl, hb5, h5, fun h => absurd h (by decide)⟩
      | 2, _ =>
        have b3 : f.tmps[3]? = some (.pointer (some ⟨w.heap.size + 1, 0, none⟩)) := (hb 3 (by decide)).trans rfl
        clear hb hv hd
        have c := bc_keep hB k2
        refine wpOp_step rfl (fun K hK => ?_)
        go_simp
        exact hK _ _ ⟨_, rfl, Below.refl _ _, rfl, fun h => absurd h (by decide)⟩
      | 3, _ =>
        have h2 : (v 2) = .agg #[.bool true, .slice ab kb cb] := hd 2 (by kernel_rfl)
        have d2 : f.tmps[9]? = some (.agg #[.bool true, .slice ab kb cb]) := (hv 2 9 rfl).trans (congrArg some h2)
        clear h2
        clear hb hv hd
        refine wpOp_step rfl (fun K hK => ?_)
        go_simp
        refine (turn_any _ y _ (bg_keep g2 hB)).mono ?_
        rintro e w5 ⟨v5, rfl, h5, hb5⟩
        exact hK _ _ ⟨_, rfl, hb5, h5, fun h => absurd h (by decide)⟩
      | 4, _ =>
        have h1 : BG w' (v 1) (-x) := hd 1 (by kernel_rfl)
        have d1 : f.tmps[8]? = some (v 1) := hv 1 8 rfl
        have h3 : BG w' (v 3) (-y) := hd 3 (by kernel_rfl)
        have d3 : f.tmps[10]? = some (v 3) := hv 3 10 rfl
        clear hb hv hd
        refine wpOp_step rfl (fun K hK => ?_)
        go_simp
        refine (down_big _ _ (-x) (-y) _ h1 h3 (by omega) (tiny_neg tx) (tiny_neg ty)).mono ?_
        rintro e w5 ⟨v5, rfl, h5, hb5⟩
        exact hK _ _ ⟨_, rfl, hb5, h5, fun h => absurd h (by decide)⟩
      | k + 5, hk => exact absurd hk (by simp)
    · intro v w' hB hF hD
      have F0 : (v 0) = .agg #[.bool n1, .slice aa ka ca] := hF 0 (by simp)
      have F1 : BG w' (v 1) (-x) := hF 1 (by simp)
      have F2 : (v 2) = .agg #[.bool true, .slice ab kb cb] := hF 2 (by simp)
      have F3 : BG w' (v 3) (-y) := hF 3 (by simp)
      have F4 : BG w' (v 4) (-x / -y) := hF 4 (by simp)
      clear hF
      obtain ⟨n1_, a1_, k1_, c1_, e1⟩ := bg_form F1
      obtain ⟨n3_, a3_, k3_, c3_, e3⟩ := bg_form F3
      obtain ⟨n4_, a4_, k4_, c4_, e4⟩ := bg_form F4
      rw [e4] at F4
      simp only [frOf, frGo, Nat.zero_add, Nat.reduceAdd, F0, e1, F2, e3, e4]
      have r9 := bv_keep hB r1
      have B9 := b_trans B1 hB
      obtain ⟨n'', a'', k'', c'', r8, f8⟩ := bv_use r9
      have HB := Lib.hid (And.intro r9 F4)
      clear hB hD r9 F0 F1 F2 F3 F4
      go_wp2
      exact bodyPost_ret (v := .agg #[.bool n4_, .slice a4_ k4_ c4_]) (by simp [results, Tryd.results30, go_sem, r8]) rfl ⟨_, rfl, bg_store HB.out.1 HB.out.2, b_set (b_set B9 (by simp; omega)) (by simp; omega)⟩

theorem power_64 (w : World) : Calls Tryd.prog 28 #[.int .i64 64] w (RetB 18446744073709551616 w) := by
  have := power_any 64 (by decide) w
  rwa [show (2 : Int) ^ 64 = 18446744073709551616 by decide] at this

theorem low_step {l : List Int} {v : Int} {i : Nat} (_h : Dig l) (hi : i < 4) (e : v = val ((l.take 4).drop (i + 1))) : 65536 * v + l.getD i 0 = val ((l.take 4).drop i) := by
  by_cases c : i < (l.take 4).length
  · rw [List.drop_eq_getElem_cons c]
    simp only [val]
    rw [e, List.getD_eq_getElem?_getD, List.getElem?_eq_getElem (by simp at c; omega), List.getElem_take]
    simp; omega
  · rw [List.drop_of_length_le (by omega)] at e
    rw [List.drop_of_length_le (by omega), List.getD_eq_getElem?_getD, List.getElem?_eq_none (by simp at c; omega), e]
    simp [val]
theorem low_bd {l : List Int} (h : Dig l) (i : Nat) (hi : i ≤ 4) : 0 ≤ val ((l.take 4).drop i) ∧ val ((l.take 4).drop i) < 65536 ^ (4 - i) := by
  have d : Dig ((l.take 4).drop i) := fun x hx => h x (List.mem_of_mem_take (List.mem_of_mem_drop hx))
  have h1 := val_lt d
  have h2 := pow_mono65 (show ((l.take 4).drop i).length ≤ 4 - i by simp; omega)
  exact ⟨val_nonneg d, by omega⟩

set_option maxHeartbeats 2000000 in
set_option maxRecDepth 10000 in
theorem low_any (v : Value) (l : List Int) (w : World) (h : DG w v l) (hd : Dig l) : Calls Tryd.prog 38 #[v] w fun e w' => e = .returned (.int .u64 (val (l.take 4))) ∧ w = w' := by
  go_enter Tryd.func38, Tryd.ntmps38
  go_wp2
  go_loop [3, 4] (fun nv iv => ∃ k : Nat, k ≤ 4 ∧ iv = .int .i64 ((k : Int) - 1) ∧ nv = .int .u64 (val ((l.take 4).drop k))) (fun _ iv => (intOf iv + 1).toNat)
  case atStart => exact ⟨4, Nat.le_refl _, rfl, by rw [List.drop_of_length_le (by simp; omega)]; rfl⟩
  case round =>
    obtain ⟨k, hk, rfl, rfl⟩ := hrel
    by_cases c : k = 0
    · subst c
      have E := Lib.hid (show val ((l.take 4).drop 0) = val (l.take 4) by simp)
      generalize val ((l.take 4).drop 0) = q at *
      go_wp2
      go_ret
      exact ⟨by rw [← E.out]; rfl, rfl⟩
    · obtain ⟨i, rfl⟩ : ∃ i, k = i + 1 := ⟨k - 1, by omega⟩
      have st := low_step hd (i := i) (by omega) rfl
      have bd := low_bd hd (i + 1) (by omega)
      have b2 := low_bd hd i (by omega)
      have p1 := pow_mono65 (show 4 - (i + 1) ≤ 3 by omega)
      have p2 := pow_mono65 (show 4 - i ≤ 4 by omega)
      have e3 : (65536 : Int) ^ 3 = 281474976710656 := by decide
      have e4 : (65536 : Int) ^ 4 = 18446744073709551616 := by decide
      have dg := dig_getD hd i
      have cA := digit_any v l i w h (by omega) (by omega)
      rw [Int.toNat_natCast] at cA
      have lt1 : val ((l.take 4).drop (i + 1)) ≤ 281474976710655 := by omega
      have nn := bd.1
      rw [show (((i + 1 : Nat) : Int) - 1) = (i : Int) by omega]
      have ST := Lib.hid st
      clear st bd b2 p1 p2 e3 e4
      generalize val ((l.take 4).drop (i + 1)) = q at *
      generalize l.getD i 0 = d at *
      go_wp2_with (go_at_call 32; refine cA.mono ?_; rintro e w' ⟨rfl, rfl⟩)
      go_round
      case rel => exact ⟨i, by omega, rfl, by rw [ST.out]⟩
      case measure => simp [intOf]

end Go.Proofs.YthnaeoagooahbaaDoor
