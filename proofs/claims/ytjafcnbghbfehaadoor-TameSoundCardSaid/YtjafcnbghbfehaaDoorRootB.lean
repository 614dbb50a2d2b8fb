/- The document's whole root (aneroidref03): halving what is between; of a wide number; of a product: each call's answer. -/
import Derived.Test.YtjafcnbghbfehaaDoorBigG
import Derived.Test.YtjafcnbghbfehaaDoorRoot
import Derived.Deep.LoopGhost
namespace Go.Proofs.YtjafcnbghbfehaaDoor
open Go.RowKit Go.Shelf Go.Joins

/-- What holds at the head of each round: the number, the result's variable, low and high. -/
structure SR (w : World) (B L : Nat) (z l h : Int) (wr : World) : Prop where
  hA : VB wr B z
  hR : BV wr (B + 1)
  hL : VB wr L l
  hH : VB wr (L + 1) h
  hB : Below w.heap.size w wr
theorem sr_keep {w wr w' : World} {B L : Nat} {z l h : Int} (s : SR w B L z l h wr) (hb : Below wr.heap.size wr w') : SR w B L z l h w' :=
  ⟨vb_keep s.hA hb, bv_keep hb s.hR, vb_keep s.hL hb, vb_keep s.hH hb, b_trans s.hB hb⟩
theorem sr_low {w wr : World} {B L : Nat} {z l h l' : Int} {n : Bool} {x : Option Addr} {k c : Nat} (s : SR w B L z l h wr) (hw : w.heap.size ≤ B) (hL : B + 1 < L) (hv : BG wr (.agg #[.bool n, .slice x k c]) l') :
    SR w B L z l' h ((wr.setCell ⟨L, 0, none⟩ (.bool n)).setCell ⟨L, 1, none⟩ (.slice x k c)) := by
  have b := vb_bv s.hL
  exact ⟨vb_other b s.hA (by omega), bv_other s.hR (by omega), vb_store b hv, vb_other b s.hH (by omega), b_set (b_set s.hB (by show _ ≤ L; omega)) (by show _ ≤ L; omega)⟩
theorem sr_high {w wr : World} {B L : Nat} {z l h h' : Int} {n : Bool} {x : Option Addr} {k c : Nat} (s : SR w B L z l h wr) (hw : w.heap.size ≤ B) (hL : B + 1 < L) (hv : BG wr (.agg #[.bool n, .slice x k c]) h') :
    SR w B L z l h' ((wr.setCell ⟨L + 1, 0, none⟩ (.bool n)).setCell ⟨L + 1, 1, none⟩ (.slice x k c)) := by
  have b := vb_bv s.hH
  exact ⟨vb_other b s.hA (by omega), bv_other s.hR (by omega), vb_other b s.hL (by omega), vb_store b hv, b_set (b_set s.hB (by show _ ≤ L + 1; omega)) (by show _ ≤ L + 1; omega)⟩

set_option maxHeartbeats 4000000 in
set_option maxRecDepth 10000 in
theorem ref_root (va : Value) (z r : Int) (w : World) (hv : BG w va z) (z0 : 0 ≤ z) (z1 : z < 340282366920938463463374607431768211456) (R : IsRoot z r) :
    Calls Tryd.prog 34 #[va] w (RetB r w) := by
  obtain ⟨nb, ab, kb, cb, rfl⟩ := bg_form hv
  have A0 := vb_keep (vb_new rfl hv) (b_alloc (o := Obj.cells #[.bool false, .slice none 0 0] 64) (Below.refl _ _))
  have R0 := bv_new (w := w.alloc (Obj.cells #[.bool nb, .slice ab kb cb] 64)) (b := w.heap.size + 1) false none 0 0 (by simp)
  have B0 : Below w.heap.size w ((w.alloc (Obj.cells #[.bool nb, .slice ab kb cb] 64)).alloc (Obj.cells #[.bool false, .slice none 0 0] 64)) := b_alloc (b_alloc (Below.refl _ _))
  clear hv
  go_enter Tryd.func34, Tryd.ntmps34
  go_wp2_with fail
  refine (of_big 0 (by decide) (by decide) _).mono ?_
  rintro e w1 ⟨v1, rfl, h1, hb1⟩
  obtain ⟨n1, a1, k1, c1, rfl⟩ := bg_form h1
  replace A0 := vb_keep A0 hb1
  replace R0 := bv_keep hb1 R0
  replace B0 := b_trans B0 hb1
  clear hb1
  go_wp2_with fail
  refine (power_64 _).mono ?_
  rintro e w2 ⟨v2, rfl, h2, hb2⟩
  obtain ⟨n2, a2, k2, c2, rfl⟩ := bg_form h2
  replace A0 := vb_keep A0 hb2
  replace R0 := bv_keep hb2 R0
  replace B0 := b_trans B0 hb2
  replace h1 := bg_keep h1 hb2
  clear hb2
  have hL : w.heap.size + 1 < w2.heap.size := bv_lt R0
  have S0 : SR w w.heap.size w2.heap.size z 0 18446744073709551616 ((w2.alloc (Obj.cells #[.bool n1, .slice a1 k1 c1] 64)).alloc (Obj.cells #[.bool n2, .slice a2 k2 c2] 64)) :=
    have b := b_alloc (o := Obj.cells #[.bool n2, .slice a2 k2 c2] 64) (b_alloc (o := Obj.cells #[.bool n1, .slice a1 k1 c1] 64) (Below.refl w2.heap.size w2))
    ⟨vb_keep A0 b, bv_keep b R0, vb_keep (vb_new rfl h1) (b_alloc (Below.refl _ _)), vb_new (by simp) (bg_keep h2 (b_alloc (Below.refl _ _))), b_trans B0 b⟩
  clear A0 R0 B0 h1 h2
  go_wp2
  generalize ((w2.alloc (Obj.cells #[.bool n1, .slice a1 k1 c1] 64)).alloc (Obj.cells #[.bool n2, .slice a2 k2 c2] 64)) = W0 at *
  generalize w2.heap.size = L at *
  go_loopg [5] 18446744073709551616 (fun g mv wr => ∃ l h : Int, 0 ≤ l ∧ l < h ∧ h ≤ 18446744073709551616 ∧ l * l ≤ z ∧ z < h * h ∧ g = (h - l).toNat ∧ SR w w.heap.size L z l h wr)
  case atStart => exact ⟨0, 18446744073709551616, by decide, by decide, by decide, by omega, by omega, by decide, S0⟩
  case round =>
    clear S0
    obtain ⟨l, h, l0, lh, h1, hl, hh, hg, D⟩ := hrel
    obtain ⟨nl, al, kl, cl, ql, fl, gl⟩ := vb_use D.hL
    obtain ⟨nh, ah, kh, ch, qh, fh, gh⟩ := vb_use D.hH
    have HL := Lib.hid hl
    have HH := Lib.hid hh
    have HG := Lib.hid hg
    clear hl hh hg
    go_wp2_with fail
    refine (sub_big _ _ h l _ gh gl (small_of (by omega) (by omega)) (small_of (by omega) (by omega))).mono ?_
    rintro e w3 ⟨v3, rfl, h3, hb3⟩
    obtain ⟨n3, a3, k3, c3, rfl⟩ := bg_form h3
    replace D := sr_keep D hb3
    clear hb3 ql fl gl qh fh gh
    go_wp2_with fail
    refine (of_big 1 (by decide) (by decide) _).mono ?_
    rintro e w4 ⟨v4, rfl, h4, hb4⟩
    obtain ⟨n4, a4, k4, c4, rfl⟩ := bg_form h4
    replace D := sr_keep D hb4
    replace h3 := bg_keep h3 hb4
    clear hb4
    go_wp2_with fail
    refine (cmp_big _ _ (h - l) 1 _ h3 h4 (small_of (by omega) (by omega)) (small_of (by omega) (by omega))).mono ?_
    rintro e w5 ⟨rfl, hb5⟩
    replace D := sr_keep D hb5
    clear hb5 h3 h4
    by_cases d : 1 < h - l
    · rw [cmp3_gt d]
      obtain ⟨nl, al, kl, cl, ql, fl, gl⟩ := vb_use D.hL
      obtain ⟨nh, ah, kh, ch, qh, fh, gh⟩ := vb_use D.hH
      go_wp2_with fail
      refine (add_big _ _ l h _ gl gh (small_of (by omega) (by omega)) (small_of (by omega) (by omega))).mono ?_
      rintro e w3 ⟨v3, rfl, h3, hb3⟩
      obtain ⟨n3, a3, k3, c3, rfl⟩ := bg_form h3
      replace D := sr_keep D hb3
      clear hb3 ql fl gl qh fh gh
      go_wp2_with fail
      refine (of_big 2 (by decide) (by decide) _).mono ?_
      rintro e w4 ⟨v4, rfl, h4, hb4⟩
      obtain ⟨n4, a4, k4, c4, rfl⟩ := bg_form h4
      replace D := sr_keep D hb4
      replace h3 := bg_keep h3 hb4
      clear hb4
      go_wp2_with fail
      refine (div_big _ _ (l + h) 2 _ h3 h4 (by decide) ⟨by omega, by omega⟩ ⟨by omega, by omega⟩).mono ?_
      rw [show qd (l + h) 2 = (l + h) / 2 by unfold qd; rw [if_neg (by decide)]]
      rintro e w5 ⟨v5, rfl, h5, hb5⟩
      obtain ⟨nm, am, km, cm, rfl⟩ := bg_form h5
      replace D := sr_keep D hb5
      clear hb5 h3 h4
      have HB := half_between d
      generalize hm : (l + h) / 2 = m at *
      replace hm := Lib.hid hm
      have VM := vb_new (b := w5.heap.size) rfl h5
      have hM : L + 1 < w5.heap.size := bv_lt (vb_bv D.hH)
      have qm : BC (w5.alloc (Obj.cells #[.bool nm, .slice am km cm] 64)) w5.heap.size nm (.slice am km cm) := by simp [BC, go_sem]
      have gm := bg_keep h5 (b_alloc (o := Obj.cells #[.bool nm, .slice am km cm] 64) (Below.refl _ _))
      replace D := sr_keep D (b_alloc (o := Obj.cells #[.bool nm, .slice am km cm] 64) (Below.refl _ _))
      clear h5
      go_wp2
      generalize (w5.alloc (Obj.cells #[.bool nm, .slice am km cm] 64)) = W6 at *
      generalize w5.heap.size = M at *
      obtain ⟨na, aa, ka, ca, qa, fa, ga⟩ := vb_use D.hA
      have sm : Small m := small_of (by omega) (by omega)
      have smm : Small (m * m) := by
        have t0 : 0 ≤ m * m := Int.mul_nonneg (by omega) (by omega)
        have t1 : m * m ≤ 18446744073709551616 * 18446744073709551616 := Int.mul_le_mul (by omega) (by omega) (by omega) (by decide)
        exact small_of (by omega) (by omega)
      have sz : Small z := small_of (by omega) (by omega)
      generalize hq : cmp3 (m * m) z = q
      replace hq := Lib.hid hq
      refine region_each [19, 20, 21, 22, 23, 24] (fun i X_ U_ => match i with | 0 => X_ = .agg #[.bool nm, .slice am km cm] | 1 => X_ = .agg #[.bool nm, .slice am km cm] | 2 => BG U_ X_ (m * m) | 3 => X_ = .agg #[.bool na, .slice aa ka ca] | 4 => X_ = .int .i64 q | 5 => X_ = .bool (decide (0 < q)) | _ => True) (fun i => false) (by kernel_rfl) (by kernel_rfl) (by kernel_rfl) (by kernel_rfl) (by kernel_rfl) ?_ ?_ ?_ ?_
      · intro i x w w' hi h hb
        match i, hi with
        | 0, _ => exact h
        | 1, _ => exact h
        | 2, _ => exact bg_keep h hb
        | 3, _ => exact h
        | 4, _ => exact h
        | 5, _ => exact h
        | k + 6, hk => exact absurd hk (by simp)
      · intro i x w hi ha h
        cases ha
      · intro i hi v f w' hb hv hB hd
        match i, hi with
        | 0, _ =>
          have b5 : f.tmps[5]? = some (.pointer (some ⟨M, 0, none⟩)) := (hb 5 (by decide)).trans rfl
          clear hb hv hd
          have c := bc_keep hB qm
          refine wpOp_step rfl (fun K hK => ?_)
          go_simp
          exact hK _ _ ⟨_, rfl, Below.refl _ _, rfl, fun h => absurd h (by decide)⟩
        | 1, _ =>
          have b5 : f.tmps[5]? = some (.pointer (some ⟨M, 0, none⟩)) := (hb 5 (by decide)).trans rfl
          clear hb hv hd
          have c := bc_keep hB qm
          refine wpOp_step rfl (fun K hK => ?_)
          go_simp
          exact hK _ _ ⟨_, rfl, Below.refl _ _, rfl, fun h => absurd h (by decide)⟩
        | 2, _ =>
          have h0 : (v 0) = .agg #[.bool nm, .slice am km cm] := hd 0 (by kernel_rfl)
          have d0 : f.tmps[19]? = some (.agg #[.bool nm, .slice am km cm]) := (hv 0 19 rfl).trans (congrArg some h0)
          clear h0
          have h1 : (v 1) = .agg #[.bool nm, .slice am km cm] := hd 1 (by kernel_rfl)
          have d1 : f.tmps[20]? = some (.agg #[.bool nm, .slice am km cm]) := (hv 1 20 rfl).trans (congrArg some h1)
          clear h1
          clear hb hv hd
          refine wpOp_step rfl (fun K hK => ?_)
          go_simp
          refine (mul_big _ _ m m _ (bg_keep gm hB) (bg_keep gm hB) sm sm).mono ?_
          rintro e w5 ⟨v5, rfl, h5, hb5⟩
          exact hK _ _ ⟨_, rfl, hb5, h5, fun h => absurd h (by decide)⟩
        | 3, _ =>
          have b1 : f.tmps[1]? = some (.pointer (some ⟨w.heap.size, 0, none⟩)) := (hb 1 (by decide)).trans rfl
          clear hb hv hd
          have c := bc_keep hB qa
          refine wpOp_step rfl (fun K hK => ?_)
          go_simp
          exact hK _ _ ⟨_, rfl, Below.refl _ _, rfl, fun h => absurd h (by decide)⟩
        | 4, _ =>
          have h2 : BG w' (v 2) (m * m) := hd 2 (by kernel_rfl)
          have d2 : f.tmps[21]? = some (v 2) := hv 2 21 rfl
          have h3 : (v 3) = .agg #[.bool na, .slice aa ka ca] := hd 3 (by kernel_rfl)
          have d3 : f.tmps[22]? = some (.agg #[.bool na, .slice aa ka ca]) := (hv 3 22 rfl).trans (congrArg some h3)
          clear h3
          clear hb hv hd
          refine wpOp_step rfl (fun K hK => ?_)
          go_simp
          refine (cmp_big _ _ (m * m) z _ h2 (bg_keep ga hB) smm sz).mono ?_
          rw [hq.out]
          rintro e w5 ⟨rfl, hb5⟩
          exact hK _ _ ⟨_, rfl, hb5, rfl, fun h => absurd h (by decide)⟩
        | 5, _ =>
          have h4 : (v 4) = .int .i64 q := hd 4 (by kernel_rfl)
          have d4 : f.tmps[23]? = some (.int .i64 q) := (hv 4 23 rfl).trans (congrArg some h4)
          clear h4
          clear hb hv hd
          refine wpOp_step rfl (fun K hK => ?_)
          go_simp
          exact hK _ _ ⟨_, rfl, Below.refl _ _, rfl, fun h => absurd h (by decide)⟩
        | k + 6, hk => exact absurd hk (by simp)
      · intro v w' hB hF hD
        have F0 : (v 0) = .agg #[.bool nm, .slice am km cm] := hF 0 (by simp)
        have F1 : (v 1) = .agg #[.bool nm, .slice am km cm] := hF 1 (by simp)
        have F2 : BG w' (v 2) (m * m) := hF 2 (by simp)
        have F3 : (v 3) = .agg #[.bool na, .slice aa ka ca] := hF 3 (by simp)
        have F4 : (v 4) = .int .i64 q := hF 4 (by simp)
        have F5 : (v 5) = .bool (decide (0 < q)) := hF 5 (by simp)
        clear hF
        obtain ⟨n2', a2', k2', c2', e2⟩ := bg_form F2
        clear F2
        simp only [frOf, frGo, Nat.zero_add, Nat.reduceAdd, F0, F1, e2, F3, F4, F5]
        refine wpList_none rfl ?_
        clear F0 F1 e2 F3 F4 F5 hD ga gm qm sm smm sz
        replace D := sr_keep D hB
        replace VM := vb_keep VM hB
        clear hB qa fa
        obtain ⟨nm', am', km', cm', qm, fm, gm⟩ := vb_use VM
        by_cases lt : z < m * m
        · obtain rfl : q = 1 := by rw [← hq.out]; exact cmp3_gt lt
          obtain ⟨nh, ah, kh, ch, qh, fh, gh⟩ := vb_use D.hH
          have D2 := sr_high D (Nat.le_refl _) hL gm
          have HD := Lib.hid (And.intro lt D2)
          clear D D2 VM gh gm lt
          go_wp2
          go_roundg (m - l).toNat
          case measure => have := HG.out; omega
          case rel => exact ⟨l, m, l0, by omega, by omega, HL.out, HD.out.1, rfl, HD.out.2⟩
        · have qq : ¬ 0 < q := by rw [← hq.out]; unfold cmp3; split <;> omega
          obtain ⟨nh, ah, kh, ch, qh, fh, gh⟩ := vb_use D.hL
          have D2 := sr_low D (Nat.le_refl _) hL gm
          have HD := Lib.hid (And.intro lt D2)
          clear D D2 VM gh gm lt
          go_wp2
          go_roundg (h - m).toNat
          case measure => have := HG.out; omega
          case rel => exact ⟨m, h, by omega, by omega, by omega, by have := HD.out.1; omega, HH.out, rfl, HD.out.2⟩
    · rw [show h - l = 1 by omega, cmp3_eq]
      obtain rfl : r = l := IsRoot.uniq R (root_ends l0 (by omega) HL.out HH.out (by omega))
      obtain ⟨nl, al, kl, cl, ql, fl, gl⟩ := vb_use D.hL
      obtain ⟨nr, ar, kr, cr, qr, fr⟩ := bv_use D.hR
      have HD := Lib.hid (And.intro D gl)
      clear D gl
      go_wp2
      exact bodyPost_ret (v := .agg #[.bool nl, .slice al kl cl]) (by simp [results, Tryd.results34, go_sem, qr]) rfl ⟨_, rfl, bg_store HD.out.1.hR HD.out.2, b_set (b_set HD.out.1.hB (by simp)) (by simp)⟩
end Go.Proofs.YtjafcnbghbfehaaDoor
