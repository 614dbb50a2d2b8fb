/- The document's whole numbers: Sub, Cmp, Power, low: each call's answer. -/
import Derived.Test.YthnaeoagooahbaaDoorBigY
import Derived.Test.YthnaeoagooahbaaDoorWideA
namespace Go.Proofs.YthnaeoagooahbaaDoor
open Go.RowKit Go.Shelf Go.Joins

theorem small_neg {z : Int} (h : Small z) : Small (-z) := by obtain ⟨a, b⟩ := h; exact ⟨by omega, by omega⟩

set_option maxHeartbeats 2000000 in
set_option maxRecDepth 10000 in
theorem sub_big (va vb : Value) (x y : Int) (w : World) (hx : BG w va x) (hy : BG w vb y) (sx : Small x) (sy : Small y) :
    Calls Tryd.prog 39 #[va, vb] w (RetB (x - y) w) := by
  obtain ⟨n1, aa, ka, ca, rfl⟩ := bg_form hx
  obtain ⟨n2, ab, kb, cb, rfl⟩ := bg_form hy
  go_enter Tryd.func39, Tryd.ntmps39
  go_wp2_with fail
  have B1 : Below w.heap.size w (((w.alloc (Obj.cells #[.bool n1, .slice aa ka ca] 62)).alloc (Obj.cells #[.bool n2, .slice ab kb cb] 62)).alloc (Obj.cells #[.bool false, .slice none 0 0] 62)) := b_alloc (b_alloc (b_alloc (Below.refl _ _)))
  have k1 : BC (((w.alloc (Obj.cells #[.bool n1, .slice aa ka ca] 62)).alloc (Obj.cells #[.bool n2, .slice ab kb cb] 62)).alloc (Obj.cells #[.bool false, .slice none 0 0] 62)) w.heap.size n1 (.slice aa ka ca) := by simp [BC, go_sem, World.cell?_alloc_past]
  have k2 : BC (((w.alloc (Obj.cells #[.bool n1, .slice aa ka ca] 62)).alloc (Obj.cells #[.bool n2, .slice ab kb cb] 62)).alloc (Obj.cells #[.bool false, .slice none 0 0] 62)) (w.heap.size + 1) n2 (.slice ab kb cb) := by simp [BC, go_sem, World.cell?_alloc_past]
  have r1 : BV (((w.alloc (Obj.cells #[.bool n1, .slice aa ka ca] 62)).alloc (Obj.cells #[.bool n2, .slice ab kb cb] 62)).alloc (Obj.cells #[.bool false, .slice none 0 0] 62)) (w.heap.size + 1 + 1) := bv_new _ _ _ _ (by simp)
  have g1 := bg_keep hx B1
  have g2 := bg_keep hy B1
  clear hx hy
  generalize (((w.alloc (Obj.cells #[.bool n1, .slice aa ka ca] 62)).alloc (Obj.cells #[.bool n2, .slice ab kb cb] 62)).alloc (Obj.cells #[.bool false, .slice none 0 0] 62)) = W0 at *
  refine region_each [5, 6, 7, 8] (fun i X_ U_ => match i with | 0 => X_ = .agg #[.bool n1, .slice aa ka ca] | 1 => X_ = .agg #[.bool n2, .slice ab kb cb] | 2 => BG U_ X_ (-y) | 3 => BG U_ X_ (x - y) | _ => True) (fun i => false) (by kernel_rfl) (by kernel_rfl) (by kernel_rfl) (by kernel_rfl) (by kernel_rfl) ?_ ?_ ?_ ?_
  · refine swp (upS (upS (upS (upS up0 ?_) ?_) ?_) ?_)
    · exact fun _ _ _ h _ => h
    · exact fun _ _ _ h _ => h
    · intro x w w' h hb; exact bg_keep h hb
    · intro x w w' h hb; exact bg_keep h hb
  · intro i x w hi ha h
    cases ha
  · refine upS (upS (upS (upS up0 ?_) ?_) ?_) ?_
    all_goals intro v f w' hb hv hB hd
    · have b2 : f.tmps[2]? = some (.pointer (some ⟨w.heap.size, 0, none⟩)) := (hb 2 (by decide)).trans rfl
      clear hb hv hd
      have c := bc_keep hB k1
      refine wpOp_step rfl (fun K hK => ?_)
      go_simp
      exact hK _ _ ⟨_, rfl, Below.refl _ _, rfl, fun h => absurd h (by decide)⟩
    · have b3 : f.tmps[3]? = some (.pointer (some ⟨w.heap.size + 1, 0, none⟩)) := (hb 3 (by decide)).trans rfl
      clear hb hv hd
      have c := bc_keep hB k2
      refine wpOp_step rfl (fun K hK => ?_)
      go_simp
      exact hK _ _ ⟨_, rfl, Below.refl _ _, rfl, fun h => absurd h (by decide)⟩
    · have h1 : (v 1) = .agg #[.bool n2, .slice ab kb cb] := hd 1 (by kernel_rfl)
      have d1 : f.tmps[6]? = some (.agg #[.bool n2, .slice ab kb cb]) := (hv 1 6 rfl).trans (congrArg some h1)
      clear h1
      clear hb hv hd
      refine wpOp_call rfl (fun _ _ => by go_simp) (by simp [Act.eval, d1]) (turn_any _ y _ (bg_keep g2 hB)) ?_
      rintro e w5 ⟨v5, rfl, h5, hb5⟩
      exact ⟨_, rfl, _, rfl, hb5, h5, fun h => absurd h (by decide)⟩
    · have h0 : (v 0) = .agg #[.bool n1, .slice aa ka ca] := hd 0 (by kernel_rfl)
      have d0 : f.tmps[5]? = some (.agg #[.bool n1, .slice aa ka ca]) := (hv 0 5 rfl).trans (congrArg some h0)
      clear h0
      have h2 : BG w' (v 2) (-y) := hd 2 (by kernel_rfl)
      have d2 : f.tmps[7]? = some (v 2) := hv 2 7 rfl
      clear hb hv hd
      refine wpOp_call rfl (fun _ _ => by go_simp) (by simp [Act.eval, d0, d2]) (add_big _ _ x (-y) _ (bg_keep g1 hB) h2 sx (small_neg sy)) ?_
      rintro e w5 ⟨v5, rfl, h5, hb5⟩
      exact ⟨_, rfl, _, rfl, hb5, by rwa [show x + -y = x - y by omega] at h5, fun h => absurd h (by decide)⟩
  · intro v w' hB hF hD
    have F0 : (v 0) = .agg #[.bool n1, .slice aa ka ca] := hF 0 (by simp)
    have F1 : (v 1) = .agg #[.bool n2, .slice ab kb cb] := hF 1 (by simp)
    have F2 : BG w' (v 2) (-y) := hF 2 (by simp)
    have F3 : BG w' (v 3) (x - y) := hF 3 (by simp)
    clear hF
    obtain ⟨n', a', k', c', e3⟩ := bg_form F3
    rw [e3] at F3
    obtain ⟨n9, a9, k9, c9, e2⟩ := bg_form F2
    simp only [frOf, frGo, Nat.zero_add, Nat.reduceAdd, F0, F1, e2, e3]
    have r9 := bv_keep hB r1
    have B9 := b_trans B1 hB
    obtain ⟨n'', a'', k'', c'', r8, f8⟩ := bv_use r9
    have HB := Lib.hid (And.intro r9 F3)
    clear hB hD r9 F3 F2 e2
    go_wp2
    exact bodyPost_ret (v := .agg #[.bool n', .slice a' k' c']) (by simp [results, Tryd.results39, go_sem, r8]) rfl ⟨_, rfl, bg_store HB.out.1 HB.out.2, b_set (b_set B9 (by simp; omega)) (by simp; omega)⟩

set_option maxHeartbeats 2000000 in
set_option maxRecDepth 10000 in
theorem cmp_big (va vb : Value) (x y : Int) (w : World) (hx : BG w va x) (hy : BG w vb y) (sx : Small x) (sy : Small y) :
    Calls Tryd.prog 36 #[va, vb] w (RetV (.int .i64 (cmp3 x y)) w) := by
  have e1 : x < y → cmp3 x y = -1 := cmp3_lt
  have e2 : y < x → cmp3 x y = 1 := cmp3_gt
  have e3 : x = y → cmp3 x y = 0 := fun h => by rw [h, cmp3_eq]
  obtain ⟨n1, aa, ka, ca, rfl⟩ := bg_form hx
  obtain ⟨n2, ab, kb, cb, rfl⟩ := bg_form hy
  have E := Lib.hid (And.intro e1 (And.intro e2 e3))
  clear e1 e2 e3
  go_enter Tryd.func36, Tryd.ntmps36
  go_wp2_with fail
  refine (sub_big _ _ x y _ (bg_keep hx (b_alloc (b_alloc (Below.refl _ _)))) (bg_keep hy (b_alloc (b_alloc (Below.refl _ _)))) sx sy).mono ?_
  rintro e w1 ⟨bv, rfl, hB, hb1⟩
  obtain ⟨n, a, l, c, rfl, hD, hd, hn, hl, hz, _, hc⟩ := bg_open hB
  have B1 : Below w.heap.size w w1 := b_trans (b_alloc (b_alloc (Below.refl _ _))) hb1
  obtain ⟨q1, q2, q3⟩ := sgn_neg hd hn hl
  rw [← hz] at q1 q2
  clear hx hy hB hb1 sx sy q3
  have ll : (l.length : Int) ≤ 9223372036854775807 := by unfold maxLen at hc; omega
  cases n
  · by_cases em : l = []
    · have len0 : ¬ (0 : Int) < (l.length : Int) := by rw [em]; simp
      have E2 := Lib.hid (E.out.2.2 (by have := q2.2 em; omega))
      clear q1 q2 hz em hD hd hn hl E
      go_wp2
      go_ret
      exact ⟨by rw [E2.out]; rfl, b_alloc B1⟩
    · have len0 : (0 : Int) < (l.length : Int) := by have := List.length_pos_iff.2 em; omega
      have E2 := Lib.hid (E.out.2.1 (by
        have h1 : ¬ x - y = 0 := fun h => em (q2.1 h)
        have h2 : ¬ x - y < 0 := fun h => by have := q1.1 h; cases this
        omega))
      clear q1 q2 hz em hD hd hn hl E
      go_wp2
      go_ret
      exact ⟨by rw [E2.out]; rfl, b_alloc B1⟩
  · have E2 := Lib.hid (E.out.1 (by have := q1.2 rfl; omega))
    clear q1 q2 hz hD hd hn hl E
    go_wp2
    go_ret
    exact ⟨by rw [E2.out]; rfl, b_alloc B1⟩

/-- So many digits 0. -/
def zs (k : Nat) : List Int := List.replicate k 0
theorem zs_len (k : Nat) : (zs k).length = k := List.length_replicate
theorem zs_succ (k : Nat) : zs k ++ [0] = zs (k + 1) := (List.replicate_succ').symm
theorem ow_zs {w : World} {base k : Nat} {v : Value} (h : w.ownsRow base 67 1 v (k + 1) ((zs k).map (Value.int .u64) ++ [.int .u64 0])) : OW w base v (zs (k + 1)) := by
  have := ow_snoc (l := zs k) (d := 0) (by rw [zs_len]; exact h)
  rwa [zs_succ] at this

theorem val_power (n : Nat) : val (zs (n / 16) ++ [2 ^ (n % 16)]) = 2 ^ n := by
  rw [val_snoc, zs, val_zeros, List.length_replicate, show (65536 : Int) = 2 ^ 16 by decide, ← Int.pow_mul, Int.zero_add, ← Int.pow_add]
  congr 1
  omega
theorem norm_snoc {l : List Int} {d : Int} (h : d ≠ 0) : Norm (l ++ [d]) := by
  intro e he
  simp at he
  subst he
  exact h
theorem pow16 (j : Nat) (h : j ≤ 15) : (1 : Int) ≤ 2 ^ j ∧ (2 : Int) ^ j ≤ 32768 := by
  have h1 : (0 : Int) < 2 ^ j := Int.pow_pos (by decide)
  have h2 : 2 ^ j ≤ 2 ^ 15 := Nat.pow_le_pow_right (by decide) h
  have h3 : (2 : Int) ^ j = ((2 ^ j : Nat) : Int) := (Int.natCast_pow 2 j).symm
  rw [h3]; rw [h3] at h1
  omega

set_option maxHeartbeats 2000000 in
set_option maxRecDepth 10000 in
theorem power_any (n : Nat) (n1 : n ≤ 1000) (w : World) : Calls Tryd.prog 28 #[.int .i64 n] w (RetB (2 ^ n) w) := by
  obtain ⟨i0, hi, hz0, hz1, hz2⟩ := info_parts Tryd.infoU
  go_enter Tryd.func28, Tryd.ntmps28
  go_wp2
  go_loopw [3, 4] (fun v iv wr => ∃ k : Nat, k ≤ n / 16 ∧ iv = .int .i64 k ∧ OW wr (w.heap.size + 1) v (zs k) ∧ Below (w.heap.size + 1) (w.alloc (Obj.cells #[.bool false, .slice none 0 0] 62)) wr) (fun _ iv _ => n - (intOf iv).toNat)
  case atStart => exact ⟨0, Nat.zero_le _, rfl, ow_start (by simp) (by simp), (Below.refl _ _).alloc (by simp) _⟩
  case round =>
    obtain ⟨k, hk, rfl, hown, hnx⟩ := hrel
    have hsz := hnx.size
    have hzl := zs_len k
    simp at hsz
    by_cases c : k < n / 16
    · go_wp2_with (at_builtin; refine wpList_append_own _ rfl _ _ 60 rfl (w.heap.size + 1) 67 i0 (.int .u64 0) 1 8 Tryd.underlying60 hi hz0 hz1 hz2 rfl (by decide) _ _ _ rfl (World.ownsRow.alloc hown _) ⟨wr.heap.size, 0, none⟩ 1 1 [.int .u64 (0)] rfl rfl ?c1 ?c2 ?c3 ?c4 ?c5 ?_)
      case c1 =>
        intro j u hj
        match j, hj with
        | 0, hj => simp at hj; subst hj; simp [Addr.add]
      case c2 => intro u hu; simp at hu; subst hu; rfl
      case c3 => unfold maxLen; (try simp); omega
      case c4 => (try simp); omega
      case c5 => simp; omega
      intro v' w1 hown' hgrow _
      have R1 : OW w1 (w.heap.size + 1) v' (zs (k + 1)) := ow_zs hown'
      have R2 : Below (w.heap.size + 1) (w.alloc (Obj.cells #[.bool false, .slice none 0 0] 62)) w1 := (hnx.alloc (by omega) _).grown hgrow (by simp; omega) (ow_block hown)
      clear hown' hgrow hown hnx
      go_wp2
      go_roundw
      case rel => exact ⟨k + 1, by omega, by simp, R1, R2⟩
      case measure => simp [intOf]; omega
    · obtain rfl : k = n / 16 := by omega
      go_wp2
      go_loop [5, 6] (fun xv iv => ∃ j : Nat, j ≤ n % 16 ∧ iv = .int .i64 j ∧ xv = .int .u64 (2 ^ j)) (fun _ iv => n - (intOf iv).toNat)
      case atStart => exact ⟨0, Nat.zero_le _, rfl, rfl⟩
      case round =>
        obtain ⟨j, hj, rfl, rfl⟩ := hrel
        obtain ⟨p0, p1⟩ := pow16 j (by omega)
        by_cases c2 : j < n % 16
        · have e : (2 : Int) * 2 ^ j = 2 ^ (j + 1) := by rw [Int.pow_succ, Int.mul_comm]
          have E := Lib.hid e
          clear e
          go_wp2
          go_round
          case rel => exact ⟨j + 1, by omega, by simp, by rw [E.out]⟩
          case measure => simp [intOf]; omega
        · obtain rfl : j = n % 16 := by omega
          have VP := Lib.hid (val_power n)
          have NP := Lib.hid (norm_snoc (l := zs (n / 16)) (d := 2 ^ (n % 16)) (by omega))
          generalize hq : (2 : Int) ^ (n % 16) = q at *
          have DP := Lib.hid (dig_app (l := zs (n / 16)) (dig_zeros _) (dig_one (d := q) (by omega) (by omega)))
          clear hq
          go_wp2_with (at_builtin; refine wpList_append_own _ rfl _ _ 60 rfl (w.heap.size + 1) 67 i0 (.int .u64 0) 1 8 Tryd.underlying60 hi hz0 hz1 hz2 rfl (by decide) _ _ _ rfl (World.ownsRow.alloc hown _) ⟨wr.heap.size, 0, none⟩ 1 1 [.int .u64 (q)] rfl rfl ?d1 ?d2 ?d3 ?d4 ?d5 ?_)
          case d2 => rfl
          case d3 => unfold maxLen; omega
          case d4 => omega
          case d5 => (try simp); omega
          intro v' w1 hown' hgrow _
          have R1 := dg_of_owns (ow_snoc (l := zs (n / 16)) (d := q) (by rw [zs_len]; exact hown'))
          have hnx1 : Below (w.heap.size + 1) (w.alloc (Obj.cells #[.bool false, .slice none 0 0] 62)) w1 := (hnx.alloc (by omega) _).grown hgrow (by simp; omega) (ow_block hown)
          have r2 : BV w1 w.heap.size := bv_below hnx1 (bv_new _ _ _ _ rfl) (by omega)
          have B2 : Below w.heap.size w w1 := ((Below.refl _ _).alloc (Nat.le_refl _) _).trans (hnx1.mono (by omega))
          obtain ⟨n', a', k', c'', r3, f3⟩ := bv_use r2
          obtain ⟨a, c, rfl, _⟩ := dg_len R1
          have HB : Hid (BV w1 w.heap.size ∧ BG w1 (.agg #[.bool false, .slice a (zs (n / 16) ++ [q]).length c]) (2 ^ n)) := Lib.hid ⟨r2, ⟨false, _, _, rfl, R1, DP.out, NP.out, by simp, by rw [VP.out]; rfl⟩⟩
          clear hown' hgrow hown hnx hnx1 R1 r2 VP NP DP
          generalize (zs (n / 16) ++ [q]).length = kk at *
          go_wp2
          exact bodyPost_ret (v := .agg #[.bool false, .slice a kk c]) (by simp [results, Tryd.results28, go_sem, r3]) rfl ⟨_, rfl, bg_store HB.out.1 HB.out.2, b_set (b_set B2 (Nat.le_refl _)) (Nat.le_refl _)⟩

end Go.Proofs.YthnaeoagooahbaaDoor
