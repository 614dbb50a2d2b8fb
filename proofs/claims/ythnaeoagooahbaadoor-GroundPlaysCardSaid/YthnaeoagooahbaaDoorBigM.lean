/- The document's whole numbers: Mul: the call's answer. -/
import Derived.Test.YthnaeoagooahbaaDoorBigP
namespace Go.Proofs.YthnaeoagooahbaaDoor
open Go.RowKit Go.Shelf Go.Joins

theorem mul_out {a b o row : List Int} {k : Nat} (h : val o = val (a.take k) * val b) (r : 65536 ^ k * (a.getD k 0 * val b) = val row) : val o + val row = val (a.take (k + 1)) * val b := by
  rw [val_take_succ, Int.add_mul, ← h, ← r, Int.mul_assoc]

set_option maxHeartbeats 8000000 in
set_option maxRecDepth 10000 in
theorem mul_go (n1 n2 : Bool) (aa ab : Option Addr) (ca cb : Nat) (a b : List Int) (w : World) (hA : DG w (.slice aa a.length ca) a) (hB' : DG w (.slice ab b.length cb) b) (da : Dig a) (db : Dig b) (ma : a.length ≤ 1000) (mb : b.length ≤ 1000) :
    Calls Tryd.prog 26 #[.agg #[.bool n1, .slice aa a.length ca], .agg #[.bool n2, .slice ab b.length cb]] w (RetB (sgn (n1 != n2) (val a * val b)) w) := by
  obtain ⟨i0, hi, hz0, hz1, hz2⟩ := info_parts Tryd.infoU
  go_enter Tryd.func26, Tryd.ntmps26
  go_wp2
  have B1 : Below w.heap.size w (((w.alloc (Obj.cells #[.bool n1, .slice aa a.length ca] 62)).alloc (Obj.cells #[.bool n2, .slice ab b.length cb] 62)).alloc (Obj.cells #[.bool false, .slice none 0 0] 62)) := b_alloc (b_alloc (b_alloc (Below.refl _ _)))
  have k1 : BC (((w.alloc (Obj.cells #[.bool n1, .slice aa a.length ca] 62)).alloc (Obj.cells #[.bool n2, .slice ab b.length cb] 62)).alloc (Obj.cells #[.bool false, .slice none 0 0] 62)) w.heap.size n1 (.slice aa a.length ca) := by simp [BC, go_sem, World.cell?_alloc_past]
  have k2 : BC (((w.alloc (Obj.cells #[.bool n1, .slice aa a.length ca] 62)).alloc (Obj.cells #[.bool n2, .slice ab b.length cb] 62)).alloc (Obj.cells #[.bool false, .slice none 0 0] 62)) (w.heap.size + 1) n2 (.slice ab b.length cb) := by simp [BC, go_sem, World.cell?_alloc_past]
  have r1 : BV (((w.alloc (Obj.cells #[.bool n1, .slice aa a.length ca] 62)).alloc (Obj.cells #[.bool n2, .slice ab b.length cb] 62)).alloc (Obj.cells #[.bool false, .slice none 0 0] 62)) (w.heap.size + 1 + 1) := bv_new _ _ _ _ (by simp)
  have o1 : DG ((((w.alloc (Obj.cells #[.bool n1, .slice aa a.length ca] 62)).alloc (Obj.cells #[.bool n2, .slice ab b.length cb] 62)).alloc (Obj.cells #[.bool false, .slice none 0 0] 62)).alloc (Obj.cells #[] 67)) (.slice (some ⟨w.heap.size + 1 + 1 + 1, 0, none⟩) 0 0) [] := dg_of_owns (ow_start (base := 0) (by simp) (Nat.zero_le _))
  have gA := dg_keep hA B1
  have gB := dg_keep hB' B1
  clear hA hB'
  have B2 : Below (((w.alloc (Obj.cells #[.bool n1, .slice aa a.length ca] 62)).alloc (Obj.cells #[.bool n2, .slice ab b.length cb] 62)).alloc (Obj.cells #[.bool false, .slice none 0 0] 62)).heap.size (((w.alloc (Obj.cells #[.bool n1, .slice aa a.length ca] 62)).alloc (Obj.cells #[.bool n2, .slice ab b.length cb] 62)).alloc (Obj.cells #[.bool false, .slice none 0 0] 62)) ((((w.alloc (Obj.cells #[.bool n1, .slice aa a.length ca] 62)).alloc (Obj.cells #[.bool n2, .slice ab b.length cb] 62)).alloc (Obj.cells #[.bool false, .slice none 0 0] 62)).alloc (Obj.cells #[] 67)) := b_alloc (Below.refl _ _)
  generalize (((w.alloc (Obj.cells #[.bool n1, .slice aa a.length ca] 62)).alloc (Obj.cells #[.bool n2, .slice ab b.length cb] 62)).alloc (Obj.cells #[.bool false, .slice none 0 0] 62)).alloc (Obj.cells #[] 67) = W1 at *
  generalize (((w.alloc (Obj.cells #[.bool n1, .slice aa a.length ca] 62)).alloc (Obj.cells #[.bool n2, .slice ab b.length cb] 62)).alloc (Obj.cells #[.bool false, .slice none 0 0] 62)) = W0 at *
  have k1' := bc_keep B2 k1
  have k2' := bc_keep B2 k2
  go_loopw [5, 6] (fun v iv wr => ∃ (k : Nat) (o : List Int), k ≤ a.length ∧ iv = .int .i64 k ∧ DG wr v o ∧ Dig o ∧ val o = val (a.take k) * val b ∧ o.length ≤ 2002 + k ∧ Below W0.heap.size W0 wr) (fun _ iv _ => a.length - (intOf iv).toNat)
  case atStart => exact ⟨0, [], Nat.zero_le _, rfl, o1, dig_nil, by simp [val], by simp, B2⟩
  case round =>
    obtain ⟨k, o, hk, rfl, hO, dO, eO, lO, hB⟩ := hrel
    clear o1 B2 k1' k2'
    have c1 := bc_keep hB k1
    have c2 := bc_keep hB k2
    have HO := Lib.hid (And.intro hO (And.intro dO (And.intro eO lO)))
    obtain ⟨ao, co, rfl, _⟩ := dg_len hO
    clear hO dO eO lO
    generalize hol : o.length = ol at *
    have OL := Lib.hid hol
    clear hol
    obtain ⟨wo, rfl⟩ : ∃ wo : World, wo = wr := ⟨_, rfl⟩
    by_cases c : k < a.length
    · have hx := dig_getD da k
      obtain ⟨ga, ca', e1, _, _, hca⟩ := dg_cell (dg_keep gA hB) k c
      simp at e1
      obtain ⟨rfl, rfl⟩ := e1
      have HR := Lib.hid (fun (row : List Int) (h : 65536 ^ k * (a.getD k 0 * val b) = val row) => mul_out HO.out.2.2.1 h)
      have RS := Lib.hid (fun (row : List Int) (j : Nat) (cc : Int) (h1 : row.length = k + j) h2 h3 h4 => row_step (b := b) (row := row) (i := k) (k := j) (x := a.getD k 0) (c := cc) db h1 hx.1 hx.2 h2 h3 h4)
      generalize a.getD k 0 = p at *
      go_wp2
      go_loopw [7, 8] (fun v iv wr => ∃ j : Nat, j ≤ k ∧ iv = .int .i64 j ∧ OW wr wo.heap.size v (zs j) ∧ Below wo.heap.size wo wr) (fun _ iv _ => k - (intOf iv).toNat)
      case atStart => exact ⟨0, Nat.zero_le _, rfl, ow_start rfl (Nat.le_refl _), b_alloc (Below.refl _ _)⟩
      case round =>
        obtain ⟨j, hj, rfl, hown, hb3⟩ := hrel
        have hsz := hb3.size
        have hzl := zs_len j
        by_cases cj : j < k
        · go_wp2_with (at_builtin; refine wpList_append_own _ rfl _ _ 60 rfl wo.heap.size 67 i0 (.int .u64 0) 1 8 Tryd.underlying60 hi hz0 hz1 hz2 rfl (by decide) _ _ _ rfl (World.ownsRow.alloc hown _) ⟨wr.heap.size, 0, none⟩ 1 1 [.int .u64 (0)] rfl rfl ?c1 ?c2 ?c3 ?c4 ?c5 ?_)
          case c1 =>
            intro j u hj
            match j, hj with
            | 0, hj => simp at hj; subst hj; simp [Addr.add]
          case c2 => intro u hu; simp at hu; subst hu; rfl
          case c3 => unfold maxLen; (try simp); omega
          case c4 => (try simp); omega
          case c5 => (try simp); omega
          intro v' w1 hown' hgrow _
          have R1 : OW w1 wo.heap.size v' (zs (j + 1)) := ow_zs hown'
          have R2 : Below wo.heap.size wo w1 := (b_alloc hb3).grown hgrow (by simp; omega) (ow_block hown)
          clear hown' hgrow hown hb3
          go_wp2
          go_roundw
          case rel => exact ⟨j + 1, by omega, by simp, R1, R2⟩
          case measure => simp [intOf]; omega
        · obtain rfl : j = k := by omega
          clear hzl
          go_wp2
          obtain ⟨wz, rfl⟩ : ∃ wz : World, wz = wr := ⟨_, rfl⟩
          go_loopw [7, 9, 10] (fun v cv iv wr => ∃ (j' : Nat) (row : List Int) (cc : Int), j' ≤ b.length + 1 ∧ iv = .int .i64 j' ∧ cv = .int .u64 cc ∧ 0 ≤ cc ∧ cc ≤ 65535 ∧ (j' = b.length + 1 → cc = 0) ∧ OW wr wo.heap.size v row ∧ row.length = j + j' ∧ Dig row ∧ 65536 ^ j * (p * val (b.take j')) = val row + 65536 ^ (j + j') * cc ∧ Below wo.heap.size wo wr) (fun _ _ iv _ => b.length + 1 - (intOf iv).toNat)
          case atStart => exact ⟨0, zs j, 0, Nat.zero_le _, rfl, rfl, by decide, by decide, fun h => rfl, hown, by rw [zs_len]; rfl, dig_zeros _, by simp [val, zs, val_zeros], hb3⟩
          case round =>
            obtain ⟨t, row, cc, ht, rfl, rfl, cc0, cc1, hlast, hown3, hrl, dR, eR, hb4⟩ := hrel
            have hsz4 := hb4.size
            have d1 := bc_keep hb4 c1
            have d2 := bc_keep hb4 c2
            have hca4 := cell_keep hb4 hca
            have gB4 := dg_keep (dg_keep gB hB) hb4
            have zb : b.length ≤ t → b.getD t 0 = 0 := fun h => by rw [List.getD_eq_getElem?_getD, List.getElem?_eq_none (by omega)]; rfl
            have cD : ∀ n, Calls Tryd.prog 32 #[.slice ab b.length cb, .int .i64 t] (wr.drewN n) fun e w' => e = .returned (.int .u64 (b.getD t 0)) ∧ w' = wr.drewN n := fun n => by
              have := digit_any _ b t (wr.drewN n) (dg_keep gB4 (below_draws _ _ _)) (by omega) (by omega)
              rw [Int.toNat_natCast] at this
              exact this.mono fun _ _ h => ⟨h.1, h.2.symm⟩
            have gq := dig_getD db t
            have rs := RS.out row t cc hrl eR cc0 cc1
            have ER := Lib.hid eR
            have HL := Lib.hid hrl
            have Z := Lib.hid (And.intro zb hlast)
            clear eR zb hlast gB4 hrl
            by_cases stop : b.length ≤ t ∧ cc = 0
            · obtain ⟨s1, rfl⟩ := stop
              have t1 : decide (t < b.length) = false := by simp; omega
              have fin : 65536 ^ j * (p * val b) = val row := by
                have := ER.out
                rw [val_take_all s1] at this
                omega
              have FI := Lib.hid (And.intro (HR.out row fin) (dg_of_owns hown3))
              have hrow : row.length ≤ 2002 + j := by have := HL.out; omega
              have ho4 := dg_keep HO.out.1 hb4
              have dsum := fun (vv : Value) (hv : DG wr vv row) => sum_any (.slice ao ol co) vv o row wr ho4 hv HO.out.2.1 dR (2002 + j) (by rw [OL.out]; exact HO.out.2.2.2) hrow (by omega)
              obtain ⟨ar, cr, rfl, _⟩ := dg_len FI.out.2
              have cS := dsum _ FI.out.2
              rw [FI.out.1] at cS
              clear fin cD rs RS dsum ho4 hown3 ER Z hown
              generalize row.length = rl at *
              go_wp2_with fail
              (with_reducible refine cS.mono ?_)
              rintro e w5 ⟨v5, l5, rfl, h5, h6, h7, h8, hb5⟩
              obtain ⟨a5, c5, rfl, _⟩ := dg_len h5
              have B5 : Below W0.heap.size W0 w5 := b_trans (b_trans hB hb4) hb5
              have H5 := Lib.hid (And.intro h5 (And.intro h6 (And.intro h7 h8)))
              clear h5 h6 h7 h8 hb5 cS
              generalize hl5 : l5.length = ll5 at *
              have L5 := Lib.hid hl5
              clear hl5
              go_wp2
              go_roundw
              case rel => exact ⟨j + 1, l5, by omega, by simp, H5.out.1, H5.out.2.1, H5.out.2.2.1, by rw [L5.out]; have := H5.out.2.2.2; omega, B5⟩
              case measure => simp [intOf]; omega
            · have htb : t ≤ b.length := by have := Z.out.2; omega
              have hrow : row.length ≤ 2001 := by have := HL.out; omega
              obtain ⟨q1, q2, q3, q4, q5⟩ := rs
              have Q1 := Lib.hid q1
              clear q1 RS HR ER hown
              have zt : b.length ≤ t → b.getD t 0 = 0 := Z.out.1
              have ZT := Lib.hid zt
              clear zt Z
              generalize b.getD t 0 = q at *
              have s1 : IntKind.u64.wrap (p * q) = p * q := by rw [wrapB]; omega
              have s2 : IntKind.u64.wrap (p * q + cc) = p * q + cc := by rw [wrapB]; omega
              have QZ : Hid (b.length ≤ t → (p * q + cc) / 65536 = 0) := Lib.hid (fun h => by rw [ZT.out h]; omega)
              clear ZT
              have ways : (decide (t < b.length) = true) ∨ (decide (t < b.length) = false ∧ 0 < cc) := by
                by_cases h1 : t < b.length
                · exact Or.inl (by simpa using h1)
                · exact Or.inr ⟨by simpa using h1, by omega⟩
              clear stop
              rcases ways with t1 | ⟨t1, t3⟩
              all_goals
                go_wp2
                go_quiet ((go_at_call 32; exact Calls.quiet_of_same (cD _)))
                have hown4 := ow_draws hown3 nq
                have hb5 := hb4.trans (below_draws wo.heap.size wr nq)
                have hsz5 := hb5.size
                clear s1 s2 cD hown3 hb4 hca4 d1 d2
                generalize wr.drewN nq = wd at *
                have H2 := Lib.hid (fun (v' : Value) (w1 : World) (h : World.ownsRow w1 wo.heap.size 67 1 v' (row.length + 1) (row.map (Value.int .u64) ++ [.int .u64 ((p * q + cc) % 65536)])) => ow_snoc h)
                go_wp2_with (at_builtin; refine wpList_append_own _ rfl _ _ 60 rfl wo.heap.size 67 i0 (.int .u64 0) 1 8 Tryd.underlying60 hi hz0 hz1 hz2 rfl (by decide) _ _ _ rfl (World.ownsRow.alloc hown4 _) ⟨wd.heap.size, 0, none⟩ 1 1 [.int .u64 ((p * q + cc) % 65536)] rfl rfl ?e1 ?e2 ?e3 ?e4 ?e5 ?_)
                case e1 =>
                  intro j u hj
                  match j, hj with
                  | 0, hj => simp at hj; subst hj; simp [Addr.add]
                case e2 => intro u hu; simp at hu; subst hu; rfl
                case e3 => unfold maxLen; (try simp); omega
                case e4 => (try simp); omega
                case e5 => (try simp); omega
                intro v' w1 hown' hgrow _
                have R1 := H2.out _ _ hown'
                have R2 : Below wo.heap.size wo w1 := (b_alloc hb5).grown hgrow (by simp; omega) (ow_block hown4)
                clear hown' hgrow hown4 H2 hb5
                go_wp2
                go_roundw
                case rel => exact ⟨t + 1, row ++ [(p * q + cc) % 65536], (p * q + cc) / 65536, by omega, by simp, rfl, q2, q3, fun h => QZ.out (by omega), R1, by rw [List.length_append, HL.out]; rfl, dig_app dR (dig_one (by omega) (by omega)), Q1.out, R2⟩
                case measure => simp [intOf]; omega
    · obtain rfl : k = a.length := by omega
      have eO := HO.out.2.2.1
      rw [val_take_all (Nat.le_refl _)] at eO
      have cC := cut_any (!(n1 == n2)) (.slice ao ol co) o wo HO.out.2.1 HO.out.1
      rw [eO] at cC
      clear eO
      go_wp2_with fail
      refine cC.mono ?_
      rintro e w2 ⟨bv, rfl, hR, hb2⟩
      obtain ⟨n9, a9, k9, c9, rfl⟩ := bg_form hR
      have r2 := bv_keep hb2 (bv_keep hB r1)
      obtain ⟨n', a', k', c'', r3, f3⟩ := bv_use r2
      have B3 : Below w.heap.size w w2 := b_trans (b_trans B1 hB) hb2
      have HB := Lib.hid (And.intro r2 hR)
      clear hb2 hR r2 cC HO
      go_wp2
      exact bodyPost_ret (v := .agg #[.bool n9, .slice a9 k9 c9]) (by simp [results, Tryd.results26, go_sem, r3]) rfl ⟨_, rfl, bg_store HB.out.1 HB.out.2, b_set (b_set B3 (by simp; omega)) (by simp; omega)⟩

theorem mul_big (va vb : Value) (x y : Int) (w : World) (hx : BG w va x) (hy : BG w vb y) (sx : Small x) (sy : Small y) :
    Calls Tryd.prog 26 #[va, vb] w (RetB (x * y) w) := by
  obtain ⟨n1, aa, a, ca, rfl, hA, da, na, la, rfl, ca1, ca2⟩ := bg_open hx
  obtain ⟨n2, ab, b, cb, rfl, hB', db, nb, lb, rfl, cb1, cb2⟩ := bg_open hy
  have ma := small_len da na la sx
  have mb := small_len db nb lb sy
  have := mul_go n1 n2 aa ab ca cb a b w hA hB' da db ma mb
  rwa [show sgn (n1 != n2) (val a * val b) = sgn n1 (val a) * sgn n2 (val b) by unfold sgn; cases n1 <;> cases n2 <;> simp [Int.neg_mul, Int.mul_neg]] at this

end Go.Proofs.YthnaeoagooahbaaDoor
