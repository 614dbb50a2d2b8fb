/- Layer 21: the law: bytes of ticks, one part behind the other, are read as both parts' ticks; a byte that is another one changes the sum. -/
import Derived.Test.YtfenmkcniiiglaaTapS
import Derived.Test.YtfenmkcniiiglaaTapT
namespace Go.Proofs.Ytfenmkcniiiglaa
open Go.RowKit Go.Shelf Go.Joins Go.Maps

theorem pe_01 (l : List Tk) : pe l = 0 ∨ pe l = 1 := by unfold pe; split <;> simp
theorem gt_two {a b : List Tk} (ia : ∀ t ∈ a, In t) (ib : ∀ t ∈ b, In t) (ea : pe a = 0) (eb : pe b = 0) : gx (px a ++ px b) = a ++ b ∧ ge (px a ++ px b) = 0 := by
  have all : ∀ l : List Tk, pe l = 0 → l.all may = true := fun l h => by
    unfold pe at h
    split at h
    · assumption
    · cases h
  have ha := all a ea
  have hb := all b eb
  have e : gt (px a ++ px b) [] = (a ++ b, 0) := by
    rw [px, if_pos ha, px, if_pos hb, gt_pb _ a [] ia ha, List.nil_append]
    have := gt_pb [] b a ib hb
    rw [List.append_nil, gt_nil] at this
    exact this
  unfold gx ge
  rw [e]
  exact ⟨rfl, rfl⟩
theorem ob_us_at {w : World} {B : Nat} {sb : Option Addr} {m cap : Nat} {l : List Int} (h : OB w B (.slice sb m cap) l) (hm : l.length = m) : US w B sb l := by
  obtain ⟨sa, c, e, _, _, hu⟩ := ob_us h
  injection e with e1 e2 e3
  subst e1
  exact hu

set_option maxHeartbeats 4000000 in
set_option maxRecDepth 10000 in
theorem tapeParts_any (la lb : List Tk) (ia : ∀ t ∈ la, In t) (ib : ∀ t ∈ lb, In t) (na nb : Nat) (hna : la.length = na) (hnb : lb.length = nb) (sa sc : Option Addr) (ca cb : Nat) (at_ : Int) (h0 : 0 ≤ at_) (h1 : at_ ≤ 65535) (w : World) (ha : TS w sa la) (hb : TS w sc lb) :
    Calls Try.prog 6 #[.slice sa na ca, .slice sc nb cb, .int .u16 at_] w (RetV (.bool true) w) := by
  by_cases l1 : na ≤ 60
  · have g1 : ¬ (60 : Int) < (na : Int) := by omega
    by_cases l2 : nb ≤ 60
    · have g2 : ¬ (60 : Int) < (nb : Int) := by omega
      obtain ⟨i0, hi, hz0, hz1, hz2⟩ := info_u8
      obtain ⟨j0, zv, hj, hj0, hj1, hj2, hj3⟩ := info_tick
      have xl := px_len la
      have yl := px_len lb
      have xb := by_px la
      have yb := by_px lb
      have p1 := put_at la (by omega) na hna sa ca w ha
      have p2 := fun u hu => put_at lb (by omega) nb hnb sc cb u hu
      have e1 := pe_01 la
      have e2 := pe_01 lb
      have tw := fun h k => gt_two ia ib h k
      have HTA := Lib.hid ha
      have HTB := Lib.hid hb
      clear ha hb ia ib
      generalize px la = x at *
      generalize px lb = y at *
      generalize pe la = f1 at *
      generalize pe lb = f2 at *
      obtain ⟨m1, hm1⟩ : ∃ m, x.length = m := ⟨_, rfl⟩
      obtain ⟨m2, hm2⟩ : ∃ m, y.length = m := ⟨_, rfl⟩
      rw [hm1] at p1
      rw [hm2] at p2
      go_enter Try.func6, Try.ntmps6
      go_wp2_with fail
      refine p1.mono ?_
      rintro e y0 ⟨s1, c1, rfl, k1, k2, hx, E⟩
      have HX := Lib.hid hx
      clear p1 hx
      go_wp2_with fail
      refine (p2 _ (ts_keep E HTB.out)).mono ?_
      rintro e y1 ⟨s2, c2, rfl, k3, k4, hy, hb⟩
      have hE := Lib.hid (b_trans E hb)
      replace HX := Lib.hid (us_keep hb HX.out)
      have HY := Lib.hid hy
      have HWY := Lib.hid hE.out.size
      clear p2 hy hb E
      rcases e1 with rfl | rfl
      · rcases e2 with rfl | rfl
        · obtain ⟨hgx, hge⟩ := tw rfl rfl
          obtain ⟨z, hz⟩ : ∃ z, x ++ y = z := ⟨_, rfl⟩
          obtain ⟨m, hm⟩ : ∃ m, z.length = m := ⟨_, rfl⟩
          obtain ⟨ll, hll⟩ : ∃ l, la ++ lb = l := ⟨_, rfl⟩
          obtain ⟨q, hq⟩ : ∃ q, ll.length = q := ⟨_, rfl⟩
          have hzb : By z := hz ▸ by_app xb yb
          have hml : m ≤ 2040 := by rw [← hm, ← hz, List.length_append]; omega
          have hql : q ≤ 120 := by rw [← hq, ← hll, List.length_append]; omega
          rw [hz, hll] at hgx
          rw [hz] at hge
          have cg := fun sb cp hcp u hu => get_at z hzb (by omega) m hm sb cp hcp u hu
          rw [hgx, hge, hq] at cg
          have HZ := Lib.hid hz
          have HLL := Lib.hid hll
          clear hz hll hgx hge tw xb yb
          go_wp2_with (at_builtin; first | (refine wpList_append_any (by rfl) (.tmp 41) (.tmp 42) 24 rfl y1.heap.size 5 i0 (.int .u8 0) 1 1 Try.underlying24 hi hz0 hz1 hz2 rfl (by decide) _ _ _ rfl (ob_empty (w := y1) rfl (Nat.le_refl _)) s1 m1 c1 (us x) rfl (by rw [us_len]; omega) (us_news (us_keep (b_alloc (Below.refl _ _)) HX.out)) us_cell (by unfold maxLen; simp; omega) (by simp; omega) (by simp) ?_; intro v1 w2 ho1 hg1 hat1; have HO1 := Lib.hid (ob_grow (l := []) ho1 hm1); have HB1 := Lib.hid (below_gr (b_alloc (Below.refl y1.heap.size y1)) (gr_app (Below.refl _ _) hg1 hat1) (own_from (ob_empty (w := y1) rfl (Nat.le_refl _)))); clear ho1 hg1 hat1) | (refine wpList_append_any (by rfl) (.tmp 43) (.tmp 44) 24 rfl y1.heap.size 5 i0 (.int .u8 0) 1 1 Try.underlying24 hi hz0 hz1 hz2 rfl (by decide) _ _ _ rfl (HO1.out) s2 m2 c2 (us y) rfl (by rw [us_len]; omega) (us_news (us_keep HB1.out HY.out)) us_cell (by unfold maxLen; simp; omega) (by simp; omega) (HB1.out.size) ?_; intro v2 w3 ho2 hg2 hat2; have HO2 : Hid (OB w3 y1.heap.size v2 z) := Lib.hid (HZ.out ▸ ob_grow ho2 hm2); have HB2 := Lib.hid (below_gr HB1.out (gr_app (Below.refl _ _) hg2 hat2) (own_from HO1.out)); clear ho2 hg2 hat2 HO1 HB1; obtain ⟨sd, cd, hv2, k5, k6, hu⟩ := ob_us HO2.out; rw [hm] at hv2 k5; subst hv2; have HU := Lib.hid hu; clear hu))
          refine (cg sd cd k5 w3 (us_low (Nat.zero_le _) HU.out)).mono ?_
          rintro e y4 ⟨s5, c5, rfl, k7, ht, hb⟩
          replace hE := Lib.hid (b_trans (b_trans hE.out HB2.out) hb)
          have hwy : w.heap.size ≤ y1.heap.size := HWY.out
          replace HO2 := Lib.hid (ob_keep hb HO2.out)
          have HT := Lib.hid ht
          clear cg ht hb HB2 HU HX HY
          go_wp2_with (at_builtin; first | (refine wpList_append_any (by rfl) (.tmp 55) (.tmp 56) 22 rfl y4.heap.size 48 j0 zv 4 32 Try.underlying22 hj hj0 hj1 hj2 hj3 (by decide) _ _ _ rfl (ot_empty (w := y4) rfl (Nat.le_refl _)) sa na ca (cl la) rfl (by rw [cl_len, hna]) (ts_news (ts_keep (b_alloc (Below.refl _ _)) (ts_keep hE.out HTA.out))) (cl_cell _) (by unfold maxLen; simp; omega) (by simp; omega) (by simp) ?_; intro v3 w5 ho3 hg3 hat3; have HO3 := Lib.hid (ot_grow (l := []) (m := la) (by rw [hna]; exact ho3)); have HB3 := Lib.hid (below_gr (b_alloc (Below.refl y4.heap.size y4)) (gr_app (Below.refl _ _) hg3 hat3) (own_from (ot_empty (w := y4) rfl (Nat.le_refl _)))); clear ho3 hg3 hat3) | (refine wpList_append_any (by rfl) (.tmp 57) (.tmp 58) 22 rfl y4.heap.size 48 j0 zv 4 32 Try.underlying22 hj hj0 hj1 hj2 hj3 (by decide) _ _ _ rfl (HO3.out) sc nb cb (cl lb) rfl (by rw [cl_len, hnb]) (ts_news (ts_keep HB3.out (ts_keep hE.out HTB.out))) (cl_cell _) (by unfold maxLen; simp; omega) (by simp; omega) (HB3.out.size) ?_; intro v4 w6 ho4 hg4 hat4; have HO4 : Hid (OT w6 y4.heap.size v4 ll) := Lib.hid (HLL.out ▸ ot_grow (m := lb) (by rw [hnb]; exact ho4)); have HB4 := Lib.hid (below_gr HB3.out (gr_app (Below.refl _ _) hg4 hat4) (own_from HO3.out)); clear ho4 hg4 hat4 HO3 HB3; obtain ⟨s6, c6, hv4, k8, k9, ht4⟩ := ot_ts HO4.out; rw [hq] at hv4; subst hv4; have HT4 := Lib.hid ht4; clear ht4 HO4 k8 k9))
          refine (same_at ll (by omega) q q hq hq s5 s6 c5 c6 w6 (ts_keep HB4.out HT.out) HT4.out).mono ?_
          rintro e y8 ⟨rfl, hb⟩
          replace hE := Lib.hid (b_trans (b_trans hE.out HB4.out) hb)
          replace HO2 := Lib.hid (ob_keep hb (ob_keep HB4.out HO2.out))
          clear hb HB4 HT HT4 HTA HTB
          by_cases hm0 : m = 0
          · subst hm0
            go_wp2_with fail
            refine (fixed_tap _).mono ?_
            rintro e y9 ⟨rfl, hb⟩
            replace hE := Lib.hid (b_trans hE.out hb)
            clear hb
            go_wp2
            go_ret
            exact ⟨rfl, hE.out⟩
          · have hmi : ¬ (m : Int) = 0 := by omega
            obtain ⟨n1, hn1⟩ : ∃ s, sb s0 z = s := ⟨_, rfl⟩
            have cs := sum_at z hzb (by omega) m hm n1 hn1 sd cd y8 (us_low (Nat.zero_le _) (ob_us_at HO2.out hm))
            go_wp2_with fail
            refine cs.mono ?_
            rintro e y9 ⟨rfl, hb⟩
            replace hE := Lib.hid (b_trans hE.out hb)
            replace HO2 := Lib.hid (ob_keep hb HO2.out)
            clear hb cs
            obtain ⟨j, hjj⟩ : ∃ j : Nat, at_ % (m : Int) = j := ⟨(at_ % (m : Int)).toNat, by have := Int.emod_nonneg at_ hmi; omega⟩
            have hjm : j < m := by have := Int.emod_lt_of_pos at_ (show (0 : Int) < m by omega); omega
            have r1 : at_.tmod (m : Int) = j := by rw [Int.tmod_eq_emod_of_nonneg h0]; exact hjj
            obtain ⟨c, hc⟩ : ∃ c, z[j]? = some c := ⟨z[j]'(by omega), List.getElem?_eq_getElem _⟩
            obtain ⟨d0, d1⟩ := hzb c (List.mem_of_getElem? hc)
            obtain ⟨g, cap2, hv, hBg, hcap, c0, fz, hset⟩ := ob_cell HO2.out hc
            rw [hm] at hv
            injection hv with hv1 hv2 hv3
            subst hv1
            subst hv3
            obtain ⟨k, rfl⟩ := Int.eq_ofNat_of_zero_le d0
            obtain ⟨p, hp⟩ : ∃ p : Nat, (p : Int) = at_ / 256 := ⟨(at_ / 256).toNat, by omega⟩
            have hp8 : p ≤ 255 := by omega
            obtain ⟨r, hr⟩ : ∃ r, p % 255 = r := ⟨_, rfl⟩
            have hr8 : r < 255 := by omega
            have r2 : (p : Int).tmod 255 = r := by rw [Int.tmod_eq_emod_of_nonneg (by omega)]; omega
            obtain ⟨t, ht⟩ : ∃ t, k ^^^ (1 + r) = t := ⟨_, rfl⟩
            have ht8 : t < 256 := ht ▸ Nat.xor_lt_two_pow (n := 8) (by omega) (by omega)
            have htk : t ≠ k := ht ▸ xor_other (by omega)
            have hx : bits .xor .u8 (k : Int) (1 + (r : Int)) = (t : Int) := by rw [show (1 : Int) + (r : Int) = ((1 + r : Nat) : Int) from by omega, u8_xor_nat k (1 + r) (by omega) (by omega), ht]
            have wa : IntKind.i64.wrap at_ = at_ := by rw [IntKind.wrap_i64]; omega
            have wj : IntKind.i64.wrap (j : Int) = j := by rw [IntKind.wrap_i64]; omega
            have wp : IntKind.u8.wrap (p : Int) = p := by rw [IntKind.wrap_u8]; omega
            have wr : IntKind.u8.wrap (r : Int) = r := by rw [IntKind.wrap_u8]; omega
            have w1r : IntKind.u8.wrap (1 + (r : Int)) = 1 + r := by rw [IntKind.wrap_u8]; omega
            have hj0 : (0 : Int) ≤ j := by omega
            have hji : (j : Int) < m := by omega
            have hS := Lib.hid (hset (t : Int))
            have hne : sb s0 z ≠ sb s0 (z.set j (t : Int)) := sum_other hzb hc (by omega) (by omega)
            rw [hn1] at hne
            obtain ⟨n2, hn2⟩ : ∃ s, sb s0 (z.set j (t : Int)) = s := ⟨_, rfl⟩
            rw [hn2] at hne
            have hb2 : By (z.set j (t : Int)) := fun v hv => by
              rcases List.mem_or_eq_of_mem_set hv with h | rfl
              · exact hzb v h
              · omega
            have hneq : ((n2 : Int) != (n1 : Int)) = true := by simp; omega
            have cs := fun u hu => sum_at (z.set j (t : Int)) hb2 (by simp; omega) m (by simp [hm]) n2 hn2 (some ⟨g, 0, none⟩) cd u hu
            have hE2 := Lib.hid (b_set (p := ⟨g, j, none⟩) (v := .int .u8 t) hE.out (Nat.le_trans hwy hBg))
            have hp2 : at_ / 256 = (p : Int) := hp.symm
            clear hset HO2 hn1 hn2 hne hb2 hzb hc hE ht htk hr hp hjj hcap
            go_wp2_with fail
            refine (fixed_tap _).mono ?_
            rintro e y10 ⟨rfl, hb⟩
            have cs := cs y10 (us_keep hb hS.out)
            replace hE2 := Lib.hid (b_trans hE2.out hb)
            clear hb hS c0 fz
            go_wp2_with fail
            refine cs.mono ?_
            rintro e y11 ⟨rfl, hb⟩
            replace hE2 := Lib.hid (b_trans hE2.out hb)
            clear hb cs
            go_wp2
            go_ret
            exact ⟨rfl, hE2.out⟩
        · clear HX HY tw
          clear HTA HTB
          go_wp2_with fail
          refine (fixed_tap _).mono ?_
          rintro e y9 ⟨rfl, hb⟩
          replace hE := Lib.hid (b_trans hE.out hb)
          clear hb
          go_wp2
          go_ret
          exact ⟨rfl, hE.out⟩
      · clear HX HY tw
        clear HTA HTB
        go_wp2_with fail
        refine (fixed_tap _).mono ?_
        rintro e y9 ⟨rfl, hb⟩
        replace hE := Lib.hid (b_trans hE.out hb)
        clear hb
        go_wp2
        go_ret
        exact ⟨rfl, hE.out⟩
    · have g2 : (60 : Int) < (nb : Int) := by omega
      go_enter Try.func6, Try.ntmps6
      go_wp2_with fail
      refine (fixed_tap _).mono ?_
      rintro e y0 ⟨rfl, E⟩
      go_wp2
      go_ret
      exact ⟨rfl, E⟩
  · have g1 : (60 : Int) < (na : Int) := by omega
    go_enter Try.func6, Try.ntmps6
    go_wp2_with fail
    refine (fixed_tap _).mono ?_
    rintro e y0 ⟨rfl, E⟩
    go_wp2
    go_ret
    exact ⟨rfl, E⟩
end Go.Proofs.Ytfenmkcniiiglaa
