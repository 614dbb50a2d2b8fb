/- Layer 17: a mean is from the least count to the greatest one, and good; of counts that are alike it is that count; with all counts one greater it is one greater, if these are good. -/
import Derived.Test.YtfipfhghbihebaaMeaD
namespace Go.Proofs.Ytfipfhghbihebaa
open Go.RowKit Go.Shelf Go.Joins

/-- The greatest of the first n and of the very first one. -/
def gt (z : Nat → Int) : Nat → Int
  | 0 => z 0
  | n + 1 => if gt z n < z n then z n else gt z n
theorem gt_ge {z : Nat → Int} : ∀ {n k : Nat}, k < n → z k ≤ gt z n
  | 0, _, h => absurd h (Nat.not_lt_zero _)
  | n + 1, k, h => by
    rw [gt]
    by_cases c : k = n
    · subst c
      split <;> omega
    · have := gt_ge (z := z) (n := n) (k := k) (by omega)
      split <;> omega
theorem gt_one {z : Nat → Int} : ∀ (n : Nat), gt z n = z 0 ∨ ∃ k, k < n ∧ gt z n = z k
  | 0 => Or.inl rfl
  | n + 1 => by
    rw [gt]
    by_cases c : gt z n < z n
    · rw [if_pos c]
      exact Or.inr ⟨n, by omega, rfl⟩
    · rw [if_neg c]
      rcases gt_one (z := z) n with h | ⟨k, hk, h⟩
      · exact Or.inl h
      · exact Or.inr ⟨k, by omega, h⟩
theorem gt_good {z : Nat → Int} {n : Nat} (h : 0 < n) (a : ag z n = true) : 90528 ≤ gt z n ∧ gt z n ≤ 430515 := by
  rcases gt_one (z := z) n with e | ⟨k, hk, e⟩
  · rw [e]; exact gd_range (ag_at a h)
  · rw [e]; exact gd_range (ag_at a hk)
theorem gt_is {z : Nat → Int} {n : Nat} (h : 0 < n) : ∃ k, k < n ∧ gt z n = z k := by
  rcases gt_one (z := z) n with e | ⟨k, hk, e⟩
  · exact ⟨0, h, e⟩
  · exact ⟨k, hk, e⟩
theorem sm_low {z : Nat → Int} {l : Int} : ∀ {n : Nat}, (∀ k, k < n → l ≤ z k) → l * n ≤ sm z n
  | 0, _ => by simp [sm]
  | n + 1, h => by
    have := sm_low (n := n) (fun k hk => h k (by omega))
    have := h n (by omega)
    rw [sm, Int.natCast_add, Int.natCast_one, Int.mul_add, Int.mul_one]
    omega
theorem sm_high {z : Nat → Int} {l : Int} : ∀ {n : Nat}, (∀ k, k < n → z k ≤ l) → sm z n ≤ l * n
  | 0, _ => by simp [sm]
  | n + 1, h => by
    have := sm_high (n := n) (fun k hk => h k (by omega))
    have := h n (by omega)
    rw [sm, Int.natCast_add, Int.natCast_one, Int.mul_add, Int.mul_one]
    omega
theorem sm_next (z : Nat → Int) : ∀ n : Nat, sm (fun k => z k + 1) n = sm z n + n
  | 0 => rfl
  | n + 1 => by
    rw [sm, sm, sm_next z n]
    omega
theorem sm_alike (c : Int) : ∀ n : Nat, sm (fun _ => c) n = c * n
  | 0 => by simp [sm]
  | n + 1 => by
    rw [sm, sm_alike c n, Int.natCast_add, Int.natCast_one, Int.mul_add, Int.mul_one]
/-- A mean is between. -/
theorem mean_low {z : Nat → Int} {n : Nat} (hn : 0 < n) (a : ag z n = true) : lt z n ≤ mv z n := by
  rw [(m_ok hn a).1]
  exact (Int.le_ediv_iff_mul_le (by omega)).2 (sm_low fun k hk => lt_le hk)
theorem mean_high {z : Nat → Int} {n : Nat} (hn : 0 < n) (a : ag z n = true) : mv z n ≤ gt z n := by
  rw [(m_ok hn a).1]
  exact Int.ediv_le_of_le_mul (by omega) (sm_high fun k hk => gt_ge hk)
/-- Of counts that are alike. -/
theorem mean_alike {c : Int} {n : Nat} (hn : 0 < n) (g : gd c = true) : mv (fun _ => c) n = c ∧ me (fun _ => c) n = 0 := by
  have a : ag (fun _ => c) n = true := ag_of fun _ _ => g
  have h := m_ok hn a
  rw [sm_alike, Int.mul_ediv_cancel _ (by omega)] at h
  exact h
/-- With all counts one greater. -/
theorem mean_next {z : Nat → Int} {n : Nat} (hn : 0 < n) (a : ag z n = true) :
    (me (fun k => z k + 1) n = 0 ∧ mv (fun k => z k + 1) n = mv z n + 1) ∨ (me (fun k => z k + 1) n = 2 ∧ gt z n = 430515) := by
  by_cases c : gt z n = 430515
  · obtain ⟨k, hk, e⟩ := gt_is (z := z) hn
    have g : gd ((fun k => z k + 1) k) = false := gd_hi (by show ¬ z k + 1 ≤ 430515; omega)
    exact Or.inr ⟨(m_bad (ag_not hk g)).2, c⟩
  · have hg := gt_good hn a
    have a2 : ag (fun k => z k + 1) n = true := ag_of fun k hk => by
      have := gt_ge (z := z) hk
      have := gd_range (ag_at a hk)
      exact gd_in (by omega) (by omega)
    refine Or.inl ⟨(m_ok hn a2).2, ?_⟩
    rw [(m_ok hn a2).1, (m_ok hn a).1, sm_next]
    have := Int.add_mul_ediv_right (sm z n) 1 (c := (n : Int)) (by omega)
    rw [Int.one_mul] at this
    exact this

set_option maxHeartbeats 4000000 in
set_option maxRecDepth 10000 in
/-- MeanBetween, where there is a count and all are good. -/
theorem meanBetween_in (z : Nat → Int) (gb off : Nat) (len cap : Nat) (n : Int) (m : Nat) (n0 : 0 ≤ n) (n1 : n ≤ 255) (hm : Hid (n.tmod 40 = (m : Int))) (hm1 : m ≤ 39) (l0 : 0 < len) (l1 : len ≤ 200) (ha : ag z len = true) (w : World)
    (hc : ∀ k, k < len → w.cell? ⟨gb, off + k, none⟩ = some (.int .i64 (z k))) : Calls Try.prog 5 #[.slice (some ⟨gb, off, none⟩) len cap, .int .u8 n] w (RetV (.bool true) w) := by
  have h2 : ¬ (200 : Int) < (len : Int) := by omega
  have h3 : ((len : Int) == 0) = false := by rw [beq_eq_false_iff_ne]; omega
  have h4 : (0 : Int) < len := by omega
  have hmo : n.tmod 40 = (m : Int) := hm.out
  have wm : IntKind.i64.wrap (m : Int) = m := by rw [IntKind.wrap_i64]; omega
  have wm1 : IntKind.i64.wrap (1 + (m : Int)) = 1 + (m : Int) := by rw [IntKind.wrap_i64]; omega
  have wn : IntKind.i64.wrap n = n := by rw [IntKind.wrap_i64]; omega
  have c0 : w.cell? ⟨gb, off, none⟩ = some (.int .i64 (z 0)) := hc 0 l0
  have g0 := ag_at ha l0
  have HC := Lib.hid hc
  have HA := Lib.hid ha
  have HLO := Lib.hid (mean_low l0 ha)
  have HHI := Lib.hid (mean_high l0 ha)
  have HLG := Lib.hid (lt_good l0 ha)
  have HGG := Lib.hid (gt_good l0 ha)
  have HN := Lib.hid (mean_next l0 ha)
  have HS := Lib.hid (mean_alike (c := z 0) (n := 1 + m) (by omega) g0)
  have ce : me z len = 0 := (m_ok l0 ha).2
  have c1 := fun u hu => of_any 0 z (some ⟨gb, off, none⟩) len cap (by omega) u hu
  rw [ce] at c1
  obtain ⟨i0, hi, hz0, hz1, hz2⟩ := info_whole
  clear hc ha g0 ce
  generalize mv z len = mm at *
  go_enter Try.func5, Try.ntmps5
  go_wp2_with fail
  refine (c1 _ (fun k hk => ⟨gb, off, rfl, Nat.zero_le _, HC.out k hk⟩)).mono ?_
  rintro e y0 ⟨rfl, E⟩
  replace c0 := cell_keep E c0
  clear c1
  go_wp2
  go_quiet (fail)
  replace E := b_drewN (n := nq) E
  replace c0 := cell_keep (b_drewN (n := nq) (Below.refl _ _)) c0
  generalize y0.drewN nq = y1 at *
  have HE1 := Lib.hid E
  have HC0 := Lib.hid c0
  clear E
  go_wp2
  go_loopw [7, 8, 9, 46] (fun sv gv xv iv wr => ∃ (k : Nat), k ≤ len ∧ iv = .int .i64 k ∧ sv = .int .i64 (lt z k) ∧ gv = .int .i64 (gt z k) ∧ wr.ownsRow w.heap.size 2 1 xv k (ints (fun k => z k + 1) k) ∧ Below w.heap.size w wr) (fun _ _ _ iv _ => len - (intOf iv).toNat)
  case atStart => exact ⟨0, Nat.zero_le _, rfl, rfl, rfl, World.ownsRow_nil _ _ _ _, HE1.out⟩
  case round =>
    clear HE1 HC0 c0
    obtain ⟨k, hk, rfl, rfl, rfl, ho, E⟩ := hrel
    by_cases hlt : k < len
    · have ck := cell_keep E (HC.out k hlt)
      have gr := gd_range (ag_at HA.out hlt)
      have hlk : (k : Int) < len := by omega
      have hk0 : (0 : Int) ≤ k := by omega
      have ws : IntKind.i64.wrap ((k : Int) + 1) = (k : Int) + 1 := by rw [IntKind.wrap_i64]; omega
      have s1 : Hid (lt z (k + 1) = if z k < lt z k then z k else lt z k) := Lib.hid rfl
      have s2 : Hid (gt z (k + 1) = if gt z k < z k then z k else gt z k) := Lib.hid rfl
      have HO := Lib.hid ho
      have HE := Lib.hid E
      have HI : Hid (ints (fun k => z k + 1) (k + 1) = ints (fun k => z k + 1) k ++ [.int .i64 (z k + 1)]) := Lib.hid (ints_snoc _ _)
      clear ho E
      have hs := HE.out.size
      generalize lt z k = l at *
      generalize gt z k = g at *
      generalize ints (fun k => z k + 1) k = ls at *
      generalize z k = v at *
      have wv : IntKind.i64.wrap (v + 1) = v + 1 := by rw [IntKind.wrap_i64]; omega
      obtain ⟨lo, hlo⟩ : ∃ lo, (if v < l then v else l) = lo := ⟨_, rfl⟩
      obtain ⟨hh, hhi⟩ : ∃ hh, (if g < v then v else g) = hh := ⟨_, rfl⟩
      have S1 : Hid (lt z (k + 1) = lo) := Lib.hid (by rw [s1.out, hlo])
      have S2 : Hid (gt z (k + 1) = hh) := Lib.hid (by rw [s2.out, hhi])
      clear s1 s2
      go_wp2_with (at_builtin; refine wpList_append_own _ rfl (.tmp 56) (.tmp 59) 22 rfl w.heap.size 2 i0 (.int .i64 0) 1 8 Try.underlying22 hi hz0 hz1 hz2 rfl (by decide) _ _ _ rfl (HO.out.alloc _) ⟨wr.heap.size, 0, none⟩ 1 1 [.int .i64 (v + 1)] rfl rfl (cell_one_new _ _ _) (fun x hx => by simp at hx; subst hx; rfl) (by unfold maxLen; omega) (by omega) (by simp; omega) ?_; intro v2 w2 ho hg hnil2)
      have HB2 := Lib.hid (below_grown (b_alloc HE.out) hg (oi_part HO.out))
      have HO2 := Lib.hid ho
      clear ho hg hnil2
      go_wp2
      refine ⟨⟨k + 1, by omega, rfl, by rw [S1.out], by rw [S2.out], by rw [HI.out]; exact HO2.out, HB2.out⟩, ?_⟩
      simp only [intOf]
      omega
    · have hlk : ¬ (k : Int) < len := by omega
      have e : k = len := by omega
      subst e
      obtain ⟨sx, capx, rfl, hx⟩ := is_own ho
      have HX := Lib.hid hx
      have HE := Lib.hid E
      clear hlt hk ho hx E
      generalize lt z k = lo at *
      generalize gt z k = hh at *
      generalize wr = wa at *
      go_wp2
      clear hlk
      go_loopw [10, 66] (fun xv iv w5 => ∃ (j : Nat), j ≤ 1 + m ∧ iv = .int .i64 j ∧ w5.ownsRow wa.heap.size 2 1 xv j (ints (fun _ => z 0) j) ∧ Below wa.heap.size wa w5) (fun _ iv _ => 1 + m - (intOf iv).toNat)
      case atStart => exact ⟨0, Nat.zero_le _, rfl, World.ownsRow_nil _ _ _ _, Below.refl _ _⟩
      case round =>
        obtain ⟨j, hj, rfl, ho, E5⟩ := hrel
        have HE5 := Lib.hid E5
        have c0 := cell_keep (b_trans HE.out E5) (show w.cell? ⟨gb, off, none⟩ = some (.int .i64 (z 0)) from HC.out 0 l0)
        clear E5
        by_cases hlt : j < 1 + m
        · have hlj : (j : Int) < 1 + (m : Int) := by omega
          have hj0 : (0 : Int) ≤ j := by omega
          have ws : IntKind.i64.wrap ((j : Int) + 1) = (j : Int) + 1 := by rw [IntKind.wrap_i64]; omega
          have HO := Lib.hid ho
          have HI : Hid (ints (fun _ => z 0) (j + 1) = ints (fun _ => z 0) j ++ [.int .i64 (z 0)]) := Lib.hid (ints_snoc _ _)
          have hs := HE5.out.size
          clear ho
          generalize ints (fun _ => z 0) j = ls at *
          go_wp2_with (at_builtin; refine wpList_append_own _ rfl (.tmp 68) (.tmp 72) 22 rfl wa.heap.size 2 i0 (.int .i64 0) 1 8 Try.underlying22 hi hz0 hz1 hz2 rfl (by decide) _ _ _ rfl (HO.out.alloc _) ⟨wr.heap.size, 0, none⟩ 1 1 [.int .i64 (z 0)] rfl rfl (cell_one_new _ _ _) (fun x hx => by simp at hx; subst hx; rfl) (by unfold maxLen; omega) (by omega) (by simp; omega) ?_; intro v2 w2 ho hg hnil2)
          have HB2 := Lib.hid (below_grown (b_alloc HE5.out) hg (oi_part HO.out))
          have HO2 := Lib.hid ho
          clear ho hg hnil2
          go_wp2
          refine ⟨⟨j + 1, by omega, rfl, by rw [HI.out]; exact HO2.out, HB2.out⟩, ?_⟩
          simp only [intOf]
          omega
        · have hlj : ¬ (j : Int) < 1 + (m : Int) := by omega
          have e : j = 1 + m := by omega
          subst e
          obtain ⟨sy, capy, rfl, hy⟩ := is_own ho
          have HY := Lib.hid hy
          have HX2 := Lib.hid (is_keep HE5.out HX.out)
          have HE2 := Lib.hid (b_trans HE.out HE5.out)
          clear hlt hj ho hy HE5 HX HE
          have c1 := fun u hu => of_any w.heap.size (fun k => z k + 1) sx k capx (by omega) u hu
          have c2 := fun u hu => of_any wa.heap.size (fun _ => z 0) sy (1 + m) capy (by omega) u hu
          rw [HS.out.1, HS.out.2] at c2
          have cg := good_any mm
          have hg := gd_in (p := mm) (by have := HLO.out; have := HLG.out; omega) (by have := HHI.out; have := HGG.out; omega)
          rw [hg] at cg
          clear hg
          generalize me (fun k => z k + 1) k = ea at *
          generalize mv (fun k => z k + 1) k = aa at *
          generalize z 0 = zz at *
          go_wp2_with fail
          refine (c1 _ HX2.out).mono ?_
          rintro e y6 ⟨rfl, hb⟩
          replace HE2 := Lib.hid (b_trans HE2.out hb)
          replace HY := Lib.hid (is_keep hb HY.out)
          replace c0 := cell_keep hb c0
          clear hb c1 HX2
          go_wp2_with fail
          refine (c2 _ HY.out).mono ?_
          rintro e y7 ⟨rfl, hb⟩
          replace HE2 := Lib.hid (b_trans HE2.out hb)
          replace c0 := cell_keep hb c0
          clear hb c2 HY
          have f1 : lo ≤ mm := HLO.out
          have f2 : mm ≤ hh := HHI.out
          go_wp2_with fail
          refine (fixed_mea _).mono ?_
          rintro e y8 ⟨rfl, hb⟩
          replace HE2 := Lib.hid (b_trans HE2.out hb)
          replace c0 := cell_keep hb c0
          clear hb
          go_wp2_with fail
          refine (cg _).mono ?_
          rintro e y9 ⟨rfl, hb⟩
          replace HE2 := Lib.hid (b_trans HE2.out hb)
          replace c0 := cell_keep hb c0
          clear hb cg
          have wq : IntKind.i64.wrap (mm + 1) = mm + 1 := by have := HHI.out; have := HGG.out; have := HLO.out; have := HLG.out; rw [IntKind.wrap_i64]; omega
          rcases HN.out with ⟨rfl, rfl⟩ | ⟨rfl, rfl⟩
          · go_wp2
            go_ret
            exact ⟨rfl, HE2.out⟩
          · go_wp2
            go_ret
            exact ⟨rfl, HE2.out⟩

set_option maxHeartbeats 4000000 in
set_option maxRecDepth 10000 in
/-- A mean is from the least count to the greatest one, and good; of counts that are alike it is that count; with all counts one greater it is one greater, if these are good. -/
theorem meanBetween_any (z : Nat → Int) (sa : Option Addr) (len cap : Nat) (n : Int) (n0 : 0 ≤ n) (n1 : n ≤ 255) (w : World) (hc : IS w 0 sa len z) : Calls Try.prog 5 #[.slice sa len cap, .int .u8 n] w (RetV (.bool true) w) := by
  by_cases hl : len ≤ 200
  · have h2 : ¬ (200 : Int) < (len : Int) := by omega
    rcases Nat.eq_zero_or_pos len with rfl | hn
    · clear hc
      go_enter Try.func5, Try.ntmps5
      go_wp2_with fail
      refine (fixed_mea _).mono ?_
      rintro e y0 ⟨rfl, E⟩
      go_wp2
      go_ret
      exact ⟨rfl, E⟩
    · cases ha : ag z len
      · have h3 : ((len : Int) == 0) = false := by rw [beq_eq_false_iff_ne]; omega
        have c1 := of_any 0 z sa len cap (by omega) w hc
        rw [(m_bad ha).1, (m_bad ha).2] at c1
        clear hc ha
        go_enter Try.func5, Try.ntmps5
        go_wp2_with fail
        refine c1.mono ?_
        rintro e y0 ⟨rfl, E⟩
        clear c1
        go_wp2_with fail
        refine (fixed_mea _).mono ?_
        rintro e y1 ⟨rfl, hb⟩
        replace E := b_trans E hb
        go_wp2
        go_ret
        exact ⟨rfl, E⟩
      · obtain ⟨gb, off, rfl, -, -⟩ := hc 0 hn
        have tm : n.tmod 40 = n % 40 := Int.tmod_eq_emod_of_nonneg n0
        refine meanBetween_in z gb off len cap n (n % 40).toNat n0 n1 (Lib.hid (by rw [tm]; omega)) (by omega) hn hl ha w (fun k hk => ?_)
        obtain ⟨g2, o2, e, _, c⟩ := hc k hk
        injection e with e
        injection e with e1 e2
        subst e1
        subst e2
        exact c
  · have h2 : (200 : Int) < (len : Int) := by omega
    clear hc
    go_enter Try.func5, Try.ntmps5
    go_wp2_with fail
    refine (fixed_mea _).mono ?_
    rintro e y0 ⟨rfl, E⟩
    go_wp2
    go_ret
    exact ⟨rfl, E⟩
end Go.Proofs.Ytfipfhghbihebaa
