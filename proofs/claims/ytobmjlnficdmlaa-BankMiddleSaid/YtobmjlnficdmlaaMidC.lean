/- Layer 22: the document's Middle. -/
import Derived.Test.YtobmjlnficdmlaaTapQ
import Derived.Test.YtobmjlnficdmlaaMidA
import Derived.BigQuiet
namespace Go.Proofs.Ytobmjlnficdmlaa
open Go.RowKit Go.Shelf Go.Joins

theorem mid_num {n : Nat} (h : n ≤ 1000) : IntKind.i64.wrap ((n : Int) - 1) = (n : Int) - 1 ∧ ∃ q : Nat, ((n : Int) - 1).tdiv 2 = (q : Int) ∧ q = (n - 1) / 2 := by
  refine ⟨by rw [IntKind.wrap_i64]; omega, (n - 1) / 2, ?_, rfl⟩
  rcases Nat.eq_zero_or_pos n with rfl | h0
  · rfl
  · rw [Int.tdiv_eq_ediv_of_nonneg (by omega)]
    omega

theorem bm_drewN {a w : World} {n : Nat} (h : Below a.heap.size a w) : Below a.heap.size a (w.drewN n) := ⟨h.os, h.tape, h.output, h.size, h.block⟩

set_option maxHeartbeats 8000000 in
set_option maxRecDepth 10000 in
theorem rmiddle_any (l : List Td) (hl : l.length ≤ 1000) (n : Nat) (hn : l.length = n) (sa : Option Addr) (cap : Nat) (w : World) (hc : DS w sa l) :
    Calls Try.prog 6 #[.slice sa n cap] w fun e w' => e = .returned (.tuple #[.int .i64 (mdl (alts l)), .bool (decide (0 < (alts l).length))]) ∧ Below w.heap.size w w' := by
  go_enter Try.func6, Try.ntmps6
  go_wp2
  go_loopw [4, 5] (fun nv iv wr => ∃ k : Nat, k ≤ n ∧ iv = .int .i64 k ∧ nv = .int .i64 ((alts (l.take k)).length : Nat) ∧ Below w.heap.size w wr) (fun _ iv _ => n - (intOf iv).toNat)
  case atStart => exact ⟨0, Nat.zero_le _, rfl, rfl, Below.refl _ _⟩
  case round =>
    obtain ⟨k, hk, rfl, rfl, E⟩ := hrel
    by_cases hlt : k < n
    · obtain ⟨t, ht⟩ : ∃ t, l[k]? = some t := ⟨l[k]'(by omega), List.getElem?_eq_getElem _⟩
      obtain ⟨gb, off, rfl, tw⟩ := hc k t ht
      replace tw := tdw_keep E tw
      have hlk : (k : Int) < n := by omega
      have hk0 : (0 : Int) ≤ k := by omega
      have ws : IntKind.i64.wrap ((k : Int) + 1) = (k : Int) + 1 := by rw [IntKind.wrap_i64]; omega
      have ey := Lib.hid (alts_yes (l := l) ht)
      have en := Lib.hid (alts_no (l := l) ht)
      have pl := alts_len (l.take k)
      rw [List.length_take] at pl
      have HE := Lib.hid E
      clear hc ht E
      generalize alts (l.take k) = ys at *
      have wm : IntKind.i64.wrap ((ys.length : Int) + 1) = (ys.length : Int) + 1 := by rw [IntKind.wrap_i64]; omega
      obtain ⟨tm, tv, tc, tr, td, tg, ta, tsp, tb⟩ := t
      simp only at tw ey en
      obtain ⟨t0, t1, t2, t3, t4, t5, t6, t7, t8⟩ := tw
      clear t0 t2 t3 t4 t5 t6 t7 t8
      cases tv
      · have e := en.out rfl
        clear ey en wm
        obtain ⟨m, hm⟩ : ∃ m, ys.length = m := ⟨_, rfl⟩
        rw [hm]
        go_wp2
        refine ⟨⟨k + 1, by omega, rfl, by rw [e, hm], HE.out⟩, ?_⟩
        simp only [intOf]
        omega
      · have e := Lib.hid (ey.out rfl)
        clear ey en
        obtain ⟨m, hm⟩ : ∃ m, ys.length = m := ⟨_, rfl⟩
        rw [hm] at wm ⊢
        go_wp2
        refine ⟨⟨k + 1, by omega, rfl, by rw [e.out, List.length_append, hm]; rfl, HE.out⟩, ?_⟩
        simp only [intOf]
        omega
    · have hlk : ¬ (k : Int) < n := by omega
      have e : k = n := by omega
      subst e
      rw [List.take_of_length_le (by omega)]
      have al := alts_len l
      have HE := Lib.hid E
      obtain ⟨m, hm⟩ : ∃ m, (alts l).length = m := ⟨_, rfl⟩
      rw [hm] at al ⊢
      obtain ⟨wq, q, eq1, eq2⟩ := mid_num (n := m) (by omega)
      have hq : mat (alts l) = q := by unfold mat; omega
      clear hlt hk E
      go_wp2
      go_loopw [6] (fun iv wr => ∃ i : Nat, i ≤ k ∧ iv = .int .i64 i ∧ (∀ j t, j < i → l[j]? = some t → t.v = true → t.al ≠ mdl (alts l)) ∧ Below w.heap.size w wr) (fun iv _ => k - (intOf iv).toNat)
      case atStart => exact ⟨0, Nat.zero_le _, rfl, fun j t h => absurd h (Nat.not_lt_zero _), HE.out⟩
      case round =>
        clear HE
        obtain ⟨i, hi, rfl, hno, E⟩ := hrel
        by_cases hlt : i < k
        · obtain ⟨t, ht⟩ : ∃ t, l[i]? = some t := ⟨l[i]'(by omega), List.getElem?_eq_getElem _⟩
          obtain ⟨gb, off, rfl, tw0⟩ := hc i t ht
          have hlk : (i : Int) < k := by omega
          have hk0 : (0 : Int) ≤ i := by omega
          have ws : IntKind.i64.wrap ((i : Int) + 1) = (i : Int) + 1 := by rw [IntKind.wrap_i64]; omega
          have HT := Lib.hid tw0
          have HN := Lib.hid hno
          have HI := Lib.hid ht
          obtain ⟨tm, tv, tc, tr, td, tg, ta, tsp, tb⟩ := t
          clear hno ht tw0
          go_wp2
          go_loopw [7, 8, 9] (fun bv sv kv wr => ∃ j : Nat, j ≤ k ∧ kv = .int .i64 j ∧ bv = .int .i64 (blw (l.take j) ta : Nat) ∧ sv = .int .i64 (sme (l.take j) ta : Nat) ∧ Below w.heap.size w wr) (fun _ _ kv _ => k - (intOf kv).toNat)
          case atStart => exact ⟨0, Nat.zero_le _, rfl, rfl, rfl, E⟩
          case round =>
            clear E
            obtain ⟨j, hj, rfl, rfl, rfl, E⟩ := hrel
            by_cases hlt2 : j < k
            · obtain ⟨s, hs⟩ : ∃ s, l[j]? = some s := ⟨l[j]'(by omega), List.getElem?_eq_getElem _⟩
              obtain ⟨gb2, off2, e2, sw⟩ := hc j s hs
              simp only [Option.some.injEq, Addr.mk.injEq] at e2
              obtain ⟨rfl, rfl, -⟩ := e2
              replace sw := tdw_keep E sw
              have tw := tdw_keep E HT.out
              have c6 := tw.c6
              have hjk : (j : Int) < k := by omega
              have hj0 : (0 : Int) ≤ j := by omega
              have wj : IntKind.i64.wrap ((j : Int) + 1) = (j : Int) + 1 := by rw [IntKind.wrap_i64]; omega
              have bs := Lib.hid (blw_step hs ta)
              have ss := Lib.hid (sme_step hs ta)
              have bl := blw_le (l.take j) ta
              have sl := sme_le (l.take j) ta
              rw [List.length_take] at bl sl
              have HE := Lib.hid E
              obtain ⟨sm, sv, sc, sr, sd, sg, sa', ssp, sb⟩ := s
              simp only at sw bs ss
              simp only at c6
              have d1 := sw.c1
              have d6 := sw.c6
              simp only at d1 d6
              clear tw sw hs E
              generalize blw (l.take j) ta = B at *
              generalize sme (l.take j) ta = S at *
              have wB : IntKind.i64.wrap ((B : Int) + 1) = (B : Int) + 1 := by rw [IntKind.wrap_i64]; omega
              have wS : IntKind.i64.wrap ((S : Int) + 1) = (S : Int) + 1 := by rw [IntKind.wrap_i64]; omega
              obtain ⟨x6, hx6⟩ : ∃ x, Hid (x = sa') := ⟨_, Lib.hid rfl⟩
              have ways : (sv = false) ∨ (sv = true ∧ sa' < ta ∧ (sa' == ta) = false) ∨ (sv = true ∧ sa' = ta) ∨ (sv = true ∧ ¬ sa' < ta ∧ (sa' == ta) = false) := by
                cases sv
                · exact Or.inl rfl
                · rcases Int.lt_trichotomy sa' ta with h | h | h
                  · exact Or.inr (Or.inl ⟨rfl, h, beq_eq_false_iff_ne.2 (by omega)⟩)
                  · exact Or.inr (Or.inr (Or.inl ⟨rfl, h⟩))
                  · exact Or.inr (Or.inr (Or.inr ⟨rfl, by omega, beq_eq_false_iff_ne.2 (by omega)⟩))
              clear hx6 x6
              rcases ways with rfl | ⟨rfl, q1, q2⟩ | ⟨rfl, rfl⟩ | ⟨rfl, q1, q2⟩
              · have b1 := Lib.hid (show blw (l.take (j + 1)) ta = B by rw [bs.out]; simp)
                have s1 := Lib.hid (show sme (l.take (j + 1)) ta = S by rw [ss.out]; simp)
                clear bs ss wB wS
                go_wp2
                go_quiet (fail)
                replace HE := Lib.hid (bm_drewN (n := nq) HE.out)
                replace c6 := cell_keep (below_draws _ wr nq) c6
                replace d1 := cell_keep (below_draws _ wr nq) d1
                replace d6 := cell_keep (below_draws _ wr nq) d6
                generalize wr.drewN nq = y0 at *
                go_wp2
                go_quiet (fail)
                replace HE := Lib.hid (bm_drewN (n := nq) HE.out)
                clear c6 d1 d6
                generalize y0.drewN nq = y1 at *
                go_wp2
                refine ⟨⟨j + 1, by omega, rfl, by rw [b1.out], by rw [s1.out], HE.out⟩, ?_⟩
                simp only [intOf]
                omega
              · have b1 := Lib.hid (show blw (l.take (j + 1)) ta = B + 1 by rw [bs.out, if_pos ⟨rfl, q1⟩])
                have s1 := Lib.hid (show sme (l.take (j + 1)) ta = S by rw [ss.out, if_neg (fun h => by have := h.2; omega), Nat.add_zero])
                clear bs ss wS
                go_wp2
                go_quiet (fail)
                replace HE := Lib.hid (bm_drewN (n := nq) HE.out)
                replace c6 := cell_keep (below_draws _ wr nq) c6
                replace d1 := cell_keep (below_draws _ wr nq) d1
                replace d6 := cell_keep (below_draws _ wr nq) d6
                generalize wr.drewN nq = y0 at *
                go_wp2
                go_quiet (fail)
                replace HE := Lib.hid (bm_drewN (n := nq) HE.out)
                clear c6 d1 d6
                generalize y0.drewN nq = y1 at *
                go_wp2
                refine ⟨⟨j + 1, by omega, rfl, by rw [b1.out]; rfl, by rw [s1.out], HE.out⟩, ?_⟩
                simp only [intOf]
                omega
              · have b1 := Lib.hid (show blw (l.take (j + 1)) sa' = B by rw [bs.out, if_neg (fun h => by have := h.2; omega), Nat.add_zero])
                have s1 := Lib.hid (show sme (l.take (j + 1)) sa' = S + 1 by rw [ss.out, if_pos ⟨rfl, rfl⟩])
                have q1 : ¬ sa' < sa' := by omega
                clear bs ss wB
                go_wp2
                go_quiet (fail)
                replace HE := Lib.hid (bm_drewN (n := nq) HE.out)
                replace c6 := cell_keep (below_draws _ wr nq) c6
                replace d1 := cell_keep (below_draws _ wr nq) d1
                replace d6 := cell_keep (below_draws _ wr nq) d6
                generalize wr.drewN nq = y0 at *
                go_wp2
                go_quiet (fail)
                replace HE := Lib.hid (bm_drewN (n := nq) HE.out)
                clear c6 d1 d6
                generalize y0.drewN nq = y1 at *
                go_wp2
                refine ⟨⟨j + 1, by omega, rfl, by rw [b1.out], by rw [s1.out]; rfl, HE.out⟩, ?_⟩
                simp only [intOf]
                omega
              · have b1 := Lib.hid (show blw (l.take (j + 1)) ta = B by rw [bs.out, if_neg (fun h => q1 h.2), Nat.add_zero])
                have s1 := Lib.hid (show sme (l.take (j + 1)) ta = S by rw [ss.out, if_neg (fun h => by have := beq_eq_false_iff_ne.1 q2; exact this h.2), Nat.add_zero])
                clear bs ss wB wS
                go_wp2
                go_quiet (fail)
                replace HE := Lib.hid (bm_drewN (n := nq) HE.out)
                replace c6 := cell_keep (below_draws _ wr nq) c6
                replace d1 := cell_keep (below_draws _ wr nq) d1
                replace d6 := cell_keep (below_draws _ wr nq) d6
                generalize wr.drewN nq = y0 at *
                go_wp2
                go_quiet (fail)
                replace HE := Lib.hid (bm_drewN (n := nq) HE.out)
                clear c6 d1 d6
                generalize y0.drewN nq = y1 at *
                go_wp2
                refine ⟨⟨j + 1, by omega, rfl, by rw [b1.out], by rw [s1.out], HE.out⟩, ?_⟩
                simp only [intOf]
                omega
            · have hjk : ¬ (j : Int) < k := by omega
              have e : j = k := by omega
              subst e
              rw [List.take_of_length_le (by omega)]
              have tw := tdw_keep E HT.out
              have c1 := tw.c1
              have c6 := tw.c6
              simp only at c1 c6
              have bl := blw_le l ta
              have sl := sme_le l ta
              have met := Lib.hid (fun h => mid_met (l := l) (x := ta) h)
              rw [hq] at met
              have HE := Lib.hid E
              clear tw E hlt2 hj
              have ge := Lib.hid (fun h => alts_mem (t := ⟨tm, tv, tc, tr, td, tg, ta, tsp, tb⟩) HI.out h)
              generalize blw l ta = B at *
              generalize sme l ta = S at *
              have wBS : IntKind.i64.wrap ((B : Int) + (S : Int)) = (B : Int) + (S : Int) := by rw [IntKind.wrap_i64]; omega
              have ways : tv = false ∨ (tv = true ∧ ¬ (B : Int) ≤ q) ∨ (tv = true ∧ (B : Int) ≤ q ∧ ¬ (q : Int) < B + S) ∨ (tv = true ∧ (B : Int) ≤ q ∧ (q : Int) < B + S) := by
                cases tv
                · exact Or.inl rfl
                · by_cases h1 : (B : Int) ≤ q
                  · by_cases h2 : (q : Int) < B + S
                    · exact Or.inr (Or.inr (Or.inr ⟨rfl, h1, h2⟩))
                    · exact Or.inr (Or.inr (Or.inl ⟨rfl, h1, h2⟩))
                  · exact Or.inr (Or.inl ⟨rfl, h1⟩)
              have NEXT : Hid ((tv = true → ta ≠ mdl (alts l)) → ∀ j' t, j' < i + 1 → l[j']? = some t → t.v = true → t.al ≠ mdl (alts l)) := Lib.hid (fun h j' t hj' ht hv => by
                by_cases e : j' < i
                · exact HN.out j' t e ht hv
                · have : j' = i := by omega
                  subst this
                  have := HI.out.symm.trans ht
                  injection this with this
                  subst this
                  exact h hv)
              rcases ways with rfl | ⟨rfl, q1⟩ | ⟨rfl, q1, q2⟩ | ⟨rfl, q1, q2⟩
              · have N := Lib.hid (NEXT.out (fun h => by cases h))
                clear met ge NEXT HN wBS
                go_wp2
                refine ⟨⟨i + 1, by omega, rfl, N.out, HE.out⟩, ?_⟩
                simp only [intOf]
                omega
              · have N := Lib.hid (NEXT.out (fun _ e => by have l0 : 0 < (alts l).length := List.length_pos_of_mem (ge.out rfl); have := (met.out l0).2 e.symm; omega))
                clear met ge NEXT HN wBS
                go_wp2
                refine ⟨⟨i + 1, by omega, rfl, N.out, HE.out⟩, ?_⟩
                simp only [intOf]
                omega
              · have N := Lib.hid (NEXT.out (fun _ e => by have l0 : 0 < (alts l).length := List.length_pos_of_mem (ge.out rfl); have := (met.out l0).2 e.symm; omega))
                clear met ge NEXT HN
                go_wp2
                refine ⟨⟨i + 1, by omega, rfl, N.out, HE.out⟩, ?_⟩
                simp only [intOf]
                omega
              · have l0 : 0 < (alts l).length := List.length_pos_of_mem (ge.out rfl)
                have M := Lib.hid ((met.out l0).1 ⟨by omega, by omega⟩)
                have hb := Lib.hid (decide_eq_true (hm ▸ l0 : 0 < m))
                clear met ge NEXT HN l0
                go_wp2
                exact bodyPost_ret (v := .tuple #[.int .i64 ta, .bool true]) (by simp [results, Try.results6, go_sem]) rfl ⟨by rw [M.out, hb.out], HE.out⟩
        · have hlk : ¬ (i : Int) < k := by omega
          have e : i = k := by omega
          subst e
          have no : ¬ 0 < (alts l).length := fun h => by
            obtain ⟨j, t, ht, hv, ha⟩ := mid_there h
            exact hno j t (by have := (List.getElem?_eq_some_iff.1 ht).1; omega) ht hv ha
          have hM := Lib.hid (mdl_nil (l := alts l) (by omega))
          have hb := Lib.hid (decide_eq_false (hm ▸ no : ¬ 0 < m))
          clear hno no
          go_wp2
          exact bodyPost_ret (v := .tuple #[.int .i64 0, .bool false]) (by simp [results, Try.results6, go_sem]) rfl ⟨by rw [hM.out, hb.out], E⟩
end Go.Proofs.Ytobmjlnficdmlaa
