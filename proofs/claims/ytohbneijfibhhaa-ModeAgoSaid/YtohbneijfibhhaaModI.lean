/- Layer 19: ModeAgo. -/
import Derived.Test.YtohbneijfibhhaaModF
import Derived.Test.YtohbneijfibhhaaModH
namespace Go.Proofs.Ytohbneijfibhhaa
open Go.RowKit Go.Shelf Go.Joins

theorem info_int : ∃ i0, Try.prog.info? 3 = some i0 ∧ i0.zero = some (.int .i64 0) ∧ i0.size = 1 ∧ i0.bytes = 8 := by
  have h : (Try.prog.info? 3).map (fun i => (i.zero, i.size, i.bytes)) = some (some (.int .i64 0), 1, 8) := by kernel_rfl
  revert h
  cases Try.prog.info? 3 with
  | none => intro h; cases h
  | some i =>
    intro h
    simp at h
    exact ⟨i, rfl, h⟩
/-- The first k are events, the others as they were. -/
def mix (z : Nat → Int) (k : Nat) : Nat → Int := fun j => if j < k then evn4 (z j) else z j
theorem mix_none (z : Nat → Int) : mix z 0 = z := rfl
theorem ints_set {z : Nat → Int} {n k : Nat} (h : k < n) : (ints (mix z k) n).set k (.int .i64 (evn4 (z k))) = ints (mix z (k + 1)) n := by
  apply List.ext_getElem?
  intro j
  rw [List.getElem?_set]
  by_cases hj : j < n
  · rw [ints_get hj, ints_len]
    by_cases e : k = j
    · subst e
      rw [if_pos rfl, if_pos h, ints_get hj]
      unfold mix
      rw [if_pos (Nat.lt_succ_self _)]
    · rw [if_neg e, ints_get hj]
      unfold mix
      by_cases c : j < k
      · rw [if_pos c, if_pos (by omega)]
      · rw [if_neg c, if_neg (by omega)]
  · have l1 : (ints (mix z k) n)[j]? = none := List.getElem?_eq_none (by rw [ints_len]; omega)
    have l2 : (ints (mix z (k + 1)) n)[j]? = none := List.getElem?_eq_none (by rw [ints_len]; omega)
    rw [if_neg (by omega), l1, l2]

theorem evn4_wrap (x : Int) : (wrap64 (x.tmod 4 + 4)).tmod 4 = evn4 x := by
  have h1 : -4 < x.tmod 4 := by
    have := Int.lt_tmod_of_pos x (by decide : (0 : Int) < 4)
    omega
  have h2 := Int.tmod_lt_of_pos x (by decide : (0 : Int) < 4)
  unfold evn4
  rw [show wrap64 (x.tmod 4 + 4) = x.tmod 4 + 4 by unfold wrap64; omega]
set_option maxHeartbeats 4000000 in
set_option maxRecDepth 10000 in
theorem modeAgo_any (sa : Option Addr) (m c : Nat) (z : Nat → Int) (co ou : Int) (hc0 : 0 ≤ co) (hc1 : co ≤ 65535) (ho0 : 0 ≤ ou) (ho1 : ou ≤ 65535) (hz : ∀ k, -9223372036854775808 ≤ z k ∧ z k ≤ 9223372036854775807) (w : World) (hs : IS w 0 sa m z) :
    Calls Try.prog 5 #[.slice sa m c, .int .u16 co, .int .u16 ou] w (RetV (.bool true) w) := by
  by_cases hm : 300 < m
  · have hm' : (300 : Int) < (m : Int) := by omega
    clear hs
    go_enter Try.func5, Try.ntmps5
    go_wp2_with fail
    refine (fixed_mod _).mono ?_
    rintro e y0 ⟨rfl, hb⟩
    go_wp2
    go_ret
    exact ⟨rfl, hb⟩
  · have hm' : ¬ (300 : Int) < (m : Int) := by omega
    obtain ⟨i0, hi, hz0, hz1, hz2⟩ := info_int
    go_enter Try.func5, Try.ntmps5
    have hr := Lib.hid (is_keep (b_alloc (o := Obj.cells #[] 3) (Below.refl _ _)) hs)
    have HE := Lib.hid (b_alloc (o := Obj.cells #[] 3) (Below.refl w.heap.size w))
    clear hs
    go_wp2_with (with_reducible refine stop_at (some 19) rfl ?_)
    refine unstop ?_
    refine wpList_append_ints rfl (.tmp 17) (.tmp 18) 30 rfl w.heap.size 3 i0 (.int .i64 0) 8 Try.underlying30 hi hz0 hz1 hz2 rfl _ 0 [] rfl (oi_empty w _) 0 sa m c z rfl hr.out (by unfold maxLen; omega) (by omega) (by simp) ?_
    intro v1 w1 ho hg
    rw [List.nil_append, Nat.zero_add] at ho
    have HB := Lib.hid (below_grown HE.out hg (fun q hq => by have := oi_part (oi_empty w 3) q hq; omega))
    obtain ⟨sb, cap2, rfl⟩ := oi_form ho
    have HO := Lib.hid ho
    clear ho hg hr HE
    go_wp2
    go_loopw [22] (fun iv wr => ∃ k : Nat, k ≤ m ∧ iv = .int .i64 k ∧ wr.ownsRow w.heap.size 3 1 (.slice sb m cap2) m (ints (mix z k) m) ∧ Below w.heap.size w wr) (fun iv _ => m - (intOf iv).toNat)
    case atStart => exact ⟨0, Nat.zero_le _, rfl, HO.out, HB.out⟩
    case round =>
      clear HO HB
      obtain ⟨k, hk, rfl, hw, E⟩ := hrel
      by_cases d : k < m
      · obtain ⟨g, hg, rfl⟩ : ∃ g, w.heap.size ≤ g ∧ sb = some ⟨g, 0, none⟩ := by
          rcases hw.2 with ⟨h, h0⟩ | ⟨g, cp, cur, h, hB, -⟩
          · omega
          · injection h with h
            exact ⟨g, hB, h⟩
        have g0 : wr.cell? ⟨g, k, none⟩ = some (.int .i64 (z k)) := by
          rw [hw.cellAt k (by omega), ints_get d]
          unfold mix
          rw [if_neg (Nat.lt_irrefl _)]
        have f0 := hw.frozenAt k
        have zk := hz k
        have er := evn4_range (z k)
        have HW := Lib.hid (hw.stored k (.int .i64 (evn4 (z k)))).1
        rw [ints_set d] at HW
        have HE := Lib.hid (b_set (p := ⟨g, k, none⟩) (v := .int .i64 (evn4 (z k))) E hg)
        have q0 : (0 : Int) ≤ (k : Int) := by omega
        have q1 : (k : Int) < (m : Int) := by omega
        have ws : IntKind.i64.wrap ((k : Int) + 1) = (k : Int) + 1 := by rw [IntKind.wrap_i64]; omega
        have e4 : (wrap64 ((z k).tmod 4 + 4)).tmod 4 = evn4 (z k) := evn4_wrap _
        clear hw E hz
        go_wp2
        refine ⟨⟨k + 1, d, rfl, HW.out, HE.out⟩, ?_⟩
        simp only [intOf]
        omega
      · obtain rfl : k = m := by omega
        have hlk : ¬ (k : Int) < k := by omega
        obtain ⟨ev, hev⟩ : ∃ ev, ev = fun j => evn4 (z j) := ⟨_, rfl⟩
        have he : ∀ j, 0 ≤ ev j ∧ ev j ≤ 3 := fun j => by rw [hev]; exact evn4_range _
        rw [ints_same (z := ev) (fun j hj => by rw [hev]; unfold mix; rw [if_pos hj])] at hw
        obtain ⟨sb', cp', hv, hw'⟩ := is_own hw
        injection hv with q1 q2 q3
        subst q1
        have AG := Lib.hid (ago_all ev co ou he ho0)
        have HW := Lib.hid hw'
        have HB := Lib.hid E
        have wc : IntKind.i64.wrap co = co := by rw [IntKind.wrap_i64]; omega
        have wo : IntKind.i64.wrap ou = ou := by rw [IntKind.wrap_i64]; omega
        have cR := run_any sb k cap2 ev co ou (by omega) (by omega) wr (fun j hj => by
          obtain ⟨gb, off, e, -, g⟩ := hw' j hj
          exact ⟨gb, off, e, g⟩)
        clear hw hw' E hev he hz d q2 q3 hk hlk hm
        go_wp2_with fail
        refine cR.mono ?_
        rintro e y1 ⟨rfl, hc, hb⟩
        have hlb : w.heap.size ≤ wr.heap.size := HB.out.size
        obtain ⟨b, hbb⟩ : ∃ b, wr.heap.size = b := ⟨_, rfl⟩
        have HC := Lib.hid hc
        replace HW := Lib.hid (is_keep hb HW.out)
        replace HB := Lib.hid (b_trans HB.out hb)
        rw [hbb] at HC hlb
        simp only [hbb]
        clear hc hb hbb cR
        go_wp2
        go_loopw [49] (fun iv wr => ∃ i : Nat, i ≤ k ∧ iv = .int .i64 i ∧ IS wr w.heap.size sb k ev ∧ CW wr b k ev co ou ∧ Below w.heap.size w wr) (fun iv _ => k - (intOf iv).toNat)
        case atStart => exact ⟨0, Nat.zero_le _, rfl, HW.out, HC.out, HB.out⟩
        case round =>
          clear HW HC HB
          obtain ⟨i, hi, rfl, hw, hc, E⟩ := hrel
          by_cases d : i < k
          · obtain ⟨⟨m2, s2⟩, h2⟩ : ∃ q, clk ev co ou (i + 1) = q := ⟨_, rfl⟩
            obtain ⟨c0, c1⟩ := hc i d
            rw [h2] at c0 c1
            have i0 : (0 : Int) ≤ (i : Int) := by omega
            have i1 : (i : Int) < (k : Int) := by omega
            have ws : IntKind.i64.wrap ((i : Int) + 1) = (i : Int) + 1 := by rw [IntKind.wrap_i64]; omega
            have cV := valid_any m2 s2
            obtain ⟨-, -, hno, hyes⟩ := AG.out (i + 1)
            rw [h2] at hno hyes
            have b0 : (wr.alloc (Obj.cells #[.int .i64 m2, .int .i64 s2] 23)).cell? ⟨wr.heap.size, 0, none⟩ = some (.int .i64 m2) := by simp [go_sem]
            have HW := Lib.hid (is_keep (b_alloc (o := Obj.cells #[.int .i64 m2, .int .i64 s2] 23) (Below.refl _ _)) hw)
            have HC := Lib.hid (cw_keep (b_alloc (o := Obj.cells #[.int .i64 m2, .int .i64 s2] 23) (Below.refl _ _)) hc)
            have HB := Lib.hid (b_alloc (o := Obj.cells #[.int .i64 m2, .int .i64 s2] 23) E)
            have HR : Hid (KR (wr.alloc (Obj.cells #[.int .i64 m2, .int .i64 s2] 23)) wr.heap.size 23 m2 s2) := Lib.hid (heap_alloc_last _ _)
            cases hv : vld m2
            · have hno' : s2 = 0 := hno hv
              subst hno'
              rw [hv] at cV
              clear hw hc E h2 hno hyes hv b0
              go_wp2_with fail
              refine (cV _).mono ?_
              rintro e y2 ⟨rfl, hb⟩
              have R2 := row_keep hb HR.out
              have g1 : y2.cell? ⟨wr.heap.size, 1, none⟩ = some (.int .i64 0) := (cell_of_row _ _ 1 _ _ _ R2).trans rfl
              replace HW := Lib.hid (is_keep hb HW.out)
              replace HC := Lib.hid (cw_keep hb HC.out)
              replace HB := Lib.hid (b_trans HB.out hb)
              clear hb R2 HR cV
              go_wp2
              refine ⟨⟨i + 1, d, rfl, HW.out, HC.out, HB.out⟩, ?_⟩
              simp only [intOf]
              omega
            · obtain ⟨t, a, hs, ha, hle, h01, hiff, hpast⟩ := hyes hv
              have hs' : s2 = (t : Int) := hs
              subst hs'
              rw [hv] at cV
              have HP := Lib.hid hpast
              have hP : (m2 = 2 ∧ co ≤ (t : Int) ∧ (0 : Int) < (t : Int)) ∨ (m2 = 1 ∧ ¬ co ≤ (t : Int)) ∨ (m2 = 1 ∧ co ≤ (t : Int) ∧ (t : Int) = 0) := by
                have hiff' : m2 = 2 ↔ co ≤ (t : Int) ∧ 0 < t := hiff
                rcases vld_of hv with h | h
                · by_cases p : co ≤ (t : Int)
                  · exact Or.inr (Or.inr ⟨h, p, by
                      rcases Nat.eq_zero_or_pos t with q | q
                      · omega
                      · have := hiff'.2 ⟨p, q⟩
                        omega⟩)
                  · exact Or.inr (Or.inl ⟨h, p⟩)
                · have := hiff'.1 h
                  exact Or.inl ⟨h, this.1, by omega⟩
              have hat : a + t = i := by omega
              have wsub : IntKind.i64.wrap ((i : Int) - (t : Int)) = (a : Int) := by rw [IntKind.wrap_i64]; omega
              have t0 : (0 : Int) ≤ (t : Int) := by omega
              have a0 : (0 : Int) ≤ (a : Int) := by omega
              have a1 : (a : Int) < (k : Int) := by omega
              have wa : IntKind.i64.wrap ((a : Int) + 1) = (a : Int) + 1 := by rw [IntKind.wrap_i64]; omega
              clear hw hc E h2 hno hyes hv b0 hs ha hiff hpast
              go_wp2_with fail
              refine (cV _).mono ?_
              rintro e y2 ⟨rfl, hb⟩
              have R2 := row_keep hb HR.out
              have g0 : y2.cell? ⟨wr.heap.size, 0, none⟩ = some (.int .i64 m2) := (cell_of_row _ _ 0 _ _ _ R2).trans rfl
              have g1 : y2.cell? ⟨wr.heap.size, 1, none⟩ = some (.int .i64 t) := (cell_of_row _ _ 1 _ _ _ R2).trans rfl
              replace HW := Lib.hid (is_keep hb HW.out)
              replace HC := Lib.hid (cw_keep hb HC.out)
              replace HB := Lib.hid (b_trans HB.out hb)
              clear hb R2 HR cV
              obtain ⟨gb, off, rfl, -, ge⟩ := HW.out a (by omega)
              rcases h01 with h | h
              · rw [h] at ge
                clear h
                rcases hP with ⟨rfl, p1, p2⟩ | ⟨rfl, p1⟩ | ⟨rfl, p1, p2⟩
                · have p3 : 0 < t := by omega
                  go_wp2
                  go_loopw [12] (fun jv wr2 => ∃ j : Nat, a ≤ j ∧ j ≤ i ∧ jv = .int .i64 ((j : Int) + 1) ∧ IS wr2 w.heap.size (some ⟨gb, off, none⟩) k ev ∧ CW wr2 b k ev co ou ∧ Below w.heap.size w wr2) (fun jv _ => i + 1 - (intOf jv).toNat)
                  case atStart => exact ⟨a, Nat.le_refl _, by omega, rfl, HW.out, HC.out, HB.out⟩
                  case round =>
                    clear HW HC HB g0 g1 ge
                    obtain ⟨j, ja, ji, rfl, hw2, hc2, E2⟩ := hrel
                    by_cases q : j < i
                    · obtain ⟨ev2, vj⟩ := HP.out (j + 1) (by omega) (by omega)
                      obtain ⟨gb2, off2, e2, -, gj⟩ := hw2 (j + 1) (by omega)
                      injection e2 with e2
                      injection e2 with e3 e4
                      subst e3 e4
                      rw [ev2] at gj
                      obtain ⟨⟨m3, s3⟩, h3⟩ : ∃ q, clk ev co ou (j + 1) = q := ⟨_, rfl⟩
                      obtain ⟨d0, d1⟩ := hc2 j (by omega)
                      rw [h3] at d0 d1 vj
                      have cV3 := valid_any m3 s3
                      rw [show vld m3 = true from vj] at cV3
                      have j0 : (0 : Int) ≤ (j : Int) + 1 := by omega
                      have j1 : (j : Int) + 1 < (k : Int) := by omega
                      have j2 : (j : Int) + 1 ≤ (i : Int) := by omega
                      have j3 : ((j : Int) + 1).toNat = j + 1 := by omega
                      have j4 : (0 : Int) ≤ (j : Int) := by omega
                      have j5 : (j : Int) < (k : Int) := by omega
                      have wj : IntKind.i64.wrap ((j : Int) + 1 + 1) = (j : Int) + 1 + 1 := by rw [IntKind.wrap_i64]; omega
                      have HW2 := Lib.hid hw2
                      have HC2 := Lib.hid hc2
                      have HB2 := Lib.hid E2
                      clear hw2 hc2 E2 h3 vj ev2
                      go_wp2_with fail
                      refine (cV3 _).mono ?_
                      rintro e y3 ⟨rfl, hb⟩
                      replace HW2 := Lib.hid (is_keep hb HW2.out)
                      replace HC2 := Lib.hid (cw_keep hb HC2.out)
                      replace HB2 := Lib.hid (b_trans HB2.out hb)
                      clear hb cV3 gj d0 d1
                      go_wp2
                      have wv : Value.int IntKind.i64 ((j : Int) + 1 + 1) = Value.int IntKind.i64 (((j + 1 : Nat) : Int) + 1) := by rw [show ((j + 1 : Nat) : Int) = (j : Int) + 1 by omega]
                      first
                        | (refine ⟨⟨j + 1, by omega, by omega, wv, HW2.out, HC2.out, HB2.out⟩, ?_⟩; simp only [intOf]; omega)
                        | (go_roundw; case rel => exact ⟨j + 1, by omega, by omega, wv, HW2.out, HC2.out, HB2.out⟩; case measure => (simp only [intOf]; omega))
                    · obtain rfl : j = i := by omega
                      have j2 : ¬ (j : Int) + 1 ≤ (j : Int) := by omega
                      have HW2 := Lib.hid hw2
                      have HC2 := Lib.hid hc2
                      have HB2 := Lib.hid E2
                      clear hw2 hc2 E2 q
                      go_wp2
                      first
                        | (refine ⟨⟨j + 1, d, rfl, HW2.out, HC2.out, HB2.out⟩, ?_⟩; simp only [intOf]; omega)
                        | (go_roundw; case rel => exact ⟨j + 1, d, rfl, HW2.out, HC2.out, HB2.out⟩; case measure => (simp only [intOf]; omega))
                · go_wp2
                  go_loopw [12] (fun jv wr2 => ∃ j : Nat, a ≤ j ∧ j ≤ i ∧ jv = .int .i64 ((j : Int) + 1) ∧ IS wr2 w.heap.size (some ⟨gb, off, none⟩) k ev ∧ CW wr2 b k ev co ou ∧ Below w.heap.size w wr2) (fun jv _ => i + 1 - (intOf jv).toNat)
                  case atStart => exact ⟨a, Nat.le_refl _, by omega, rfl, HW.out, HC.out, HB.out⟩
                  case round =>
                    clear HW HC HB g0 g1 ge
                    obtain ⟨j, ja, ji, rfl, hw2, hc2, E2⟩ := hrel
                    by_cases q : j < i
                    · obtain ⟨ev2, vj⟩ := HP.out (j + 1) (by omega) (by omega)
                      obtain ⟨gb2, off2, e2, -, gj⟩ := hw2 (j + 1) (by omega)
                      injection e2 with e2
                      injection e2 with e3 e4
                      subst e3 e4
                      rw [ev2] at gj
                      obtain ⟨⟨m3, s3⟩, h3⟩ : ∃ q, clk ev co ou (j + 1) = q := ⟨_, rfl⟩
                      obtain ⟨d0, d1⟩ := hc2 j (by omega)
                      rw [h3] at d0 d1 vj
                      have cV3 := valid_any m3 s3
                      rw [show vld m3 = true from vj] at cV3
                      have j0 : (0 : Int) ≤ (j : Int) + 1 := by omega
                      have j1 : (j : Int) + 1 < (k : Int) := by omega
                      have j2 : (j : Int) + 1 ≤ (i : Int) := by omega
                      have j3 : ((j : Int) + 1).toNat = j + 1 := by omega
                      have j4 : (0 : Int) ≤ (j : Int) := by omega
                      have j5 : (j : Int) < (k : Int) := by omega
                      have wj : IntKind.i64.wrap ((j : Int) + 1 + 1) = (j : Int) + 1 + 1 := by rw [IntKind.wrap_i64]; omega
                      have HW2 := Lib.hid hw2
                      have HC2 := Lib.hid hc2
                      have HB2 := Lib.hid E2
                      clear hw2 hc2 E2 h3 vj ev2
                      go_wp2_with fail
                      refine (cV3 _).mono ?_
                      rintro e y3 ⟨rfl, hb⟩
                      replace HW2 := Lib.hid (is_keep hb HW2.out)
                      replace HC2 := Lib.hid (cw_keep hb HC2.out)
                      replace HB2 := Lib.hid (b_trans HB2.out hb)
                      clear hb cV3 gj d0 d1
                      go_wp2
                      have wv : Value.int IntKind.i64 ((j : Int) + 1 + 1) = Value.int IntKind.i64 (((j + 1 : Nat) : Int) + 1) := by rw [show ((j + 1 : Nat) : Int) = (j : Int) + 1 by omega]
                      first
                        | (refine ⟨⟨j + 1, by omega, by omega, wv, HW2.out, HC2.out, HB2.out⟩, ?_⟩; simp only [intOf]; omega)
                        | (go_roundw; case rel => exact ⟨j + 1, by omega, by omega, wv, HW2.out, HC2.out, HB2.out⟩; case measure => (simp only [intOf]; omega))
                    · obtain rfl : j = i := by omega
                      have j2 : ¬ (j : Int) + 1 ≤ (j : Int) := by omega
                      have HW2 := Lib.hid hw2
                      have HC2 := Lib.hid hc2
                      have HB2 := Lib.hid E2
                      clear hw2 hc2 E2 q
                      go_wp2
                      first
                        | (refine ⟨⟨j + 1, d, rfl, HW2.out, HC2.out, HB2.out⟩, ?_⟩; simp only [intOf]; omega)
                        | (go_roundw; case rel => exact ⟨j + 1, d, rfl, HW2.out, HC2.out, HB2.out⟩; case measure => (simp only [intOf]; omega))
                · rw [p2] at g1 p1
                  have ea : i = a := by omega
                  subst ea
                  have wi : IntKind.i64.wrap (i : Int) = (i : Int) := by rw [IntKind.wrap_i64]; omega
                  clear t0 wsub p2 hat
                  go_wp2
                  go_loopw [12] (fun jv wr2 => ∃ j : Nat, i ≤ j ∧ j ≤ i ∧ jv = .int .i64 ((j : Int) + 1) ∧ IS wr2 w.heap.size (some ⟨gb, off, none⟩) k ev ∧ CW wr2 b k ev co ou ∧ Below w.heap.size w wr2) (fun jv _ => i + 1 - (intOf jv).toNat)
                  case atStart => exact ⟨i, Nat.le_refl _, by omega, rfl, HW.out, HC.out, HB.out⟩
                  case round =>
                    clear HW HC HB g0 g1 ge
                    obtain ⟨j, ja, ji, rfl, hw2, hc2, E2⟩ := hrel
                    by_cases q : j < i
                    · obtain ⟨ev2, vj⟩ := HP.out (j + 1) (by omega) (by omega)
                      obtain ⟨gb2, off2, e2, -, gj⟩ := hw2 (j + 1) (by omega)
                      injection e2 with e2
                      injection e2 with e3 e4
                      subst e3 e4
                      rw [ev2] at gj
                      obtain ⟨⟨m3, s3⟩, h3⟩ : ∃ q, clk ev co ou (j + 1) = q := ⟨_, rfl⟩
                      obtain ⟨d0, d1⟩ := hc2 j (by omega)
                      rw [h3] at d0 d1 vj
                      have cV3 := valid_any m3 s3
                      rw [show vld m3 = true from vj] at cV3
                      have j0 : (0 : Int) ≤ (j : Int) + 1 := by omega
                      have j1 : (j : Int) + 1 < (k : Int) := by omega
                      have j2 : (j : Int) + 1 ≤ (i : Int) := by omega
                      have j3 : ((j : Int) + 1).toNat = j + 1 := by omega
                      have j4 : (0 : Int) ≤ (j : Int) := by omega
                      have j5 : (j : Int) < (k : Int) := by omega
                      have wj : IntKind.i64.wrap ((j : Int) + 1 + 1) = (j : Int) + 1 + 1 := by rw [IntKind.wrap_i64]; omega
                      have HW2 := Lib.hid hw2
                      have HC2 := Lib.hid hc2
                      have HB2 := Lib.hid E2
                      clear hw2 hc2 E2 h3 vj ev2
                      go_wp2_with fail
                      refine (cV3 _).mono ?_
                      rintro e y3 ⟨rfl, hb⟩
                      replace HW2 := Lib.hid (is_keep hb HW2.out)
                      replace HC2 := Lib.hid (cw_keep hb HC2.out)
                      replace HB2 := Lib.hid (b_trans HB2.out hb)
                      clear hb cV3 gj d0 d1
                      go_wp2
                      have wv : Value.int IntKind.i64 ((j : Int) + 1 + 1) = Value.int IntKind.i64 (((j + 1 : Nat) : Int) + 1) := by rw [show ((j + 1 : Nat) : Int) = (j : Int) + 1 by omega]
                      first
                        | (refine ⟨⟨j + 1, by omega, by omega, wv, HW2.out, HC2.out, HB2.out⟩, ?_⟩; simp only [intOf]; omega)
                        | (go_roundw; case rel => exact ⟨j + 1, by omega, by omega, wv, HW2.out, HC2.out, HB2.out⟩; case measure => (simp only [intOf]; omega))
                    · obtain rfl : j = i := by omega
                      have j2 : ¬ (j : Int) + 1 ≤ (j : Int) := by omega
                      have HW2 := Lib.hid hw2
                      have HC2 := Lib.hid hc2
                      have HB2 := Lib.hid E2
                      clear hw2 hc2 E2 q
                      go_wp2
                      first
                        | (refine ⟨⟨j + 1, d, rfl, HW2.out, HC2.out, HB2.out⟩, ?_⟩; simp only [intOf]; omega)
                        | (go_roundw; case rel => exact ⟨j + 1, d, rfl, HW2.out, HC2.out, HB2.out⟩; case measure => (simp only [intOf]; omega))
              · rw [h] at ge
                clear h
                rcases hP with ⟨rfl, p1, p2⟩ | ⟨rfl, p1⟩ | ⟨rfl, p1, p2⟩
                · have p3 : 0 < t := by omega
                  go_wp2
                  go_loopw [12] (fun jv wr2 => ∃ j : Nat, a ≤ j ∧ j ≤ i ∧ jv = .int .i64 ((j : Int) + 1) ∧ IS wr2 w.heap.size (some ⟨gb, off, none⟩) k ev ∧ CW wr2 b k ev co ou ∧ Below w.heap.size w wr2) (fun jv _ => i + 1 - (intOf jv).toNat)
                  case atStart => exact ⟨a, Nat.le_refl _, by omega, rfl, HW.out, HC.out, HB.out⟩
                  case round =>
                    clear HW HC HB g0 g1 ge
                    obtain ⟨j, ja, ji, rfl, hw2, hc2, E2⟩ := hrel
                    by_cases q : j < i
                    · obtain ⟨ev2, vj⟩ := HP.out (j + 1) (by omega) (by omega)
                      obtain ⟨gb2, off2, e2, -, gj⟩ := hw2 (j + 1) (by omega)
                      injection e2 with e2
                      injection e2 with e3 e4
                      subst e3 e4
                      rw [ev2] at gj
                      obtain ⟨⟨m3, s3⟩, h3⟩ : ∃ q, clk ev co ou (j + 1) = q := ⟨_, rfl⟩
                      obtain ⟨d0, d1⟩ := hc2 j (by omega)
                      rw [h3] at d0 d1 vj
                      have cV3 := valid_any m3 s3
                      rw [show vld m3 = true from vj] at cV3
                      have j0 : (0 : Int) ≤ (j : Int) + 1 := by omega
                      have j1 : (j : Int) + 1 < (k : Int) := by omega
                      have j2 : (j : Int) + 1 ≤ (i : Int) := by omega
                      have j3 : ((j : Int) + 1).toNat = j + 1 := by omega
                      have j4 : (0 : Int) ≤ (j : Int) := by omega
                      have j5 : (j : Int) < (k : Int) := by omega
                      have wj : IntKind.i64.wrap ((j : Int) + 1 + 1) = (j : Int) + 1 + 1 := by rw [IntKind.wrap_i64]; omega
                      have HW2 := Lib.hid hw2
                      have HC2 := Lib.hid hc2
                      have HB2 := Lib.hid E2
                      clear hw2 hc2 E2 h3 vj ev2
                      go_wp2_with fail
                      refine (cV3 _).mono ?_
                      rintro e y3 ⟨rfl, hb⟩
                      replace HW2 := Lib.hid (is_keep hb HW2.out)
                      replace HC2 := Lib.hid (cw_keep hb HC2.out)
                      replace HB2 := Lib.hid (b_trans HB2.out hb)
                      clear hb cV3 gj d0 d1
                      go_wp2
                      have wv : Value.int IntKind.i64 ((j : Int) + 1 + 1) = Value.int IntKind.i64 (((j + 1 : Nat) : Int) + 1) := by rw [show ((j + 1 : Nat) : Int) = (j : Int) + 1 by omega]
                      first
                        | (refine ⟨⟨j + 1, by omega, by omega, wv, HW2.out, HC2.out, HB2.out⟩, ?_⟩; simp only [intOf]; omega)
                        | (go_roundw; case rel => exact ⟨j + 1, by omega, by omega, wv, HW2.out, HC2.out, HB2.out⟩; case measure => (simp only [intOf]; omega))
                    · obtain rfl : j = i := by omega
                      have j2 : ¬ (j : Int) + 1 ≤ (j : Int) := by omega
                      have HW2 := Lib.hid hw2
                      have HC2 := Lib.hid hc2
                      have HB2 := Lib.hid E2
                      clear hw2 hc2 E2 q
                      go_wp2
                      first
                        | (refine ⟨⟨j + 1, d, rfl, HW2.out, HC2.out, HB2.out⟩, ?_⟩; simp only [intOf]; omega)
                        | (go_roundw; case rel => exact ⟨j + 1, d, rfl, HW2.out, HC2.out, HB2.out⟩; case measure => (simp only [intOf]; omega))
                · go_wp2
                  go_loopw [12] (fun jv wr2 => ∃ j : Nat, a ≤ j ∧ j ≤ i ∧ jv = .int .i64 ((j : Int) + 1) ∧ IS wr2 w.heap.size (some ⟨gb, off, none⟩) k ev ∧ CW wr2 b k ev co ou ∧ Below w.heap.size w wr2) (fun jv _ => i + 1 - (intOf jv).toNat)
                  case atStart => exact ⟨a, Nat.le_refl _, by omega, rfl, HW.out, HC.out, HB.out⟩
                  case round =>
                    clear HW HC HB g0 g1 ge
                    obtain ⟨j, ja, ji, rfl, hw2, hc2, E2⟩ := hrel
                    by_cases q : j < i
                    · obtain ⟨ev2, vj⟩ := HP.out (j + 1) (by omega) (by omega)
                      obtain ⟨gb2, off2, e2, -, gj⟩ := hw2 (j + 1) (by omega)
                      injection e2 with e2
                      injection e2 with e3 e4
                      subst e3 e4
                      rw [ev2] at gj
                      obtain ⟨⟨m3, s3⟩, h3⟩ : ∃ q, clk ev co ou (j + 1) = q := ⟨_, rfl⟩
                      obtain ⟨d0, d1⟩ := hc2 j (by omega)
                      rw [h3] at d0 d1 vj
                      have cV3 := valid_any m3 s3
                      rw [show vld m3 = true from vj] at cV3
                      have j0 : (0 : Int) ≤ (j : Int) + 1 := by omega
                      have j1 : (j : Int) + 1 < (k : Int) := by omega
                      have j2 : (j : Int) + 1 ≤ (i : Int) := by omega
                      have j3 : ((j : Int) + 1).toNat = j + 1 := by omega
                      have j4 : (0 : Int) ≤ (j : Int) := by omega
                      have j5 : (j : Int) < (k : Int) := by omega
                      have wj : IntKind.i64.wrap ((j : Int) + 1 + 1) = (j : Int) + 1 + 1 := by rw [IntKind.wrap_i64]; omega
                      have HW2 := Lib.hid hw2
                      have HC2 := Lib.hid hc2
                      have HB2 := Lib.hid E2
                      clear hw2 hc2 E2 h3 vj ev2
                      go_wp2_with fail
                      refine (cV3 _).mono ?_
                      rintro e y3 ⟨rfl, hb⟩
                      replace HW2 := Lib.hid (is_keep hb HW2.out)
                      replace HC2 := Lib.hid (cw_keep hb HC2.out)
                      replace HB2 := Lib.hid (b_trans HB2.out hb)
                      clear hb cV3 gj d0 d1
                      go_wp2
                      have wv : Value.int IntKind.i64 ((j : Int) + 1 + 1) = Value.int IntKind.i64 (((j + 1 : Nat) : Int) + 1) := by rw [show ((j + 1 : Nat) : Int) = (j : Int) + 1 by omega]
                      first
                        | (refine ⟨⟨j + 1, by omega, by omega, wv, HW2.out, HC2.out, HB2.out⟩, ?_⟩; simp only [intOf]; omega)
                        | (go_roundw; case rel => exact ⟨j + 1, by omega, by omega, wv, HW2.out, HC2.out, HB2.out⟩; case measure => (simp only [intOf]; omega))
                    · obtain rfl : j = i := by omega
                      have j2 : ¬ (j : Int) + 1 ≤ (j : Int) := by omega
                      have HW2 := Lib.hid hw2
                      have HC2 := Lib.hid hc2
                      have HB2 := Lib.hid E2
                      clear hw2 hc2 E2 q
                      go_wp2
                      first
                        | (refine ⟨⟨j + 1, d, rfl, HW2.out, HC2.out, HB2.out⟩, ?_⟩; simp only [intOf]; omega)
                        | (go_roundw; case rel => exact ⟨j + 1, d, rfl, HW2.out, HC2.out, HB2.out⟩; case measure => (simp only [intOf]; omega))
                · rw [p2] at g1 p1
                  have ea : i = a := by omega
                  subst ea
                  have wi : IntKind.i64.wrap (i : Int) = (i : Int) := by rw [IntKind.wrap_i64]; omega
                  clear t0 wsub p2 hat
                  go_wp2
                  go_loopw [12] (fun jv wr2 => ∃ j : Nat, i ≤ j ∧ j ≤ i ∧ jv = .int .i64 ((j : Int) + 1) ∧ IS wr2 w.heap.size (some ⟨gb, off, none⟩) k ev ∧ CW wr2 b k ev co ou ∧ Below w.heap.size w wr2) (fun jv _ => i + 1 - (intOf jv).toNat)
                  case atStart => exact ⟨i, Nat.le_refl _, by omega, rfl, HW.out, HC.out, HB.out⟩
                  case round =>
                    clear HW HC HB g0 g1 ge
                    obtain ⟨j, ja, ji, rfl, hw2, hc2, E2⟩ := hrel
                    by_cases q : j < i
                    · obtain ⟨ev2, vj⟩ := HP.out (j + 1) (by omega) (by omega)
                      obtain ⟨gb2, off2, e2, -, gj⟩ := hw2 (j + 1) (by omega)
                      injection e2 with e2
                      injection e2 with e3 e4
                      subst e3 e4
                      rw [ev2] at gj
                      obtain ⟨⟨m3, s3⟩, h3⟩ : ∃ q, clk ev co ou (j + 1) = q := ⟨_, rfl⟩
                      obtain ⟨d0, d1⟩ := hc2 j (by omega)
                      rw [h3] at d0 d1 vj
                      have cV3 := valid_any m3 s3
                      rw [show vld m3 = true from vj] at cV3
                      have j0 : (0 : Int) ≤ (j : Int) + 1 := by omega
                      have j1 : (j : Int) + 1 < (k : Int) := by omega
                      have j2 : (j : Int) + 1 ≤ (i : Int) := by omega
                      have j3 : ((j : Int) + 1).toNat = j + 1 := by omega
                      have j4 : (0 : Int) ≤ (j : Int) := by omega
                      have j5 : (j : Int) < (k : Int) := by omega
                      have wj : IntKind.i64.wrap ((j : Int) + 1 + 1) = (j : Int) + 1 + 1 := by rw [IntKind.wrap_i64]; omega
                      have HW2 := Lib.hid hw2
                      have HC2 := Lib.hid hc2
                      have HB2 := Lib.hid E2
                      clear hw2 hc2 E2 h3 vj ev2
                      go_wp2_with fail
                      refine (cV3 _).mono ?_
                      rintro e y3 ⟨rfl, hb⟩
                      replace HW2 := Lib.hid (is_keep hb HW2.out)
                      replace HC2 := Lib.hid (cw_keep hb HC2.out)
                      replace HB2 := Lib.hid (b_trans HB2.out hb)
                      clear hb cV3 gj d0 d1
                      go_wp2
                      have wv : Value.int IntKind.i64 ((j : Int) + 1 + 1) = Value.int IntKind.i64 (((j + 1 : Nat) : Int) + 1) := by rw [show ((j + 1 : Nat) : Int) = (j : Int) + 1 by omega]
                      first
                        | (refine ⟨⟨j + 1, by omega, by omega, wv, HW2.out, HC2.out, HB2.out⟩, ?_⟩; simp only [intOf]; omega)
                        | (go_roundw; case rel => exact ⟨j + 1, by omega, by omega, wv, HW2.out, HC2.out, HB2.out⟩; case measure => (simp only [intOf]; omega))
                    · obtain rfl : j = i := by omega
                      have j2 : ¬ (j : Int) + 1 ≤ (j : Int) := by omega
                      have HW2 := Lib.hid hw2
                      have HC2 := Lib.hid hc2
                      have HB2 := Lib.hid E2
                      clear hw2 hc2 E2 q
                      go_wp2
                      first
                        | (refine ⟨⟨j + 1, d, rfl, HW2.out, HC2.out, HB2.out⟩, ?_⟩; simp only [intOf]; omega)
                        | (go_roundw; case rel => exact ⟨j + 1, d, rfl, HW2.out, HC2.out, HB2.out⟩; case measure => (simp only [intOf]; omega))
          · obtain rfl : i = k := by omega
            have i1 : ¬ (i : Int) < (i : Int) := by omega
            have HB := Lib.hid E
            clear hw hc E d hi AG
            go_wp2_with fail
            refine (fixed_mod _).mono ?_
            rintro e y3 ⟨rfl, hb⟩
            replace HB := Lib.hid (b_trans HB.out hb)
            clear hb
            go_wp2
            go_ret
            exact ⟨rfl, HB.out⟩
end Go.Proofs.Ytohbneijfibhhaa
