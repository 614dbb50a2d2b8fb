/- What is put to an entry, term by term: the function that is ranged over. -/
import Derived.RangeFuncNested
import Derived.RangeFuncLeaves
import Derived.RangeFuncCalls
import Derived.Shelf.Abstract
import Derived.WalkKit
import Derived.OwnWalkIn
import Derived.TacticsInMore
import Derived.LoopNIn
import Derived.LoopIn
import Derived.Test.YtlpmmnfijfljoaaDoorSprA
namespace Go.Proofs.YtlpmmnfijfljoaaDoor
open Go.RowKit Go.Shelf

attribute [local go_sem] Oper.semAt_some

/-- What the function that is ranged over has at hand, in blocks below n: the doubt, the row, the column, the tables. -/
structure TI (n : Nat) (W : World) (P I J : Nat) (m : Nat → Int) (i j : Nat) : Prop where
  bP : P < n
  bI : I < n
  bJ : J < n
  b1 : 1 < n
  sc : SC W P m
  ci : W.cell? ⟨I, 0, none⟩ = some (.int .i64 i)
  cj : W.cell? ⟨J, 0, none⟩ = some (.int .i64 j)
  ml : ML W
  pl : PL W
theorem ti_below {n : Nat} {W W' : World} {P I J : Nat} {m : Nat → Int} {i j : Nat} (h : TI n W P I J m i j) (hb : Below n W W') : TI n W' P I J m i j := by
  obtain ⟨bP, bI, bJ, b1, sc, ci, cj, ml, p0, p1, p2, p3, p4, p5, p6, p7, p8⟩ := h
  have b0 : 0 < n := by omega
  exact ⟨bP, bI, bJ, b1, fun k hk => (hb.cell (p := ⟨P, k, none⟩) bP).trans (sc k hk), (hb.cell (p := ⟨I, 0, none⟩) bI).trans ci, (hb.cell (p := ⟨J, 0, none⟩) bJ).trans cj,
    fun a ha c hc => (hb.cell (p := ⟨1, a * 3 + c, none⟩) b1).trans (ml a ha c hc), (hb.cell (p := ⟨0, 0, none⟩) b0).trans p0, (hb.cell (p := ⟨0, 1, none⟩) b0).trans p1, (hb.cell (p := ⟨0, 2, none⟩) b0).trans p2, (hb.cell (p := ⟨0, 3, none⟩) b0).trans p3,
    (hb.cell (p := ⟨0, 4, none⟩) b0).trans p4, (hb.cell (p := ⟨0, 5, none⟩) b0).trans p5, (hb.cell (p := ⟨0, 6, none⟩) b0).trans p6, (hb.cell (p := ⟨0, 7, none⟩) b0).trans p7, (hb.cell (p := ⟨0, 8, none⟩) b0).trans p8⟩

set_option maxRecDepth 100000 in
set_option maxHeartbeats 4000000 in
theorem iter_in (n : Nat) (hn : 1 ≤ n) (l n₀ P I J : Nat) (m : Nat → Int) (i j : Nat) (hm : F6 m) (hi : i < 3) (hj : j < 3) (J1 Jx : List Nat → World → Prop) (W : World) (hA : AbidesFrom W.heap.size J1) (hn₀ : n₀ ≤ W.heap.size)
    (hY : ∀ pre x W, J1 pre W → pre.length < 9 → YieldAt Fence.wide (n - 1) Tryd.prog l #[wof (tmn m i j x)] W fun e W' =>
      (e = .returned (.bool true) ∧ J1 (pre ++ [x]) W' ∧ Below n₀ W W') ∨ (e = .returned (.bool false) ∧ Jx (pre ++ [x]) W'))
    (hT : TI n₀ W P I J m i j) (h0 : J1 [] W) :
    CallsIn Fence.wide n Tryd.prog 48 #[.func (.yield l) #[] #[], .pointer (some ⟨I, 0, none⟩), .pointer (some ⟨J, 0, none⟩), .pointer (some ⟨P, 0, none⟩)] W fun e W' => (∃ v, e = .returned v) ∧
      ((∃ ys, ys = List.range 9 ∧ J1 ys W') ∨ (∃ pre, (∃ k, k ≤ 9 ∧ pre = List.range k) ∧ Jx pre W')) := by
  refine callsIn_of_wp Tryd.func48 rfl trivial ?_ rfl
  simp only [Tryd.ntmps48, List.size_toArray, List.length_cons, List.length_nil, Nat.reduceAdd, Nat.reduceSub, Array.replicate_succ, Array.replicate_zero, List.push_toArray, List.append_toArray, List.nil_append, List.cons_append]
  have ci := hT.ci
  have r0 : W.cell? ⟨1, i * 3, none⟩ = some (.int .i64 (mvn i 0)) := hT.ml i hi 0 (by decide)
  have r1 := hT.ml i hi 1 (by decide)
  have r2 := hT.ml i hi 2 (by decide)
  have q0 : (0 : Int) ≤ (i : Int) := by omega
  have q3 : (i : Int) < 3 := by omega
  gi_wp2
  clear ci r0 r1 r2
  gi_loopw [14] (fun av wr => ∃ a : Nat, a ≤ 3 ∧ av = .int .i64 a ∧ J1 (List.range (3 * a)) wr ∧ Below n₀ W wr ∧ W.heap.size ≤ wr.heap.size) (fun av _ => 3 - (intOf av).toNat)
  case atStart => exact ⟨0, by decide, rfl, h0, Below.refl _ _, Nat.le_refl _⟩
  case round =>
    obtain ⟨a, ha, rfl, hJ, hb, hs⟩ := hrel
    by_cases c : a < 3
    · have x1 := ix_row (mvn i) c
      have c3 : (a : Int) < 3 := by omega
      have tU := ti_below hT hb
      have cj := tU.cj
      have r0 : wr.cell? ⟨1, j * 3, none⟩ = some (.int .i64 (mvn j 0)) := tU.ml j hj 0 (by decide)
      have r1 := tU.ml j hj 1 (by decide)
      have r2 := tU.ml j hj 2 (by decide)
      have p0 : (0 : Int) ≤ (j : Int) := by omega
      have p3 : (j : Int) < 3 := by omega
      gi_wp2
      clear cj r0 r1 r2 x1 tU
      gi_loopw [21] (fun bv wr' => ∃ b : Nat, b ≤ 3 ∧ bv = .int .i64 b ∧ J1 (List.range (3 * a + b)) wr' ∧ Below n₀ W wr' ∧ W.heap.size ≤ wr'.heap.size) (fun bv _ => 3 - (intOf bv).toNat)
      case atStart => exact ⟨0, by decide, rfl, hJ, hb, hs⟩
      case round =>
        obtain ⟨b, hb3, rfl, hJ2, hb2, hs2⟩ := hrel
        by_cases d : b < 3
        · have x2 := ix_row (mvn j) d
          have d3 : (b : Int) < 3 := by omega
          have tU := ti_below hT hb2
          have l6 := sc_six tU.sc
          have AT := Lib.hid (pln_at c d)
          have e2 := tmn_eq m i j a b d
          have k2 := tmn_bd hm i j (3 * a + b)
          have ml : I64 (m (pln a b)) := by have := hm _ (pln_lt a b); exact ⟨by omega, by omega⟩
          have lb : -1073741824 ≤ mvn i a * mvn j b ∧ mvn i a * mvn j b ≤ 1073741824 := by
            have h1 := mvn_bd i a
            have h2 := mvn_bd j b
            have := abs_mul (x := mvn i a) (y := mvn j b) (A := 32768) (B := 32768) (by omega) (by omega)
            exact ⟨by omega, by omega⟩
          obtain ⟨lr, hlr⟩ : ∃ lr, mvn i a * mvn j b = lr := ⟨_, rfl⟩
          rw [hlr] at e2 lb
          have wr1 : IntKind.i64.wrap lr = lr := by rw [IntKind.wrap_i64]; omega
          have cM : ∀ w, Calls Tryd.prog 50 #[.int .i64 lr, .int .i64 (m (pln a b))] w (RetV (wof (tmn m i j (3 * a + b))) w) := fun w => by
            have h := mul_any lr (m (pln a b)) (by omega) (by omega) ml.1 ml.2 w
            rw [← e2] at h
            exact h.mono fun _ _ => retW_det (IsW.mk' ⟨by omega, by omega⟩)
          replace e2 := Lib.hid e2
          clear k2 lb ml
          gi_wp2_with fail
          refine ⟨trivial, (callsIn_wide.2 (at_ok m a b (pln a b) AT.out _ tU.pl)).mono ?_⟩
          rintro e w1 ⟨rfl, hb9⟩
          have hJ3 := hA _ _ _ none hJ2 (grown_of hb9) (fun r e => by cases e)
          have hb3' := hb2.trans (hb9.mono (by omega : n₀ ≤ wr.heap.size))
          have hs3 := Nat.le_trans hs2 hb9.size
          clear hb9 x2 tU l6 AT
          gi_wp2_with fail
          refine ⟨trivial, (callsIn_wide.2 (cM _)).mono ?_⟩
          rintro e w2 ⟨rfl, hb9⟩
          have hJ4 := hA _ _ _ none hJ3 (grown_of hb9) (fun r e => by cases e)
          have hb4 := hb3'.trans (hb9.mono (by omega : n₀ ≤ w1.heap.size))
          have hs4 := Nat.le_trans hs3 hb9.size
          clear hb9 wr1 cM hJ2 hb2 hs2 hJ3 hb3' hs3
          obtain ⟨fn, tmps, assign, body, hy, hR⟩ := hY _ (3 * a + b) w2 hJ4 (by simp; omega)
          clear hJ4
          gi_wp2
          refine hR.mono ?_
          rintro e W3 (⟨rfl, hJ5, hk5⟩ | ⟨rfl, hJx5⟩)
          · gi_wp2
            go_roundw
            case rel => exact ⟨b + 1, by omega, by simp, by rw [show 3 * a + (b + 1) = 3 * a + b + 1 by omega, List.range_succ]; exact hJ5, hb4.trans hk5, Nat.le_trans hs4 (hk5.size)⟩
            case measure => simp [intOf]; omega
          · gi_wp2
            refine bodyPost_ret (results_none rfl _ _ _) rfl ?_
            exact ⟨⟨_, rfl⟩, .inr ⟨_, ⟨3 * a + b + 1, by omega, (List.range_succ).symm⟩, hJx5⟩⟩
        · obtain rfl : b = 3 := by omega
          gi_wp2
          go_roundw
          case rel => exact ⟨a + 1, by omega, by simp, by rw [show 3 * (a + 1) = 3 * a + 3 by omega]; exact hJ2, hb2, hs2⟩
          case measure => simp [intOf]; omega
    · obtain rfl : a = 3 := by omega
      gi_wp2
      go_end0
      exact ⟨⟨_, rfl⟩, .inl ⟨_, rfl, hJ⟩⟩
end Go.Proofs.YtlpmmnfijfljoaaDoor
