/- The sum of what is put to an entry, over the function that is ranged over. -/
import Derived.Test.YtlpmmnfijfljoaaDoorSprB
import Derived.Test.YtlpmmnfijfljoaaDoorWideB
import Derived.Test.YtlpmmnfijfljoaaDoorFixed
namespace Go.Proofs.YtlpmmnfijfljoaaDoor
open Go.RowKit Go.Shelf

attribute [local go_sem] Oper.semAt_some

theorem iter_stops (n : Nat) (hn : 1 ≤ n) (n₀ P I J : Nat) (m : Nat → Int) (i j : Nat) (hm : F6 m) (hi : i < 3) (hj : j < 3) (w : World) (hn₀ : n₀ ≤ w.heap.size) (hT : TI n₀ w P I J m i j) :
    SeqStopsK Fence.wide n Tryd.prog 48 #[.pointer (some ⟨I, 0, none⟩), .pointer (some ⟨J, 0, none⟩), .pointer (some ⟨P, 0, none⟩)] (fun x : Nat => #[wof (tmn m i j x)]) (Below n₀) (fun ys => ys = List.range 9) (fun pre => ∃ k, k ≤ 9 ∧ pre = List.range k) 9 w := fun l J1 Jx W hW hA _ hY h0 =>
  iter_in n hn l n₀ P I J m i j hm hi hj J1 Jx W hA (Nat.le_trans hn₀ hW.size) hY (ti_below hT (hW.mono hn₀)) h0

theorem terms_any (m : Nat → Int) (i j : Int) (w : World) :
    Calls Tryd.prog 26 #[sv m, .int .i64 i, .int .i64 j] w fun e w' => e = .returned (.func (.func 48) #[] #[.pointer (some ⟨w.heap.size + 1, 0, none⟩), .pointer (some ⟨w.heap.size + 1 + 1, 0, none⟩), .pointer (some ⟨w.heap.size, 0, none⟩)]) ∧
      w' = ((w.alloc (Obj.cells #[.int .i64 (m 0), .int .i64 (m 1), .int .i64 (m 2), .int .i64 (m 3), .int .i64 (m 4), .int .i64 (m 5)] 23)).alloc (Obj.cells #[.int .i64 i] 3)).alloc (Obj.cells #[.int .i64 j] 3) := by
  go_enter Tryd.func26, Tryd.ntmps26
  go_wp2
  go_ret
  exact ⟨rfl, rfl⟩

/-- What the loop keeps: the sum so far, the answer's variable. -/
abbrev SK (W : World) (R Q : Nat) (z : Int) : Prop := (WC W Q (z / 18446744073709551616) (z % 18446744073709551616) ∧ WF W Q) ∧ (WC W R 0 0 ∧ WF W R)
theorem sk_own (R Q : Nat) (f : List Nat → Int) : Own (fun (pre : List Nat) W => SK W R Q (f pre)) := by
  rintro s A B row ⟨⟨⟨q0, q1⟩, g0, g1⟩, ⟨r0, r1⟩, f0, f1⟩ hg hr
  exact ⟨⟨⟨cell_kept q0 hg hr, cell_kept q1 hg hr⟩, (frozen_kept q0 hg hr).trans g0, (frozen_kept q1 hg hr).trans g1⟩, ⟨cell_kept r0 hg hr, cell_kept r1 hg hr⟩, (frozen_kept r0 hg hr).trans f0, (frozen_kept r1 hg hr).trans f1⟩
theorem sk_keep {W W' : World} {R Q : Nat} {z : Int} (hb : Below W.heap.size W W') (h : SK W R Q z) : SK W' R Q z :=
  ⟨⟨wc_keep hb h.1.1, wf_keep hb h.1.1 h.1.2⟩, wc_keep hb h.2.1, wf_keep hb h.2.1 h.2.2⟩
theorem wc_own (B : Nat) (h l : Int) : Own (fun (_ : Unit) W => WC W B h l) := by
  rintro s A C row ⟨q0, q1⟩ hg hr
  exact ⟨cell_kept q0 hg hr, cell_kept q1 hg hr⟩

set_option maxRecDepth 100000 in
set_option maxHeartbeats 4000000 in
theorem sum_spr (m : Nat → Int) (i j : Nat) (hm : F6 m) (hi : i < 3) (hj : j < 3) (P I J : Nat) (w : World) (hT : TI w.heap.size w P I J m i j) :
    Calls Tryd.prog 25 #[.func (.func 48) #[] #[.pointer (some ⟨I, 0, none⟩), .pointer (some ⟨J, 0, none⟩), .pointer (some ⟨P, 0, none⟩)]] w (RetV (wof (rwn m i j)) w) := by
  refine (callsIn_wide (n := 5)).1 ?_
  refine callsIn_of_wp_marks Tryd.func25 rfl trivial ?_ rfl
  simp only [Tryd.ntmps25, List.size_toArray, List.length_cons, List.length_nil, Nat.reduceAdd, Nat.reduceSub, Array.replicate_succ, Array.replicate_zero, List.push_toArray, List.append_toArray, List.nil_append, List.cons_append]
  gi_wp2_with fail
  refine ⟨trivial, (callsIn_wide.2 ((of_any 0 (by decide) (by decide) _).mono fun _ _ => retW_det isW_zero)).mono ?_⟩
  rintro e w1 ⟨rfl, hb9⟩
  have kR : WC (w.alloc (Obj.cells #[.int .i64 0, .int .u64 0] 33)) w.heap.size 0 0 := by simp [WC, go_sem]
  have fR : WF (w.alloc (Obj.cells #[.int .i64 0, .int .u64 0] 33)) w.heap.size := by simp [WF, go_sem]
  have B0 : Below w.heap.size w (w.alloc (Obj.cells #[.int .i64 0, .int .u64 0] 33)) := b_alloc (Below.refl _ _)
  replace fR := wf_keep hb9 kR fR
  replace kR := wc_keep hb9 kR
  replace B0 := b_trans B0 hb9
  have zR := wc_lt kR
  clear hb9
  have hb8 : Below w1.heap.size w1 (w1.alloc (Obj.cells #[.int .i64 0, .int .u64 0] 33)) := b_alloc (Below.refl _ _)
  have kQ : WC (w1.alloc (Obj.cells #[.int .i64 0, .int .u64 0] 33)) w1.heap.size 0 0 := by simp [WC, go_sem]
  have fQ : WF (w1.alloc (Obj.cells #[.int .i64 0, .int .u64 0] 33)) w1.heap.size := by simp [WF, go_sem]
  replace fR := wf_keep hb8 kR fR
  replace kR := wc_keep hb8 kR
  replace B0 := b_trans B0 hb8
  clear hb8
  gi_wp2
  obtain ⟨Q, hQ⟩ : ∃ Q, w1.heap.size = Q := ⟨_, rfl⟩
  have zW : (w1.alloc (Obj.cells #[.int .i64 0, .int .u64 0] 33)).heap.size = Q + 1 := by simp [hQ]
  rw [hQ] at kQ fQ zR ⊢
  clear hQ
  generalize w1.alloc (Obj.cells #[.int .i64 0, .int .u64 0] 33) = W0 at *
  have zB := B0.size
  have T0 := ti_below hT B0
  refine wpIn_rangeFunc_ownH (F := Fence.wide) rfl (by decide) (gf := 48) (lb := #[.pointer (some ⟨I, 0, none⟩), .pointer (some ⟨J, 0, none⟩), .pointer (some ⟨P, 0, none⟩)]) rfl trivial (enters_of Tryd.func48 (by kernel_rfl) rfl)
    (iter_stops 4 (by decide) w.heap.size P I J m i j hm hi hj W0 (by omega) T0) belowK_t (belowK_b (by omega)) (Below.refl _ _) (fun _ => rfl)
    (fun pre W => SK W w.heap.size Q (smT (tmn m i j) pre) ∧ Below w.heap.size w W)
    (fun _ _ _ => False)
    (OwnFrom.and (Own.from (sk_own _ _ _) _) (ownFrom_below (Nat.le_refl _) (by omega)))
    (fun _ _ _ _ _ hs _ _ => hs)
    ⟨⟨⟨kQ, fQ⟩, kR, fR⟩, B0⟩
    (fun x a' W => ∃ Bx, Q < Bx ∧ WC W Bx (tmn m i j x / 18446744073709551616) (tmn m i j x % 18446744073709551616) ∧ a' = { tmps := #[.func (.func 48) #[] #[.pointer (some ⟨I, 0, none⟩), .pointer (some ⟨J, 0, none⟩), .pointer (some ⟨P, 0, none⟩)], undef, .pointer (some ⟨w.heap.size, 0, none⟩), .pointer (some ⟨Q, 0, none⟩), .pointer (some ⟨Bx, 0, none⟩), wv 0 0, .func (.func 48) #[] #[.pointer (some ⟨I, 0, none⟩), .pointer (some ⟨J, 0, none⟩), .pointer (some ⟨P, 0, none⟩)], wof (tmn m i j x), undef, undef, undef, undef, undef, undef, undef], defers := [] })
    (fun x a' s X Y row hs hg hr => by obtain ⟨Bx, h1, h2, h3⟩ := hs; exact ⟨Bx, h1, wc_own Bx _ _ () X Y row h2 hg (fun r e => (hr r e).2), h3⟩)
    ?assign ?body ?done ?stop
  case assign =>
    rintro l pre x W K ⟨hS, hB⟩ hK
    have zQ := wc_lt hS.1.1
    gi_wp2
    exact hK _ _ ((KeepsOthers.alloc _ _).from _) ((Below.refl _ W).alloc hB.size _) ⟨sk_keep (b_alloc (Below.refl _ _)) hS, hB.alloc hB.size _⟩ ⟨W.heap.size, zQ, by simp [WC, go_sem], rfl⟩
  case body =>
    rintro l pre x a' W hl ⟨r, hr⟩ ⟨hS, hB⟩ ⟨Bx, hBx, kX, rfl⟩ hlt
    have f1 : Fits (smT (tmn m i j) pre) := smT_fits (tmn_bd hm i j) (by omega)
    have f2 := term_fits (tmn_bd hm i j) x
    have f3 : Fits (smT (tmn m i j) (pre ++ [x])) := smT_fits (tmn_bd hm i j) (by simp; omega)
    have cA : ∀ w, Calls Tryd.prog 47 #[wof (smT (tmn m i j) pre), wof (tmn m i j x)] w (RetV (.tuple #[wof (smT (tmn m i j) (pre ++ [x])), .int .i64 0]) w) := fun w => by
      have h := add_any _ _ _ _ _ _ (IsW.mk' f1) (IsW.mk' f2) w
      rw [← smT_snoc, fz_of f3, fe_of f3] at h
      exact h.mono fun _ _ => retWE_det (IsW.mk' f3)
    clear f1 f2 f3
    have kQ1 := hS.1.1
    gi_wp2_with fail
    refine ⟨trivial, (CallsIn.inRound l (callsIn_wide.2 (cA _))).mono ?_⟩
    rintro e w2 ⟨rfl, hb8⟩
    have hS2 := sk_keep hb8 hS
    have kQ2 := hS2.1.1
    have fQ2 := hS2.1.2
    have nQ : Q ≠ w.heap.size := by omega
    have lQ : w.heap.size ≤ Q := by omega
    have hSN := Lib.hid hS2
    clear kQ1 hS2 hS kX cA
    gi_wp2
    exact ⟨((KeepsOthers.of_grownBy (grown_of hb8) (fun j o e => by cases e)).trans ((KeepsOthers.setCell _ _ _).trans (KeepsOthers.setCell _ _ _))).from _,
      ((hb8.mono hB.size).setCell (p := ⟨Q, 0, none⟩) lQ _).setCell (p := ⟨Q, 1, none⟩) lQ _,
      ⟨⟨wc_mine hSN.out.1.1, wf_set (wf_set hSN.out.1.2)⟩, wc_set (wc_set hSN.out.2.1 nQ) nQ, wf_set (wf_set hSN.out.2.2)⟩, b_set (b_set (b_trans hB hb8) lQ) lQ⟩
  case done =>
    rintro D ys W hD rfl ⟨hS, hB⟩ hK
    have kQ1 := hS.1.1
    have kR1 := hS.2.1
    have fR1 := hS.2.2
    have hK' := ((KeepsOthers.setCell W ⟨w.heap.size, 0, none⟩ (.int .i64 (rwn m i j / 18446744073709551616))).trans (KeepsOthers.setCell _ ⟨w.heap.size, 1, none⟩ (.int .u64 (rwn m i j % 18446744073709551616)))).same D _ hK rfl
    have kE := Lib.hid (wc_mine (h' := rwn m i j / 18446744073709551616) (l' := rwn m i j % 18446744073709551616) kR1)
    have HH := Lib.hid hK'
    have hE : smT (tmn m i j) (List.range 9) = rwn m i j := rfl
    rw [hE] at kQ1
    clear hE hK' hS kR
    gi_wp2
    refine ⟨by simp, .inl ⟨_, _, rfl, run_takeDeferred HH.out, ?_⟩⟩
    have c0 := cell_kept kE.out.1 (grownBy_putObj' _ D (.deferred none)) (fun r e => by cases e; exact ⟨_, HH.out, rfl⟩)
    have c1 := cell_kept kE.out.2 (grownBy_putObj' _ D (.deferred none)) (fun r e => by cases e; exact ⟨_, HH.out, rfl⟩)
    refine ⟨wof (rwn m i j), ?_, rfl, (b_set (b_set hB (Nat.le_refl _)) (Nat.le_refl _)).trans (belowK_b (w := w) (Nat.le_refl _) _ D _ _ (by omega) HH.out rfl rfl)⟩
    simp [results, Tryd.results25, go_sem, c0, c1]
  case stop =>
    rintro D c pre W _ _ h _
    exact h.elim
end Go.Proofs.YtlpmmnfijfljoaaDoor
