import Derived.Test.YtplhienacfiiaaaDoorJosP
import Derived.Test.YtplhienacfiiaaaDoorVecF
import Derived.Test.YtplhienacfiiaaaDoorFixE
/- The document's entry and State of layer 12: each call's answer. -/
namespace Go.Proofs.YtplhienacfiiaaaDoor
open Go.RowKit Go.Shelf

set_option maxHeartbeats 8000000 in
set_option maxRecDepth 10000 in
theorem rentry_go (m k : Nat → Int) (s : Int) (i j g : Nat) (hi : i < 3) (hj : j < 3) (hg : g < 6) (T t l q u x e0 e1 e2 e3 e4 y f : Int)
    (oi : ∀ w, Calls Tryd.prog 47 #[.int .i64 (k i)] w (RetB (k i) w))
    (oj : ∀ w, Calls Tryd.prog 47 #[.int .i64 (k j)] w (RetB (k j) w))
    (om : ∀ w, Calls Tryd.prog 47 #[.int .i64 (m j)] w (RetB (m j) w))
    (on : ∀ w, Calls Tryd.prog 47 #[.int .i64 (m i)] w (RetB (m i) w))
    (p1 : ∀ w, Calls Tryd.prog 28 #[.int .i64 0, .int .i64 ((j : Nat) : Int)] w (RetV (.int .i64 ((j : Nat) : Int)) w))
    (p2 : ∀ w, Calls Tryd.prog 28 #[.int .i64 0, .int .i64 ((i : Nat) : Int)] w (RetV (.int .i64 ((i : Nat) : Int)) w))
    (p3 : ∀ w, Calls Tryd.prog 28 #[.int .i64 ((i : Nat) : Int), .int .i64 ((j : Nat) : Int)] w (RetV (.int .i64 ((g : Nat) : Int)) w))
    (hs : Hid (Small (k i) ∧ Small (k j) ∧ Small (m j) ∧ Small (m i) ∧ Small (k i * m j) ∧ Small (k j * m i) ∧ Tiny (k i * m j + k j * m i)))
    (EF : Hid (ef (k i * m j + k j * m i) 1099511627776 = T))
    (cT : ∀ v w, BG w v T → Calls Tryd.prog 48 #[v] w (RetV (.tuple #[.int .i64 t, .int .i64 e0]) w))
    (cS : ∀ w, Calls Tryd.prog 52 #[.int .i64 (m g), .int .i64 t] w (RetV (.tuple #[.int .i64 l, .int .i64 e1]) w))
    (cM : ∀ w, Calls Tryd.prog 35 #[.int .i64 (k i), .int .i64 (k j)] w (RetV (.tuple #[.int .i64 q, .int .i64 e2]) w))
    (cN : ∀ w, Calls Tryd.prog 35 #[.int .i64 q, .int .i64 s] w (RetV (.tuple #[.int .i64 u, .int .i64 e3]) w))
    (cD : ∀ w, Calls Tryd.prog 36 #[.int .i64 l, .int .i64 u] w (RetV (.tuple #[.int .i64 x, .int .i64 e4]) w))
    (q0 : e0 = 0 ∨ e0 = 3) (q1 : e1 = 0 ∨ e1 = 3) (q2 : e2 = 0 ∨ e2 = 3) (q3 : e3 = 0 ∨ e3 = 3) (q4 : e4 = 0 ∨ e4 = 3) (xz : ¬ e4 = 0 → x = 0)
    (hy : Hid ((e0 = 0 ∧ e1 = 0 ∧ e2 = 0 ∧ e3 = 0 ∧ e4 = 0 → y = x ∧ f = 0) ∧ (¬ (e0 = 0 ∧ e1 = 0 ∧ e2 = 0 ∧ e3 = 0 ∧ e4 = 0) → y = 0 ∧ f = 3))) (w : World) :
    Calls Tryd.prog 27 #[sv m, tv (k 0) (k 1) (k 2), .int .i64 s, .int .i64 ((i : Nat) : Int), .int .i64 ((j : Nat) : Int)] w (RetV (.tuple #[.int .i64 y, .int .i64 f]) w) := by
  have B : Below w.heap.size w ((w.alloc (Obj.cells #[.int .i64 (m 0), .int .i64 (m 1), .int .i64 (m 2), .int .i64 (m 3), .int .i64 (m 4), .int .i64 (m 5)] 32)).alloc (Obj.cells #[.int .i64 (k 0), .int .i64 (k 1), .int .i64 (k 2)] 23)) := b_alloc (b_alloc (Below.refl _ _))
  have S : SC6 ((w.alloc (Obj.cells #[.int .i64 (m 0), .int .i64 (m 1), .int .i64 (m 2), .int .i64 (m 3), .int .i64 (m 4), .int .i64 (m 5)] 32)).alloc (Obj.cells #[.int .i64 (k 0), .int .i64 (k 1), .int .i64 (k 2)] 23)) w.heap.size m := sc_six (sc_alloc (sc_new rfl))
  have K : TC ((w.alloc (Obj.cells #[.int .i64 (m 0), .int .i64 (m 1), .int .i64 (m 2), .int .i64 (m 3), .int .i64 (m 4), .int .i64 (m 5)] 32)).alloc (Obj.cells #[.int .i64 (k 0), .int .i64 (k 1), .int .i64 (k 2)] 23)) (w.heap.size + 1) (k 0) (k 1) (k 2) := tc_new (by simp)
  have hi0 : (0 : Int) ≤ (i : Int) := by omega
  have hi3 : (i : Int) < 3 := by omega
  have hi6 : (i : Int) < 6 := by omega
  have hj0 : (0 : Int) ≤ (j : Int) := by omega
  have hj3 : (j : Int) < 3 := by omega
  have hj6 : (j : Int) < 6 := by omega
  have hg0 : (0 : Int) ≤ (g : Int) := by omega
  have hg6 : (g : Int) < 6 := by omega
  go_enter Tryd.func27, Tryd.ntmps27
  have ki := tc_at K hi
  go_wp2_with fail
  refine (oi _).mono ?_
  rintro e w1 ⟨v1, rfl, g1, hb⟩
  clear ki
  obtain ⟨n1, a1, k1, c1, rfl⟩ := bg_form g1
  replace S := sc_six (sc_keep hb (six_sc S))
  replace K := tc_keep hb K
  replace B := b_trans B hb
  clear hb
  go_wp2_with fail
  refine (p1 _).mono ?_
  rintro e w2 ⟨rfl, hb⟩
  replace S := sc_six (sc_keep hb (six_sc S))
  replace K := tc_keep hb K
  replace B := b_trans B hb
  replace g1 := bg_keep g1 hb
  clear hb
  have pj := six_sc S j (by omega)
  go_wp2_with fail
  refine (om _).mono ?_
  rintro e w3 ⟨v3, rfl, g3, hb⟩
  clear pj
  obtain ⟨n3, a3, k3, c3, rfl⟩ := bg_form g3
  replace S := sc_six (sc_keep hb (six_sc S))
  replace K := tc_keep hb K
  replace B := b_trans B hb
  replace g1 := bg_keep g1 hb
  clear hb
  go_wp2_with fail
  refine (mul_big _ _ (k i) (m j) _ g1 g3 (hs.out.1) (hs.out.2.2.1)).mono ?_
  rintro e w4 ⟨v4, rfl, g4, hb⟩
  obtain ⟨n4, a4, k4, c4, rfl⟩ := bg_form g4
  replace S := sc_six (sc_keep hb (six_sc S))
  replace K := tc_keep hb K
  replace B := b_trans B hb
  clear hb
  clear g1 g3
  have hb : Below w4.heap.size w4 (w4.alloc (Obj.cells #[.bool n4, .slice a4 k4 c4] 69)) := b_alloc (Below.refl _ _)
  have b4 : BC (w4.alloc (Obj.cells #[.bool n4, .slice a4 k4 c4] 69)) w4.heap.size n4 (.slice a4 k4 c4) := by simp [BC, go_sem]
  replace S := sc_six (sc_keep hb (six_sc S))
  replace K := tc_keep hb K
  replace B := b_trans B hb
  replace g4 := bg_keep g4 hb
  clear hb
  have kj := tc_at K hj
  go_wp2_with fail
  refine (oj _).mono ?_
  rintro e w5 ⟨v5, rfl, g5, hb⟩
  clear kj
  obtain ⟨n5, a5, k5, c5, rfl⟩ := bg_form g5
  replace S := sc_six (sc_keep hb (six_sc S))
  replace K := tc_keep hb K
  replace B := b_trans B hb
  replace g4 := bg_keep g4 hb
  replace b4 := bc_keep hb b4
  clear hb
  go_wp2_with fail
  refine (p2 _).mono ?_
  rintro e w6 ⟨rfl, hb⟩
  replace S := sc_six (sc_keep hb (six_sc S))
  replace K := tc_keep hb K
  replace B := b_trans B hb
  replace g4 := bg_keep g4 hb
  replace g5 := bg_keep g5 hb
  replace b4 := bc_keep hb b4
  clear hb
  have pi := six_sc S i (by omega)
  go_wp2_with fail
  refine (on _).mono ?_
  rintro e w7 ⟨v7, rfl, g7, hb⟩
  clear pi
  obtain ⟨n7, a7, k7, c7, rfl⟩ := bg_form g7
  replace S := sc_six (sc_keep hb (six_sc S))
  replace K := tc_keep hb K
  replace B := b_trans B hb
  replace g4 := bg_keep g4 hb
  replace g5 := bg_keep g5 hb
  replace b4 := bc_keep hb b4
  clear hb
  go_wp2_with fail
  refine (mul_big _ _ (k j) (m i) _ g5 g7 (hs.out.2.1) (hs.out.2.2.2.1)).mono ?_
  rintro e w8 ⟨v8, rfl, g8, hb⟩
  obtain ⟨n8, a8, k8, c8, rfl⟩ := bg_form g8
  replace S := sc_six (sc_keep hb (six_sc S))
  replace K := tc_keep hb K
  replace B := b_trans B hb
  replace g4 := bg_keep g4 hb
  replace b4 := bc_keep hb b4
  clear hb
  clear g5 g7
  have hb : Below w8.heap.size w8 (w8.alloc (Obj.cells #[.bool n8, .slice a8 k8 c8] 69)) := b_alloc (Below.refl _ _)
  have b8 : BC (w8.alloc (Obj.cells #[.bool n8, .slice a8 k8 c8] 69)) w8.heap.size n8 (.slice a8 k8 c8) := by simp [BC, go_sem]
  replace S := sc_six (sc_keep hb (six_sc S))
  replace K := tc_keep hb K
  replace B := b_trans B hb
  replace g4 := bg_keep g4 hb
  replace g8 := bg_keep g8 hb
  replace b4 := bc_keep hb b4
  clear hb
  go_wp2_with fail
  refine (add_big _ _ (k i * m j) (k j * m i) _ g4 g8 hs.out.2.2.2.2.1 hs.out.2.2.2.2.2.1).mono ?_
  rintro e w9 ⟨v9, rfl, g9, hb⟩
  obtain ⟨n9, a9, k9, c9, rfl⟩ := bg_form g9
  replace S := sc_six (sc_keep hb (six_sc S))
  replace K := tc_keep hb K
  replace B := b_trans B hb
  clear hb
  clear g4 g8 b4 b8
  go_wp2_with fail
  refine (power_40 _).mono ?_
  rintro e w10 ⟨v10, rfl, g10, hb⟩
  obtain ⟨n10, a10, k10, c10, rfl⟩ := bg_form g10
  replace S := sc_six (sc_keep hb (six_sc S))
  replace K := tc_keep hb K
  replace B := b_trans B hb
  replace g9 := bg_keep g9 hb
  clear hb
  go_wp2_with fail
  refine (even_big _ _ (k i * m j + k j * m i) 1099511627776 _ g9 g10 (by decide) hs.out.2.2.2.2.2.2 ⟨by decide, by decide⟩).mono ?_
  rintro e w11 ⟨v11, rfl, g11, hb⟩
  rw [EF.out] at g11
  obtain ⟨n11, a11, k11, c11, rfl⟩ := bg_form g11
  replace S := sc_six (sc_keep hb (six_sc S))
  replace K := tc_keep hb K
  replace B := b_trans B hb
  clear hb
  clear g9 g10
  go_wp2_with fail
  refine (cT _ _ g11).mono ?_
  rintro e w12 ⟨rfl, hb⟩
  replace S := sc_six (sc_keep hb (six_sc S))
  replace K := tc_keep hb K
  replace B := b_trans B hb
  clear hb
  clear g11 cT oi oj om on p1 p2 hs EF
  rcases q0 with rfl | rfl
  rotate_left
  · obtain ⟨rfl, rfl⟩ := hy.out.2 (by simp)
    clear hy
    go_wp2
    go_ret2
    exact ⟨rfl, B⟩
  go_wp2
  refine region_late [50, 51, 52, 53, 54, 55, 56, 49, 57, 58] 9 (fun i_ X_ U_ => match i_ with | 0 => X_ = .int .i64 ((i : Nat) : Int) | 1 => X_ = .pointer (some ⟨w.heap.size + 1, i, none⟩) | 2 => X_ = .int .i64 (k i) | 3 => X_ = .int .i64 ((j : Nat) : Int) | 4 => X_ = .pointer (some ⟨w.heap.size + 1, j, none⟩) | 5 => X_ = .int .i64 (k j) | 6 => X_ = .tuple #[.int .i64 q, .int .i64 e2] | 7 => X_ = .tuple #[.int .i64 q, .int .i64 e2] | 8 => X_ = .int .i64 q | 9 => X_ = .int .i64 e2 | _ => True) (fun i_ => false) (by kernel_rfl) (by kernel_rfl) (by kernel_rfl) (by kernel_rfl) ?_ (fun i x w hi ha h => by cases ha) ?_ ?_ ?_
  · refine swp (upS (upS (upS (upS (upS (upS (upS (upS (upS (upS up0 ?_) ?_) ?_) ?_) ?_) ?_) ?_) ?_) ?_) ?_)
    all_goals exact fun _ _ _ h _ => h
  · refine upS (upS (upS (upS (upS (upS (upS (upS (upS (upS up0 ?_) ?_) ?_) ?_) ?_) ?_) ?_) ?_) ?_) ?_
    all_goals intro v f w' hb hv hB hd
    · have b3 : f.tmps[3]? = some (.int .i64 ((i : Nat) : Int)) := (hb 3 (by decide)).trans rfl
      clear hb hv hd
      refine wpOp_step rfl fun K hK => ?_
      go_simp
      exact hK _ _ ⟨_, rfl, Below.refl _ _, rfl, fun h => absurd h (by decide)⟩
    · have b6 : f.tmps[6]? = some (.pointer (some ⟨w.heap.size + 1, 0, none⟩)) := (hb 6 (by decide)).trans rfl
      have d0 := got (hv 0 50 rfl) (hd 0 (by kernel_rfl))
      clear hb hv hd
      refine wpOp_step rfl fun K hK => ?_
      go_simp
      exact hK _ _ ⟨_, rfl, Below.refl _ _, rfl, fun h => absurd h (by decide)⟩
    · have d1 := got (hv 1 51 rfl) (hd 1 (by kernel_rfl))
      clear hb hv hd
      have c := tc_at (tc_keep hB K) hi
      refine wpOp_step rfl fun K hK => ?_
      go_simp
      exact hK _ _ ⟨_, rfl, Below.refl _ _, rfl, fun h => absurd h (by decide)⟩
    · have b4 : f.tmps[4]? = some (.int .i64 ((j : Nat) : Int)) := (hb 4 (by decide)).trans rfl
      clear hb hv hd
      refine wpOp_step rfl fun K hK => ?_
      go_simp
      exact hK _ _ ⟨_, rfl, Below.refl _ _, rfl, fun h => absurd h (by decide)⟩
    · have b6 : f.tmps[6]? = some (.pointer (some ⟨w.heap.size + 1, 0, none⟩)) := (hb 6 (by decide)).trans rfl
      have d3 := got (hv 3 53 rfl) (hd 3 (by kernel_rfl))
      clear hb hv hd
      refine wpOp_step rfl fun K hK => ?_
      go_simp
      exact hK _ _ ⟨_, rfl, Below.refl _ _, rfl, fun h => absurd h (by decide)⟩
    · have d4 := got (hv 4 54 rfl) (hd 4 (by kernel_rfl))
      clear hb hv hd
      have c := tc_at (tc_keep hB K) hj
      refine wpOp_step rfl fun K hK => ?_
      go_simp
      exact hK _ _ ⟨_, rfl, Below.refl _ _, rfl, fun h => absurd h (by decide)⟩
    · have d2 := got (hv 2 52 rfl) (hd 2 (by kernel_rfl))
      have d5 := got (hv 5 55 rfl) (hd 5 (by kernel_rfl))
      clear hb hv hd
      refine wpOp_call rfl Tryd.call35 (args2 (eval_tmp d2) (eval_tmp d5)) (cM _) ?_
      rintro e5 w5 ⟨rfl, hb5⟩
      exact ⟨_, rfl, _, rfl, hb5, rfl, fun h => absurd h (by decide)⟩
    · have d6 := got (hv 6 56 rfl) (hd 6 (by kernel_rfl))
      clear hb hv hd
      refine wpOp_step rfl fun K hK => ?_
      go_simp
      exact hK _ _ ⟨_, rfl, Below.refl _ _, rfl, fun h => absurd h (by decide)⟩
    · have d7 := got (hv 7 49 rfl) (hd 7 (by kernel_rfl))
      clear hb hv hd
      refine wpOp_step rfl fun K hK => ?_
      go_simp
      exact hK _ _ ⟨_, rfl, Below.refl _ _, rfl, fun h => absurd h (by decide)⟩
    · have d7 := got (hv 7 49 rfl) (hd 7 (by kernel_rfl))
      clear hb hv hd
      refine wpOp_step rfl fun K hK => ?_
      go_simp
      exact hK _ _ ⟨_, rfl, Below.refl _ _, rfl, fun h => absurd h (by decide)⟩
  · intro v w' hB hF hD
    have F0 : v 0 = _ := hF 0 (by simp)
    have F1 : v 1 = _ := hF 1 (by simp)
    have F2 : v 2 = _ := hF 2 (by simp)
    have F3 : v 3 = _ := hF 3 (by simp)
    have F4 : v 4 = _ := hF 4 (by simp)
    have F5 : v 5 = _ := hF 5 (by simp)
    have F6 : v 6 = _ := hF 6 (by simp)
    have F7 : v 7 = _ := hF 7 (by simp)
    have F8 : v 8 = _ := hF 8 (by simp)
    have F9 : v 9 = _ := hF 9 (by simp)
    clear hF
    simp only [frOf, frGo, Nat.zero_add, Nat.reduceAdd, F0, F1, F2, F3, F4, F5, F6, F7, F8, F9]
    have hb := hB
    clear F0 F1 F2 F3 F4 F5 F6 F7 F8 F9 hD cM hB
    replace S := sc_six (sc_keep hb (six_sc S))
    replace K := tc_keep hb K
    replace B := b_trans B hb
    clear hb
    rcases q2 with rfl | rfl
    rotate_left
    · obtain ⟨rfl, rfl⟩ := hy.out.2 (by simp)
      clear hy
      go_wp2
      go_ret2
      exact ⟨rfl, B⟩
    go_wp2_with fail
    refine (cN _).mono ?_
    rintro e w14 ⟨rfl, hb⟩
    replace S := sc_six (sc_keep hb (six_sc S))
    replace K := tc_keep hb K
    replace B := b_trans B hb
    clear hb
    rcases q3 with rfl | rfl
    rotate_left
    · obtain ⟨rfl, rfl⟩ := hy.out.2 (by simp)
      clear hy
      go_wp2
      go_ret2
      exact ⟨rfl, B⟩
    go_wp2_with fail
    refine (p3 _).mono ?_
    rintro e w15 ⟨rfl, hb⟩
    replace S := sc_six (sc_keep hb (six_sc S))
    replace K := tc_keep hb K
    replace B := b_trans B hb
    clear hb
    have pg := six_sc S g hg
    go_wp2_with fail
    refine (cS _).mono ?_
    rintro e w16 ⟨rfl, hb⟩
    clear pg
    replace S := sc_six (sc_keep hb (six_sc S))
    replace K := tc_keep hb K
    replace B := b_trans B hb
    clear hb
    rcases q1 with rfl | rfl
    rotate_left
    · obtain ⟨rfl, rfl⟩ := hy.out.2 (by simp)
      clear hy
      go_wp2
      go_ret2
      exact ⟨rfl, B⟩
    go_wp2_with fail
    refine (cD _).mono ?_
    rintro e w17 ⟨rfl, hb⟩
    replace S := sc_six (sc_keep hb (six_sc S))
    replace K := tc_keep hb K
    replace B := b_trans B hb
    clear hb
    rcases q4 with rfl | rfl
    · obtain ⟨rfl, rfl⟩ := hy.out.1 (by simp)
      clear hy
      go_wp2
      go_ret2
      exact ⟨rfl, B⟩
    · obtain ⟨rfl, rfl⟩ := hy.out.2 (by simp)
      obtain rfl := xz (by decide)
      clear hy
      go_wp2
      go_ret2
      exact ⟨rfl, B⟩
  · intro v w' hB hF hD
    have F0 : v 0 = _ := hF 0 (by simp) (by decide)
    have F1 : v 1 = _ := hF 1 (by simp) (by decide)
    have F2 : v 2 = _ := hF 2 (by simp) (by decide)
    have F3 : v 3 = _ := hF 3 (by simp) (by decide)
    have F4 : v 4 = _ := hF 4 (by simp) (by decide)
    have F5 : v 5 = _ := hF 5 (by simp) (by decide)
    have F6 : v 6 = _ := hF 6 (by simp) (by decide)
    have F7 : v 7 = _ := hF 7 (by simp) (by decide)
    have F8 : v 8 = _ := hF 8 (by simp) (by decide)
    clear hF
    simp only [frOf, frGo, Nat.zero_add, Nat.reduceAdd, F0, F1, F2, F3, F4, F5, F6, F7, F8]
    have hb := hB
    clear F0 F1 F2 F3 F4 F5 F6 F7 F8 hD cM hB
    replace S := sc_six (sc_keep hb (six_sc S))
    replace K := tc_keep hb K
    replace B := b_trans B hb
    clear hb
    refine wpOp_step rfl (fun K_ hK => ?_)
    go_simp
    refine hK _ _ ?_
    clear hK K_
    refine wpOp_step rfl (fun K_ hK => ?_)
    go_simp
    refine hK _ _ ?_
    clear hK K_
    rcases q2 with rfl | rfl
    rotate_left
    · obtain ⟨rfl, rfl⟩ := hy.out.2 (by simp)
      clear hy
      go_wp2
      go_ret2
      exact ⟨rfl, B⟩
    go_wp2_with fail
    refine (cN _).mono ?_
    rintro e w14 ⟨rfl, hb⟩
    replace S := sc_six (sc_keep hb (six_sc S))
    replace K := tc_keep hb K
    replace B := b_trans B hb
    clear hb
    rcases q3 with rfl | rfl
    rotate_left
    · obtain ⟨rfl, rfl⟩ := hy.out.2 (by simp)
      clear hy
      go_wp2
      go_ret2
      exact ⟨rfl, B⟩
    go_wp2_with fail
    refine (p3 _).mono ?_
    rintro e w15 ⟨rfl, hb⟩
    replace S := sc_six (sc_keep hb (six_sc S))
    replace K := tc_keep hb K
    replace B := b_trans B hb
    clear hb
    have pg := six_sc S g hg
    go_wp2_with fail
    refine (cS _).mono ?_
    rintro e w16 ⟨rfl, hb⟩
    clear pg
    replace S := sc_six (sc_keep hb (six_sc S))
    replace K := tc_keep hb K
    replace B := b_trans B hb
    clear hb
    rcases q1 with rfl | rfl
    rotate_left
    · obtain ⟨rfl, rfl⟩ := hy.out.2 (by simp)
      clear hy
      go_wp2
      go_ret2
      exact ⟨rfl, B⟩
    go_wp2_with fail
    refine (cD _).mono ?_
    rintro e w17 ⟨rfl, hb⟩
    replace S := sc_six (sc_keep hb (six_sc S))
    replace K := tc_keep hb K
    replace B := b_trans B hb
    clear hb
    rcases q4 with rfl | rfl
    · obtain ⟨rfl, rfl⟩ := hy.out.1 (by simp)
      clear hy
      go_wp2
      go_ret2
      exact ⟨rfl, B⟩
    · obtain ⟨rfl, rfl⟩ := hy.out.2 (by simp)
      obtain rfl := xz (by decide)
      clear hy
      go_wp2
      go_ret2
      exact ⟨rfl, B⟩

set_option maxHeartbeats 4000000 in
set_option maxRecDepth 10000 in
theorem sref_0 (x0 x1 x2 k0 k1 k2 y : Int)
    (cX : ∀ w, Calls Tryd.prog 19 #[tv x0 x1 x2] w (RetV (.bool false) w)) (w : World) :
    Calls Tryd.prog 8 #[tv x0 x1 x2, tv k0 k1 k2, .int .i64 y] w (RetV (.tuple #[tv 0 0 0, .int .i64 1]) w) := by
  have B : Below w.heap.size w (((w.alloc (Obj.cells #[.int .i64 x0, .int .i64 x1, .int .i64 x2] 23)).alloc (Obj.cells #[.int .i64 k0, .int .i64 k1, .int .i64 k2] 23)).alloc (Obj.cells #[.int .i64 0, .int .i64 0, .int .i64 0] 23)) := b_alloc (b_alloc (b_alloc (Below.refl _ _)))
  have X : TC (((w.alloc (Obj.cells #[.int .i64 x0, .int .i64 x1, .int .i64 x2] 23)).alloc (Obj.cells #[.int .i64 k0, .int .i64 k1, .int .i64 k2] 23)).alloc (Obj.cells #[.int .i64 0, .int .i64 0, .int .i64 0] 23)) w.heap.size x0 x1 x2 := tc_alloc (tc_alloc (tc_new rfl))
  have K : TC (((w.alloc (Obj.cells #[.int .i64 x0, .int .i64 x1, .int .i64 x2] 23)).alloc (Obj.cells #[.int .i64 k0, .int .i64 k1, .int .i64 k2] 23)).alloc (Obj.cells #[.int .i64 0, .int .i64 0, .int .i64 0] 23)) (w.heap.size + 1) k0 k1 k2 := tc_alloc (tc_new (by simp))
  have R : TC (((w.alloc (Obj.cells #[.int .i64 x0, .int .i64 x1, .int .i64 x2] 23)).alloc (Obj.cells #[.int .i64 k0, .int .i64 k1, .int .i64 k2] 23)).alloc (Obj.cells #[.int .i64 0, .int .i64 0, .int .i64 0] 23)) (w.heap.size + 1 + 1) 0 0 0 := tc_new (by simp)
  have RF : TF (((w.alloc (Obj.cells #[.int .i64 x0, .int .i64 x1, .int .i64 x2] 23)).alloc (Obj.cells #[.int .i64 k0, .int .i64 k1, .int .i64 k2] 23)).alloc (Obj.cells #[.int .i64 0, .int .i64 0, .int .i64 0] 23)) (w.heap.size + 1 + 1) := tf_new (by simp)
  go_enter Tryd.func8, Tryd.ntmps8
  go_wp2_with fail
  refine (cX _).mono ?_
  rintro e w1 ⟨rfl, hb⟩
  replace RF := tf_keep hb R RF
  replace R := tc_keep hb R
  replace X := tc_keep hb X
  replace K := tc_keep hb K
  replace B := b_trans B hb
  clear hb
  clear X K cX
  go_wp2
  obtain ⟨q0, q1, q2⟩ := R
  refine bodyPost_ret (v := .tuple #[tv 0 0 0, .int .i64 1]) (by simp [results, Tryd.results8, go_sem, q0, q1, q2]) rfl ⟨rfl, ?_⟩
  have g2 : w.heap.size ≤ w.heap.size + 1 + 1 := Nat.le_trans (Nat.le_succ _) (Nat.le_succ _)
  repeat (first | exact B | refine b_set ?_ g2)

set_option maxHeartbeats 4000000 in
set_option maxRecDepth 10000 in
theorem sref_1 (x0 x1 x2 k0 k1 k2 y : Int)
    (cX : ∀ w, Calls Tryd.prog 19 #[tv x0 x1 x2] w (RetV (.bool true) w))
    (cK : ∀ w, Calls Tryd.prog 19 #[tv k0 k1 k2] w (RetV (.bool false) w)) (w : World) :
    Calls Tryd.prog 8 #[tv x0 x1 x2, tv k0 k1 k2, .int .i64 y] w (RetV (.tuple #[tv 0 0 0, .int .i64 1]) w) := by
  have B : Below w.heap.size w (((w.alloc (Obj.cells #[.int .i64 x0, .int .i64 x1, .int .i64 x2] 23)).alloc (Obj.cells #[.int .i64 k0, .int .i64 k1, .int .i64 k2] 23)).alloc (Obj.cells #[.int .i64 0, .int .i64 0, .int .i64 0] 23)) := b_alloc (b_alloc (b_alloc (Below.refl _ _)))
  have X : TC (((w.alloc (Obj.cells #[.int .i64 x0, .int .i64 x1, .int .i64 x2] 23)).alloc (Obj.cells #[.int .i64 k0, .int .i64 k1, .int .i64 k2] 23)).alloc (Obj.cells #[.int .i64 0, .int .i64 0, .int .i64 0] 23)) w.heap.size x0 x1 x2 := tc_alloc (tc_alloc (tc_new rfl))
  have K : TC (((w.alloc (Obj.cells #[.int .i64 x0, .int .i64 x1, .int .i64 x2] 23)).alloc (Obj.cells #[.int .i64 k0, .int .i64 k1, .int .i64 k2] 23)).alloc (Obj.cells #[.int .i64 0, .int .i64 0, .int .i64 0] 23)) (w.heap.size + 1) k0 k1 k2 := tc_alloc (tc_new (by simp))
  have R : TC (((w.alloc (Obj.cells #[.int .i64 x0, .int .i64 x1, .int .i64 x2] 23)).alloc (Obj.cells #[.int .i64 k0, .int .i64 k1, .int .i64 k2] 23)).alloc (Obj.cells #[.int .i64 0, .int .i64 0, .int .i64 0] 23)) (w.heap.size + 1 + 1) 0 0 0 := tc_new (by simp)
  have RF : TF (((w.alloc (Obj.cells #[.int .i64 x0, .int .i64 x1, .int .i64 x2] 23)).alloc (Obj.cells #[.int .i64 k0, .int .i64 k1, .int .i64 k2] 23)).alloc (Obj.cells #[.int .i64 0, .int .i64 0, .int .i64 0] 23)) (w.heap.size + 1 + 1) := tf_new (by simp)
  go_enter Tryd.func8, Tryd.ntmps8
  go_wp2_with fail
  refine (cX _).mono ?_
  rintro e w1 ⟨rfl, hb⟩
  replace RF := tf_keep hb R RF
  replace R := tc_keep hb R
  replace X := tc_keep hb X
  replace K := tc_keep hb K
  replace B := b_trans B hb
  clear hb
  go_wp2_with fail
  refine (cK _).mono ?_
  rintro e w1 ⟨rfl, hb⟩
  replace RF := tf_keep hb R RF
  replace R := tc_keep hb R
  replace X := tc_keep hb X
  replace K := tc_keep hb K
  replace B := b_trans B hb
  clear hb
  clear X K cX cK
  go_wp2
  obtain ⟨q0, q1, q2⟩ := R
  refine bodyPost_ret (v := .tuple #[tv 0 0 0, .int .i64 1]) (by simp [results, Tryd.results8, go_sem, q0, q1, q2]) rfl ⟨rfl, ?_⟩
  have g2 : w.heap.size ≤ w.heap.size + 1 + 1 := Nat.le_trans (Nat.le_succ _) (Nat.le_succ _)
  repeat (first | exact B | refine b_set ?_ g2)

set_option maxHeartbeats 4000000 in
set_option maxRecDepth 10000 in
theorem sref_2 (x0 x1 x2 k0 k1 k2 y : Int)
    (cX : ∀ w, Calls Tryd.prog 19 #[tv x0 x1 x2] w (RetV (.bool true) w))
    (cK : ∀ w, Calls Tryd.prog 19 #[tv k0 k1 k2] w (RetV (.bool true) w))
    (cY : ∀ w, Calls Tryd.prog 20 #[.int .i64 y] w fun e w' => e = .returned (.bool false) ∧ w = w') (w : World) :
    Calls Tryd.prog 8 #[tv x0 x1 x2, tv k0 k1 k2, .int .i64 y] w (RetV (.tuple #[tv 0 0 0, .int .i64 1]) w) := by
  have B : Below w.heap.size w (((w.alloc (Obj.cells #[.int .i64 x0, .int .i64 x1, .int .i64 x2] 23)).alloc (Obj.cells #[.int .i64 k0, .int .i64 k1, .int .i64 k2] 23)).alloc (Obj.cells #[.int .i64 0, .int .i64 0, .int .i64 0] 23)) := b_alloc (b_alloc (b_alloc (Below.refl _ _)))
  have X : TC (((w.alloc (Obj.cells #[.int .i64 x0, .int .i64 x1, .int .i64 x2] 23)).alloc (Obj.cells #[.int .i64 k0, .int .i64 k1, .int .i64 k2] 23)).alloc (Obj.cells #[.int .i64 0, .int .i64 0, .int .i64 0] 23)) w.heap.size x0 x1 x2 := tc_alloc (tc_alloc (tc_new rfl))
  have K : TC (((w.alloc (Obj.cells #[.int .i64 x0, .int .i64 x1, .int .i64 x2] 23)).alloc (Obj.cells #[.int .i64 k0, .int .i64 k1, .int .i64 k2] 23)).alloc (Obj.cells #[.int .i64 0, .int .i64 0, .int .i64 0] 23)) (w.heap.size + 1) k0 k1 k2 := tc_alloc (tc_new (by simp))
  have R : TC (((w.alloc (Obj.cells #[.int .i64 x0, .int .i64 x1, .int .i64 x2] 23)).alloc (Obj.cells #[.int .i64 k0, .int .i64 k1, .int .i64 k2] 23)).alloc (Obj.cells #[.int .i64 0, .int .i64 0, .int .i64 0] 23)) (w.heap.size + 1 + 1) 0 0 0 := tc_new (by simp)
  have RF : TF (((w.alloc (Obj.cells #[.int .i64 x0, .int .i64 x1, .int .i64 x2] 23)).alloc (Obj.cells #[.int .i64 k0, .int .i64 k1, .int .i64 k2] 23)).alloc (Obj.cells #[.int .i64 0, .int .i64 0, .int .i64 0] 23)) (w.heap.size + 1 + 1) := tf_new (by simp)
  go_enter Tryd.func8, Tryd.ntmps8
  go_wp2_with fail
  refine (cX _).mono ?_
  rintro e w1 ⟨rfl, hb⟩
  replace RF := tf_keep hb R RF
  replace R := tc_keep hb R
  replace X := tc_keep hb X
  replace K := tc_keep hb K
  replace B := b_trans B hb
  clear hb
  go_wp2_with fail
  refine (cK _).mono ?_
  rintro e w1 ⟨rfl, hb⟩
  replace RF := tf_keep hb R RF
  replace R := tc_keep hb R
  replace X := tc_keep hb X
  replace K := tc_keep hb K
  replace B := b_trans B hb
  clear hb
  go_wp2_with fail
  refine (cY _).mono ?_
  rintro e w9 ⟨rfl, rfl⟩
  clear X K cX cK cY
  go_wp2
  obtain ⟨q0, q1, q2⟩ := R
  refine bodyPost_ret (v := .tuple #[tv 0 0 0, .int .i64 1]) (by simp [results, Tryd.results8, go_sem, q0, q1, q2]) rfl ⟨rfl, ?_⟩
  have g2 : w.heap.size ≤ w.heap.size + 1 + 1 := Nat.le_trans (Nat.le_succ _) (Nat.le_succ _)
  repeat (first | exact B | refine b_set ?_ g2)

set_option maxHeartbeats 8000000 in
set_option maxRecDepth 10000 in
theorem sref_3 (x0 x1 x2 k0 k1 k2 y d0 d1 d2 e0 n0 n1 n2 e1 z0 z1 z2 f : Int)
    (cX : ∀ w, Calls Tryd.prog 19 #[tv x0 x1 x2] w (RetV (.bool true) w))
    (cK : ∀ w, Calls Tryd.prog 19 #[tv k0 k1 k2] w (RetV (.bool true) w))
    (cY : ∀ w, Calls Tryd.prog 20 #[.int .i64 y] w fun e w' => e = .returned (.bool true) ∧ w = w')
    (cS : ∀ w, Calls Tryd.prog 21 #[tv k0 k1 k2, .int .i64 y] w (RetV (.tuple #[tv d0 d1 d2, .int .i64 e0]) w))
    (cA : e0 = 0 → ∀ w, Calls Tryd.prog 22 #[tv x0 x1 x2, tv d0 d1 d2] w (RetV (.tuple #[tv n0 n1 n2, .int .i64 e1]) w))
    (hy : Hid ((¬ e0 = 0 → z0 = 0 ∧ z1 = 0 ∧ z2 = 0 ∧ f = 3) ∧ (e0 = 0 → z0 = n0 ∧ z1 = n1 ∧ z2 = n2 ∧ f = e1))) (w : World) :
    Calls Tryd.prog 8 #[tv x0 x1 x2, tv k0 k1 k2, .int .i64 y] w (RetV (.tuple #[tv z0 z1 z2, .int .i64 f]) w) := by
  have B : Below w.heap.size w (((w.alloc (Obj.cells #[.int .i64 x0, .int .i64 x1, .int .i64 x2] 23)).alloc (Obj.cells #[.int .i64 k0, .int .i64 k1, .int .i64 k2] 23)).alloc (Obj.cells #[.int .i64 0, .int .i64 0, .int .i64 0] 23)) := b_alloc (b_alloc (b_alloc (Below.refl _ _)))
  have X : TC (((w.alloc (Obj.cells #[.int .i64 x0, .int .i64 x1, .int .i64 x2] 23)).alloc (Obj.cells #[.int .i64 k0, .int .i64 k1, .int .i64 k2] 23)).alloc (Obj.cells #[.int .i64 0, .int .i64 0, .int .i64 0] 23)) w.heap.size x0 x1 x2 := tc_alloc (tc_alloc (tc_new rfl))
  have K : TC (((w.alloc (Obj.cells #[.int .i64 x0, .int .i64 x1, .int .i64 x2] 23)).alloc (Obj.cells #[.int .i64 k0, .int .i64 k1, .int .i64 k2] 23)).alloc (Obj.cells #[.int .i64 0, .int .i64 0, .int .i64 0] 23)) (w.heap.size + 1) k0 k1 k2 := tc_alloc (tc_new (by simp))
  have R : TC (((w.alloc (Obj.cells #[.int .i64 x0, .int .i64 x1, .int .i64 x2] 23)).alloc (Obj.cells #[.int .i64 k0, .int .i64 k1, .int .i64 k2] 23)).alloc (Obj.cells #[.int .i64 0, .int .i64 0, .int .i64 0] 23)) (w.heap.size + 1 + 1) 0 0 0 := tc_new (by simp)
  have RF : TF (((w.alloc (Obj.cells #[.int .i64 x0, .int .i64 x1, .int .i64 x2] 23)).alloc (Obj.cells #[.int .i64 k0, .int .i64 k1, .int .i64 k2] 23)).alloc (Obj.cells #[.int .i64 0, .int .i64 0, .int .i64 0] 23)) (w.heap.size + 1 + 1) := tf_new (by simp)
  go_enter Tryd.func8, Tryd.ntmps8
  go_wp2_with fail
  refine (cX _).mono ?_
  rintro e w1 ⟨rfl, hb⟩
  replace RF := tf_keep hb R RF
  replace R := tc_keep hb R
  replace X := tc_keep hb X
  replace K := tc_keep hb K
  replace B := b_trans B hb
  clear hb
  go_wp2_with fail
  refine (cK _).mono ?_
  rintro e w1 ⟨rfl, hb⟩
  replace RF := tf_keep hb R RF
  replace R := tc_keep hb R
  replace X := tc_keep hb X
  replace K := tc_keep hb K
  replace B := b_trans B hb
  clear hb
  go_wp2_with fail
  refine (cY _).mono ?_
  rintro e w9 ⟨rfl, rfl⟩
  clear cX cK cY
  go_wp2_with fail
  refine (cS _).mono ?_
  rintro e w2 ⟨rfl, hb⟩
  replace RF := tf_keep hb R RF
  replace R := tc_keep hb R
  replace X := tc_keep hb X
  replace K := tc_keep hb K
  replace B := b_trans B hb
  clear hb
  have D : TC (w2.alloc (Obj.cells #[.int .i64 d0, .int .i64 d1, .int .i64 d2] 23)) w2.heap.size d0 d1 d2 := tc_new rfl
  have hb : Below w2.heap.size w2 (w2.alloc (Obj.cells #[.int .i64 d0, .int .i64 d1, .int .i64 d2] 23)) := b_alloc (Below.refl _ _)
  replace RF := tf_keep hb R RF
  replace R := tc_keep hb R
  replace X := tc_keep hb X
  replace K := tc_keep hb K
  replace B := b_trans B hb
  clear hb
  clear K cS
  by_cases k : e0 = 0
  rotate_left
  · obtain ⟨rfl, rfl, rfl, rfl⟩ := hy.out.1 k
    have k1 : (e0 != 0) = true := by simpa using k
    clear k hy X cA
    go_wp2
    obtain ⟨q0, q1, q2⟩ := R
    refine bodyPost_ret (v := .tuple #[tv 0 0 0, .int .i64 3]) (by simp [results, Tryd.results8, go_sem, q0, q1, q2]) rfl ⟨rfl, ?_⟩
    have g2 : w.heap.size ≤ w.heap.size + 1 + 1 := Nat.le_trans (Nat.le_succ _) (Nat.le_succ _)
    repeat (first | exact B | refine b_set ?_ g2)
  subst k
  obtain ⟨rfl, rfl, rfl, rfl⟩ := hy.out.2 (by simp)
  clear hy
  go_wp2_with fail
  refine (cA (by simp) _).mono ?_
  rintro e w3 ⟨rfl, hb⟩
  replace D := tc_keep hb D
  replace RF := tf_keep hb R RF
  replace R := tc_keep hb R
  replace X := tc_keep hb X
  replace B := b_trans B hb
  clear hb cA
  go_wp2
  obtain ⟨q0, q1, q2⟩ := R
  refine bodyPost_ret (v := .tuple #[tv z0 z1 z2, .int .i64 f]) (by simp [results, Tryd.results8, go_sem, q0, q1, q2]) rfl ⟨rfl, ?_⟩
  have g2 : w.heap.size ≤ w.heap.size + 1 + 1 := Nat.le_trans (Nat.le_succ _) (Nat.le_succ _)
  repeat (first | exact B | refine b_set ?_ g2)

end Go.Proofs.YtplhienacfiiaaaDoor

/- The document's Doubt of layer 12: the call's answer. -/
namespace Go.Proofs.YtplhienacfiiaaaDoor
open Go.RowKit Go.Shelf

theorem br_set {W w : World} {R : Nat} {v0 v1 v2 v3 v4 v5 : Value} (h : Below W.heap.size W w) (q : W.heap.size ≤ R) : Below W.heap.size W ((((((w.setCell ⟨R, 0, none⟩ v0).setCell ⟨R, 1, none⟩ v1).setCell ⟨R, 2, none⟩ v2).setCell ⟨R, 3, none⟩ v3).setCell ⟨R, 4, none⟩ v4).setCell ⟨R, 5, none⟩ v5) :=
  b_set (b_set (b_set (b_set (b_set (b_set h q) q) q) q) q) q
theorem rix_sf {w : World} {b : Nat} (c : SF6 w b) : SF w b := fun i hi => by
  obtain ⟨c0, c1, c2, c3, c4, c5⟩ := c
  match i, hi with
  | 0, _ => exact c0
  | 1, _ => exact c1
  | 2, _ => exact c2
  | 3, _ => exact c3
  | 4, _ => exact c4
  | 5, _ => exact c5
theorem sc_one {U : World} {Q g : Nat} {M : Nat → Int} {x : Int} (c : SC U Q M) (hg : g < 6) : SC (U.setCell ⟨Q, g, none⟩ (.int .i64 x)) Q (umk M g x) := by
  intro i hi
  by_cases e : i = g
  · subst e
    rw [World.cell?_setCell_same' _ _ _ (by rw [c i hi]; rfl)]
    simp [umk]
  · rw [World.cell?_setCell_other _ _ _ _ (by intro d; simp at d <;> omega), c i hi]
    simp [umk, e]
/-- What Doubt's loops keep: the doubt, the gain, the answer's variable, and what has come so far. -/
structure RJ (W : World) (Q : Nat) (m k M : Nat → Int) (U : World) : Prop where
  b : Below W.heap.size W U
  q : W.heap.size + 1 + 1 < Q
  s : SC U W.heap.size m
  k : TC U (W.heap.size + 1) (k 0) (k 1) (k 2)
  r : SC U (W.heap.size + 1 + 1) (fun _ => 0)
  rf : SF U (W.heap.size + 1 + 1)
  n : SC U Q M
  nf : SF U Q
theorem rj_keep {W : World} {Q : Nat} {m k M : Nat → Int} {U U' : World} (h : RJ W Q m k M U) (hb : Below U.heap.size U U') : RJ W Q m k M U' :=
  ⟨b_trans h.b hb, h.q, sc_keep hb h.s, tc_keep hb h.k, sc_keep hb h.r, sf_keep hb h.r h.rf, sc_keep hb h.n, sf_keep hb h.n h.nf⟩
theorem rj_put {W : World} {Q g : Nat} {m k M : Nat → Int} {x : Int} {U : World} (h : RJ W Q m k M U) (hg : g < 6) : RJ W Q m k (umk M g x) (U.setCell ⟨Q, g, none⟩ (.int .i64 x)) := by
  have q := h.q
  exact ⟨b_set h.b (by show _ ≤ Q; omega), q, sc_set h.s (by omega), tc_set h.k (by omega), sc_set h.r (by omega), sf_set h.rf, sc_one h.n hg, sf_set h.nf⟩

set_option maxHeartbeats 4000000 in
set_option maxRecDepth 10000 in
theorem rdoubt_0 (m k : Nat → Int) (s : Int)
    (cP : ∀ w, Calls Tryd.prog 12 #[sv m] w (RetV (.bool false) w)) (w : World) :
    Calls Tryd.prog 11 #[sv m, tv (k 0) (k 1) (k 2), .int .i64 s] w (RetV (.tuple #[.agg #[.int .i64 0, .int .i64 0, .int .i64 0, .int .i64 0, .int .i64 0, .int .i64 0], .int .i64 1]) w) := by
  have B : Below w.heap.size w (((w.alloc (Obj.cells #[.int .i64 (m 0), .int .i64 (m 1), .int .i64 (m 2), .int .i64 (m 3), .int .i64 (m 4), .int .i64 (m 5)] 32)).alloc (Obj.cells #[.int .i64 (k 0), .int .i64 (k 1), .int .i64 (k 2)] 23)).alloc (Obj.cells #[.int .i64 0, .int .i64 0, .int .i64 0, .int .i64 0, .int .i64 0, .int .i64 0] 32)) := b_alloc (b_alloc (b_alloc (Below.refl _ _)))
  have S : SC6 (((w.alloc (Obj.cells #[.int .i64 (m 0), .int .i64 (m 1), .int .i64 (m 2), .int .i64 (m 3), .int .i64 (m 4), .int .i64 (m 5)] 32)).alloc (Obj.cells #[.int .i64 (k 0), .int .i64 (k 1), .int .i64 (k 2)] 23)).alloc (Obj.cells #[.int .i64 0, .int .i64 0, .int .i64 0, .int .i64 0, .int .i64 0, .int .i64 0] 32)) w.heap.size m := sc_six (sc_alloc (sc_alloc (sc_new rfl)))
  have K : TC (((w.alloc (Obj.cells #[.int .i64 (m 0), .int .i64 (m 1), .int .i64 (m 2), .int .i64 (m 3), .int .i64 (m 4), .int .i64 (m 5)] 32)).alloc (Obj.cells #[.int .i64 (k 0), .int .i64 (k 1), .int .i64 (k 2)] 23)).alloc (Obj.cells #[.int .i64 0, .int .i64 0, .int .i64 0, .int .i64 0, .int .i64 0, .int .i64 0] 32)) (w.heap.size + 1) (k 0) (k 1) (k 2) := tc_alloc (tc_new (by simp))
  have R : SC6 (((w.alloc (Obj.cells #[.int .i64 (m 0), .int .i64 (m 1), .int .i64 (m 2), .int .i64 (m 3), .int .i64 (m 4), .int .i64 (m 5)] 32)).alloc (Obj.cells #[.int .i64 (k 0), .int .i64 (k 1), .int .i64 (k 2)] 23)).alloc (Obj.cells #[.int .i64 0, .int .i64 0, .int .i64 0, .int .i64 0, .int .i64 0, .int .i64 0] 32)) (w.heap.size + 1 + 1) (fun _ => 0) := sc_six (sc_new (m := fun _ => 0) (by simp))
  have RF : SF6 (((w.alloc (Obj.cells #[.int .i64 (m 0), .int .i64 (m 1), .int .i64 (m 2), .int .i64 (m 3), .int .i64 (m 4), .int .i64 (m 5)] 32)).alloc (Obj.cells #[.int .i64 (k 0), .int .i64 (k 1), .int .i64 (k 2)] 23)).alloc (Obj.cells #[.int .i64 0, .int .i64 0, .int .i64 0, .int .i64 0, .int .i64 0, .int .i64 0] 32)) (w.heap.size + 1 + 1) := sf_six (sf_new (by simp))
  go_enter Tryd.func11, Tryd.ntmps11
  go_wp2_with fail
  refine (cP _).mono ?_
  rintro e w1 ⟨rfl, hb⟩
  replace RF := sf_six (sf_keep hb (six_sc R) (rix_sf RF))
  replace R := sc_six (sc_keep hb (six_sc R))
  replace S := sc_six (sc_keep hb (six_sc S))
  replace K := tc_keep hb K
  replace B := b_trans B hb
  clear hb
  clear cP
  clear S K
  go_wp2
  obtain ⟨r0, r1, r2, r3, r4, r5⟩ := R
  refine bodyPost_ret (v := .tuple #[.agg #[.int .i64 0, .int .i64 0, .int .i64 0, .int .i64 0, .int .i64 0, .int .i64 0], .int .i64 1]) (by simp [results, Tryd.results11, go_sem, r0, r1, r2, r3, r4, r5]) rfl ⟨rfl, ?_⟩
  have g2 : w.heap.size ≤ w.heap.size + 1 + 1 := Nat.le_trans (Nat.le_succ _) (Nat.le_succ _)
  exact br_set B g2

set_option maxHeartbeats 4000000 in
set_option maxRecDepth 10000 in
theorem rdoubt_1 (m k : Nat → Int) (s : Int)
    (cP : ∀ w, Calls Tryd.prog 12 #[sv m] w (RetV (.bool true) w))
    (cK : ∀ w, Calls Tryd.prog 19 #[tv (k 0) (k 1) (k 2)] w (RetV (.bool false) w)) (w : World) :
    Calls Tryd.prog 11 #[sv m, tv (k 0) (k 1) (k 2), .int .i64 s] w (RetV (.tuple #[.agg #[.int .i64 0, .int .i64 0, .int .i64 0, .int .i64 0, .int .i64 0, .int .i64 0], .int .i64 1]) w) := by
  have B : Below w.heap.size w (((w.alloc (Obj.cells #[.int .i64 (m 0), .int .i64 (m 1), .int .i64 (m 2), .int .i64 (m 3), .int .i64 (m 4), .int .i64 (m 5)] 32)).alloc (Obj.cells #[.int .i64 (k 0), .int .i64 (k 1), .int .i64 (k 2)] 23)).alloc (Obj.cells #[.int .i64 0, .int .i64 0, .int .i64 0, .int .i64 0, .int .i64 0, .int .i64 0] 32)) := b_alloc (b_alloc (b_alloc (Below.refl _ _)))
  have S : SC6 (((w.alloc (Obj.cells #[.int .i64 (m 0), .int .i64 (m 1), .int .i64 (m 2), .int .i64 (m 3), .int .i64 (m 4), .int .i64 (m 5)] 32)).alloc (Obj.cells #[.int .i64 (k 0), .int .i64 (k 1), .int .i64 (k 2)] 23)).alloc (Obj.cells #[.int .i64 0, .int .i64 0, .int .i64 0, .int .i64 0, .int .i64 0, .int .i64 0] 32)) w.heap.size m := sc_six (sc_alloc (sc_alloc (sc_new rfl)))
  have K : TC (((w.alloc (Obj.cells #[.int .i64 (m 0), .int .i64 (m 1), .int .i64 (m 2), .int .i64 (m 3), .int .i64 (m 4), .int .i64 (m 5)] 32)).alloc (Obj.cells #[.int .i64 (k 0), .int .i64 (k 1), .int .i64 (k 2)] 23)).alloc (Obj.cells #[.int .i64 0, .int .i64 0, .int .i64 0, .int .i64 0, .int .i64 0, .int .i64 0] 32)) (w.heap.size + 1) (k 0) (k 1) (k 2) := tc_alloc (tc_new (by simp))
  have R : SC6 (((w.alloc (Obj.cells #[.int .i64 (m 0), .int .i64 (m 1), .int .i64 (m 2), .int .i64 (m 3), .int .i64 (m 4), .int .i64 (m 5)] 32)).alloc (Obj.cells #[.int .i64 (k 0), .int .i64 (k 1), .int .i64 (k 2)] 23)).alloc (Obj.cells #[.int .i64 0, .int .i64 0, .int .i64 0, .int .i64 0, .int .i64 0, .int .i64 0] 32)) (w.heap.size + 1 + 1) (fun _ => 0) := sc_six (sc_new (m := fun _ => 0) (by simp))
  have RF : SF6 (((w.alloc (Obj.cells #[.int .i64 (m 0), .int .i64 (m 1), .int .i64 (m 2), .int .i64 (m 3), .int .i64 (m 4), .int .i64 (m 5)] 32)).alloc (Obj.cells #[.int .i64 (k 0), .int .i64 (k 1), .int .i64 (k 2)] 23)).alloc (Obj.cells #[.int .i64 0, .int .i64 0, .int .i64 0, .int .i64 0, .int .i64 0, .int .i64 0] 32)) (w.heap.size + 1 + 1) := sf_six (sf_new (by simp))
  go_enter Tryd.func11, Tryd.ntmps11
  go_wp2_with fail
  refine (cP _).mono ?_
  rintro e w1 ⟨rfl, hb⟩
  replace RF := sf_six (sf_keep hb (six_sc R) (rix_sf RF))
  replace R := sc_six (sc_keep hb (six_sc R))
  replace S := sc_six (sc_keep hb (six_sc S))
  replace K := tc_keep hb K
  replace B := b_trans B hb
  clear hb
  clear cP
  go_wp2_with fail
  refine (cK _).mono ?_
  rintro e w1 ⟨rfl, hb⟩
  replace RF := sf_six (sf_keep hb (six_sc R) (rix_sf RF))
  replace R := sc_six (sc_keep hb (six_sc R))
  replace S := sc_six (sc_keep hb (six_sc S))
  replace K := tc_keep hb K
  replace B := b_trans B hb
  clear hb
  clear cK
  clear S K
  go_wp2
  obtain ⟨r0, r1, r2, r3, r4, r5⟩ := R
  refine bodyPost_ret (v := .tuple #[.agg #[.int .i64 0, .int .i64 0, .int .i64 0, .int .i64 0, .int .i64 0, .int .i64 0], .int .i64 1]) (by simp [results, Tryd.results11, go_sem, r0, r1, r2, r3, r4, r5]) rfl ⟨rfl, ?_⟩
  have g2 : w.heap.size ≤ w.heap.size + 1 + 1 := Nat.le_trans (Nat.le_succ _) (Nat.le_succ _)
  exact br_set B g2

set_option maxHeartbeats 4000000 in
set_option maxRecDepth 10000 in
theorem rdoubt_2 (m k : Nat → Int) (s : Int)
    (cP : ∀ w, Calls Tryd.prog 12 #[sv m] w (RetV (.bool true) w))
    (cK : ∀ w, Calls Tryd.prog 19 #[tv (k 0) (k 1) (k 2)] w (RetV (.bool true) w))
    (cS : ∀ w, Calls Tryd.prog 20 #[.int .i64 s] w fun e w' => e = .returned (.bool false) ∧ w = w') (w : World) :
    Calls Tryd.prog 11 #[sv m, tv (k 0) (k 1) (k 2), .int .i64 s] w (RetV (.tuple #[.agg #[.int .i64 0, .int .i64 0, .int .i64 0, .int .i64 0, .int .i64 0, .int .i64 0], .int .i64 1]) w) := by
  have B : Below w.heap.size w (((w.alloc (Obj.cells #[.int .i64 (m 0), .int .i64 (m 1), .int .i64 (m 2), .int .i64 (m 3), .int .i64 (m 4), .int .i64 (m 5)] 32)).alloc (Obj.cells #[.int .i64 (k 0), .int .i64 (k 1), .int .i64 (k 2)] 23)).alloc (Obj.cells #[.int .i64 0, .int .i64 0, .int .i64 0, .int .i64 0, .int .i64 0, .int .i64 0] 32)) := b_alloc (b_alloc (b_alloc (Below.refl _ _)))
  have S : SC6 (((w.alloc (Obj.cells #[.int .i64 (m 0), .int .i64 (m 1), .int .i64 (m 2), .int .i64 (m 3), .int .i64 (m 4), .int .i64 (m 5)] 32)).alloc (Obj.cells #[.int .i64 (k 0), .int .i64 (k 1), .int .i64 (k 2)] 23)).alloc (Obj.cells #[.int .i64 0, .int .i64 0, .int .i64 0, .int .i64 0, .int .i64 0, .int .i64 0] 32)) w.heap.size m := sc_six (sc_alloc (sc_alloc (sc_new rfl)))
  have K : TC (((w.alloc (Obj.cells #[.int .i64 (m 0), .int .i64 (m 1), .int .i64 (m 2), .int .i64 (m 3), .int .i64 (m 4), .int .i64 (m 5)] 32)).alloc (Obj.cells #[.int .i64 (k 0), .int .i64 (k 1), .int .i64 (k 2)] 23)).alloc (Obj.cells #[.int .i64 0, .int .i64 0, .int .i64 0, .int .i64 0, .int .i64 0, .int .i64 0] 32)) (w.heap.size + 1) (k 0) (k 1) (k 2) := tc_alloc (tc_new (by simp))
  have R : SC6 (((w.alloc (Obj.cells #[.int .i64 (m 0), .int .i64 (m 1), .int .i64 (m 2), .int .i64 (m 3), .int .i64 (m 4), .int .i64 (m 5)] 32)).alloc (Obj.cells #[.int .i64 (k 0), .int .i64 (k 1), .int .i64 (k 2)] 23)).alloc (Obj.cells #[.int .i64 0, .int .i64 0, .int .i64 0, .int .i64 0, .int .i64 0, .int .i64 0] 32)) (w.heap.size + 1 + 1) (fun _ => 0) := sc_six (sc_new (m := fun _ => 0) (by simp))
  have RF : SF6 (((w.alloc (Obj.cells #[.int .i64 (m 0), .int .i64 (m 1), .int .i64 (m 2), .int .i64 (m 3), .int .i64 (m 4), .int .i64 (m 5)] 32)).alloc (Obj.cells #[.int .i64 (k 0), .int .i64 (k 1), .int .i64 (k 2)] 23)).alloc (Obj.cells #[.int .i64 0, .int .i64 0, .int .i64 0, .int .i64 0, .int .i64 0, .int .i64 0] 32)) (w.heap.size + 1 + 1) := sf_six (sf_new (by simp))
  go_enter Tryd.func11, Tryd.ntmps11
  go_wp2_with fail
  refine (cP _).mono ?_
  rintro e w1 ⟨rfl, hb⟩
  replace RF := sf_six (sf_keep hb (six_sc R) (rix_sf RF))
  replace R := sc_six (sc_keep hb (six_sc R))
  replace S := sc_six (sc_keep hb (six_sc S))
  replace K := tc_keep hb K
  replace B := b_trans B hb
  clear hb
  clear cP
  go_wp2_with fail
  refine (cK _).mono ?_
  rintro e w1 ⟨rfl, hb⟩
  replace RF := sf_six (sf_keep hb (six_sc R) (rix_sf RF))
  replace R := sc_six (sc_keep hb (six_sc R))
  replace S := sc_six (sc_keep hb (six_sc S))
  replace K := tc_keep hb K
  replace B := b_trans B hb
  clear hb
  clear cK
  go_wp2_with fail
  refine (cS _).mono ?_
  rintro e w9 ⟨rfl, rfl⟩
  clear cS
  clear S K
  go_wp2
  obtain ⟨r0, r1, r2, r3, r4, r5⟩ := R
  refine bodyPost_ret (v := .tuple #[.agg #[.int .i64 0, .int .i64 0, .int .i64 0, .int .i64 0, .int .i64 0, .int .i64 0], .int .i64 1]) (by simp [results, Tryd.results11, go_sem, r0, r1, r2, r3, r4, r5]) rfl ⟨rfl, ?_⟩
  have g2 : w.heap.size ≤ w.heap.size + 1 + 1 := Nat.le_trans (Nat.le_succ _) (Nat.le_succ _)
  exact br_set B g2

set_option maxHeartbeats 8000000 in
set_option maxRecDepth 10000 in
theorem rdoubt_go (m k : Nat → Int) (s x0 x1 x2 x3 x4 x5 e0 e1 e2 e3 e4 e5 z0 z1 z2 z3 z4 z5 f : Int)
    (cP : ∀ w, Calls Tryd.prog 12 #[sv m] w (RetV (.bool true) w))
    (cK : ∀ w, Calls Tryd.prog 19 #[tv (k 0) (k 1) (k 2)] w (RetV (.bool true) w))
    (cS : ∀ w, Calls Tryd.prog 20 #[.int .i64 s] w fun e w' => e = .returned (.bool true) ∧ w = w')
    (c0 : ∀ w, Calls Tryd.prog 27 #[sv m, tv (k 0) (k 1) (k 2), .int .i64 s, .int .i64 0, .int .i64 0] w (RetV (.tuple #[.int .i64 x0, .int .i64 e0]) w)) (q0 : e0 = 0 ∨ e0 = 3)
    (c1 : ∀ w, Calls Tryd.prog 27 #[sv m, tv (k 0) (k 1) (k 2), .int .i64 s, .int .i64 0, .int .i64 1] w (RetV (.tuple #[.int .i64 x1, .int .i64 e1]) w)) (q1 : e1 = 0 ∨ e1 = 3)
    (c2 : ∀ w, Calls Tryd.prog 27 #[sv m, tv (k 0) (k 1) (k 2), .int .i64 s, .int .i64 0, .int .i64 2] w (RetV (.tuple #[.int .i64 x2, .int .i64 e2]) w)) (q2 : e2 = 0 ∨ e2 = 3)
    (c3 : ∀ w, Calls Tryd.prog 27 #[sv m, tv (k 0) (k 1) (k 2), .int .i64 s, .int .i64 1, .int .i64 1] w (RetV (.tuple #[.int .i64 x3, .int .i64 e3]) w)) (q3 : e3 = 0 ∨ e3 = 3)
    (c4 : ∀ w, Calls Tryd.prog 27 #[sv m, tv (k 0) (k 1) (k 2), .int .i64 s, .int .i64 1, .int .i64 2] w (RetV (.tuple #[.int .i64 x4, .int .i64 e4]) w)) (q4 : e4 = 0 ∨ e4 = 3)
    (c5 : ∀ w, Calls Tryd.prog 27 #[sv m, tv (k 0) (k 1) (k 2), .int .i64 s, .int .i64 2, .int .i64 2] w (RetV (.tuple #[.int .i64 x5, .int .i64 e5]) w)) (q5 : e5 = 0 ∨ e5 = 3)
    (hy : Hid ((e0 = 0 ∧ e1 = 0 ∧ e2 = 0 ∧ e3 = 0 ∧ e4 = 0 ∧ e5 = 0 → z0 = x0 ∧ z1 = x1 ∧ z2 = x2 ∧ z3 = x3 ∧ z4 = x4 ∧ z5 = x5 ∧ f = 0) ∧ (¬ (e0 = 0 ∧ e1 = 0 ∧ e2 = 0 ∧ e3 = 0 ∧ e4 = 0 ∧ e5 = 0) → z0 = 0 ∧ z1 = 0 ∧ z2 = 0 ∧ z3 = 0 ∧ z4 = 0 ∧ z5 = 0 ∧ f = 3))) (w : World) :
    Calls Tryd.prog 11 #[sv m, tv (k 0) (k 1) (k 2), .int .i64 s] w (RetV (.tuple #[.agg #[.int .i64 z0, .int .i64 z1, .int .i64 z2, .int .i64 z3, .int .i64 z4, .int .i64 z5], .int .i64 f]) w) := by
  have B : Below w.heap.size w (((w.alloc (Obj.cells #[.int .i64 (m 0), .int .i64 (m 1), .int .i64 (m 2), .int .i64 (m 3), .int .i64 (m 4), .int .i64 (m 5)] 32)).alloc (Obj.cells #[.int .i64 (k 0), .int .i64 (k 1), .int .i64 (k 2)] 23)).alloc (Obj.cells #[.int .i64 0, .int .i64 0, .int .i64 0, .int .i64 0, .int .i64 0, .int .i64 0] 32)) := b_alloc (b_alloc (b_alloc (Below.refl _ _)))
  have S : SC6 (((w.alloc (Obj.cells #[.int .i64 (m 0), .int .i64 (m 1), .int .i64 (m 2), .int .i64 (m 3), .int .i64 (m 4), .int .i64 (m 5)] 32)).alloc (Obj.cells #[.int .i64 (k 0), .int .i64 (k 1), .int .i64 (k 2)] 23)).alloc (Obj.cells #[.int .i64 0, .int .i64 0, .int .i64 0, .int .i64 0, .int .i64 0, .int .i64 0] 32)) w.heap.size m := sc_six (sc_alloc (sc_alloc (sc_new rfl)))
  have K : TC (((w.alloc (Obj.cells #[.int .i64 (m 0), .int .i64 (m 1), .int .i64 (m 2), .int .i64 (m 3), .int .i64 (m 4), .int .i64 (m 5)] 32)).alloc (Obj.cells #[.int .i64 (k 0), .int .i64 (k 1), .int .i64 (k 2)] 23)).alloc (Obj.cells #[.int .i64 0, .int .i64 0, .int .i64 0, .int .i64 0, .int .i64 0, .int .i64 0] 32)) (w.heap.size + 1) (k 0) (k 1) (k 2) := tc_alloc (tc_new (by simp))
  have R : SC6 (((w.alloc (Obj.cells #[.int .i64 (m 0), .int .i64 (m 1), .int .i64 (m 2), .int .i64 (m 3), .int .i64 (m 4), .int .i64 (m 5)] 32)).alloc (Obj.cells #[.int .i64 (k 0), .int .i64 (k 1), .int .i64 (k 2)] 23)).alloc (Obj.cells #[.int .i64 0, .int .i64 0, .int .i64 0, .int .i64 0, .int .i64 0, .int .i64 0] 32)) (w.heap.size + 1 + 1) (fun _ => 0) := sc_six (sc_new (m := fun _ => 0) (by simp))
  have RF : SF6 (((w.alloc (Obj.cells #[.int .i64 (m 0), .int .i64 (m 1), .int .i64 (m 2), .int .i64 (m 3), .int .i64 (m 4), .int .i64 (m 5)] 32)).alloc (Obj.cells #[.int .i64 (k 0), .int .i64 (k 1), .int .i64 (k 2)] 23)).alloc (Obj.cells #[.int .i64 0, .int .i64 0, .int .i64 0, .int .i64 0, .int .i64 0, .int .i64 0] 32)) (w.heap.size + 1 + 1) := sf_six (sf_new (by simp))
  go_enter Tryd.func11, Tryd.ntmps11
  go_wp2_with fail
  refine (cP _).mono ?_
  rintro e w1 ⟨rfl, hb⟩
  replace RF := sf_six (sf_keep hb (six_sc R) (rix_sf RF))
  replace R := sc_six (sc_keep hb (six_sc R))
  replace S := sc_six (sc_keep hb (six_sc S))
  replace K := tc_keep hb K
  replace B := b_trans B hb
  clear hb
  clear cP
  go_wp2_with fail
  refine (cK _).mono ?_
  rintro e w1 ⟨rfl, hb⟩
  replace RF := sf_six (sf_keep hb (six_sc R) (rix_sf RF))
  replace R := sc_six (sc_keep hb (six_sc R))
  replace S := sc_six (sc_keep hb (six_sc S))
  replace K := tc_keep hb K
  replace B := b_trans B hb
  clear hb
  clear cK
  go_wp2_with fail
  refine (cS _).mono ?_
  rintro e w9 ⟨rfl, rfl⟩
  clear cS
  have zr := sc_lt (six_sc R)
  have hb : Below w1.heap.size w1 (w1.alloc (Obj.cells #[.int .i64 0, .int .i64 0, .int .i64 0, .int .i64 0, .int .i64 0, .int .i64 0] 32)) := b_alloc (Below.refl _ _)
  have h : RJ w w1.heap.size m k (fun _ => 0) (w1.alloc (Obj.cells #[.int .i64 0, .int .i64 0, .int .i64 0, .int .i64 0, .int .i64 0, .int .i64 0] 32)) := ⟨b_trans B hb, zr, sc_keep hb (six_sc S), tc_keep hb K, sc_keep hb (six_sc R), sf_keep hb (six_sc R) (rix_sf RF), sc_new (m := fun _ => 0) rfl, sf_new rfl⟩
  clear S K R RF B hb zr
  go_wp2
  generalize w1.alloc (Obj.cells #[.int .i64 0, .int .i64 0, .int .i64 0, .int .i64 0, .int .i64 0, .int .i64 0] 32) = u0 at *
  generalize w1.heap.size = Q at *
  generalize w1.heap.size = Q at *
  obtain ⟨M0, hM0⟩ : ∃ M : Nat → Int, M = fun _ => 0 := ⟨_, rfl⟩
  rw [← hM0] at h
  replace hM0 := Lib.hid hM0
  refine wp_loop_rounds 4 ?_
  rw [rounds_succ]
  go_wp2
  refine wp_loop_rounds 4 ?_
  rw [rounds_succ]
  have S := sc_six h.s
  have K := h.k
  go_wp2_with fail
  refine (c0 _).mono ?_
  clear c0 S K
  rintro e y0 ⟨rfl, hb⟩
  replace h := rj_keep h hb
  clear hb
  rcases q0 with rfl | rfl
  rotate_left
  · obtain ⟨rfl, rfl, rfl, rfl, rfl, rfl, rfl⟩ := hy.out.2 (by simp)
    have R := sc_six h.r
    have RF := sf_six h.rf
    have B := h.b
    clear h hy
    go_wp2
    obtain ⟨r0, r1, r2, r3, r4, r5⟩ := R
    refine bodyPost_ret (v := .tuple #[.agg #[.int .i64 0, .int .i64 0, .int .i64 0, .int .i64 0, .int .i64 0, .int .i64 0], .int .i64 3]) (by simp [results, Tryd.results11, go_sem, r0, r1, r2, r3, r4, r5]) rfl ⟨rfl, ?_⟩
    have g2 : w.heap.size ≤ w.heap.size + 1 + 1 := Nat.le_trans (Nat.le_succ _) (Nat.le_succ _)
    exact br_set B g2
  go_wp2_with fail
  refine (place_ok 0 0 0 (by simp [At9]) _).mono ?_
  rintro e v0 ⟨rfl, hb⟩
  replace h := rj_keep h hb
  clear hb
  obtain ⟨M1, hM1⟩ : ∃ M : Nat → Int, M = umk M0 0 x0 := ⟨_, rfl⟩
  have KK := Lib.hid (rj_put (x := x0) h (show 0 < 6 by decide))
  rw [← hM1] at KK
  replace hM1 := Lib.hid hM1
  have N := sc_six h.n
  have NF := sf_six h.nf
  clear h
  go_wp2
  clear N NF
  generalize v0.setCell ⟨Q, 0, none⟩ (.int .i64 x0) = u1 at *
  have h := KK.out
  clear KK
  rw [rounds_succ]
  have S := sc_six h.s
  have K := h.k
  go_wp2_with fail
  refine (c1 _).mono ?_
  clear c1 S K
  rintro e y1 ⟨rfl, hb⟩
  replace h := rj_keep h hb
  clear hb
  rcases q1 with rfl | rfl
  rotate_left
  · obtain ⟨rfl, rfl, rfl, rfl, rfl, rfl, rfl⟩ := hy.out.2 (by simp)
    have R := sc_six h.r
    have RF := sf_six h.rf
    have B := h.b
    clear h hy
    go_wp2
    obtain ⟨r0, r1, r2, r3, r4, r5⟩ := R
    refine bodyPost_ret (v := .tuple #[.agg #[.int .i64 0, .int .i64 0, .int .i64 0, .int .i64 0, .int .i64 0, .int .i64 0], .int .i64 3]) (by simp [results, Tryd.results11, go_sem, r0, r1, r2, r3, r4, r5]) rfl ⟨rfl, ?_⟩
    have g2 : w.heap.size ≤ w.heap.size + 1 + 1 := Nat.le_trans (Nat.le_succ _) (Nat.le_succ _)
    exact br_set B g2
  go_wp2_with fail
  refine (place_ok 0 1 1 (by simp [At9]) _).mono ?_
  rintro e v1 ⟨rfl, hb⟩
  replace h := rj_keep h hb
  clear hb
  obtain ⟨M2, hM2⟩ : ∃ M : Nat → Int, M = umk M1 1 x1 := ⟨_, rfl⟩
  have KK := Lib.hid (rj_put (x := x1) h (show 1 < 6 by decide))
  rw [← hM2] at KK
  replace hM2 := Lib.hid hM2
  have N := sc_six h.n
  have NF := sf_six h.nf
  clear h
  go_wp2
  clear N NF
  generalize v1.setCell ⟨Q, 1, none⟩ (.int .i64 x1) = u2 at *
  have h := KK.out
  clear KK
  rw [rounds_succ]
  have S := sc_six h.s
  have K := h.k
  go_wp2_with fail
  refine (c2 _).mono ?_
  clear c2 S K
  rintro e y2 ⟨rfl, hb⟩
  replace h := rj_keep h hb
  clear hb
  rcases q2 with rfl | rfl
  rotate_left
  · obtain ⟨rfl, rfl, rfl, rfl, rfl, rfl, rfl⟩ := hy.out.2 (by simp)
    have R := sc_six h.r
    have RF := sf_six h.rf
    have B := h.b
    clear h hy
    go_wp2
    obtain ⟨r0, r1, r2, r3, r4, r5⟩ := R
    refine bodyPost_ret (v := .tuple #[.agg #[.int .i64 0, .int .i64 0, .int .i64 0, .int .i64 0, .int .i64 0, .int .i64 0], .int .i64 3]) (by simp [results, Tryd.results11, go_sem, r0, r1, r2, r3, r4, r5]) rfl ⟨rfl, ?_⟩
    have g2 : w.heap.size ≤ w.heap.size + 1 + 1 := Nat.le_trans (Nat.le_succ _) (Nat.le_succ _)
    exact br_set B g2
  go_wp2_with fail
  refine (place_ok 0 2 2 (by simp [At9]) _).mono ?_
  rintro e v2 ⟨rfl, hb⟩
  replace h := rj_keep h hb
  clear hb
  obtain ⟨M3, hM3⟩ : ∃ M : Nat → Int, M = umk M2 2 x2 := ⟨_, rfl⟩
  have KK := Lib.hid (rj_put (x := x2) h (show 2 < 6 by decide))
  rw [← hM3] at KK
  replace hM3 := Lib.hid hM3
  have N := sc_six h.n
  have NF := sf_six h.nf
  clear h
  go_wp2
  clear N NF
  generalize v2.setCell ⟨Q, 2, none⟩ (.int .i64 x2) = u3 at *
  have h := KK.out
  clear KK
  rw [rounds_succ]
  go_wp2
  rw [rounds_succ]
  go_wp2
  refine wp_loop_rounds 3 ?_
  rw [rounds_succ]
  have S := sc_six h.s
  have K := h.k
  go_wp2_with fail
  refine (c3 _).mono ?_
  clear c3 S K
  rintro e y3 ⟨rfl, hb⟩
  replace h := rj_keep h hb
  clear hb
  rcases q3 with rfl | rfl
  rotate_left
  · obtain ⟨rfl, rfl, rfl, rfl, rfl, rfl, rfl⟩ := hy.out.2 (by simp)
    have R := sc_six h.r
    have RF := sf_six h.rf
    have B := h.b
    clear h hy
    go_wp2
    obtain ⟨r0, r1, r2, r3, r4, r5⟩ := R
    refine bodyPost_ret (v := .tuple #[.agg #[.int .i64 0, .int .i64 0, .int .i64 0, .int .i64 0, .int .i64 0, .int .i64 0], .int .i64 3]) (by simp [results, Tryd.results11, go_sem, r0, r1, r2, r3, r4, r5]) rfl ⟨rfl, ?_⟩
    have g2 : w.heap.size ≤ w.heap.size + 1 + 1 := Nat.le_trans (Nat.le_succ _) (Nat.le_succ _)
    exact br_set B g2
  go_wp2_with fail
  refine (place_ok 1 1 3 (by simp [At9]) _).mono ?_
  rintro e v3 ⟨rfl, hb⟩
  replace h := rj_keep h hb
  clear hb
  obtain ⟨M4, hM4⟩ : ∃ M : Nat → Int, M = umk M3 3 x3 := ⟨_, rfl⟩
  have KK := Lib.hid (rj_put (x := x3) h (show 3 < 6 by decide))
  rw [← hM4] at KK
  replace hM4 := Lib.hid hM4
  have N := sc_six h.n
  have NF := sf_six h.nf
  clear h
  go_wp2
  clear N NF
  generalize v3.setCell ⟨Q, 3, none⟩ (.int .i64 x3) = u4 at *
  have h := KK.out
  clear KK
  rw [rounds_succ]
  have S := sc_six h.s
  have K := h.k
  go_wp2_with fail
  refine (c4 _).mono ?_
  clear c4 S K
  rintro e y4 ⟨rfl, hb⟩
  replace h := rj_keep h hb
  clear hb
  rcases q4 with rfl | rfl
  rotate_left
  · obtain ⟨rfl, rfl, rfl, rfl, rfl, rfl, rfl⟩ := hy.out.2 (by simp)
    have R := sc_six h.r
    have RF := sf_six h.rf
    have B := h.b
    clear h hy
    go_wp2
    obtain ⟨r0, r1, r2, r3, r4, r5⟩ := R
    refine bodyPost_ret (v := .tuple #[.agg #[.int .i64 0, .int .i64 0, .int .i64 0, .int .i64 0, .int .i64 0, .int .i64 0], .int .i64 3]) (by simp [results, Tryd.results11, go_sem, r0, r1, r2, r3, r4, r5]) rfl ⟨rfl, ?_⟩
    have g2 : w.heap.size ≤ w.heap.size + 1 + 1 := Nat.le_trans (Nat.le_succ _) (Nat.le_succ _)
    exact br_set B g2
  go_wp2_with fail
  refine (place_ok 1 2 4 (by simp [At9]) _).mono ?_
  rintro e v4 ⟨rfl, hb⟩
  replace h := rj_keep h hb
  clear hb
  obtain ⟨M5, hM5⟩ : ∃ M : Nat → Int, M = umk M4 4 x4 := ⟨_, rfl⟩
  have KK := Lib.hid (rj_put (x := x4) h (show 4 < 6 by decide))
  rw [← hM5] at KK
  replace hM5 := Lib.hid hM5
  have N := sc_six h.n
  have NF := sf_six h.nf
  clear h
  go_wp2
  clear N NF
  generalize v4.setCell ⟨Q, 4, none⟩ (.int .i64 x4) = u5 at *
  have h := KK.out
  clear KK
  rw [rounds_succ]
  go_wp2
  rw [rounds_succ]
  go_wp2
  refine wp_loop_rounds 2 ?_
  rw [rounds_succ]
  have S := sc_six h.s
  have K := h.k
  go_wp2_with fail
  refine (c5 _).mono ?_
  clear c5 S K
  rintro e y5 ⟨rfl, hb⟩
  replace h := rj_keep h hb
  clear hb
  rcases q5 with rfl | rfl
  rotate_left
  · obtain ⟨rfl, rfl, rfl, rfl, rfl, rfl, rfl⟩ := hy.out.2 (by simp)
    have R := sc_six h.r
    have RF := sf_six h.rf
    have B := h.b
    clear h hy
    go_wp2
    obtain ⟨r0, r1, r2, r3, r4, r5⟩ := R
    refine bodyPost_ret (v := .tuple #[.agg #[.int .i64 0, .int .i64 0, .int .i64 0, .int .i64 0, .int .i64 0, .int .i64 0], .int .i64 3]) (by simp [results, Tryd.results11, go_sem, r0, r1, r2, r3, r4, r5]) rfl ⟨rfl, ?_⟩
    have g2 : w.heap.size ≤ w.heap.size + 1 + 1 := Nat.le_trans (Nat.le_succ _) (Nat.le_succ _)
    exact br_set B g2
  go_wp2_with fail
  refine (place_ok 2 2 5 (by simp [At9]) _).mono ?_
  rintro e v5 ⟨rfl, hb⟩
  replace h := rj_keep h hb
  clear hb
  obtain ⟨M6, hM6⟩ : ∃ M : Nat → Int, M = umk M5 5 x5 := ⟨_, rfl⟩
  have KK := Lib.hid (rj_put (x := x5) h (show 5 < 6 by decide))
  rw [← hM6] at KK
  replace hM6 := Lib.hid hM6
  have N := sc_six h.n
  have NF := sf_six h.nf
  clear h
  go_wp2
  clear N NF
  generalize v5.setCell ⟨Q, 5, none⟩ (.int .i64 x5) = u6 at *
  have h := KK.out
  clear KK
  rw [rounds_succ]
  go_wp2
  rw [rounds_succ]
  obtain ⟨rfl, rfl, rfl, rfl, rfl, rfl, rfl⟩ := hy.out.1 (by simp)
  clear hy
  have E : sv M6 = .agg #[.int .i64 z0, .int .i64 z1, .int .i64 z2, .int .i64 z3, .int .i64 z4, .int .i64 z5] := by
    have e0 := hM0.out
    have e1 := hM1.out
    have e2 := hM2.out
    have e3 := hM3.out
    have e4 := hM4.out
    have e5 := hM5.out
    have e6 := hM6.out
    subst e0 e1 e2 e3 e4 e5 e6
    rfl
  clear hM0 hM1 hM2 hM3 hM4 hM5 hM6
  have E' := Lib.hid E
  clear E
  have N := sc_six h.n
  have R := sc_six h.r
  have RF := sf_six h.rf
  have B := h.b
  clear h
  go_wp2
  obtain ⟨r0, r1, r2, r3, r4, r5⟩ := R
  refine bodyPost_ret (v := .tuple #[sv M6, .int .i64 0]) (by simp [results, Tryd.results11, go_sem, r0, r1, r2, r3, r4, r5]) rfl ⟨by rw [E'.out], ?_⟩
  have g2 : w.heap.size ≤ w.heap.size + 1 + 1 := Nat.le_trans (Nat.le_succ _) (Nat.le_succ _)
  exact br_set B g2

end Go.Proofs.YtplhienacfiiaaaDoor
