/- Rows: Dot of the program. -/
import Derived.Test.YtokjljmamiipbaaVecE
import Derived.Test.YtokjljmamiipbaaLate
import Derived.Test.YtokjljmamiipbaaWideB
namespace Go.Proofs.Ytokjljmamiipbaa
open Go.RowKit Go.Shelf

/-- A call's two rows, which stay, and its sum, which is written. -/
structure DS (w : World) (A B S : Nat) (a0 a1 a2 b0 b1 b2 h l : Int) (U : World) : Prop where
  b : Below w.heap.size w U
  ka : TC U A a0 a1 a2
  kb : TC U B b0 b1 b2
  ks : WC U S h l
  fs : WF U S
theorem ds_keep {w U U' : World} {A B S : Nat} {a0 a1 a2 b0 b1 b2 h l : Int} (s : DS w A B S a0 a1 a2 b0 b1 b2 h l U) (hb : Below U.heap.size U U') : DS w A B S a0 a1 a2 b0 b1 b2 h l U' :=
  ⟨b_trans s.b hb, tc_keep hb s.ka, tc_keep hb s.kb, wc_keep hb s.ks, wf_keep hb s.ks s.fs⟩
theorem ds_put {w U : World} {A B S : Nat} {a0 a1 a2 b0 b1 b2 h l h' l' : Int} (s : DS w A B S a0 a1 a2 b0 b1 b2 h l U) (nA : S ≠ A) (nB : S ≠ B) (k : w.heap.size ≤ S) :
    DS w A B S a0 a1 a2 b0 b1 b2 h' l' ((U.setCell ⟨S, 0, none⟩ (.int .i64 h')).setCell ⟨S, 1, none⟩ (.int .u64 l')) :=
  ⟨b_set (b_set s.b k) k, tc_set (tc_set s.ka nA) nA, tc_set (tc_set s.kb nB) nB, wc_mine s.ks, wf_set (wf_set s.fs)⟩

theorem dot_bd {a0 a1 a2 b0 b1 b2 : Int} (ha : F3 a0 a1 a2) (hb : F3 b0 b1 b2) : Fits (0 + a0 * b0) ∧ Fits (0 + a0 * b0 + a1 * b1) ∧ Fits (0 + a0 * b0 + a1 * b1 + a2 * b2) := by
  have h0 := mul_bd ha.1 hb.1
  have h1 := mul_bd ha.2.1 hb.2.1
  have h2 := mul_bd ha.2.2 hb.2.2
  exact ⟨⟨by omega, by omega⟩, ⟨by omega, by omega⟩, ⟨by omega, by omega⟩⟩
theorem evn_of {a : Int} (h : Fits a) : Fits (evn a 1099511627776) := by
  have := evn_near a 1099511627776
  have h0 := h.lo
  have h1 := h.hi
  exact ⟨by omega, by omega⟩

set_option maxHeartbeats 1000000 in
theorem dot_vec_bad (a0 a1 a2 b0 b1 b2 : Int) (ha0 : I64 a0) (ha1 : I64 a1) (ha2 : I64 a2) (hb0 : I64 b0) (hb1 : I64 b1) (hb2 : I64 b2) (c : ¬ (F3 a0 a1 a2 ∧ F3 b0 b1 b2)) (w : World) :
    Calls Try.prog 16 #[tv a0 a1 a2, tv b0 b1 b2] w (RetV (.tuple #[.int .i64 0, .int .i64 1]) w) := by
  by_cases ca : F3 a0 a1 a2
  · have ea := Lib.hid (f3b_yes ca)
    have eb := Lib.hid (f3b_no (fun h => c ⟨ca, h⟩))
    clear ca c
    have kA : TC ((w.alloc (Obj.cells #[.int .i64 a0, .int .i64 a1, .int .i64 a2] 23)).alloc (Obj.cells #[.int .i64 b0, .int .i64 b1, .int .i64 b2] 23)) (w.heap.size) a0 a1 a2 := tc_alloc (tc_new rfl)
    have kB : TC ((w.alloc (Obj.cells #[.int .i64 a0, .int .i64 a1, .int .i64 a2] 23)).alloc (Obj.cells #[.int .i64 b0, .int .i64 b1, .int .i64 b2] 23)) (w.heap.size + 1) b0 b1 b2 := tc_new (by simp)
    have B0 : Below w.heap.size w ((w.alloc (Obj.cells #[.int .i64 a0, .int .i64 a1, .int .i64 a2] 23)).alloc (Obj.cells #[.int .i64 b0, .int .i64 b1, .int .i64 b2] 23)) := b_alloc (b_alloc (Below.refl _ _))
    go_enter Try.func16, Try.ntmps16
    go_wp2_with fail
    refine (fits3_vec a0 a1 a2 ha0 ha1 ha2 _).mono ?_
    rintro e1 w1 ⟨rfl, hb9⟩
    rw [ea.out]
    replace kA := tc_keep hb9 kA
    replace kB := tc_keep hb9 kB
    replace B0 := b_trans B0 hb9
    clear hb9
    go_wp2_with fail
    refine (fits3_vec b0 b1 b2 hb0 hb1 hb2 _).mono ?_
    rintro e2 w2 ⟨rfl, hb9⟩
    rw [eb.out]
    replace kA := tc_keep hb9 kA
    replace kB := tc_keep hb9 kB
    replace B0 := b_trans B0 hb9
    clear hb9
    clear kA kB
    go_wp2
    go_ret2
    exact ⟨rfl, B0⟩
  · have ea := Lib.hid (f3b_no ca)
    clear ca c
    have kA : TC ((w.alloc (Obj.cells #[.int .i64 a0, .int .i64 a1, .int .i64 a2] 23)).alloc (Obj.cells #[.int .i64 b0, .int .i64 b1, .int .i64 b2] 23)) (w.heap.size) a0 a1 a2 := tc_alloc (tc_new rfl)
    have kB : TC ((w.alloc (Obj.cells #[.int .i64 a0, .int .i64 a1, .int .i64 a2] 23)).alloc (Obj.cells #[.int .i64 b0, .int .i64 b1, .int .i64 b2] 23)) (w.heap.size + 1) b0 b1 b2 := tc_new (by simp)
    have B0 : Below w.heap.size w ((w.alloc (Obj.cells #[.int .i64 a0, .int .i64 a1, .int .i64 a2] 23)).alloc (Obj.cells #[.int .i64 b0, .int .i64 b1, .int .i64 b2] 23)) := b_alloc (b_alloc (Below.refl _ _))
    go_enter Try.func16, Try.ntmps16
    go_wp2_with fail
    refine (fits3_vec a0 a1 a2 ha0 ha1 ha2 _).mono ?_
    rintro e1 w1 ⟨rfl, hb9⟩
    rw [ea.out]
    replace kA := tc_keep hb9 kA
    replace kB := tc_keep hb9 kB
    replace B0 := b_trans B0 hb9
    clear hb9
    clear kA kB
    go_wp2
    go_ret2
    exact ⟨rfl, B0⟩

set_option maxHeartbeats 4000000 in
theorem dot_vec_go (a0 a1 a2 b0 b1 b2 h1 l1 h2 l2 h3 l3 mh0 ml0 mh1 ml1 mh2 ml2 hz lz z : Int) (ha0 : I64 a0) (ha1 : I64 a1) (ha2 : I64 a2) (hb0 : I64 b0) (hb1 : I64 b1) (hb2 : I64 b2) (ca : F3 a0 a1 a2) (cb : F3 b0 b1 b2)
    (o0 : ∀ w, Calls Try.prog 30 #[.int .i64 0] w (RetV (wv 0 0) w))
    (m0 : ∀ w, Calls Try.prog 32 #[.int .i64 a0, .int .i64 b0] w (RetV (wv mh0 ml0) w))
    (p0 : ∀ w, Calls Try.prog 31 #[wv 0 0, wv mh0 ml0] w (RetV (.tuple #[wv h1 l1, .int .i64 0]) w))
    (m1 : ∀ w, Calls Try.prog 32 #[.int .i64 a1, .int .i64 b1] w (RetV (wv mh1 ml1) w))
    (p1 : ∀ w, Calls Try.prog 31 #[wv h1 l1, wv mh1 ml1] w (RetV (.tuple #[wv h2 l2, .int .i64 0]) w))
    (m2 : ∀ w, Calls Try.prog 32 #[.int .i64 a2, .int .i64 b2] w (RetV (wv mh2 ml2) w))
    (p2 : ∀ w, Calls Try.prog 31 #[wv h2 l2, wv mh2 ml2] w (RetV (.tuple #[wv h3 l3, .int .i64 0]) w))
    (hF : ∀ w, Calls Try.prog 33 #[wv h3 l3, .int .i64 40] w (RetV (.tuple #[wv hz lz, .int .i64 0]) w))
    (hI : ∀ w, Calls Try.prog 34 #[wv hz lz] w (RetV (.tuple #[.int .i64 (iz z), .int .i64 (ie z)]) w)) (w : World) :
    Calls Try.prog 16 #[tv a0 a1 a2, tv b0 b1 b2] w (RetV (.tuple #[.int .i64 (nz z), .int .i64 (ne z)]) w) := by
  have ea := Lib.hid (f3b_yes ca)
  have eb := Lib.hid (f3b_yes cb)
  clear ca cb
  have kA : TC ((w.alloc (Obj.cells #[.int .i64 a0, .int .i64 a1, .int .i64 a2] 23)).alloc (Obj.cells #[.int .i64 b0, .int .i64 b1, .int .i64 b2] 23)) (w.heap.size) a0 a1 a2 := tc_alloc (tc_new rfl)
  have kB : TC ((w.alloc (Obj.cells #[.int .i64 a0, .int .i64 a1, .int .i64 a2] 23)).alloc (Obj.cells #[.int .i64 b0, .int .i64 b1, .int .i64 b2] 23)) (w.heap.size + 1) b0 b1 b2 := tc_new (by simp)
  have B0 : Below w.heap.size w ((w.alloc (Obj.cells #[.int .i64 a0, .int .i64 a1, .int .i64 a2] 23)).alloc (Obj.cells #[.int .i64 b0, .int .i64 b1, .int .i64 b2] 23)) := b_alloc (b_alloc (Below.refl _ _))
  go_enter Try.func16, Try.ntmps16
  go_wp2_with fail
  refine (fits3_vec a0 a1 a2 ha0 ha1 ha2 _).mono ?_
  rintro e1 w1 ⟨rfl, hb9⟩
  rw [ea.out]
  replace kA := tc_keep hb9 kA
  replace kB := tc_keep hb9 kB
  replace B0 := b_trans B0 hb9
  clear hb9
  go_wp2_with fail
  refine (fits3_vec b0 b1 b2 hb0 hb1 hb2 _).mono ?_
  rintro e2 w2 ⟨rfl, hb9⟩
  rw [eb.out]
  replace kA := tc_keep hb9 kA
  replace kB := tc_keep hb9 kB
  replace B0 := b_trans B0 hb9
  clear hb9
  clear ha0 ha1 ha2 hb0 hb1 hb2
  go_wp2_with fail
  refine (o0 _).mono ?_
  rintro e3 w3 ⟨rfl, hb9⟩
  replace kA := tc_keep hb9 kA
  replace kB := tc_keep hb9 kB
  replace B0 := b_trans B0 hb9
  clear hb9 o0
  have hz := B0.size
  have kS : w.heap.size ≤ w3.heap.size := hz
  have lB := tc_lt kB
  have nA : w3.heap.size ≠ w.heap.size := by omega
  have nB : w3.heap.size ≠ w.heap.size + 1 := by omega
  have s0 : DS w (w.heap.size) (w.heap.size + 1) w3.heap.size a0 a1 a2 b0 b1 b2 0 0 (w3.alloc (Obj.cells #[.int .i64 0, .int .u64 0] 50)) := ⟨b_alloc B0, tc_alloc kA, tc_alloc kB, by simp [WC, go_sem], by simp [WF, go_sem]⟩
  clear kA kB B0 hz lB
  go_wp2
  generalize w3.alloc (Obj.cells #[.int .i64 0, .int .u64 0] 50) = u0 at *
  generalize w3.heap.size = S at *
  refine wp_loop_rounds 4 ?_
  rw [rounds_succ]
  go_wp2
  refine region_late_k [25, 26, 27, 28, 29, 30, 31, 32, 33, 24, 34, 35] 11 (fun i => match i with | 0 => wv 0 0 | 1 => .int .i64 0 | 2 => .pointer (some ⟨w.heap.size, 0, none⟩) | 3 => .int .i64 a0 | 4 => .int .i64 0 | 5 => .pointer (some ⟨w.heap.size + 1, 0, none⟩) | 6 => .int .i64 b0 | 7 => wv mh0 ml0 | 8 => .tuple #[wv h1 l1, .int .i64 0] | 9 => .tuple #[wv h1 l1, .int .i64 0] | 10 => wv h1 l1 | 11 => .int .i64 0 | _ => undef) (fun f => f) (fun U_ => DS w (w.heap.size) (w.heap.size + 1) S a0 a1 a2 b0 b1 b2 h1 l1 U_) (fun i X_ U_ => match i with | 0 => X_ = wv 0 0 | 1 => X_ = .int .i64 0 | 2 => X_ = .pointer (some ⟨w.heap.size, 0, none⟩) | 3 => X_ = .int .i64 a0 | 4 => X_ = .int .i64 0 | 5 => X_ = .pointer (some ⟨w.heap.size + 1, 0, none⟩) | 6 => X_ = .int .i64 b0 | 7 => X_ = wv mh0 ml0 | 8 => X_ = .tuple #[wv h1 l1, .int .i64 0] | 9 => X_ = .tuple #[wv h1 l1, .int .i64 0] | 10 => X_ = wv h1 l1 | 11 => X_ = .int .i64 0 | _ => True) (fun i => false) (by kernel_rfl) (by kernel_rfl) (by kernel_rfl) (by kernel_rfl) ?_ ?_ ?_ ?_ ?_ ?_
  · intro i x w w' hi h hb
    match i, hi with
    | 0, _ => exact h
    | 1, _ => exact h
    | 2, _ => exact h
    | 3, _ => exact h
    | 4, _ => exact h
    | 5, _ => exact h
    | 6, _ => exact h
    | 7, _ => exact h
    | 8, _ => exact h
    | 9, _ => exact h
    | 10, _ => exact h
    | 11, _ => exact h
    | k + 12, hk => exact absurd hk (by simp)
  · intro i x w hi ha h
    cases ha
  · intro i hi v f w' hb hv hB hd
    match i, hi with
    | 0, _ =>
      have b6 : f.tmps[6]? = some (.pointer (some ⟨S, 0, none⟩)) := (hb 6 (by decide)).trans rfl
      clear hb hv hd
      have c := wc_keep hB s0.ks
      refine wpOp_step rfl (fun K hK => ?_)
      go_simp
      exact hK _ _ ⟨_, rfl, Below.refl _ _, rfl, fun h => absurd h (by decide)⟩
    | 1, _ =>
      have b7 : f.tmps[7]? = some (.int .i64 0) := (hb 7 (by decide)).trans rfl
      clear hb hv hd
      refine wpOp_step rfl (fun K hK => ?_)
      go_simp
      exact hK _ _ ⟨_, rfl, Below.refl _ _, rfl, fun h => absurd h (by decide)⟩
    | 2, _ =>
      have b2 : f.tmps[2]? = some (.pointer (some ⟨w.heap.size, 0, none⟩)) := (hb 2 (by decide)).trans rfl
      have h1 : (v 1) = .int .i64 0 := hd 1 (by kernel_rfl)
      have d1 : f.tmps[26]? = some (.int .i64 0) := (hv 1 26 rfl).trans (congrArg some h1)
      clear h1
      clear hb hv hd
      refine wpOp_step rfl (fun K hK => ?_)
      go_simp
      exact hK _ _ ⟨_, rfl, Below.refl _ _, rfl, fun h => absurd h (by decide)⟩
    | 3, _ =>
      have h2 : (v 2) = .pointer (some ⟨w.heap.size, 0, none⟩) := hd 2 (by kernel_rfl)
      have d2 : f.tmps[27]? = some (.pointer (some ⟨w.heap.size, 0, none⟩)) := (hv 2 27 rfl).trans (congrArg some h2)
      clear h2
      clear hb hv hd
      have c := tc_keep hB s0.ka
      refine wpOp_step rfl (fun K hK => ?_)
      go_simp
      exact hK _ _ ⟨_, rfl, Below.refl _ _, rfl, fun h => absurd h (by decide)⟩
    | 4, _ =>
      have b7 : f.tmps[7]? = some (.int .i64 0) := (hb 7 (by decide)).trans rfl
      clear hb hv hd
      refine wpOp_step rfl (fun K hK => ?_)
      go_simp
      exact hK _ _ ⟨_, rfl, Below.refl _ _, rfl, fun h => absurd h (by decide)⟩
    | 5, _ =>
      have b3 : f.tmps[3]? = some (.pointer (some ⟨w.heap.size + 1, 0, none⟩)) := (hb 3 (by decide)).trans rfl
      have h4 : (v 4) = .int .i64 0 := hd 4 (by kernel_rfl)
      have d4 : f.tmps[29]? = some (.int .i64 0) := (hv 4 29 rfl).trans (congrArg some h4)
      clear h4
      clear hb hv hd
      refine wpOp_step rfl (fun K hK => ?_)
      go_simp
      exact hK _ _ ⟨_, rfl, Below.refl _ _, rfl, fun h => absurd h (by decide)⟩
    | 6, _ =>
      have h5 : (v 5) = .pointer (some ⟨w.heap.size + 1, 0, none⟩) := hd 5 (by kernel_rfl)
      have d5 : f.tmps[30]? = some (.pointer (some ⟨w.heap.size + 1, 0, none⟩)) := (hv 5 30 rfl).trans (congrArg some h5)
      clear h5
      clear hb hv hd
      have c := tc_keep hB s0.kb
      refine wpOp_step rfl (fun K hK => ?_)
      go_simp
      exact hK _ _ ⟨_, rfl, Below.refl _ _, rfl, fun h => absurd h (by decide)⟩
    | 7, _ =>
      have h3 : (v 3) = .int .i64 a0 := hd 3 (by kernel_rfl)
      have d3 : f.tmps[28]? = some (.int .i64 a0) := (hv 3 28 rfl).trans (congrArg some h3)
      clear h3
      have h6 : (v 6) = .int .i64 b0 := hd 6 (by kernel_rfl)
      have d6 : f.tmps[31]? = some (.int .i64 b0) := (hv 6 31 rfl).trans (congrArg some h6)
      clear h6
      clear hb hv hd
      refine wpOp_step rfl (fun K hK => ?_)
      go_simp
      refine (m0 _).mono ?_
      rintro e5 w5 ⟨rfl, hb5⟩
      exact hK _ _ ⟨_, rfl, hb5, rfl, fun h => absurd h (by decide)⟩
    | 8, _ =>
      have h0 : (v 0) = wv 0 0 := hd 0 (by kernel_rfl)
      have d0 : f.tmps[25]? = some (wv 0 0) := (hv 0 25 rfl).trans (congrArg some h0)
      clear h0
      have h7 : (v 7) = wv mh0 ml0 := hd 7 (by kernel_rfl)
      have d7 : f.tmps[32]? = some (wv mh0 ml0) := (hv 7 32 rfl).trans (congrArg some h7)
      clear h7
      clear hb hv hd
      refine wpOp_step rfl (fun K hK => ?_)
      go_simp
      refine (p0 _).mono ?_
      rintro e5 w5 ⟨rfl, hb5⟩
      exact hK _ _ ⟨_, rfl, hb5, rfl, fun h => absurd h (by decide)⟩
    | 9, _ =>
      have h8 : (v 8) = .tuple #[wv h1 l1, .int .i64 0] := hd 8 (by kernel_rfl)
      have d8 : f.tmps[33]? = some (.tuple #[wv h1 l1, .int .i64 0]) := (hv 8 33 rfl).trans (congrArg some h8)
      clear h8
      clear hb hv hd
      refine wpOp_step rfl (fun K hK => ?_)
      go_simp
      exact hK _ _ ⟨_, rfl, Below.refl _ _, rfl, fun h => absurd h (by decide)⟩
    | 10, _ =>
      have h9 : (v 9) = .tuple #[wv h1 l1, .int .i64 0] := hd 9 (by kernel_rfl)
      have d9 : f.tmps[24]? = some (.tuple #[wv h1 l1, .int .i64 0]) := (hv 9 24 rfl).trans (congrArg some h9)
      clear h9
      clear hb hv hd
      refine wpOp_step rfl (fun K hK => ?_)
      go_simp
      exact hK _ _ ⟨_, rfl, Below.refl _ _, rfl, fun h => absurd h (by decide)⟩
    | 11, _ =>
      have h9 : (v 9) = .tuple #[wv h1 l1, .int .i64 0] := hd 9 (by kernel_rfl)
      have d9 : f.tmps[24]? = some (.tuple #[wv h1 l1, .int .i64 0]) := (hv 9 24 rfl).trans (congrArg some h9)
      clear h9
      clear hb hv hd
      refine wpOp_step rfl (fun K hK => ?_)
      go_simp
      exact hK _ _ ⟨_, rfl, Below.refl _ _, rfl, fun h => absurd h (by decide)⟩
    | k + 12, hk => exact absurd hk (by simp)
  · intro v w' hB hF hD
    have F0 : (v 0) = wv 0 0 := hF 0 (by simp)
    have F1 : (v 1) = .int .i64 0 := hF 1 (by simp)
    have F2 : (v 2) = .pointer (some ⟨w.heap.size, 0, none⟩) := hF 2 (by simp)
    have F3 : (v 3) = .int .i64 a0 := hF 3 (by simp)
    have F4 : (v 4) = .int .i64 0 := hF 4 (by simp)
    have F5 : (v 5) = .pointer (some ⟨w.heap.size + 1, 0, none⟩) := hF 5 (by simp)
    have F6 : (v 6) = .int .i64 b0 := hF 6 (by simp)
    have F7 : (v 7) = wv mh0 ml0 := hF 7 (by simp)
    have F8 : (v 8) = .tuple #[wv h1 l1, .int .i64 0] := hF 8 (by simp)
    have F9 : (v 9) = .tuple #[wv h1 l1, .int .i64 0] := hF 9 (by simp)
    have F10 : (v 10) = wv h1 l1 := hF 10 (by simp)
    have F11 : (v 11) = .int .i64 0 := hF 11 (by simp)
    clear hF
    simp only [frOf, frGo, Nat.zero_add, Nat.reduceAdd, F0, F1, F2, F3, F4, F5, F6, F7, F8, F9, F10, F11]
    have sN := ds_put (h' := h1) (l' := l1) (ds_keep s0 hB) nA nB kS
    have c := wc_keep hB s0.ks
    have cf := wf_keep hB s0.ks s0.fs
    clear F0 F1 F2 F3 F4 F5 F6 F7 F8 F9 F10 F11 hD s0 hB
    go_wp2
  · intro v w' hB hF hD
    have F0 : (v 0) = wv 0 0 := hF 0 (by simp) (by decide)
    have F1 : (v 1) = .int .i64 0 := hF 1 (by simp) (by decide)
    have F2 : (v 2) = .pointer (some ⟨w.heap.size, 0, none⟩) := hF 2 (by simp) (by decide)
    have F3 : (v 3) = .int .i64 a0 := hF 3 (by simp) (by decide)
    have F4 : (v 4) = .int .i64 0 := hF 4 (by simp) (by decide)
    have F5 : (v 5) = .pointer (some ⟨w.heap.size + 1, 0, none⟩) := hF 5 (by simp) (by decide)
    have F6 : (v 6) = .int .i64 b0 := hF 6 (by simp) (by decide)
    have F7 : (v 7) = wv mh0 ml0 := hF 7 (by simp) (by decide)
    have F8 : (v 8) = .tuple #[wv h1 l1, .int .i64 0] := hF 8 (by simp) (by decide)
    have F9 : (v 9) = .tuple #[wv h1 l1, .int .i64 0] := hF 9 (by simp) (by decide)
    have F10 : (v 10) = wv h1 l1 := hF 10 (by simp) (by decide)
    clear hF
    simp only [frOf, frGo, Nat.zero_add, Nat.reduceAdd, F0, F1, F2, F3, F4, F5, F6, F7, F8, F9, F10]
    have sN := ds_put (h' := h1) (l' := l1) (ds_keep s0 hB) nA nB kS
    have c := wc_keep hB s0.ks
    have cf := wf_keep hB s0.ks s0.fs
    clear F0 F1 F2 F3 F4 F5 F6 F7 F8 F9 F10 hD s0 hB
    refine wpOp_step rfl (fun K hK => ?_)
    go_simp
    refine hK _ _ ?_
    clear hK K
    refine wpOp_step rfl (fun K hK => ?_)
    go_simp
    refine hK _ _ ?_
    clear hK K
    rw [List.drop_eq_nil_of_le (by simp)]
    have fin9 : ∀ {Q : Exit → Act → World → Prop} {ops : Array Oper} {a : Act} {w : World}, Q Exit.normal a w → wpList Try.prog ops Q [] a w := fun h => h
    refine fin9 ?_
    clear fin9
    refine ⟨rfl, by simp [Act.put], sN⟩
  · intro w' hst
    simp only [frOf, frGo, Nat.zero_add, Nat.reduceAdd]
    clear s0 m0 p0
    have s0 := hst
    clear hst
    go_wp2
    rw [rounds_succ]
    go_wp2
    refine region_late_k [25, 26, 27, 28, 29, 30, 31, 32, 33, 24, 34, 35] 11 (fun i => match i with | 0 => wv h1 l1 | 1 => .int .i64 1 | 2 => .pointer (some ⟨w.heap.size, 1, none⟩) | 3 => .int .i64 a1 | 4 => .int .i64 1 | 5 => .pointer (some ⟨w.heap.size + 1, 1, none⟩) | 6 => .int .i64 b1 | 7 => wv mh1 ml1 | 8 => .tuple #[wv h2 l2, .int .i64 0] | 9 => .tuple #[wv h2 l2, .int .i64 0] | 10 => wv h2 l2 | 11 => .int .i64 0 | _ => undef) (fun f => f) (fun U_ => DS w (w.heap.size) (w.heap.size + 1) S a0 a1 a2 b0 b1 b2 h2 l2 U_) (fun i X_ U_ => match i with | 0 => X_ = wv h1 l1 | 1 => X_ = .int .i64 1 | 2 => X_ = .pointer (some ⟨w.heap.size, 1, none⟩) | 3 => X_ = .int .i64 a1 | 4 => X_ = .int .i64 1 | 5 => X_ = .pointer (some ⟨w.heap.size + 1, 1, none⟩) | 6 => X_ = .int .i64 b1 | 7 => X_ = wv mh1 ml1 | 8 => X_ = .tuple #[wv h2 l2, .int .i64 0] | 9 => X_ = .tuple #[wv h2 l2, .int .i64 0] | 10 => X_ = wv h2 l2 | 11 => X_ = .int .i64 0 | _ => True) (fun i => false) (by kernel_rfl) (by kernel_rfl) (by kernel_rfl) (by kernel_rfl) ?_ ?_ ?_ ?_ ?_ ?_
    · intro i x w w' hi h hb
      match i, hi with
      | 0, _ => exact h
      | 1, _ => exact h
      | 2, _ => exact h
      | 3, _ => exact h
      | 4, _ => exact h
      | 5, _ => exact h
      | 6, _ => exact h
      | 7, _ => exact h
      | 8, _ => exact h
      | 9, _ => exact h
      | 10, _ => exact h
      | 11, _ => exact h
      | k + 12, hk => exact absurd hk (by simp)
    · intro i x w hi ha h
      cases ha
    · intro i hi v f w' hb hv hB hd
      match i, hi with
      | 0, _ =>
        have b6 : f.tmps[6]? = some (.pointer (some ⟨S, 0, none⟩)) := (hb 6 (by decide)).trans rfl
        clear hb hv hd
        have c := wc_keep hB s0.ks
        refine wpOp_step rfl (fun K hK => ?_)
        go_simp
        exact hK _ _ ⟨_, rfl, Below.refl _ _, rfl, fun h => absurd h (by decide)⟩
      | 1, _ =>
        have b7 : f.tmps[7]? = some (.int .i64 1) := (hb 7 (by decide)).trans rfl
        clear hb hv hd
        refine wpOp_step rfl (fun K hK => ?_)
        go_simp
        exact hK _ _ ⟨_, rfl, Below.refl _ _, rfl, fun h => absurd h (by decide)⟩
      | 2, _ =>
        have b2 : f.tmps[2]? = some (.pointer (some ⟨w.heap.size, 0, none⟩)) := (hb 2 (by decide)).trans rfl
        have h1 : (v 1) = .int .i64 1 := hd 1 (by kernel_rfl)
        have d1 : f.tmps[26]? = some (.int .i64 1) := (hv 1 26 rfl).trans (congrArg some h1)
        clear h1
        clear hb hv hd
        refine wpOp_step rfl (fun K hK => ?_)
        go_simp
        exact hK _ _ ⟨_, rfl, Below.refl _ _, rfl, fun h => absurd h (by decide)⟩
      | 3, _ =>
        have h2 : (v 2) = .pointer (some ⟨w.heap.size, 1, none⟩) := hd 2 (by kernel_rfl)
        have d2 : f.tmps[27]? = some (.pointer (some ⟨w.heap.size, 1, none⟩)) := (hv 2 27 rfl).trans (congrArg some h2)
        clear h2
        clear hb hv hd
        have c := tc_keep hB s0.ka
        refine wpOp_step rfl (fun K hK => ?_)
        go_simp
        exact hK _ _ ⟨_, rfl, Below.refl _ _, rfl, fun h => absurd h (by decide)⟩
      | 4, _ =>
        have b7 : f.tmps[7]? = some (.int .i64 1) := (hb 7 (by decide)).trans rfl
        clear hb hv hd
        refine wpOp_step rfl (fun K hK => ?_)
        go_simp
        exact hK _ _ ⟨_, rfl, Below.refl _ _, rfl, fun h => absurd h (by decide)⟩
      | 5, _ =>
        have b3 : f.tmps[3]? = some (.pointer (some ⟨w.heap.size + 1, 0, none⟩)) := (hb 3 (by decide)).trans rfl
        have h4 : (v 4) = .int .i64 1 := hd 4 (by kernel_rfl)
        have d4 : f.tmps[29]? = some (.int .i64 1) := (hv 4 29 rfl).trans (congrArg some h4)
        clear h4
        clear hb hv hd
        refine wpOp_step rfl (fun K hK => ?_)
        go_simp
        exact hK _ _ ⟨_, rfl, Below.refl _ _, rfl, fun h => absurd h (by decide)⟩
      | 6, _ =>
        have h5 : (v 5) = .pointer (some ⟨w.heap.size + 1, 1, none⟩) := hd 5 (by kernel_rfl)
        have d5 : f.tmps[30]? = some (.pointer (some ⟨w.heap.size + 1, 1, none⟩)) := (hv 5 30 rfl).trans (congrArg some h5)
        clear h5
        clear hb hv hd
        have c := tc_keep hB s0.kb
        refine wpOp_step rfl (fun K hK => ?_)
        go_simp
        exact hK _ _ ⟨_, rfl, Below.refl _ _, rfl, fun h => absurd h (by decide)⟩
      | 7, _ =>
        have h3 : (v 3) = .int .i64 a1 := hd 3 (by kernel_rfl)
        have d3 : f.tmps[28]? = some (.int .i64 a1) := (hv 3 28 rfl).trans (congrArg some h3)
        clear h3
        have h6 : (v 6) = .int .i64 b1 := hd 6 (by kernel_rfl)
        have d6 : f.tmps[31]? = some (.int .i64 b1) := (hv 6 31 rfl).trans (congrArg some h6)
        clear h6
        clear hb hv hd
        refine wpOp_step rfl (fun K hK => ?_)
        go_simp
        refine (m1 _).mono ?_
        rintro e5 w5 ⟨rfl, hb5⟩
        exact hK _ _ ⟨_, rfl, hb5, rfl, fun h => absurd h (by decide)⟩
      | 8, _ =>
        have h0 : (v 0) = wv h1 l1 := hd 0 (by kernel_rfl)
        have d0 : f.tmps[25]? = some (wv h1 l1) := (hv 0 25 rfl).trans (congrArg some h0)
        clear h0
        have h7 : (v 7) = wv mh1 ml1 := hd 7 (by kernel_rfl)
        have d7 : f.tmps[32]? = some (wv mh1 ml1) := (hv 7 32 rfl).trans (congrArg some h7)
        clear h7
        clear hb hv hd
        refine wpOp_step rfl (fun K hK => ?_)
        go_simp
        refine (p1 _).mono ?_
        rintro e5 w5 ⟨rfl, hb5⟩
        exact hK _ _ ⟨_, rfl, hb5, rfl, fun h => absurd h (by decide)⟩
      | 9, _ =>
        have h8 : (v 8) = .tuple #[wv h2 l2, .int .i64 0] := hd 8 (by kernel_rfl)
        have d8 : f.tmps[33]? = some (.tuple #[wv h2 l2, .int .i64 0]) := (hv 8 33 rfl).trans (congrArg some h8)
        clear h8
        clear hb hv hd
        refine wpOp_step rfl (fun K hK => ?_)
        go_simp
        exact hK _ _ ⟨_, rfl, Below.refl _ _, rfl, fun h => absurd h (by decide)⟩
      | 10, _ =>
        have h9 : (v 9) = .tuple #[wv h2 l2, .int .i64 0] := hd 9 (by kernel_rfl)
        have d9 : f.tmps[24]? = some (.tuple #[wv h2 l2, .int .i64 0]) := (hv 9 24 rfl).trans (congrArg some h9)
        clear h9
        clear hb hv hd
        refine wpOp_step rfl (fun K hK => ?_)
        go_simp
        exact hK _ _ ⟨_, rfl, Below.refl _ _, rfl, fun h => absurd h (by decide)⟩
      | 11, _ =>
        have h9 : (v 9) = .tuple #[wv h2 l2, .int .i64 0] := hd 9 (by kernel_rfl)
        have d9 : f.tmps[24]? = some (.tuple #[wv h2 l2, .int .i64 0]) := (hv 9 24 rfl).trans (congrArg some h9)
        clear h9
        clear hb hv hd
        refine wpOp_step rfl (fun K hK => ?_)
        go_simp
        exact hK _ _ ⟨_, rfl, Below.refl _ _, rfl, fun h => absurd h (by decide)⟩
      | k + 12, hk => exact absurd hk (by simp)
    · intro v w' hB hF hD
      have F0 : (v 0) = wv h1 l1 := hF 0 (by simp)
      have F1 : (v 1) = .int .i64 1 := hF 1 (by simp)
      have F2 : (v 2) = .pointer (some ⟨w.heap.size, 1, none⟩) := hF 2 (by simp)
      have F3 : (v 3) = .int .i64 a1 := hF 3 (by simp)
      have F4 : (v 4) = .int .i64 1 := hF 4 (by simp)
      have F5 : (v 5) = .pointer (some ⟨w.heap.size + 1, 1, none⟩) := hF 5 (by simp)
      have F6 : (v 6) = .int .i64 b1 := hF 6 (by simp)
      have F7 : (v 7) = wv mh1 ml1 := hF 7 (by simp)
      have F8 : (v 8) = .tuple #[wv h2 l2, .int .i64 0] := hF 8 (by simp)
      have F9 : (v 9) = .tuple #[wv h2 l2, .int .i64 0] := hF 9 (by simp)
      have F10 : (v 10) = wv h2 l2 := hF 10 (by simp)
      have F11 : (v 11) = .int .i64 0 := hF 11 (by simp)
      clear hF
      simp only [frOf, frGo, Nat.zero_add, Nat.reduceAdd, F0, F1, F2, F3, F4, F5, F6, F7, F8, F9, F10, F11]
      have sN := ds_put (h' := h2) (l' := l2) (ds_keep s0 hB) nA nB kS
      have c := wc_keep hB s0.ks
      have cf := wf_keep hB s0.ks s0.fs
      clear F0 F1 F2 F3 F4 F5 F6 F7 F8 F9 F10 F11 hD s0 hB
      go_wp2
    · intro v w' hB hF hD
      have F0 : (v 0) = wv h1 l1 := hF 0 (by simp) (by decide)
      have F1 : (v 1) = .int .i64 1 := hF 1 (by simp) (by decide)
      have F2 : (v 2) = .pointer (some ⟨w.heap.size, 1, none⟩) := hF 2 (by simp) (by decide)
      have F3 : (v 3) = .int .i64 a1 := hF 3 (by simp) (by decide)
      have F4 : (v 4) = .int .i64 1 := hF 4 (by simp) (by decide)
      have F5 : (v 5) = .pointer (some ⟨w.heap.size + 1, 1, none⟩) := hF 5 (by simp) (by decide)
      have F6 : (v 6) = .int .i64 b1 := hF 6 (by simp) (by decide)
      have F7 : (v 7) = wv mh1 ml1 := hF 7 (by simp) (by decide)
      have F8 : (v 8) = .tuple #[wv h2 l2, .int .i64 0] := hF 8 (by simp) (by decide)
      have F9 : (v 9) = .tuple #[wv h2 l2, .int .i64 0] := hF 9 (by simp) (by decide)
      have F10 : (v 10) = wv h2 l2 := hF 10 (by simp) (by decide)
      clear hF
      simp only [frOf, frGo, Nat.zero_add, Nat.reduceAdd, F0, F1, F2, F3, F4, F5, F6, F7, F8, F9, F10]
      have sN := ds_put (h' := h2) (l' := l2) (ds_keep s0 hB) nA nB kS
      have c := wc_keep hB s0.ks
      have cf := wf_keep hB s0.ks s0.fs
      clear F0 F1 F2 F3 F4 F5 F6 F7 F8 F9 F10 hD s0 hB
      refine wpOp_step rfl (fun K hK => ?_)
      go_simp
      refine hK _ _ ?_
      clear hK K
      refine wpOp_step rfl (fun K hK => ?_)
      go_simp
      refine hK _ _ ?_
      clear hK K
      rw [List.drop_eq_nil_of_le (by simp)]
      have fin9 : ∀ {Q : Exit → Act → World → Prop} {ops : Array Oper} {a : Act} {w : World}, Q Exit.normal a w → wpList Try.prog ops Q [] a w := fun h => h
      refine fin9 ?_
      clear fin9
      refine ⟨rfl, by simp [Act.put], sN⟩
    · intro w' hst
      simp only [frOf, frGo, Nat.zero_add, Nat.reduceAdd]
      clear s0 m1 p1
      have s0 := hst
      clear hst
      go_wp2
      rw [rounds_succ]
      go_wp2
      refine region_late_k [25, 26, 27, 28, 29, 30, 31, 32, 33, 24, 34, 35] 11 (fun i => match i with | 0 => wv h2 l2 | 1 => .int .i64 2 | 2 => .pointer (some ⟨w.heap.size, 2, none⟩) | 3 => .int .i64 a2 | 4 => .int .i64 2 | 5 => .pointer (some ⟨w.heap.size + 1, 2, none⟩) | 6 => .int .i64 b2 | 7 => wv mh2 ml2 | 8 => .tuple #[wv h3 l3, .int .i64 0] | 9 => .tuple #[wv h3 l3, .int .i64 0] | 10 => wv h3 l3 | 11 => .int .i64 0 | _ => undef) (fun f => f) (fun U_ => DS w (w.heap.size) (w.heap.size + 1) S a0 a1 a2 b0 b1 b2 h3 l3 U_) (fun i X_ U_ => match i with | 0 => X_ = wv h2 l2 | 1 => X_ = .int .i64 2 | 2 => X_ = .pointer (some ⟨w.heap.size, 2, none⟩) | 3 => X_ = .int .i64 a2 | 4 => X_ = .int .i64 2 | 5 => X_ = .pointer (some ⟨w.heap.size + 1, 2, none⟩) | 6 => X_ = .int .i64 b2 | 7 => X_ = wv mh2 ml2 | 8 => X_ = .tuple #[wv h3 l3, .int .i64 0] | 9 => X_ = .tuple #[wv h3 l3, .int .i64 0] | 10 => X_ = wv h3 l3 | 11 => X_ = .int .i64 0 | _ => True) (fun i => false) (by kernel_rfl) (by kernel_rfl) (by kernel_rfl) (by kernel_rfl) ?_ ?_ ?_ ?_ ?_ ?_
      · intro i x w w' hi h hb
        match i, hi with
        | 0, _ => exact h
        | 1, _ => exact h
        | 2, _ => exact h
        | 3, _ => exact h
        | 4, _ => exact h
        | 5, _ => exact h
        | 6, _ => exact h
        | 7, _ => exact h
        | 8, _ => exact h
        | 9, _ => exact h
        | 10, _ => exact h
        | 11, _ => exact h
        | k + 12, hk => exact absurd hk (by simp)
      · intro i x w hi ha h
        cases ha
      · intro i hi v f w' hb hv hB hd
        match i, hi with
        | 0, _ =>
          have b6 : f.tmps[6]? = some (.pointer (some ⟨S, 0, none⟩)) := (hb 6 (by decide)).trans rfl
          clear hb hv hd
          have c := wc_keep hB s0.ks
          refine wpOp_step rfl (fun K hK => ?_)
          go_simp
          exact hK _ _ ⟨_, rfl, Below.refl _ _, rfl, fun h => absurd h (by decide)⟩
        | 1, _ =>
          have b7 : f.tmps[7]? = some (.int .i64 2) := (hb 7 (by decide)).trans rfl
          clear hb hv hd
          refine wpOp_step rfl (fun K hK => ?_)
          go_simp
          exact hK _ _ ⟨_, rfl, Below.refl _ _, rfl, fun h => absurd h (by decide)⟩
        | 2, _ =>
          have b2 : f.tmps[2]? = some (.pointer (some ⟨w.heap.size, 0, none⟩)) := (hb 2 (by decide)).trans rfl
          have h1 : (v 1) = .int .i64 2 := hd 1 (by kernel_rfl)
          have d1 : f.tmps[26]? = some (.int .i64 2) := (hv 1 26 rfl).trans (congrArg some h1)
          clear h1
          clear hb hv hd
          refine wpOp_step rfl (fun K hK => ?_)
          go_simp
          exact hK _ _ ⟨_, rfl, Below.refl _ _, rfl, fun h => absurd h (by decide)⟩
        | 3, _ =>
          have h2 : (v 2) = .pointer (some ⟨w.heap.size, 2, none⟩) := hd 2 (by kernel_rfl)
          have d2 : f.tmps[27]? = some (.pointer (some ⟨w.heap.size, 2, none⟩)) := (hv 2 27 rfl).trans (congrArg some h2)
          clear h2
          clear hb hv hd
          have c := tc_keep hB s0.ka
          refine wpOp_step rfl (fun K hK => ?_)
          go_simp
          exact hK _ _ ⟨_, rfl, Below.refl _ _, rfl, fun h => absurd h (by decide)⟩
        | 4, _ =>
          have b7 : f.tmps[7]? = some (.int .i64 2) := (hb 7 (by decide)).trans rfl
          clear hb hv hd
          refine wpOp_step rfl (fun K hK => ?_)
          go_simp
          exact hK _ _ ⟨_, rfl, Below.refl _ _, rfl, fun h => absurd h (by decide)⟩
        | 5, _ =>
          have b3 : f.tmps[3]? = some (.pointer (some ⟨w.heap.size + 1, 0, none⟩)) := (hb 3 (by decide)).trans rfl
          have h4 : (v 4) = .int .i64 2 := hd 4 (by kernel_rfl)
          have d4 : f.tmps[29]? = some (.int .i64 2) := (hv 4 29 rfl).trans (congrArg some h4)
          clear h4
          clear hb hv hd
          refine wpOp_step rfl (fun K hK => ?_)
          go_simp
          exact hK _ _ ⟨_, rfl, Below.refl _ _, rfl, fun h => absurd h (by decide)⟩
        | 6, _ =>
          have h5 : (v 5) = .pointer (some ⟨w.heap.size + 1, 2, none⟩) := hd 5 (by kernel_rfl)
          have d5 : f.tmps[30]? = some (.pointer (some ⟨w.heap.size + 1, 2, none⟩)) := (hv 5 30 rfl).trans (congrArg some h5)
          clear h5
          clear hb hv hd
          have c := tc_keep hB s0.kb
          refine wpOp_step rfl (fun K hK => ?_)
          go_simp
          exact hK _ _ ⟨_, rfl, Below.refl _ _, rfl, fun h => absurd h (by decide)⟩
        | 7, _ =>
          have h3 : (v 3) = .int .i64 a2 := hd 3 (by kernel_rfl)
          have d3 : f.tmps[28]? = some (.int .i64 a2) := (hv 3 28 rfl).trans (congrArg some h3)
          clear h3
          have h6 : (v 6) = .int .i64 b2 := hd 6 (by kernel_rfl)
          have d6 : f.tmps[31]? = some (.int .i64 b2) := (hv 6 31 rfl).trans (congrArg some h6)
          clear h6
          clear hb hv hd
          refine wpOp_step rfl (fun K hK => ?_)
          go_simp
          refine (m2 _).mono ?_
          rintro e5 w5 ⟨rfl, hb5⟩
          exact hK _ _ ⟨_, rfl, hb5, rfl, fun h => absurd h (by decide)⟩
        | 8, _ =>
          have h0 : (v 0) = wv h2 l2 := hd 0 (by kernel_rfl)
          have d0 : f.tmps[25]? = some (wv h2 l2) := (hv 0 25 rfl).trans (congrArg some h0)
          clear h0
          have h7 : (v 7) = wv mh2 ml2 := hd 7 (by kernel_rfl)
          have d7 : f.tmps[32]? = some (wv mh2 ml2) := (hv 7 32 rfl).trans (congrArg some h7)
          clear h7
          clear hb hv hd
          refine wpOp_step rfl (fun K hK => ?_)
          go_simp
          refine (p2 _).mono ?_
          rintro e5 w5 ⟨rfl, hb5⟩
          exact hK _ _ ⟨_, rfl, hb5, rfl, fun h => absurd h (by decide)⟩
        | 9, _ =>
          have h8 : (v 8) = .tuple #[wv h3 l3, .int .i64 0] := hd 8 (by kernel_rfl)
          have d8 : f.tmps[33]? = some (.tuple #[wv h3 l3, .int .i64 0]) := (hv 8 33 rfl).trans (congrArg some h8)
          clear h8
          clear hb hv hd
          refine wpOp_step rfl (fun K hK => ?_)
          go_simp
          exact hK _ _ ⟨_, rfl, Below.refl _ _, rfl, fun h => absurd h (by decide)⟩
        | 10, _ =>
          have h9 : (v 9) = .tuple #[wv h3 l3, .int .i64 0] := hd 9 (by kernel_rfl)
          have d9 : f.tmps[24]? = some (.tuple #[wv h3 l3, .int .i64 0]) := (hv 9 24 rfl).trans (congrArg some h9)
          clear h9
          clear hb hv hd
          refine wpOp_step rfl (fun K hK => ?_)
          go_simp
          exact hK _ _ ⟨_, rfl, Below.refl _ _, rfl, fun h => absurd h (by decide)⟩
        | 11, _ =>
          have h9 : (v 9) = .tuple #[wv h3 l3, .int .i64 0] := hd 9 (by kernel_rfl)
          have d9 : f.tmps[24]? = some (.tuple #[wv h3 l3, .int .i64 0]) := (hv 9 24 rfl).trans (congrArg some h9)
          clear h9
          clear hb hv hd
          refine wpOp_step rfl (fun K hK => ?_)
          go_simp
          exact hK _ _ ⟨_, rfl, Below.refl _ _, rfl, fun h => absurd h (by decide)⟩
        | k + 12, hk => exact absurd hk (by simp)
      · intro v w' hB hF hD
        have F0 : (v 0) = wv h2 l2 := hF 0 (by simp)
        have F1 : (v 1) = .int .i64 2 := hF 1 (by simp)
        have F2 : (v 2) = .pointer (some ⟨w.heap.size, 2, none⟩) := hF 2 (by simp)
        have F3 : (v 3) = .int .i64 a2 := hF 3 (by simp)
        have F4 : (v 4) = .int .i64 2 := hF 4 (by simp)
        have F5 : (v 5) = .pointer (some ⟨w.heap.size + 1, 2, none⟩) := hF 5 (by simp)
        have F6 : (v 6) = .int .i64 b2 := hF 6 (by simp)
        have F7 : (v 7) = wv mh2 ml2 := hF 7 (by simp)
        have F8 : (v 8) = .tuple #[wv h3 l3, .int .i64 0] := hF 8 (by simp)
        have F9 : (v 9) = .tuple #[wv h3 l3, .int .i64 0] := hF 9 (by simp)
        have F10 : (v 10) = wv h3 l3 := hF 10 (by simp)
        have F11 : (v 11) = .int .i64 0 := hF 11 (by simp)
        clear hF
        simp only [frOf, frGo, Nat.zero_add, Nat.reduceAdd, F0, F1, F2, F3, F4, F5, F6, F7, F8, F9, F10, F11]
        have sN := ds_put (h' := h3) (l' := l3) (ds_keep s0 hB) nA nB kS
        have c := wc_keep hB s0.ks
        have cf := wf_keep hB s0.ks s0.fs
        clear F0 F1 F2 F3 F4 F5 F6 F7 F8 F9 F10 F11 hD s0 hB
        go_wp2
      · intro v w' hB hF hD
        have F0 : (v 0) = wv h2 l2 := hF 0 (by simp) (by decide)
        have F1 : (v 1) = .int .i64 2 := hF 1 (by simp) (by decide)
        have F2 : (v 2) = .pointer (some ⟨w.heap.size, 2, none⟩) := hF 2 (by simp) (by decide)
        have F3 : (v 3) = .int .i64 a2 := hF 3 (by simp) (by decide)
        have F4 : (v 4) = .int .i64 2 := hF 4 (by simp) (by decide)
        have F5 : (v 5) = .pointer (some ⟨w.heap.size + 1, 2, none⟩) := hF 5 (by simp) (by decide)
        have F6 : (v 6) = .int .i64 b2 := hF 6 (by simp) (by decide)
        have F7 : (v 7) = wv mh2 ml2 := hF 7 (by simp) (by decide)
        have F8 : (v 8) = .tuple #[wv h3 l3, .int .i64 0] := hF 8 (by simp) (by decide)
        have F9 : (v 9) = .tuple #[wv h3 l3, .int .i64 0] := hF 9 (by simp) (by decide)
        have F10 : (v 10) = wv h3 l3 := hF 10 (by simp) (by decide)
        clear hF
        simp only [frOf, frGo, Nat.zero_add, Nat.reduceAdd, F0, F1, F2, F3, F4, F5, F6, F7, F8, F9, F10]
        have sN := ds_put (h' := h3) (l' := l3) (ds_keep s0 hB) nA nB kS
        have c := wc_keep hB s0.ks
        have cf := wf_keep hB s0.ks s0.fs
        clear F0 F1 F2 F3 F4 F5 F6 F7 F8 F9 F10 hD s0 hB
        refine wpOp_step rfl (fun K hK => ?_)
        go_simp
        refine hK _ _ ?_
        clear hK K
        refine wpOp_step rfl (fun K hK => ?_)
        go_simp
        refine hK _ _ ?_
        clear hK K
        rw [List.drop_eq_nil_of_le (by simp)]
        have fin9 : ∀ {Q : Exit → Act → World → Prop} {ops : Array Oper} {a : Act} {w : World}, Q Exit.normal a w → wpList Try.prog ops Q [] a w := fun h => h
        refine fin9 ?_
        clear fin9
        refine ⟨rfl, by simp [Act.put], sN⟩
      · intro w' hst
        simp only [frOf, frGo, Nat.zero_add, Nat.reduceAdd]
        clear s0 m2 p2
        have s0 := hst
        clear hst
        go_wp2
        rw [rounds_succ]
        obtain ⟨B0, _, _, c, cf⟩ := s0
        go_wp2_with fail
        refine (hF _).mono ?_
        rintro e5 w5 ⟨rfl, hb5⟩
        replace B0 := b_alloc (o := Obj.cells #[.int .i64 hz, .int .u64 lz] 50) (b_trans B0 hb5)
        have c5 : WC (w5.alloc (Obj.cells #[.int .i64 hz, .int .u64 lz] 50)) w5.heap.size hz lz := by simp [WC, go_sem]
        clear hb5 c cf hF
        go_wp2_with fail
        refine (hI _).mono ?_
        rintro e6 w6 ⟨rfl, hb6⟩
        replace B0 := b_trans B0 hb6
        clear hb6 c5 hI
        by_cases ci : -9223372036854775808 ≤ z ∧ z ≤ 9223372036854775807
        · have E := Lib.hid (iz_of ci)
          rw [E.out.1, E.out.2]
          have cz := fits_any z ci.1 ci.2
          by_cases d : FitP z
          · have N := Lib.hid (And.intro (nz_of d) (fitb_yes d))
            clear ci d
            go_wp2_with fail
            refine (cz _).mono ?_
            rintro e7 w7 ⟨rfl, rfl⟩
            rw [N.out.2]
            go_wp2
            go_ret2
            exact ⟨by rw [N.out.1.1, N.out.1.2]; rfl, B0⟩
          · have N := Lib.hid (And.intro (nz_no d) (fitb_no d))
            clear ci d
            go_wp2_with fail
            refine (cz _).mono ?_
            rintro e7 w7 ⟨rfl, rfl⟩
            rw [N.out.2]
            go_wp2
            go_ret2
            exact ⟨by rw [N.out.1.1, N.out.1.2]; rfl, B0⟩
        · have E := Lib.hid (iz_no ci)
          have N := Lib.hid (nz_no (x := z) (by omega))
          rw [E.out.1, E.out.2]
          clear ci
          go_wp2
          go_ret2
          exact ⟨by rw [N.out.1, N.out.2]; rfl, B0⟩

theorem dot_vec_ok (a0 a1 a2 b0 b1 b2 : Int) (ha0 : I64 a0) (ha1 : I64 a1) (ha2 : I64 a2) (hb0 : I64 b0) (hb1 : I64 b1) (hb2 : I64 b2) (ca : F3 a0 a1 a2) (cb : F3 b0 b1 b2) (w : World) :
    Calls Try.prog 16 #[tv a0 a1 a2, tv b0 b1 b2] w (RetV (.tuple #[.int .i64 (nz (evn (0 + a0 * b0 + a1 * b1 + a2 * b2) 1099511627776)), .int .i64 (ne (evn (0 + a0 * b0 + a1 * b1 + a2 * b2) 1099511627776))]) w) := by
  obtain ⟨f1, f2, f3⟩ := dot_bd ca cb
  have i0 : IsW 0 0 0 := ⟨by decide, by decide, by decide, by decide, by decide⟩
  obtain ⟨mh0, ml0, x0⟩ : ∃ h l, IsW h l (a0 * b0) := ⟨_, _, IsW.mk' (mul_fits ha0.1 ha0.2 hb0.1 hb0.2)⟩
  obtain ⟨mh1, ml1, x1⟩ : ∃ h l, IsW h l (a1 * b1) := ⟨_, _, IsW.mk' (mul_fits ha1.1 ha1.2 hb1.1 hb1.2)⟩
  obtain ⟨mh2, ml2, x2⟩ : ∃ h l, IsW h l (a2 * b2) := ⟨_, _, IsW.mk' (mul_fits ha2.1 ha2.2 hb2.1 hb2.2)⟩
  obtain ⟨h1, l1, y1⟩ : ∃ h l, IsW h l (0 + a0 * b0) := ⟨_, _, IsW.mk' f1⟩
  obtain ⟨h2, l2, y2⟩ : ∃ h l, IsW h l (0 + a0 * b0 + a1 * b1) := ⟨_, _, IsW.mk' f2⟩
  obtain ⟨h3, l3, y3⟩ : ∃ h l, IsW h l (0 + a0 * b0 + a1 * b1 + a2 * b2) := ⟨_, _, IsW.mk' f3⟩
  obtain ⟨hz, lz, z3⟩ : ∃ h l, IsW h l (evn (0 + a0 * b0 + a1 * b1 + a2 * b2) 1099511627776) := ⟨_, _, IsW.mk' (evn_of f3)⟩
  exact dot_vec_go a0 a1 a2 b0 b1 b2 h1 l1 h2 l2 h3 l3 mh0 ml0 mh1 ml1 mh2 ml2 hz lz _ ha0 ha1 ha2 hb0 hb1 hb2 ca cb
    (fun w => (of_any 0 (by decide) (by decide) w).mono fun _ _ => retW_det i0)
    (fun w => (mul_any a0 b0 ha0.1 ha0.2 hb0.1 hb0.2 w).mono fun _ _ => retW_det x0)
    (fun w => (add_any 0 0 0 _ _ _ i0 x0 w).mono fun _ _ h => retWE_det y1 (by rwa [fz_of f1, fe_of f1] at h))
    (fun w => (mul_any a1 b1 ha1.1 ha1.2 hb1.1 hb1.2 w).mono fun _ _ => retW_det x1)
    (fun w => (add_any h1 l1 _ _ _ _ y1 x1 w).mono fun _ _ h => retWE_det y2 (by rwa [fz_of f2, fe_of f2] at h))
    (fun w => (mul_any a2 b2 ha2.1 ha2.2 hb2.1 hb2.2 w).mono fun _ _ => retW_det x2)
    (fun w => (add_any h2 l2 _ _ _ _ y2 x2 w).mono fun _ _ h => retWE_det y3 (by rwa [fz_of f3, fe_of f3] at h))
    (fun w => (half_any h3 l3 _ 40 y3 (by decide) (by decide) w).mono fun _ _ h => retWE_det z3 h)
    (fun w => int_any hz lz _ z3 w) w

end Go.Proofs.Ytokjljmamiipbaa
