/- The document's On: the call's answer. -/
import Derived.Test.YtahpiakjhdnigaaVecE
import Derived.Test.YtahpiakjhdnigaaFixE
import Derived.Test.YtahpiakjhdnigaaMotA
import Derived.Test.YtahpiakjhdnigaaLate
namespace Go.Proofs.Ytahpiakjhdnigaa
open Go.RowKit Go.Shelf

theorem power_15 (w : World) : Calls Try.prog 26 #[.int .i64 15] w (RetB 32768 w) := by
  have := power_any 15 (by decide) w
  rwa [show (2 : Int) ^ 15 = 32768 by decide] at this
theorem power_7 (w : World) : Calls Try.prog 26 #[.int .i64 7] w (RetB 128 w) := by
  have := power_any 7 (by decide) w
  rwa [show (2 : Int) ^ 7 = 128 by decide] at this
set_option maxHeartbeats 1000000 in
theorem on_ref_bad (x0 x1 x2 t : Int) (hx0 : I64 x0) (hx1 : I64 x1) (hx2 : I64 x2) (ht : I64 t) (c : ¬ (F3 x0 x1 x2 ∧ FitP t)) (w : World) :
    Calls Try.prog 7 #[tv x0 x1 x2, .int .i64 t] w (RetV (.tuple #[tv 0 0 0, .int .i64 1]) w) := by
  by_cases ca : F3 x0 x1 x2
  · have ea := Lib.hid (f3b_yes ca)
    have eb := Lib.hid (fitb_no (fun h => c ⟨ca, h⟩))
    clear ca c
    have kA : TC ((w.alloc (Obj.cells #[.int .i64 x0, .int .i64 x1, .int .i64 x2] 23)).alloc (Obj.cells #[.int .i64 0, .int .i64 0, .int .i64 0] 23)) (w.heap.size) x0 x1 x2 := tc_alloc (tc_new rfl)
    have qc : TC ((w.alloc (Obj.cells #[.int .i64 x0, .int .i64 x1, .int .i64 x2] 23)).alloc (Obj.cells #[.int .i64 0, .int .i64 0, .int .i64 0] 23)) (w.heap.size + 1) 0 0 0 := tc_new (by simp)
    have qf : TF ((w.alloc (Obj.cells #[.int .i64 x0, .int .i64 x1, .int .i64 x2] 23)).alloc (Obj.cells #[.int .i64 0, .int .i64 0, .int .i64 0] 23)) (w.heap.size + 1) := tf_new (by simp)
    have B0 : Below w.heap.size w ((w.alloc (Obj.cells #[.int .i64 x0, .int .i64 x1, .int .i64 x2] 23)).alloc (Obj.cells #[.int .i64 0, .int .i64 0, .int .i64 0] 23)) := b_alloc (b_alloc (Below.refl _ _))
    go_enter Try.func7, Try.ntmps7
    go_wp2_with fail
    refine (fits3_ref x0 x1 x2 hx0 hx1 hx2 _).mono ?_
    rintro e1 w1 ⟨rfl, hb9⟩
    rw [ea.out]
    have qf9 := tf_keep hb9 qc qf
    replace kA := tc_keep hb9 kA
    replace qc := tc_keep hb9 qc
    replace B0 := b_trans B0 hb9
    clear qf
    have qf := qf9
    clear qf9 hb9
    go_wp2_with fail
    refine (fits_ref t ht.1 ht.2 _).mono ?_
    rintro e2 w2 ⟨rfl, rfl⟩
    rw [eb.out]
    clear kA
    have B9 := b_set (p := ⟨w.heap.size + 1, 2, none⟩) (v := .int .i64 0) (b_set (p := ⟨w.heap.size + 1, 1, none⟩) (v := .int .i64 0) (b_set (p := ⟨w.heap.size + 1, 0, none⟩) (v := .int .i64 0) B0 (Nat.le_succ _)) (Nat.le_succ _)) (Nat.le_succ _)
    clear B0
    go_wp2
    exact bodyPost_ret (v := .tuple #[tv 0 0 0, .int .i64 1]) (by simp [results, Try.results7, go_sem, qc]) rfl ⟨rfl, B9⟩
  · have ea := Lib.hid (f3b_no ca)
    clear ca c
    have kA : TC ((w.alloc (Obj.cells #[.int .i64 x0, .int .i64 x1, .int .i64 x2] 23)).alloc (Obj.cells #[.int .i64 0, .int .i64 0, .int .i64 0] 23)) (w.heap.size) x0 x1 x2 := tc_alloc (tc_new rfl)
    have qc : TC ((w.alloc (Obj.cells #[.int .i64 x0, .int .i64 x1, .int .i64 x2] 23)).alloc (Obj.cells #[.int .i64 0, .int .i64 0, .int .i64 0] 23)) (w.heap.size + 1) 0 0 0 := tc_new (by simp)
    have qf : TF ((w.alloc (Obj.cells #[.int .i64 x0, .int .i64 x1, .int .i64 x2] 23)).alloc (Obj.cells #[.int .i64 0, .int .i64 0, .int .i64 0] 23)) (w.heap.size + 1) := tf_new (by simp)
    have B0 : Below w.heap.size w ((w.alloc (Obj.cells #[.int .i64 x0, .int .i64 x1, .int .i64 x2] 23)).alloc (Obj.cells #[.int .i64 0, .int .i64 0, .int .i64 0] 23)) := b_alloc (b_alloc (Below.refl _ _))
    go_enter Try.func7, Try.ntmps7
    go_wp2_with fail
    refine (fits3_ref x0 x1 x2 hx0 hx1 hx2 _).mono ?_
    rintro e1 w1 ⟨rfl, hb9⟩
    rw [ea.out]
    have qf9 := tf_keep hb9 qc qf
    replace kA := tc_keep hb9 kA
    replace qc := tc_keep hb9 qc
    replace B0 := b_trans B0 hb9
    clear qf
    have qf := qf9
    clear qf9 hb9
    clear kA
    have B9 := b_set (p := ⟨w.heap.size + 1, 2, none⟩) (v := .int .i64 0) (b_set (p := ⟨w.heap.size + 1, 1, none⟩) (v := .int .i64 0) (b_set (p := ⟨w.heap.size + 1, 0, none⟩) (v := .int .i64 0) B0 (Nat.le_succ _)) (Nat.le_succ _)) (Nat.le_succ _)
    clear B0
    go_wp2
    exact bodyPost_ret (v := .tuple #[tv 0 0 0, .int .i64 1]) (by simp [results, Try.results7, go_sem, qc]) rfl ⟨rfl, B9⟩

set_option maxHeartbeats 1000000 in
theorem on_ref_sub (x0 x1 x2 t y e : Int) (hx0 : I64 x0) (hx1 : I64 x1) (hx2 : I64 x2) (ht : I64 t) (ca : F3 x0 x1 x2) (cb : FitP t) (e0 : (e == 0) = false)
    (cS : ∀ w, Calls Try.prog 20 #[.int .i64 t, .int .i64 x2] w (RetV (.tuple #[.int .i64 y, .int .i64 e]) w)) (w : World) :
    Calls Try.prog 7 #[tv x0 x1 x2, .int .i64 t] w (RetV (.tuple #[tv 0 0 0, .int .i64 3]) w) := by
  have ea := Lib.hid (f3b_yes ca)
  have eb := Lib.hid (fitb_yes cb)
  clear ca cb
  have kA : TC ((w.alloc (Obj.cells #[.int .i64 x0, .int .i64 x1, .int .i64 x2] 23)).alloc (Obj.cells #[.int .i64 0, .int .i64 0, .int .i64 0] 23)) (w.heap.size) x0 x1 x2 := tc_alloc (tc_new rfl)
  have qc : TC ((w.alloc (Obj.cells #[.int .i64 x0, .int .i64 x1, .int .i64 x2] 23)).alloc (Obj.cells #[.int .i64 0, .int .i64 0, .int .i64 0] 23)) (w.heap.size + 1) 0 0 0 := tc_new (by simp)
  have qf : TF ((w.alloc (Obj.cells #[.int .i64 x0, .int .i64 x1, .int .i64 x2] 23)).alloc (Obj.cells #[.int .i64 0, .int .i64 0, .int .i64 0] 23)) (w.heap.size + 1) := tf_new (by simp)
  have B0 : Below w.heap.size w ((w.alloc (Obj.cells #[.int .i64 x0, .int .i64 x1, .int .i64 x2] 23)).alloc (Obj.cells #[.int .i64 0, .int .i64 0, .int .i64 0] 23)) := b_alloc (b_alloc (Below.refl _ _))
  go_enter Try.func7, Try.ntmps7
  go_wp2_with fail
  refine (fits3_ref x0 x1 x2 hx0 hx1 hx2 _).mono ?_
  rintro e1 w1 ⟨rfl, hb9⟩
  rw [ea.out]
  have qf9 := tf_keep hb9 qc qf
  replace kA := tc_keep hb9 kA
  replace qc := tc_keep hb9 qc
  replace B0 := b_trans B0 hb9
  clear qf
  have qf := qf9
  clear qf9 hb9
  go_wp2_with fail
  refine (fits_ref t ht.1 ht.2 _).mono ?_
  rintro e2 w2 ⟨rfl, rfl⟩
  rw [eb.out]
  go_wp2_with fail
  refine (cS _).mono ?_
  rintro e3 w3 ⟨rfl, hb9⟩
  have qf9 := tf_keep hb9 qc qf
  replace kA := tc_keep hb9 kA
  replace qc := tc_keep hb9 qc
  replace B0 := b_trans B0 hb9
  clear qf
  have qf := qf9
  clear qf9 hb9
  clear kA
  have B9 := b_set (p := ⟨w.heap.size + 1, 2, none⟩) (v := .int .i64 0) (b_set (p := ⟨w.heap.size + 1, 1, none⟩) (v := .int .i64 0) (b_set (p := ⟨w.heap.size + 1, 0, none⟩) (v := .int .i64 0) B0 (Nat.le_succ _)) (Nat.le_succ _)) (Nat.le_succ _)
  clear B0
  go_wp2
  exact bodyPost_ret (v := .tuple #[tv 0 0 0, .int .i64 3]) (by simp [results, Try.results7, go_sem, qc]) rfl ⟨rfl, B9⟩

set_option maxHeartbeats 8000000 in
set_option maxRecDepth 10000 in
theorem on_ref_go (x0 x1 x2 t d H V X Y E F : Int) (hx0 : I64 x0) (hx1 : I64 x1) (hx2 : I64 x2) (ht : I64 t) (ca : F3 x0 x1 x2) (cb : FitP t)
    (cS : ∀ w, Calls Try.prog 20 #[.int .i64 t, .int .i64 x2] w (RetV (.tuple #[.int .i64 d, .int .i64 0]) w))
    (o0 : ∀ w, Calls Try.prog 23 #[.int .i64 x0] w (RetB x0 w)) (o1 o1' : ∀ w, Calls Try.prog 23 #[.int .i64 x1] w (RetB x1 w)) (oD : ∀ w, Calls Try.prog 23 #[.int .i64 d] w (RetB d w))
    (s0 : Small x0) (s1 s1' : Small x1) (sm : Small (256 * x1)) (sd : Small d) (sH : Small H) (sV : Small V) (tF : Tiny (256 * x1 + d)) (tD : Tiny d)
    (EF : Hid (ef (256 * x1 + d) 32768 = H)) (EG : Hid (ef d 128 = V))
    (cT1 : ∀ v w, BG w v (x0 + H) → Calls Try.prog 24 #[v] w (RetV (.tuple #[.int .i64 X, .int .i64 E]) w))
    (cT2 : ∀ v w, BG w v (x1 + V) → Calls Try.prog 24 #[v] w (RetV (.tuple #[.int .i64 Y, .int .i64 F]) w)) (w : World) :
    Calls Try.prog 7 #[tv x0 x1 x2, .int .i64 t] w (RetV (.tuple #[tv (oz E F X) (oz E F Y) (oz E F x2), .int .i64 (oe E F)]) w) := by
  have ea := Lib.hid (f3b_yes ca)
  have eb := Lib.hid (fitb_yes cb)
  clear ca cb
  have kA : TC ((w.alloc (Obj.cells #[.int .i64 x0, .int .i64 x1, .int .i64 x2] 23)).alloc (Obj.cells #[.int .i64 0, .int .i64 0, .int .i64 0] 23)) (w.heap.size) x0 x1 x2 := tc_alloc (tc_new rfl)
  have qc : TC ((w.alloc (Obj.cells #[.int .i64 x0, .int .i64 x1, .int .i64 x2] 23)).alloc (Obj.cells #[.int .i64 0, .int .i64 0, .int .i64 0] 23)) (w.heap.size + 1) 0 0 0 := tc_new (by simp)
  have qf : TF ((w.alloc (Obj.cells #[.int .i64 x0, .int .i64 x1, .int .i64 x2] 23)).alloc (Obj.cells #[.int .i64 0, .int .i64 0, .int .i64 0] 23)) (w.heap.size + 1) := tf_new (by simp)
  have B0 : Below w.heap.size w ((w.alloc (Obj.cells #[.int .i64 x0, .int .i64 x1, .int .i64 x2] 23)).alloc (Obj.cells #[.int .i64 0, .int .i64 0, .int .i64 0] 23)) := b_alloc (b_alloc (Below.refl _ _))
  go_enter Try.func7, Try.ntmps7
  go_wp2_with fail
  refine (fits3_ref x0 x1 x2 hx0 hx1 hx2 _).mono ?_
  rintro e1 w1 ⟨rfl, hb9⟩
  rw [ea.out]
  have qf9 := tf_keep hb9 qc qf
  replace kA := tc_keep hb9 kA
  replace qc := tc_keep hb9 qc
  replace B0 := b_trans B0 hb9
  clear qf
  have qf := qf9
  clear qf9 hb9
  go_wp2_with fail
  refine (fits_ref t ht.1 ht.2 _).mono ?_
  rintro e2 w2 ⟨rfl, rfl⟩
  rw [eb.out]
  go_wp2_with fail
  refine (cS _).mono ?_
  rintro e3 w3 ⟨rfl, hb9⟩
  have qf9 := tf_keep hb9 qc qf
  replace kA := tc_keep hb9 kA
  replace qc := tc_keep hb9 qc
  replace B0 := b_trans B0 hb9
  clear qf
  have qf := qf9
  clear qf9 hb9
  clear cS
  go_wp2
  refine region_each [30, 31, 32, 33, 34, 35, 36, 37, 8] (fun i_ X_ U_ => match i_ with | 0 => BG U_ X_ (256) | 1 => X_ = .pointer (some ⟨w.heap.size, 1, none⟩) | 2 => X_ = .int .i64 x1 | 3 => BG U_ X_ (x1) | 4 => BG U_ X_ (256 * x1) | 5 => X_ = .int .i64 d | 6 => BG U_ X_ (d) | 7 => BG U_ X_ (256 * x1 + d) | 8 => ∃ g, X_ = .pointer (some ⟨g, 0, none⟩) ∧ w3.heap.size ≤ g ∧ BV U_ g ∧ True | _ => True) (fun i_ => i_ == 8) (by kernel_rfl) (by kernel_rfl) (by kernel_rfl) (by kernel_rfl) (by kernel_rfl) ?_ ?_ ?_ ?_
  · refine swp (upS (upS (upS (upS (upS (upS (upS (upS (upS up0 ?_) ?_) ?_) ?_) ?_) ?_) ?_) ?_) ?_)
    · intro x w w' h hb; exact bg_keep h hb
    · exact fun _ _ _ h _ => h
    · exact fun _ _ _ h _ => h
    · intro x w w' h hb; exact bg_keep h hb
    · intro x w w' h hb; exact bg_keep h hb
    · exact fun _ _ _ h _ => h
    · intro x w w' h hb; exact bg_keep h hb
    · intro x w w' h hb; exact bg_keep h hb
    · intro x w w' h hb; obtain ⟨g, e, hg, hc, _⟩ := h; exact ⟨g, e, hg, bv_keep hb hc, trivial⟩
  · refine swa (upS (upS (upS (upS (upS (upS (upS (upS (upS up0 ?_) ?_) ?_) ?_) ?_) ?_) ?_) ?_) ?_)
    · exact fun _ _ ha => absurd ha (by decide)
    · exact fun _ _ ha => absurd ha (by decide)
    · exact fun _ _ ha => absurd ha (by decide)
    · exact fun _ _ ha => absurd ha (by decide)
    · exact fun _ _ ha => absurd ha (by decide)
    · exact fun _ _ ha => absurd ha (by decide)
    · exact fun _ _ ha => absurd ha (by decide)
    · exact fun _ _ ha => absurd ha (by decide)
    · intro x w _ h; obtain ⟨g, rfl, _, hg, _⟩ := h; exact bv_lt hg
  · refine upS (upS (upS (upS (upS (upS (upS (upS (upS up0 ?_) ?_) ?_) ?_) ?_) ?_) ?_) ?_) ?_
    all_goals intro v f w' hb hv hB hd
    · clear hb hv hd
      refine wpOp_call rfl Try.call23 (args1 rfl) (of_big 256 (by decide) (by decide) _) ?_
      rintro e w5 ⟨v5, rfl, h5, hb5⟩
      exact ⟨_, rfl, _, rfl, hb5, h5, fun h => absurd h (by decide)⟩
    · have b2 : f.tmps[2]? = some (.pointer (some ⟨w.heap.size, 0, none⟩)) := (hb 2 (by decide)).trans rfl
      clear hb hv hd
      refine wpOp_step rfl fun K hK => ?_
      go_simp
      exact hK _ _ ⟨_, rfl, Below.refl _ _, rfl, fun h => absurd h (by decide)⟩
    · have d1 := got (hv 1 31 rfl) (hd 1 (by kernel_rfl))
      clear hb hv hd
      have c := tc_keep hB kA
      refine wpOp_step rfl fun K hK => ?_
      go_simp
      exact hK _ _ ⟨_, rfl, Below.refl _ _, rfl, fun h => absurd h (by decide)⟩
    · have d2 := got (hv 2 32 rfl) (hd 2 (by kernel_rfl))
      clear hb hv hd
      refine wpOp_call rfl Try.call23 (args1 (eval_tmp d2)) (o1 _) ?_
      rintro e w5 ⟨v5, rfl, h5, hb5⟩
      exact ⟨_, rfl, _, rfl, hb5, h5, fun h => absurd h (by decide)⟩
    · have h0 : BG w' (v 0) (256) := hd 0 (by kernel_rfl)
      have d0 : f.tmps[30]? = some (v 0) := hv 0 30 rfl
      have h3 : BG w' (v 3) (x1) := hd 3 (by kernel_rfl)
      have d3 : f.tmps[33]? = some (v 3) := hv 3 33 rfl
      clear hb hv hd
      refine wpOp_call rfl Try.call22 (args2 (eval_tmp d0) (eval_tmp d3)) (mul_big _ _ 256 x1 _ h0 h3 (small_of (by decide) (by decide)) s1) ?_
      rintro e w5 ⟨v5, rfl, h5, hb5⟩
      exact ⟨_, rfl, _, rfl, hb5, h5, fun h => absurd h (by decide)⟩
    · have b6 : f.tmps[6]? = some (.int .i64 d) := (hb 6 (by decide)).trans rfl
      clear hb hv hd
      refine wpOp_step rfl fun K hK => ?_
      go_simp
      exact hK _ _ ⟨_, rfl, Below.refl _ _, rfl, fun h => absurd h (by decide)⟩
    · have d5 := got (hv 5 35 rfl) (hd 5 (by kernel_rfl))
      clear hb hv hd
      refine wpOp_call rfl Try.call23 (args1 (eval_tmp d5)) (oD _) ?_
      rintro e w5 ⟨v5, rfl, h5, hb5⟩
      exact ⟨_, rfl, _, rfl, hb5, h5, fun h => absurd h (by decide)⟩
    · have h4 : BG w' (v 4) (256 * x1) := hd 4 (by kernel_rfl)
      have d4 : f.tmps[34]? = some (v 4) := hv 4 34 rfl
      have h6 : BG w' (v 6) (d) := hd 6 (by kernel_rfl)
      have d6 : f.tmps[36]? = some (v 6) := hv 6 36 rfl
      clear hb hv hd
      refine wpOp_call rfl Try.call21 (args2 (eval_tmp d4) (eval_tmp d6)) (add_big _ _ (256 * x1) d _ h4 h6 sm sd) ?_
      rintro e w5 ⟨v5, rfl, h5, hb5⟩
      exact ⟨_, rfl, _, rfl, hb5, h5, fun h => absurd h (by decide)⟩
    · clear hb hv hd
      refine wpOp_step rfl fun K hK => ?_
      go_simp
      exact hK _ _ ⟨_, rfl, b_alloc (Below.refl _ _), ⟨_, rfl, hB.size, bv_new _ _ _ _ rfl, trivial⟩, fun _ => Nat.le_refl _⟩
  · intro v w' hB hF hD
    have F0 : BG w' (v 0) (256) := hF 0 (by simp)
    have F1 : v 1 = _ := hF 1 (by simp)
    have F2 : v 2 = _ := hF 2 (by simp)
    have F3 : BG w' (v 3) (x1) := hF 3 (by simp)
    have F4 : BG w' (v 4) (256 * x1) := hF 4 (by simp)
    have F5 : v 5 = _ := hF 5 (by simp)
    have F6 : BG w' (v 6) (d) := hF 6 (by simp)
    have F7 : BG w' (v 7) (256 * x1 + d) := hF 7 (by simp)
    have F8 : ∃ g, (v 8) = .pointer (some ⟨g, 0, none⟩) ∧ w3.heap.size ≤ g ∧ BV w' g ∧ True := hF 8 (by simp)
    clear hF
    obtain ⟨n0_, a0_, k0_, c0_, e0⟩ := bg_form F0
    obtain ⟨n3_, a3_, k3_, c3_, e3⟩ := bg_form F3
    obtain ⟨n4_, a4_, k4_, c4_, e4⟩ := bg_form F4
    obtain ⟨n6_, a6_, k6_, c6_, e6⟩ := bg_form F6
    obtain ⟨n7_, a7_, k7_, c7_, e7⟩ := bg_form F7
    obtain ⟨gt, e8, pt, vt, _⟩ := F8
    rw [e7] at F7
    simp only [frOf, frGo, Nat.zero_add, Nat.reduceAdd, e0, F1, F2, e3, e4, F5, e6, e7, e8]
    have nA : gt ≠ w.heap.size := fun c => by have := tc_lt kA; omega
    have nQ : gt ≠ w.heap.size + 1 := fun c => by have := tc_lt qc; omega
    have hS : w.heap.size ≤ gt := Nat.le_trans B0.size pt
    have vT := vb_store vt F7
    have qf9 := tf_keep hB qc qf
    replace kA := tc_set (b1 := gt) (o := 1) (v := .slice a7_ k7_ c7_) (tc_set (b1 := gt) (o := 0) (v := .bool n7_) (tc_keep hB kA) nA) nA
    replace qc := tc_set (b1 := gt) (o := 1) (v := .slice a7_ k7_ c7_) (tc_set (b1 := gt) (o := 0) (v := .bool n7_) (tc_keep hB qc) nQ) nQ
    clear qf
    have qf := tf_set (b1 := gt) (o := 1) (v := .slice a7_ k7_ c7_) (tf_set (b1 := gt) (o := 0) (v := .bool n7_) qf9)
    replace B0 := b_set (p := ⟨gt, 1, none⟩) (v := .slice a7_ k7_ c7_) (b_set (p := ⟨gt, 0, none⟩) (v := .bool n7_) (b_trans B0 hB) hS) hS
    obtain ⟨_, _, _, _, u1, u2⟩ := bv_use vt
    clear qf9 vt F0 F1 F2 F3 F4 F5 F6 F7 e0 e3 e4 e6 e7 e8 hB hD nA nQ hS pt v o1 s1 sm
    have KK := Lib.hid (And.intro kA (And.intro qc (And.intro qf (And.intro vT B0))))
    clear kA qc qf vT B0
    go_step
    go_step
    clear u1 u2
    generalize (w'.setCell ⟨gt, 0, none⟩ (.bool n7_)).setCell ⟨gt, 1, none⟩ (.slice a7_ k7_ c7_) = U1 at *
    obtain ⟨kA, qc, qf, vT, B0⟩ := KK.out
    clear KK
    obtain ⟨n, a, k, c, kc, _, kg⟩ := vb_use vT
    clear vT
    go_wp2
    refine region_late [39, 40, 41, 42, 43, 44, 45, 46, 38, 47, 48] 10 (fun i_ X_ U_ => match i_ with | 0 => X_ = .pointer (some ⟨w.heap.size, 0, none⟩) | 1 => X_ = .int .i64 x0 | 2 => BG U_ X_ (x0) | 3 => X_ = .agg #[.bool n, .slice a k c] | 4 => BG U_ X_ (32768) | 5 => BG U_ X_ (H) | 6 => BG U_ X_ (x0 + H) | 7 => X_ = .tuple #[.int .i64 X, .int .i64 E] | 8 => X_ = .tuple #[.int .i64 X, .int .i64 E] | 9 => X_ = .int .i64 X | 10 => X_ = .int .i64 E | _ => True) (fun i_ => false) (by kernel_rfl) (by kernel_rfl) (by kernel_rfl) (by kernel_rfl) ?_ (fun i x w hi ha h => by cases ha) ?_ ?_ ?_
    · refine swp (upS (upS (upS (upS (upS (upS (upS (upS (upS (upS (upS up0 ?_) ?_) ?_) ?_) ?_) ?_) ?_) ?_) ?_) ?_) ?_)
      · exact fun _ _ _ h _ => h
      · exact fun _ _ _ h _ => h
      · intro x w w' h hb; exact bg_keep h hb
      · exact fun _ _ _ h _ => h
      · intro x w w' h hb; exact bg_keep h hb
      · intro x w w' h hb; exact bg_keep h hb
      · intro x w w' h hb; exact bg_keep h hb
      · exact fun _ _ _ h _ => h
      · exact fun _ _ _ h _ => h
      · exact fun _ _ _ h _ => h
      · exact fun _ _ _ h _ => h
    · refine upS (upS (upS (upS (upS (upS (upS (upS (upS (upS (upS up0 ?_) ?_) ?_) ?_) ?_) ?_) ?_) ?_) ?_) ?_) ?_
      all_goals intro v f w' hb hv hB hd
      · have b2 : f.tmps[2]? = some (.pointer (some ⟨w.heap.size, 0, none⟩)) := (hb 2 (by decide)).trans rfl
        clear hb hv hd
        refine wpOp_step rfl fun K hK => ?_
        go_simp
        exact hK _ _ ⟨_, rfl, Below.refl _ _, rfl, fun h => absurd h (by decide)⟩
      · have d0 := got (hv 0 39 rfl) (hd 0 (by kernel_rfl))
        clear hb hv hd
        have c := tc_keep hB kA
        refine wpOp_step rfl fun K hK => ?_
        go_simp
        exact hK _ _ ⟨_, rfl, Below.refl _ _, rfl, fun h => absurd h (by decide)⟩
      · have d1 := got (hv 1 40 rfl) (hd 1 (by kernel_rfl))
        clear hb hv hd
        refine wpOp_call rfl Try.call23 (args1 (eval_tmp d1)) (o0 _) ?_
        rintro e w5 ⟨v5, rfl, h5, hb5⟩
        exact ⟨_, rfl, _, rfl, hb5, h5, fun h => absurd h (by decide)⟩
      · have b8 : f.tmps[8]? = some (.pointer (some ⟨gt, 0, none⟩)) := (hb 8 (by decide)).trans rfl
        clear hb hv hd
        have c := bc_keep hB kc
        refine wpOp_step rfl fun K hK => ?_
        go_simp
        exact hK _ _ ⟨_, rfl, Below.refl _ _, rfl, fun h => absurd h (by decide)⟩
      · clear hb hv hd
        refine wpOp_call rfl Try.call26 (args1 rfl) (power_15 _) ?_
        rintro e w5 ⟨v5, rfl, h5, hb5⟩
        exact ⟨_, rfl, _, rfl, hb5, h5, fun h => absurd h (by decide)⟩
      · have d3 := got (hv 3 42 rfl) (hd 3 (by kernel_rfl))
        have h4 : BG w' (v 4) (32768) := hd 4 (by kernel_rfl)
        have d4 : f.tmps[43]? = some (v 4) := hv 4 43 rfl
        clear hb hv hd
        refine wpOp_call rfl Try.call25 (args2 (eval_tmp d3) (eval_tmp d4)) (even_big _ _ (256 * x1 + d) 32768 _ (bg_keep kg hB) h4 (by decide) tF ⟨by decide, by decide⟩) ?_
        rintro e w5 ⟨v5, rfl, h5, hb5⟩
        exact ⟨_, rfl, _, rfl, hb5, by rwa [EF.out] at h5, fun h => absurd h (by decide)⟩
      · have h2 : BG w' (v 2) (x0) := hd 2 (by kernel_rfl)
        have d2 : f.tmps[41]? = some (v 2) := hv 2 41 rfl
        have h5 : BG w' (v 5) (H) := hd 5 (by kernel_rfl)
        have d5 : f.tmps[44]? = some (v 5) := hv 5 44 rfl
        clear hb hv hd
        refine wpOp_call rfl Try.call21 (args2 (eval_tmp d2) (eval_tmp d5)) (add_big _ _ x0 H _ h2 h5 s0 sH) ?_
        rintro e w5 ⟨v5, rfl, h5, hb5⟩
        exact ⟨_, rfl, _, rfl, hb5, h5, fun h => absurd h (by decide)⟩
      · have h6 : BG w' (v 6) (x0 + H) := hd 6 (by kernel_rfl)
        have d6 : f.tmps[45]? = some (v 6) := hv 6 45 rfl
        clear hb hv hd
        refine wpOp_call rfl Try.call24 (args1 (eval_tmp d6)) (cT1 _ _ h6) ?_
        rintro e5 w5 ⟨rfl, hb5⟩
        exact ⟨_, rfl, _, rfl, hb5, rfl, fun h => absurd h (by decide)⟩
      · have d7 := got (hv 7 46 rfl) (hd 7 (by kernel_rfl))
        clear hb hv hd
        refine wpOp_step rfl fun K hK => ?_
        go_simp
        exact hK _ _ ⟨_, rfl, Below.refl _ _, rfl, fun h => absurd h (by decide)⟩
      · have d8 := got (hv 8 38 rfl) (hd 8 (by kernel_rfl))
        clear hb hv hd
        refine wpOp_step rfl fun K hK => ?_
        go_simp
        exact hK _ _ ⟨_, rfl, Below.refl _ _, rfl, fun h => absurd h (by decide)⟩
      · have d8 := got (hv 8 38 rfl) (hd 8 (by kernel_rfl))
        clear hb hv hd
        refine wpOp_step rfl fun K hK => ?_
        go_simp
        exact hK _ _ ⟨_, rfl, Below.refl _ _, rfl, fun h => absurd h (by decide)⟩
    · intro v w' hB hF hD
      have F0 : v 0 = _ := hF 0 (by simp)
      have F1 : v 1 = _ := hF 1 (by simp)
      have F2 : BG w' (v 2) (x0) := hF 2 (by simp)
      have F3 : v 3 = _ := hF 3 (by simp)
      have F4 : BG w' (v 4) (32768) := hF 4 (by simp)
      have F5 : BG w' (v 5) (H) := hF 5 (by simp)
      have F6 : BG w' (v 6) (x0 + H) := hF 6 (by simp)
      have F7 : v 7 = _ := hF 7 (by simp)
      have F8 : v 8 = _ := hF 8 (by simp)
      have F9 : v 9 = _ := hF 9 (by simp)
      have F10 : v 10 = _ := hF 10 (by simp)
      clear hF
      obtain ⟨n2_, a2_, k2_, c2_, e2⟩ := bg_form F2
      obtain ⟨n4_, a4_, k4_, c4_, e4⟩ := bg_form F4
      obtain ⟨n5_, a5_, k5_, c5_, e5⟩ := bg_form F5
      obtain ⟨n6_, a6_, k6_, c6_, e6⟩ := bg_form F6
      simp only [frOf, frGo, Nat.zero_add, Nat.reduceAdd, F0, F1, e2, F3, e4, e5, e6, F7, F8, F9, F10]
      have hb9 := hB
      clear F0 F1 F2 F3 F4 F5 F6 F7 F8 F9 F10 e2 e4 e5 e6 hB hD kc kg o0 s0 sH tF EF cT1 v
      have qf9 := tf_keep hb9 qc qf
      replace kA := tc_keep hb9 kA
      replace qc := tc_keep hb9 qc
      replace B0 := b_trans B0 hb9
      clear qf
      have qf := qf9
      clear qf9 hb9
      by_cases hE : E = 0
      · subst hE
        go_wp2_with fail
        refine (o1' _).mono ?_
        rintro e w4 ⟨v4, rfl, g4, hb9⟩
        obtain ⟨n4, a4, k4, c4, rfl⟩ := bg_form g4
        have qf9 := tf_keep hb9 qc qf
        replace kA := tc_keep hb9 kA
        replace qc := tc_keep hb9 qc
        replace B0 := b_trans B0 hb9
        clear qf
        have qf := qf9
        clear qf9 hb9
        go_wp2_with fail
        refine (oD _).mono ?_
        rintro e w5 ⟨v5, rfl, g5, hb9⟩
        obtain ⟨n5, a5, k5, c5, rfl⟩ := bg_form g5
        replace g4 := bg_keep g4 hb9
        have qf9 := tf_keep hb9 qc qf
        replace kA := tc_keep hb9 kA
        replace qc := tc_keep hb9 qc
        replace B0 := b_trans B0 hb9
        clear qf
        have qf := qf9
        clear qf9 hb9
        go_wp2_with fail
        refine (power_7 _).mono ?_
        rintro e w6 ⟨v6, rfl, g6, hb9⟩
        obtain ⟨n6, a6, k6, c6, rfl⟩ := bg_form g6
        replace g4 := bg_keep g4 hb9
        replace g5 := bg_keep g5 hb9
        have qf9 := tf_keep hb9 qc qf
        replace kA := tc_keep hb9 kA
        replace qc := tc_keep hb9 qc
        replace B0 := b_trans B0 hb9
        clear qf
        have qf := qf9
        clear qf9 hb9
        go_wp2_with fail
        refine (even_big _ _ d 128 _ g5 g6 (by decide) tD ⟨by decide, by decide⟩).mono ?_
        rintro e w7 ⟨v7, rfl, g7, hb9⟩
        rw [EG.out] at g7
        obtain ⟨n7, a7, k7, c7, rfl⟩ := bg_form g7
        replace g4 := bg_keep g4 hb9
        have qf9 := tf_keep hb9 qc qf
        replace kA := tc_keep hb9 kA
        replace qc := tc_keep hb9 qc
        replace B0 := b_trans B0 hb9
        clear qf
        have qf := qf9
        clear qf9 hb9
        clear g5 g6
        go_wp2_with fail
        refine (add_big _ _ x1 V _ g4 g7 s1' sV).mono ?_
        rintro e w8 ⟨v8, rfl, g8, hb9⟩
        obtain ⟨n8, a8, k8, c8, rfl⟩ := bg_form g8
        have qf9 := tf_keep hb9 qc qf
        replace kA := tc_keep hb9 kA
        replace qc := tc_keep hb9 qc
        replace B0 := b_trans B0 hb9
        clear qf
        have qf := qf9
        clear qf9 hb9
        clear g4 g7
        go_wp2_with fail
        refine (cT2 _ _ g8).mono ?_
        rintro e w9 ⟨rfl, hb9⟩
        have qf9 := tf_keep hb9 qc qf
        replace kA := tc_keep hb9 kA
        replace qc := tc_keep hb9 qc
        replace B0 := b_trans B0 hb9
        clear qf
        have qf := qf9
        clear qf9 hb9
        clear g8 o1' oD cT2 EG tD s1' sV sd
        by_cases hF : F = 0
        · subst hF
          have NN := Lib.hid (And.intro (oz_yes X) (And.intro (oz_yes Y) (oz_yes x2)))
          have B9 := b_set (p := ⟨w.heap.size + 1, 2, none⟩) (v := .int .i64 x2) (b_set (p := ⟨w.heap.size + 1, 1, none⟩) (v := .int .i64 Y) (b_set (p := ⟨w.heap.size + 1, 0, none⟩) (v := .int .i64 X) B0 (Nat.le_succ _)) (Nat.le_succ _)) (Nat.le_succ _)
          clear B0
          go_wp2
          exact bodyPost_ret (v := .tuple #[tv X Y x2, .int .i64 0]) (by simp [results, Try.results7, go_sem, qc]) rfl ⟨by rw [NN.out.1.1, NN.out.2.1.1, NN.out.2.2.1, NN.out.1.2], B9⟩
        · have NN := Lib.hid (And.intro (oz_no (e := 0) (f := F) (fun h => hF h.2) X) (And.intro (oz_no (e := 0) (f := F) (fun h => hF h.2) Y) (oz_no (e := 0) (f := F) (fun h => hF h.2) x2)))
          have e0 : (F == 0) = false := by simpa using hF
          clear kA hF
          have B9 := b_set (p := ⟨w.heap.size + 1, 2, none⟩) (v := .int .i64 0) (b_set (p := ⟨w.heap.size + 1, 1, none⟩) (v := .int .i64 0) (b_set (p := ⟨w.heap.size + 1, 0, none⟩) (v := .int .i64 0) B0 (Nat.le_succ _)) (Nat.le_succ _)) (Nat.le_succ _)
          clear B0
          go_wp2
          exact bodyPost_ret (v := .tuple #[tv 0 0 0, .int .i64 3]) (by simp [results, Try.results7, go_sem, qc]) rfl ⟨by rw [NN.out.1.1, NN.out.2.1.1, NN.out.2.2.1, NN.out.1.2], B9⟩
      · have NN := Lib.hid (And.intro (oz_no (e := E) (f := F) (fun h => hE h.1) X) (And.intro (oz_no (e := E) (f := F) (fun h => hE h.1) Y) (oz_no (e := E) (f := F) (fun h => hE h.1) x2)))
        have e0 : (E == 0) = false := by simpa using hE
        clear kA hE
        have B9 := b_set (p := ⟨w.heap.size + 1, 2, none⟩) (v := .int .i64 0) (b_set (p := ⟨w.heap.size + 1, 1, none⟩) (v := .int .i64 0) (b_set (p := ⟨w.heap.size + 1, 0, none⟩) (v := .int .i64 0) B0 (Nat.le_succ _)) (Nat.le_succ _)) (Nat.le_succ _)
        clear B0
        go_wp2
        exact bodyPost_ret (v := .tuple #[tv 0 0 0, .int .i64 3]) (by simp [results, Try.results7, go_sem, qc]) rfl ⟨by rw [NN.out.1.1, NN.out.2.1.1, NN.out.2.2.1, NN.out.1.2], B9⟩
    · intro v w' hB hF hD
      have F0 : v 0 = _ := hF 0 (by simp) (by decide)
      have F1 : v 1 = _ := hF 1 (by simp) (by decide)
      have F2 : BG w' (v 2) (x0) := hF 2 (by simp) (by decide)
      have F3 : v 3 = _ := hF 3 (by simp) (by decide)
      have F4 : BG w' (v 4) (32768) := hF 4 (by simp) (by decide)
      have F5 : BG w' (v 5) (H) := hF 5 (by simp) (by decide)
      have F6 : BG w' (v 6) (x0 + H) := hF 6 (by simp) (by decide)
      have F7 : v 7 = _ := hF 7 (by simp) (by decide)
      have F8 : v 8 = _ := hF 8 (by simp) (by decide)
      have F9 : v 9 = _ := hF 9 (by simp) (by decide)
      clear hF
      obtain ⟨n2_, a2_, k2_, c2_, e2⟩ := bg_form F2
      obtain ⟨n4_, a4_, k4_, c4_, e4⟩ := bg_form F4
      obtain ⟨n5_, a5_, k5_, c5_, e5⟩ := bg_form F5
      obtain ⟨n6_, a6_, k6_, c6_, e6⟩ := bg_form F6
      simp only [frOf, frGo, Nat.zero_add, Nat.reduceAdd, F0, F1, e2, F3, e4, e5, e6, F7, F8, F9]
      have hb9 := hB
      clear F0 F1 F2 F3 F4 F5 F6 F7 F8 F9 e2 e4 e5 e6 hB hD kc kg o0 s0 sH tF EF cT1
      have qf9 := tf_keep hb9 qc qf
      replace kA := tc_keep hb9 kA
      replace qc := tc_keep hb9 qc
      replace B0 := b_trans B0 hb9
      clear qf
      have qf := qf9
      clear qf9 hb9
      refine wpOp_step rfl (fun K hK => ?_)
      go_simp
      refine hK _ _ ?_
      clear hK K
      refine wpOp_step rfl (fun K hK => ?_)
      go_simp
      refine hK _ _ ?_
      clear hK K
      clear v
      by_cases hE : E = 0
      · subst hE
        go_wp2_with fail
        refine (o1' _).mono ?_
        rintro e w4 ⟨v4, rfl, g4, hb9⟩
        obtain ⟨n4, a4, k4, c4, rfl⟩ := bg_form g4
        have qf9 := tf_keep hb9 qc qf
        replace kA := tc_keep hb9 kA
        replace qc := tc_keep hb9 qc
        replace B0 := b_trans B0 hb9
        clear qf
        have qf := qf9
        clear qf9 hb9
        go_wp2_with fail
        refine (oD _).mono ?_
        rintro e w5 ⟨v5, rfl, g5, hb9⟩
        obtain ⟨n5, a5, k5, c5, rfl⟩ := bg_form g5
        replace g4 := bg_keep g4 hb9
        have qf9 := tf_keep hb9 qc qf
        replace kA := tc_keep hb9 kA
        replace qc := tc_keep hb9 qc
        replace B0 := b_trans B0 hb9
        clear qf
        have qf := qf9
        clear qf9 hb9
        go_wp2_with fail
        refine (power_7 _).mono ?_
        rintro e w6 ⟨v6, rfl, g6, hb9⟩
        obtain ⟨n6, a6, k6, c6, rfl⟩ := bg_form g6
        replace g4 := bg_keep g4 hb9
        replace g5 := bg_keep g5 hb9
        have qf9 := tf_keep hb9 qc qf
        replace kA := tc_keep hb9 kA
        replace qc := tc_keep hb9 qc
        replace B0 := b_trans B0 hb9
        clear qf
        have qf := qf9
        clear qf9 hb9
        go_wp2_with fail
        refine (even_big _ _ d 128 _ g5 g6 (by decide) tD ⟨by decide, by decide⟩).mono ?_
        rintro e w7 ⟨v7, rfl, g7, hb9⟩
        rw [EG.out] at g7
        obtain ⟨n7, a7, k7, c7, rfl⟩ := bg_form g7
        replace g4 := bg_keep g4 hb9
        have qf9 := tf_keep hb9 qc qf
        replace kA := tc_keep hb9 kA
        replace qc := tc_keep hb9 qc
        replace B0 := b_trans B0 hb9
        clear qf
        have qf := qf9
        clear qf9 hb9
        clear g5 g6
        go_wp2_with fail
        refine (add_big _ _ x1 V _ g4 g7 s1' sV).mono ?_
        rintro e w8 ⟨v8, rfl, g8, hb9⟩
        obtain ⟨n8, a8, k8, c8, rfl⟩ := bg_form g8
        have qf9 := tf_keep hb9 qc qf
        replace kA := tc_keep hb9 kA
        replace qc := tc_keep hb9 qc
        replace B0 := b_trans B0 hb9
        clear qf
        have qf := qf9
        clear qf9 hb9
        clear g4 g7
        go_wp2_with fail
        refine (cT2 _ _ g8).mono ?_
        rintro e w9 ⟨rfl, hb9⟩
        have qf9 := tf_keep hb9 qc qf
        replace kA := tc_keep hb9 kA
        replace qc := tc_keep hb9 qc
        replace B0 := b_trans B0 hb9
        clear qf
        have qf := qf9
        clear qf9 hb9
        clear g8 o1' oD cT2 EG tD s1' sV sd
        by_cases hF : F = 0
        · subst hF
          have NN := Lib.hid (And.intro (oz_yes X) (And.intro (oz_yes Y) (oz_yes x2)))
          have B9 := b_set (p := ⟨w.heap.size + 1, 2, none⟩) (v := .int .i64 x2) (b_set (p := ⟨w.heap.size + 1, 1, none⟩) (v := .int .i64 Y) (b_set (p := ⟨w.heap.size + 1, 0, none⟩) (v := .int .i64 X) B0 (Nat.le_succ _)) (Nat.le_succ _)) (Nat.le_succ _)
          clear B0
          go_wp2
          exact bodyPost_ret (v := .tuple #[tv X Y x2, .int .i64 0]) (by simp [results, Try.results7, go_sem, qc]) rfl ⟨by rw [NN.out.1.1, NN.out.2.1.1, NN.out.2.2.1, NN.out.1.2], B9⟩
        · have NN := Lib.hid (And.intro (oz_no (e := 0) (f := F) (fun h => hF h.2) X) (And.intro (oz_no (e := 0) (f := F) (fun h => hF h.2) Y) (oz_no (e := 0) (f := F) (fun h => hF h.2) x2)))
          have e0 : (F == 0) = false := by simpa using hF
          clear kA hF
          have B9 := b_set (p := ⟨w.heap.size + 1, 2, none⟩) (v := .int .i64 0) (b_set (p := ⟨w.heap.size + 1, 1, none⟩) (v := .int .i64 0) (b_set (p := ⟨w.heap.size + 1, 0, none⟩) (v := .int .i64 0) B0 (Nat.le_succ _)) (Nat.le_succ _)) (Nat.le_succ _)
          clear B0
          go_wp2
          exact bodyPost_ret (v := .tuple #[tv 0 0 0, .int .i64 3]) (by simp [results, Try.results7, go_sem, qc]) rfl ⟨by rw [NN.out.1.1, NN.out.2.1.1, NN.out.2.2.1, NN.out.1.2], B9⟩
      · have NN := Lib.hid (And.intro (oz_no (e := E) (f := F) (fun h => hE h.1) X) (And.intro (oz_no (e := E) (f := F) (fun h => hE h.1) Y) (oz_no (e := E) (f := F) (fun h => hE h.1) x2)))
        have e0 : (E == 0) = false := by simpa using hE
        clear kA hE
        have B9 := b_set (p := ⟨w.heap.size + 1, 2, none⟩) (v := .int .i64 0) (b_set (p := ⟨w.heap.size + 1, 1, none⟩) (v := .int .i64 0) (b_set (p := ⟨w.heap.size + 1, 0, none⟩) (v := .int .i64 0) B0 (Nat.le_succ _)) (Nat.le_succ _)) (Nat.le_succ _)
        clear B0
        go_wp2
        exact bodyPost_ret (v := .tuple #[tv 0 0 0, .int .i64 3]) (by simp [results, Try.results7, go_sem, qc]) rfl ⟨by rw [NN.out.1.1, NN.out.2.1.1, NN.out.2.2.1, NN.out.1.2], B9⟩

end Go.Proofs.Ytahpiakjhdnigaa
