/- Package motion: rounded: the call's answer, of one term and of two. -/
import Derived.Test.YtahpiakjhdnigaaWideB
import Derived.Test.YtahpiakjhdnigaaWideE
import Derived.Test.YtahpiakjhdnigaaFixed
import Derived.Test.YtahpiakjhdnigaaVecE
import Derived.Test.YtahpiakjhdnigaaMotA
namespace Go.Proofs.Ytahpiakjhdnigaa
open Go.RowKit Go.Shelf

/-- A row of two wide numbers, one behind the other. -/
abbrev W2 (w : World) (b : Nat) (h l h' l' : Int) : Prop := WC w b h l ∧ w.cell? ⟨b, 2, none⟩ = some (.int .i64 h') ∧ w.cell? ⟨b, 3, none⟩ = some (.int .u64 l')
theorem w2_keep {w w' : World} (hb : Below w.heap.size w w') {b : Nat} {h l h' l' : Int} (c : W2 w b h l h' l') : W2 w' b h l h' l' := ⟨wc_keep hb c.1, cell_keep hb c.2.1, cell_keep hb c.2.2⟩
theorem w2_set {w : World} {b b1 o : Nat} {h l h' l' : Int} {v : Value} (c : W2 w b h l h' l') (hb : b1 ≠ b) : W2 (w.setCell ⟨b1, o, none⟩ v) b h l h' l' :=
  ⟨wc_set c.1 hb, by rw [World.cell?_setCell_far _ _ _ _ hb]; exact c.2.1, by rw [World.cell?_setCell_far _ _ _ _ hb]; exact c.2.2⟩
set_option maxHeartbeats 4000000 in
theorem rounded_2_go (n h0 l0 sh0 sl0 h1 l1 sh1 sl1 hz lz z : Int)
    (o0 : ∀ w, Calls Try.prog 16 #[.int .i64 0] w (RetV (wv 0 0) w))
    (p0 : ∀ w, Calls Try.prog 32 #[wv 0 0, wv h0 l0] w (RetV (.tuple #[wv sh0 sl0, .int .i64 0]) w))
    (p1 : ∀ w, Calls Try.prog 32 #[wv sh0 sl0, wv h1 l1] w (RetV (.tuple #[wv sh1 sl1, .int .i64 0]) w))
    (hF : ∀ w, Calls Try.prog 33 #[wv sh1 sl1, .int .i64 n] w (RetV (.tuple #[wv hz lz, .int .i64 0]) w))
    (hI : ∀ w, Calls Try.prog 34 #[wv hz lz] w (RetV (.tuple #[.int .i64 z, .int .i64 0]) w)) (G : Nat) (w : World) (kG : W2 w G h0 l0 h1 l1) :
    Calls Try.prog 14 #[.int .i64 n, .slice (some ⟨G, 0, none⟩) 2 2] w (RetV (.int .i64 z) w) := by
  go_enter Try.func14, Try.ntmps14
  go_wp2_with fail
  refine (o0 _).mono ?_
  rintro e1 w1 ⟨rfl, hb1⟩
  replace kG := w2_keep hb1 kG
  have nG : w1.heap.size ≠ G := fun c => by have := wc_lt kG.1; omega
  have hS : w.heap.size ≤ w1.heap.size := hb1.size
  have B0 := b_alloc (o := (Obj.cells #[.int .i64 0, .int .u64 0] 40)) hb1
  have kS : WC (w1.alloc (Obj.cells #[.int .i64 0, .int .u64 0] 40)) w1.heap.size 0 0 := by simp [WC, go_sem]
  have fS : WF (w1.alloc (Obj.cells #[.int .i64 0, .int .u64 0] 40)) w1.heap.size := by simp [WF, go_sem]
  replace kG := w2_keep (b_alloc (o := (Obj.cells #[.int .i64 0, .int .u64 0] 40)) (Below.refl _ _)) kG
  clear hb1 o0
  go_wp2
  generalize w1.alloc (Obj.cells #[.int .i64 0, .int .u64 0] 40) = u0 at *
  generalize w1.heap.size = S at *
  refine wp_loop_rounds 3 ?_
  rw [rounds_succ]
  have al := b_alloc (o := (Obj.cells #[.int .i64 h0, .int .u64 l0] 40)) (Below.refl u0.heap.size u0)
  have kT : WC (u0.alloc (Obj.cells #[.int .i64 h0, .int .u64 l0] 40)) u0.heap.size h0 l0 := by simp [WC, go_sem]
  have kS1 := wc_keep al kS
  have fS1 := wf_keep al kS fS
  have kG1 := w2_keep al kG
  replace B0 := b_trans B0 al
  clear al fS
  go_wp2_with fail
  refine (p0 _).mono ?_
  rintro e0 v0 ⟨rfl, hb9⟩
  have fS := wf_keep hb9 kS1 fS1
  clear kS kG
  have kS := wc_keep hb9 kS1
  have kG := w2_keep hb9 kG1
  replace B0 := b_trans B0 hb9
  clear hb9 kT kS1 fS1 kG1 p0
  have KK := Lib.hid (And.intro (b_set (p := ⟨S, 1, none⟩) (v := .int .u64 sl0) (b_set (p := ⟨S, 0, none⟩) (v := .int .i64 sh0) B0 hS) hS) (And.intro (wc_mine (h' := sh0) (l' := sl0) kS) (And.intro (wf_set (b1 := S) (o := 1) (v := .int .u64 sl0) (wf_set (b1 := S) (o := 0) (v := .int .i64 sh0) fS)) (w2_set (b1 := S) (o := 1) (v := .int .u64 sl0) (w2_set (b1 := S) (o := 0) (v := .int .i64 sh0) kG nG) nG))))
  clear B0 kG
  go_wp2
  clear kS fS
  generalize (v0.setCell ⟨S, 0, none⟩ (.int .i64 sh0)).setCell ⟨S, 1, none⟩ (.int .u64 sl0) = u1 at *
  obtain ⟨B0, kS, fS, kG⟩ := KK.out
  clear KK
  rw [rounds_succ]
  have al := b_alloc (o := (Obj.cells #[.int .i64 h1, .int .u64 l1] 40)) (Below.refl u1.heap.size u1)
  have kT : WC (u1.alloc (Obj.cells #[.int .i64 h1, .int .u64 l1] 40)) u1.heap.size h1 l1 := by simp [WC, go_sem]
  have kS1 := wc_keep al kS
  have fS1 := wf_keep al kS fS
  have kG1 := w2_keep al kG
  replace B0 := b_trans B0 al
  clear al fS
  go_wp2_with fail
  refine (p1 _).mono ?_
  rintro e1 v1 ⟨rfl, hb9⟩
  have fS := wf_keep hb9 kS1 fS1
  clear kS kG
  have kS := wc_keep hb9 kS1
  have kG := w2_keep hb9 kG1
  replace B0 := b_trans B0 hb9
  clear hb9 kT kS1 fS1 kG1 p1
  have KK := Lib.hid (And.intro (b_set (p := ⟨S, 1, none⟩) (v := .int .u64 sl1) (b_set (p := ⟨S, 0, none⟩) (v := .int .i64 sh1) B0 hS) hS) (And.intro (wc_mine (h' := sh1) (l' := sl1) kS) (And.intro (wf_set (b1 := S) (o := 1) (v := .int .u64 sl1) (wf_set (b1 := S) (o := 0) (v := .int .i64 sh1) fS)) (w2_set (b1 := S) (o := 1) (v := .int .u64 sl1) (w2_set (b1 := S) (o := 0) (v := .int .i64 sh1) kG nG) nG))))
  clear B0 kG
  go_wp2
  clear kS fS
  generalize (v1.setCell ⟨S, 0, none⟩ (.int .i64 sh1)).setCell ⟨S, 1, none⟩ (.int .u64 sl1) = u2 at *
  obtain ⟨B0, kS, fS, kG⟩ := KK.out
  clear KK
  clear kG fS
  rw [rounds_succ]
  go_wp2_with fail
  refine (hF _).mono ?_
  rintro e5 w5 ⟨rfl, hb5⟩
  replace B0 := b_alloc (o := (Obj.cells #[.int .i64 hz, .int .u64 lz] 40)) (b_trans B0 hb5)
  have c5 : WC (w5.alloc (Obj.cells #[.int .i64 hz, .int .u64 lz] 40)) w5.heap.size hz lz := by simp [WC, go_sem]
  clear hb5 kS hF
  go_wp2_with fail
  refine (hI _).mono ?_
  rintro e6 w6 ⟨rfl, hb6⟩
  replace B0 := b_trans B0 hb6
  clear hb6 c5 hI
  go_wp2
  go_ret
  exact ⟨rfl, B0⟩

set_option maxHeartbeats 4000000 in
theorem rounded_1_go (n h0 l0 sh0 sl0 hz lz z : Int)
    (o0 : ∀ w, Calls Try.prog 16 #[.int .i64 0] w (RetV (wv 0 0) w))
    (p0 : ∀ w, Calls Try.prog 32 #[wv 0 0, wv h0 l0] w (RetV (.tuple #[wv sh0 sl0, .int .i64 0]) w))
    (hF : ∀ w, Calls Try.prog 33 #[wv sh0 sl0, .int .i64 n] w (RetV (.tuple #[wv hz lz, .int .i64 0]) w))
    (hI : ∀ w, Calls Try.prog 34 #[wv hz lz] w (RetV (.tuple #[.int .i64 z, .int .i64 0]) w)) (G : Nat) (w : World) (kG : WC w G h0 l0) :
    Calls Try.prog 14 #[.int .i64 n, .slice (some ⟨G, 0, none⟩) 1 1] w (RetV (.int .i64 z) w) := by
  go_enter Try.func14, Try.ntmps14
  go_wp2_with fail
  refine (o0 _).mono ?_
  rintro e1 w1 ⟨rfl, hb1⟩
  replace kG := wc_keep hb1 kG
  have nG : w1.heap.size ≠ G := fun c => by have := wc_lt kG; omega
  have hS : w.heap.size ≤ w1.heap.size := hb1.size
  have B0 := b_alloc (o := (Obj.cells #[.int .i64 0, .int .u64 0] 40)) hb1
  have kS : WC (w1.alloc (Obj.cells #[.int .i64 0, .int .u64 0] 40)) w1.heap.size 0 0 := by simp [WC, go_sem]
  have fS : WF (w1.alloc (Obj.cells #[.int .i64 0, .int .u64 0] 40)) w1.heap.size := by simp [WF, go_sem]
  replace kG := wc_keep (b_alloc (o := (Obj.cells #[.int .i64 0, .int .u64 0] 40)) (Below.refl _ _)) kG
  clear hb1 o0
  go_wp2
  generalize w1.alloc (Obj.cells #[.int .i64 0, .int .u64 0] 40) = u0 at *
  generalize w1.heap.size = S at *
  refine wp_loop_rounds 2 ?_
  rw [rounds_succ]
  have al := b_alloc (o := (Obj.cells #[.int .i64 h0, .int .u64 l0] 40)) (Below.refl u0.heap.size u0)
  have kT : WC (u0.alloc (Obj.cells #[.int .i64 h0, .int .u64 l0] 40)) u0.heap.size h0 l0 := by simp [WC, go_sem]
  have kS1 := wc_keep al kS
  have fS1 := wf_keep al kS fS
  have kG1 := wc_keep al kG
  replace B0 := b_trans B0 al
  clear al fS
  go_wp2_with fail
  refine (p0 _).mono ?_
  rintro e0 v0 ⟨rfl, hb9⟩
  have fS := wf_keep hb9 kS1 fS1
  clear kS kG
  have kS := wc_keep hb9 kS1
  have kG := wc_keep hb9 kG1
  replace B0 := b_trans B0 hb9
  clear hb9 kT kS1 fS1 kG1 p0
  have KK := Lib.hid (And.intro (b_set (p := ⟨S, 1, none⟩) (v := .int .u64 sl0) (b_set (p := ⟨S, 0, none⟩) (v := .int .i64 sh0) B0 hS) hS) (And.intro (wc_mine (h' := sh0) (l' := sl0) kS) (And.intro (wf_set (b1 := S) (o := 1) (v := .int .u64 sl0) (wf_set (b1 := S) (o := 0) (v := .int .i64 sh0) fS)) (wc_set (b1 := S) (o := 1) (v := .int .u64 sl0) (wc_set (b1 := S) (o := 0) (v := .int .i64 sh0) kG nG) nG))))
  clear B0 kG
  go_wp2
  clear kS fS
  generalize (v0.setCell ⟨S, 0, none⟩ (.int .i64 sh0)).setCell ⟨S, 1, none⟩ (.int .u64 sl0) = u1 at *
  obtain ⟨B0, kS, fS, kG⟩ := KK.out
  clear KK
  clear kG fS
  rw [rounds_succ]
  go_wp2_with fail
  refine (hF _).mono ?_
  rintro e5 w5 ⟨rfl, hb5⟩
  replace B0 := b_alloc (o := (Obj.cells #[.int .i64 hz, .int .u64 lz] 40)) (b_trans B0 hb5)
  have c5 : WC (w5.alloc (Obj.cells #[.int .i64 hz, .int .u64 lz] 40)) w5.heap.size hz lz := by simp [WC, go_sem]
  clear hb5 kS hF
  go_wp2_with fail
  refine (hI _).mono ?_
  rintro e6 w6 ⟨rfl, hb6⟩
  replace B0 := b_trans B0 hb6
  clear hb6 c5 hI
  go_wp2
  go_ret
  exact ⟨rfl, B0⟩

theorem rounded_2 (n a b : Int) {h0 l0 h1 l1 : Int} (x0 : IsW h0 l0 a) (x1 : IsW h1 l1 b) (n0 : 1 ≤ n) (n1 : n ≤ 127) (f0 : Fits (0 + a)) (f1 : Fits (0 + a + b)) (fz' : Fits (evn (0 + a + b) (2 ^ n.toNat))) (i : I64 (evn (0 + a + b) (2 ^ n.toNat))) (G : Nat) (w : World) (kG : W2 w G h0 l0 h1 l1) :
    Calls Try.prog 14 #[.int .i64 n, .slice (some ⟨G, 0, none⟩) 2 2] w (RetV (.int .i64 (evn (0 + a + b) (2 ^ n.toNat))) w) := by
  obtain ⟨sh, sl, y0⟩ : ∃ h l, IsW h l (0 + a) := ⟨_, _, IsW.mk' f0⟩
  obtain ⟨th, tl, y1⟩ : ∃ h l, IsW h l (0 + a + b) := ⟨_, _, IsW.mk' f1⟩
  obtain ⟨hz, lz, z3⟩ : ∃ h l, IsW h l (evn (0 + a + b) (2 ^ n.toNat)) := ⟨_, _, IsW.mk' fz'⟩
  exact rounded_2_go n h0 l0 sh sl h1 l1 th tl hz lz _
    (fun w => (of_any 0 (by decide) (by decide) w).mono fun _ _ => retW_det isW_zero)
    (fun w => (add_any 0 0 0 _ _ _ isW_zero x0 w).mono fun _ _ h => retWE_det y0 (by rwa [fz_of f0, fe_of f0] at h))
    (fun w => (add_any sh sl _ _ _ _ y0 x1 w).mono fun _ _ h => retWE_det y1 (by rwa [fz_of f1, fe_of f1] at h))
    (fun w => (half_any th tl _ n y1 n0 n1 w).mono fun _ _ h => retWE_det z3 h)
    (fun w => by have h := int_any hz lz _ z3 w; rwa [(iz_of i).1, (iz_of i).2] at h) G w kG
theorem rounded_1 (n a : Int) {h0 l0 : Int} (x0 : IsW h0 l0 a) (n0 : 1 ≤ n) (n1 : n ≤ 127) (f0 : Fits (0 + a)) (fz' : Fits (evn (0 + a) (2 ^ n.toNat))) (i : I64 (evn (0 + a) (2 ^ n.toNat))) (G : Nat) (w : World) (kG : WC w G h0 l0) :
    Calls Try.prog 14 #[.int .i64 n, .slice (some ⟨G, 0, none⟩) 1 1] w (RetV (.int .i64 (evn (0 + a) (2 ^ n.toNat))) w) := by
  obtain ⟨sh, sl, y0⟩ : ∃ h l, IsW h l (0 + a) := ⟨_, _, IsW.mk' f0⟩
  obtain ⟨hz, lz, z3⟩ : ∃ h l, IsW h l (evn (0 + a) (2 ^ n.toNat)) := ⟨_, _, IsW.mk' fz'⟩
  exact rounded_1_go n h0 l0 sh sl hz lz _
    (fun w => (of_any 0 (by decide) (by decide) w).mono fun _ _ => retW_det isW_zero)
    (fun w => (add_any 0 0 0 _ _ _ isW_zero x0 w).mono fun _ _ h => retWE_det y0 (by rwa [fz_of f0, fe_of f0] at h))
    (fun w => (half_any sh sl _ n y0 n0 n1 w).mono fun _ _ h => retWE_det z3 h)
    (fun w => by have h := int_any hz lz _ z3 w; rwa [(iz_of i).1, (iz_of i).2] at h) G w kG

end Go.Proofs.Ytahpiakjhdnigaa
