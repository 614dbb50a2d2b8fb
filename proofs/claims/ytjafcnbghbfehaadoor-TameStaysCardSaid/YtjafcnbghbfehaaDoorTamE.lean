/- Package tame: Tame's answer, by the three roots; Is. -/
import Derived.Test.YtjafcnbghbfehaaDoorTamD
namespace Go.Proofs.YtjafcnbghbfehaaDoor
open Go.RowKit Go.Shelf

theorem retV_same {P : Program} {f : FuncId} {args : Array Value} {w : World} {v : Value} (h : Calls P f args w fun e w' => e = .returned v ∧ w = w') : Calls P f args w (RetV v w) :=
  h.mono fun _ _ k => ⟨k.1, k.2 ▸ Below.refl _ _⟩
theorem tmz_sv (m : Nat → Int) (f0 f1 f2 c0 c1 c2 a b c : Int) : sv (umk (umk (umk (dgm (tdg (m 0) f0 c0) (tdg (m 3) f1 c1) (tdg (m 5) f2 c2)) 1 (clz (m 1) a)) 2 (clz (m 2) b)) 4 (clz (m 4) c)) = sv (tmz m f0 f1 f2 c0 c1 c2 a b c) := by
  simp [sv, umk, tmz, dgm]
theorem sub_i64 {x f : Int} (h : -9223372036854775808 ≤ x - f) (k : x - f ≤ 9223372036854775807) : IntKind.i64.wrap (x - f) = x - f := by
  rw [IntKind.wrap_i64]; omega
theorem tame_ok (m : Nat → Int) (f0 f1 f2 c0 c1 c2 a b c : Int) (hm : I6 m) (h0 : FB f0 c0) (h1 : FB f1 c1) (h2 : FB f2 c2) (R : TR m f0 f1 f2 c0 c1 c2 a b c) (w : World) (hp : PL w) :
    Calls Tryd.prog 6 #[sv m, tv f0 f1 f2, tv c0 c1 c2] w (RetV (.tuple #[sv (tmz m f0 f1 f2 c0 c1 c2 a b c), .int .i64 0]) w) := by
  have d0 := tdg_in (x := m 0) h0.2.1
  have d1 := tdg_in (x := m 3) h1.2.1
  have d2 := tdg_in (x := m 5) h2.2.1
  obtain ⟨ha, hb, hc⟩ := tr_fits h0 h1 h2 R
  have Ra := R.a
  have Rb := R.b
  have Rc := R.c
  rw [Int.mul_comm] at Ra Rb Rc
  have k1 := hm 1 (by decide)
  have k2 := hm 2 (by decide)
  have k4 := hm 4 (by decide)
  obtain ⟨h00, h01, h02⟩ := h0
  obtain ⟨h10, h11, h12⟩ := h1
  obtain ⟨h20, h21, h22⟩ := h2
  rw [← tmz_sv]
  refine tame_go m _ _ _ _ f0 f1 f2 c0 c1 c2 (tdg (m 0) f0 c0) (tdg (m 3) f1 c1) (tdg (m 5) f2 c2) (tdg (m 0) f0 c0 - f0) (tdg (m 3) f1 c1 - f1) (tdg (m 5) f2 c2 - f2) a b c (clz (m 1) a) (clz (m 2) b) (clz (m 4) c) ?_ (fun w => between_tam _ _ _ _ _ _ _ _ _ w) (fun w k => diag_any _ _ _ w k) (Lib.hid (sub_i64 (by omega) (by omega))) (Lib.hid (sub_i64 (by omega) (by omega))) (Lib.hid (sub_i64 (by omega) (by omega)))
    (fun w => mean_of _ _ a (by omega) (by omega) (by omega) (by omega) Ra w) (fun w => mean_of _ _ b (by omega) (by omega) (by omega) (by omega) Rb w) (fun w => mean_of _ _ c (by omega) (by omega) (by omega) (by omega) Rc w)
    (fun w => retV_same (clamp_fix _ _ k1.1 k1.2 (by omega) (by omega) w)) (fun w => retV_same (clamp_fix _ _ k2.1 k2.2 (by omega) (by omega) w)) (fun w => retV_same (clamp_fix _ _ k4.1 k4.2 (by omega) (by omega) w))
    (fun w k => put_ok _ _ _ _ _ (by simp [At9]) w k) (fun w k => put_ok _ _ _ _ _ (by simp [At9]) w k) (fun w k => put_ok _ _ _ _ _ (by simp [At9]) w k) w hp
  intro w
  have q := may_any f0 f1 f2 c0 c1 c2 ⟨by omega, by omega⟩ ⟨by omega, by omega⟩ ⟨by omega, by omega⟩ w
  rwa [mayb_yes ⟨⟨h00, h01, h02⟩, ⟨h10, h11, h12⟩, ⟨h20, h21, h22⟩⟩] at q
theorem tame_no (m : Nat → Int) (f0 f1 f2 c0 c1 c2 : Int) (k0 : I64 c0) (k1 : I64 c1) (k2 : I64 c2) (h : ¬ FB3 f0 f1 f2 c0 c1 c2) (w : World) (hp : PL w) :
    Calls Tryd.prog 6 #[sv m, tv f0 f1 f2, tv c0 c1 c2] w (RetV (.tuple #[sv (fun _ => 0), .int .i64 1]) w) := by
  refine tame_bad m f0 f1 f2 c0 c1 c2 ?_ w hp
  intro w
  have q := may_any f0 f1 f2 c0 c1 c2 k0 k1 k2 w
  rwa [mayb_no h] at q

set_option maxHeartbeats 2000000 in
set_option maxRecDepth 10000 in
theorem is_go (m x : Nat → Int) (f0 f1 f2 c0 c1 c2 : Int) (cT : ∀ w, PL w → Calls Tryd.prog 6 #[sv m, tv f0 f1 f2, tv c0 c1 c2] w (RetV (.tuple #[sv x, .int .i64 0]) w)) (w : World) (hp : PL w) :
    Calls Tryd.prog 11 #[sv m, tv f0 f1 f2, tv c0 c1 c2] w (RetV (.bool (sqb x m)) w) := by
  have kA : SC (((w.alloc (Obj.cells #[.int .i64 (m 0), .int .i64 (m 1), .int .i64 (m 2), .int .i64 (m 3), .int .i64 (m 4), .int .i64 (m 5)] 23)).alloc (Obj.cells #[.int .i64 f0, .int .i64 f1, .int .i64 f2] 25)).alloc (Obj.cells #[.int .i64 c0, .int .i64 c1, .int .i64 c2] 25)) w.heap.size m := sc_alloc (sc_alloc (sc_new (m := m) rfl))
  have kF : TC (((w.alloc (Obj.cells #[.int .i64 (m 0), .int .i64 (m 1), .int .i64 (m 2), .int .i64 (m 3), .int .i64 (m 4), .int .i64 (m 5)] 23)).alloc (Obj.cells #[.int .i64 f0, .int .i64 f1, .int .i64 f2] 25)).alloc (Obj.cells #[.int .i64 c0, .int .i64 c1, .int .i64 c2] 25)) (w.heap.size + 1) f0 f1 f2 := tc_alloc (tc_new (by simp))
  have kC : TC (((w.alloc (Obj.cells #[.int .i64 (m 0), .int .i64 (m 1), .int .i64 (m 2), .int .i64 (m 3), .int .i64 (m 4), .int .i64 (m 5)] 23)).alloc (Obj.cells #[.int .i64 f0, .int .i64 f1, .int .i64 f2] 25)).alloc (Obj.cells #[.int .i64 c0, .int .i64 c1, .int .i64 c2] 25)) (w.heap.size + 1 + 1) c0 c1 c2 := tc_new (by simp)
  have B : Below w.heap.size w (((w.alloc (Obj.cells #[.int .i64 (m 0), .int .i64 (m 1), .int .i64 (m 2), .int .i64 (m 3), .int .i64 (m 4), .int .i64 (m 5)] 23)).alloc (Obj.cells #[.int .i64 f0, .int .i64 f1, .int .i64 f2] 25)).alloc (Obj.cells #[.int .i64 c0, .int .i64 c1, .int .i64 c2] 25)) := b_alloc (b_alloc (b_alloc (Below.refl _ _)))
  replace hp := pl_keep B hp
  have l6 := sc_six kA
  go_enter Tryd.func11, Tryd.ntmps11
  go_wp2_with fail
  generalize (((w.alloc (Obj.cells #[.int .i64 (m 0), .int .i64 (m 1), .int .i64 (m 2), .int .i64 (m 3), .int .i64 (m 4), .int .i64 (m 5)] 23)).alloc (Obj.cells #[.int .i64 f0, .int .i64 f1, .int .i64 f2] 25)).alloc (Obj.cells #[.int .i64 c0, .int .i64 c1, .int .i64 c2] 25)) = y0 at *
  refine (cT _ hp).mono ?_
  rintro x_ y1 ⟨rfl, hb⟩
  replace B := b_trans B hb
  replace kA := sc_keep hb kA
  clear hb kF kC l6 cT hp
  have kX : SC (y1.alloc (Obj.cells #[.int .i64 (x 0), .int .i64 (x 1), .int .i64 (x 2), .int .i64 (x 3), .int .i64 (x 4), .int .i64 (x 5)] 23)) y1.heap.size x := sc_new (m := x) rfl
  replace kA := sc_alloc (o := (Obj.cells #[.int .i64 (x 0), .int .i64 (x 1), .int .i64 (x 2), .int .i64 (x 3), .int .i64 (x 4), .int .i64 (x 5)] 23)) kA
  replace B := b_alloc (o := (Obj.cells #[.int .i64 (x 0), .int .i64 (x 1), .int .i64 (x 2), .int .i64 (x 3), .int .i64 (x 4), .int .i64 (x 5)] 23)) B
  have l6 := sc_six kA
  have hse := fun w => sym_eq x m w
  generalize sqb x m = b at *
  go_wp2
  go_ret
  exact ⟨rfl, B⟩
set_option maxHeartbeats 2000000 in
set_option maxRecDepth 10000 in
theorem is_bad (m x : Nat → Int) (f0 f1 f2 c0 c1 c2 : Int) (cT : ∀ w, PL w → Calls Tryd.prog 6 #[sv m, tv f0 f1 f2, tv c0 c1 c2] w (RetV (.tuple #[sv x, .int .i64 1]) w)) (w : World) (hp : PL w) :
    Calls Tryd.prog 11 #[sv m, tv f0 f1 f2, tv c0 c1 c2] w (RetV (.bool false) w) := by
  have kA : SC (((w.alloc (Obj.cells #[.int .i64 (m 0), .int .i64 (m 1), .int .i64 (m 2), .int .i64 (m 3), .int .i64 (m 4), .int .i64 (m 5)] 23)).alloc (Obj.cells #[.int .i64 f0, .int .i64 f1, .int .i64 f2] 25)).alloc (Obj.cells #[.int .i64 c0, .int .i64 c1, .int .i64 c2] 25)) w.heap.size m := sc_alloc (sc_alloc (sc_new (m := m) rfl))
  have kF : TC (((w.alloc (Obj.cells #[.int .i64 (m 0), .int .i64 (m 1), .int .i64 (m 2), .int .i64 (m 3), .int .i64 (m 4), .int .i64 (m 5)] 23)).alloc (Obj.cells #[.int .i64 f0, .int .i64 f1, .int .i64 f2] 25)).alloc (Obj.cells #[.int .i64 c0, .int .i64 c1, .int .i64 c2] 25)) (w.heap.size + 1) f0 f1 f2 := tc_alloc (tc_new (by simp))
  have kC : TC (((w.alloc (Obj.cells #[.int .i64 (m 0), .int .i64 (m 1), .int .i64 (m 2), .int .i64 (m 3), .int .i64 (m 4), .int .i64 (m 5)] 23)).alloc (Obj.cells #[.int .i64 f0, .int .i64 f1, .int .i64 f2] 25)).alloc (Obj.cells #[.int .i64 c0, .int .i64 c1, .int .i64 c2] 25)) (w.heap.size + 1 + 1) c0 c1 c2 := tc_new (by simp)
  have B : Below w.heap.size w (((w.alloc (Obj.cells #[.int .i64 (m 0), .int .i64 (m 1), .int .i64 (m 2), .int .i64 (m 3), .int .i64 (m 4), .int .i64 (m 5)] 23)).alloc (Obj.cells #[.int .i64 f0, .int .i64 f1, .int .i64 f2] 25)).alloc (Obj.cells #[.int .i64 c0, .int .i64 c1, .int .i64 c2] 25)) := b_alloc (b_alloc (b_alloc (Below.refl _ _)))
  replace hp := pl_keep B hp
  have l6 := sc_six kA
  go_enter Tryd.func11, Tryd.ntmps11
  go_wp2_with fail
  generalize (((w.alloc (Obj.cells #[.int .i64 (m 0), .int .i64 (m 1), .int .i64 (m 2), .int .i64 (m 3), .int .i64 (m 4), .int .i64 (m 5)] 23)).alloc (Obj.cells #[.int .i64 f0, .int .i64 f1, .int .i64 f2] 25)).alloc (Obj.cells #[.int .i64 c0, .int .i64 c1, .int .i64 c2] 25)) = y0 at *
  refine (cT _ hp).mono ?_
  rintro x_ y1 ⟨rfl, hb⟩
  replace B := b_trans B hb
  replace kA := sc_keep hb kA
  clear hb kF kC l6 cT hp
  have kX : SC (y1.alloc (Obj.cells #[.int .i64 (x 0), .int .i64 (x 1), .int .i64 (x 2), .int .i64 (x 3), .int .i64 (x 4), .int .i64 (x 5)] 23)) y1.heap.size x := sc_new (m := x) rfl
  replace kA := sc_alloc (o := (Obj.cells #[.int .i64 (x 0), .int .i64 (x 1), .int .i64 (x 2), .int .i64 (x 3), .int .i64 (x 4), .int .i64 (x 5)] 23)) kA
  replace B := b_alloc (o := (Obj.cells #[.int .i64 (x 0), .int .i64 (x 1), .int .i64 (x 2), .int .i64 (x 3), .int .i64 (x 4), .int .i64 (x 5)] 23)) B
  have l6 := sc_six kA
  go_wp2
  go_ret
  exact ⟨rfl, B⟩
theorem is_ok (m : Nat → Int) (f0 f1 f2 c0 c1 c2 a b c : Int) (hm : I6 m) (h0 : FB f0 c0) (h1 : FB f1 c1) (h2 : FB f2 c2) (R : TR m f0 f1 f2 c0 c1 c2 a b c) (w : World) (hp : PL w) :
    Calls Tryd.prog 11 #[sv m, tv f0 f1 f2, tv c0 c1 c2] w (RetV (.bool (sqb (tmz m f0 f1 f2 c0 c1 c2 a b c) m)) w) :=
  is_go m _ f0 f1 f2 c0 c1 c2 (fun w k => tame_ok m f0 f1 f2 c0 c1 c2 a b c hm h0 h1 h2 R w k) w hp
theorem is_no (m : Nat → Int) (f0 f1 f2 c0 c1 c2 : Int) (k0 : I64 c0) (k1 : I64 c1) (k2 : I64 c2) (h : ¬ FB3 f0 f1 f2 c0 c1 c2) (w : World) (hp : PL w) :
    Calls Tryd.prog 11 #[sv m, tv f0 f1 f2, tv c0 c1 c2] w (RetV (.bool false) w) :=
  is_bad m _ f0 f1 f2 c0 c1 c2 (fun w k => tame_no m f0 f1 f2 c0 c1 c2 k0 k1 k2 h w k) w hp
end Go.Proofs.YtjafcnbghbfehaaDoor
