/- The sum of two matrices: the program's Add and the document's, for every two matrices. -/
import Derived.Test.YtlpmmnfijfljoaaDoorSymB
import Derived.Test.YtlpmmnfijfljoaaDoorLate
import Derived.Test.YtlpmmnfijfljoaaDoorFixD
namespace Go.Proofs.YtlpmmnfijfljoaaDoor
open Go.RowKit Go.Shelf

/-- The first error's number; 0. -/
def se (e : Nat → Int) : Int := if e 0 ≠ 0 then e 0 else if e 1 ≠ 0 then e 1 else if e 2 ≠ 0 then e 2 else if e 3 ≠ 0 then e 3 else if e 4 ≠ 0 then e 4 else e 5
def sz (x e : Nat → Int) : Nat → Int := fun i => if se e = 0 then x i else 0
theorem se_all {e : Nat → Int} (h : ∀ i, i < 6 → e i = 0) : se e = 0 := by
  have h0 := h 0 (by decide); have h1 := h 1 (by decide); have h2 := h 2 (by decide); have h3 := h 3 (by decide); have h4 := h 4 (by decide); have h5 := h 5 (by decide)
  simp [se, h0, h1, h2, h3, h4, h5]
theorem se_first {e : Nat → Int} {k : Nat} (hk : k < 6) (h : ∀ i, i < k → e i = 0) (n : ¬ e k = 0) : se e = e k := by
  rcases seven (Nat.le_of_lt hk) with rfl | rfl | rfl | rfl | rfl | rfl | rfl
  · exact absurd hk (by decide)
  · simp [se, n]
  · simp [se, n, h 0 (by decide)]
  · simp [se, n, h 0 (by decide), h 1 (by decide)]
  · simp [se, n, h 0 (by decide), h 1 (by decide), h 2 (by decide)]
  · simp [se, n, h 0 (by decide), h 1 (by decide), h 2 (by decide), h 3 (by decide)]
  · simp [se, h 0 (by decide), h 1 (by decide), h 2 (by decide), h 3 (by decide), h 4 (by decide)]
theorem se_zero {e : Nat → Int} (h : se e = 0) : ∀ i, i < 6 → e i = 0 := fun i hi => Classical.byContradiction fun n => by
  unfold se at h
  repeat (split at h; · contradiction)
  simp at *
  rcases seven (Nat.le_of_lt hi) with rfl | rfl | rfl | rfl | rfl | rfl | rfl <;> simp_all
theorem sz_all {x e : Nat → Int} (h : se e = 0) : sv (sz x e) = sv x := by simp only [sv, sz, if_pos h]
theorem sz_no {x e : Nat → Int} (h : ¬ se e = 0) : sv (sz x e) = sv (fun _ => 0) := by simp only [sv, sz, if_neg h]
theorem sz_end {u v : Value} {c d : Int} (h : u = v) (k : c = d) : Ending.returned (.tuple #[u, .int .i64 c]) = Ending.returned (.tuple #[v, .int .i64 d]) := by subst h; subst k; rfl
theorem neb_of {e : Int} (h : ¬ e = 0) : (e != 0) = true := by simpa using h

/-- What the loop keeps: the two matrices, the answer's variable, the sum's first k places. -/
def AJ (W : World) (A B R Q : Nat) (a b x : Nat → Int) (k : Nat) (w : World) : Prop :=
  Below W.heap.size W w ∧ SC w A a ∧ SC w B b ∧ SC w R (fun _ => 0) ∧ SF w R ∧ SC w Q (fun i => if i < k then x i else 0) ∧ SF w Q
theorem aj_keep {W : World} {A B R Q : Nat} {a b x : Nat → Int} {k : Nat} {w w' : World} (h : AJ W A B R Q a b x k w) (hb : Below w.heap.size w w') : AJ W A B R Q a b x k w' :=
  ⟨b_trans h.1 hb, sc_keep hb h.2.1, sc_keep hb h.2.2.1, sc_keep hb h.2.2.2.1, sf_keep hb h.2.2.2.1 h.2.2.2.2.1, sc_keep hb h.2.2.2.2.2.1, sf_keep hb h.2.2.2.2.2.1 h.2.2.2.2.2.2⟩
theorem aj_put {W : World} {A B R Q : Nat} {a b x : Nat → Int} {k : Nat} {w : World} (h : AJ W A B R Q a b x k w) (hk : k < 6) (q : W.heap.size ≤ Q) (qa : Q ≠ A) (qb : Q ≠ B) (qr : Q ≠ R) : AJ W A B R Q a b x (k + 1) (w.setCell ⟨Q, k, none⟩ (.int .i64 (x k))) := by
  obtain ⟨h0, h1, h2, h3, h4, h5, h6⟩ := h
  refine ⟨b_set h0 q, sc_set h1 qa, sc_set h2 qb, sc_set h3 qr, sf_set h4, ?_, sf_set h6⟩
  intro i hi
  by_cases e : i = k
  · subst e
    rw [World.cell?_setCell_same' _ _ _ (by rw [h5 i hi]; rfl)]
    dsimp only
    rw [if_pos (by omega)]
  · rw [World.cell?_setCell_other _ _ _ _ (by intro c; simp at c <;> omega)]
    rw [h5 i hi]
    dsimp only
    by_cases d : i < k
    · rw [if_pos d, if_pos (by omega)]
    · rw [if_neg d, if_neg (by omega)]
theorem bb_set {W w : World} {R : Nat} {v0 v1 v2 v3 v4 v5 : Value} (h : Below W.heap.size W w) (q : W.heap.size ≤ R) : Below W.heap.size W ((((((w.setCell ⟨R, 0, none⟩ v0).setCell ⟨R, 1, none⟩ v1).setCell ⟨R, 2, none⟩ v2).setCell ⟨R, 3, none⟩ v3).setCell ⟨R, 4, none⟩ v4).setCell ⟨R, 5, none⟩ v5) :=
  b_set (b_set (b_set (b_set (b_set (b_set h q) q) q) q) q) q

set_option maxHeartbeats 2000000 in
set_option maxRecDepth 10000 in
theorem add_sym_bad (a b : Nat → Int) (ha : I6 a) (hb : I6 b) (c : ¬ (F6 a ∧ F6 b)) (w : World) :
    Calls Tryd.prog 17 #[sv a, sv b] w (RetV (.tuple #[sv (fun _ => 0), .int .i64 1]) w) := by
  have kA : SC (((w.alloc (Obj.cells #[.int .i64 (a 0), .int .i64 (a 1), .int .i64 (a 2), .int .i64 (a 3), .int .i64 (a 4), .int .i64 (a 5)] 23)).alloc (Obj.cells #[.int .i64 (b 0), .int .i64 (b 1), .int .i64 (b 2), .int .i64 (b 3), .int .i64 (b 4), .int .i64 (b 5)] 23)).alloc (Obj.cells #[.int .i64 0, .int .i64 0, .int .i64 0, .int .i64 0, .int .i64 0, .int .i64 0] 23)) w.heap.size a := sc_alloc (sc_alloc (sc_new rfl))
  have kB : SC (((w.alloc (Obj.cells #[.int .i64 (a 0), .int .i64 (a 1), .int .i64 (a 2), .int .i64 (a 3), .int .i64 (a 4), .int .i64 (a 5)] 23)).alloc (Obj.cells #[.int .i64 (b 0), .int .i64 (b 1), .int .i64 (b 2), .int .i64 (b 3), .int .i64 (b 4), .int .i64 (b 5)] 23)).alloc (Obj.cells #[.int .i64 0, .int .i64 0, .int .i64 0, .int .i64 0, .int .i64 0, .int .i64 0] 23)) (w.heap.size + 1) b := sc_alloc (sc_new (w := (w.alloc (Obj.cells #[.int .i64 (a 0), .int .i64 (a 1), .int .i64 (a 2), .int .i64 (a 3), .int .i64 (a 4), .int .i64 (a 5)] 23))) (m := b) (t := 23) (by simp))
  have kR : SC (((w.alloc (Obj.cells #[.int .i64 (a 0), .int .i64 (a 1), .int .i64 (a 2), .int .i64 (a 3), .int .i64 (a 4), .int .i64 (a 5)] 23)).alloc (Obj.cells #[.int .i64 (b 0), .int .i64 (b 1), .int .i64 (b 2), .int .i64 (b 3), .int .i64 (b 4), .int .i64 (b 5)] 23)).alloc (Obj.cells #[.int .i64 0, .int .i64 0, .int .i64 0, .int .i64 0, .int .i64 0, .int .i64 0] 23)) (w.heap.size + 1 + 1) (fun _ => 0) := sc_new (w := ((w.alloc (Obj.cells #[.int .i64 (a 0), .int .i64 (a 1), .int .i64 (a 2), .int .i64 (a 3), .int .i64 (a 4), .int .i64 (a 5)] 23)).alloc (Obj.cells #[.int .i64 (b 0), .int .i64 (b 1), .int .i64 (b 2), .int .i64 (b 3), .int .i64 (b 4), .int .i64 (b 5)] 23))) (m := fun _ => 0) (t := 23) (by simp)
  have kF : SF (((w.alloc (Obj.cells #[.int .i64 (a 0), .int .i64 (a 1), .int .i64 (a 2), .int .i64 (a 3), .int .i64 (a 4), .int .i64 (a 5)] 23)).alloc (Obj.cells #[.int .i64 (b 0), .int .i64 (b 1), .int .i64 (b 2), .int .i64 (b 3), .int .i64 (b 4), .int .i64 (b 5)] 23)).alloc (Obj.cells #[.int .i64 0, .int .i64 0, .int .i64 0, .int .i64 0, .int .i64 0, .int .i64 0] 23)) (w.heap.size + 1 + 1) := sf_new (w := ((w.alloc (Obj.cells #[.int .i64 (a 0), .int .i64 (a 1), .int .i64 (a 2), .int .i64 (a 3), .int .i64 (a 4), .int .i64 (a 5)] 23)).alloc (Obj.cells #[.int .i64 (b 0), .int .i64 (b 1), .int .i64 (b 2), .int .i64 (b 3), .int .i64 (b 4), .int .i64 (b 5)] 23))) (t := 23) (by simp)
  have hB0 : Below w.heap.size w (((w.alloc (Obj.cells #[.int .i64 (a 0), .int .i64 (a 1), .int .i64 (a 2), .int .i64 (a 3), .int .i64 (a 4), .int .i64 (a 5)] 23)).alloc (Obj.cells #[.int .i64 (b 0), .int .i64 (b 1), .int .i64 (b 2), .int .i64 (b 3), .int .i64 (b 4), .int .i64 (b 5)] 23)).alloc (Obj.cells #[.int .i64 0, .int .i64 0, .int .i64 0, .int .i64 0, .int .i64 0, .int .i64 0] 23)) := b_alloc (b_alloc (b_alloc (Below.refl _ _)))
  by_cases ca : F6 a
  · have ea := Lib.hid (f6b_yes ca)
    have eb := Lib.hid (f6b_no (fun h => c ⟨ca, h⟩))
    clear ca c
    go_enter Tryd.func17, Tryd.ntmps17
    have l6 := sc_six kA
    go_wp2_with fail
    refine (fits_sym a ha _).mono ?_
    rintro e1 w1 ⟨rfl, hb9⟩
    clear l6
    rw [ea.out]
    replace kF := sf_keep hb9 kR kF
    replace kR := sc_keep hb9 kR
    replace kA := sc_keep hb9 kA
    replace kB := sc_keep hb9 kB
    replace hB0 := b_trans hB0 hb9
    clear hb9
    have l6 := sc_six kB
    go_wp2_with fail
    refine (fits_sym b hb _).mono ?_
    rintro e2 w2 ⟨rfl, hb9⟩
    clear l6
    rw [eb.out]
    replace kF := sf_keep hb9 kR kF
    replace kR := sc_keep hb9 kR
    replace kA := sc_keep hb9 kA
    replace kB := sc_keep hb9 kB
    replace hB0 := b_trans hB0 hb9
    clear hb9
    clear kA kB
    replace kR := sc_six kR
    replace kF := sf_six kF
    go_wp2
    obtain ⟨r0, r1, r2, r3, r4, r5⟩ := kR
    exact bodyPost_ret (v := .tuple #[sv (fun _ => 0), .int .i64 1]) (by simp [results, Tryd.results17, go_sem, r0, r1, r2, r3, r4, r5]) rfl ⟨rfl, bb_set hB0 (by omega)⟩
  · have ea := Lib.hid (f6b_no ca)
    clear ca c
    go_enter Tryd.func17, Tryd.ntmps17
    have l6 := sc_six kA
    go_wp2_with fail
    refine (fits_sym a ha _).mono ?_
    rintro e1 w1 ⟨rfl, hb9⟩
    clear l6
    rw [ea.out]
    replace kF := sf_keep hb9 kR kF
    replace kR := sc_keep hb9 kR
    replace kA := sc_keep hb9 kA
    replace kB := sc_keep hb9 kB
    replace hB0 := b_trans hB0 hb9
    clear hb9
    clear kA kB
    replace kR := sc_six kR
    replace kF := sf_six kF
    go_wp2
    obtain ⟨r0, r1, r2, r3, r4, r5⟩ := kR
    exact bodyPost_ret (v := .tuple #[sv (fun _ => 0), .int .i64 1]) (by simp [results, Tryd.results17, go_sem, r0, r1, r2, r3, r4, r5]) rfl ⟨rfl, bb_set hB0 (by omega)⟩
set_option maxHeartbeats 4000000 in
set_option maxRecDepth 10000 in
theorem add_sym_ok (a b x e : Nat → Int) (ha : I6 a) (hb : I6 b) (ca : F6 a) (cb : F6 b)
    (hc : ∀ k, k < 6 → ∀ w, Calls Tryd.prog 43 #[.int .i64 (a k), .int .i64 (b k)] w (RetV (.tuple #[.int .i64 (x k), .int .i64 (e k)]) w)) (w : World) :
    Calls Tryd.prog 17 #[sv a, sv b] w (RetV (.tuple #[sv (sz x e), .int .i64 (se e)]) w) := by
  have kA : SC (((w.alloc (Obj.cells #[.int .i64 (a 0), .int .i64 (a 1), .int .i64 (a 2), .int .i64 (a 3), .int .i64 (a 4), .int .i64 (a 5)] 23)).alloc (Obj.cells #[.int .i64 (b 0), .int .i64 (b 1), .int .i64 (b 2), .int .i64 (b 3), .int .i64 (b 4), .int .i64 (b 5)] 23)).alloc (Obj.cells #[.int .i64 0, .int .i64 0, .int .i64 0, .int .i64 0, .int .i64 0, .int .i64 0] 23)) w.heap.size a := sc_alloc (sc_alloc (sc_new rfl))
  have kB : SC (((w.alloc (Obj.cells #[.int .i64 (a 0), .int .i64 (a 1), .int .i64 (a 2), .int .i64 (a 3), .int .i64 (a 4), .int .i64 (a 5)] 23)).alloc (Obj.cells #[.int .i64 (b 0), .int .i64 (b 1), .int .i64 (b 2), .int .i64 (b 3), .int .i64 (b 4), .int .i64 (b 5)] 23)).alloc (Obj.cells #[.int .i64 0, .int .i64 0, .int .i64 0, .int .i64 0, .int .i64 0, .int .i64 0] 23)) (w.heap.size + 1) b := sc_alloc (sc_new (w := (w.alloc (Obj.cells #[.int .i64 (a 0), .int .i64 (a 1), .int .i64 (a 2), .int .i64 (a 3), .int .i64 (a 4), .int .i64 (a 5)] 23))) (m := b) (t := 23) (by simp))
  have kR : SC (((w.alloc (Obj.cells #[.int .i64 (a 0), .int .i64 (a 1), .int .i64 (a 2), .int .i64 (a 3), .int .i64 (a 4), .int .i64 (a 5)] 23)).alloc (Obj.cells #[.int .i64 (b 0), .int .i64 (b 1), .int .i64 (b 2), .int .i64 (b 3), .int .i64 (b 4), .int .i64 (b 5)] 23)).alloc (Obj.cells #[.int .i64 0, .int .i64 0, .int .i64 0, .int .i64 0, .int .i64 0, .int .i64 0] 23)) (w.heap.size + 1 + 1) (fun _ => 0) := sc_new (w := ((w.alloc (Obj.cells #[.int .i64 (a 0), .int .i64 (a 1), .int .i64 (a 2), .int .i64 (a 3), .int .i64 (a 4), .int .i64 (a 5)] 23)).alloc (Obj.cells #[.int .i64 (b 0), .int .i64 (b 1), .int .i64 (b 2), .int .i64 (b 3), .int .i64 (b 4), .int .i64 (b 5)] 23))) (m := fun _ => 0) (t := 23) (by simp)
  have kF : SF (((w.alloc (Obj.cells #[.int .i64 (a 0), .int .i64 (a 1), .int .i64 (a 2), .int .i64 (a 3), .int .i64 (a 4), .int .i64 (a 5)] 23)).alloc (Obj.cells #[.int .i64 (b 0), .int .i64 (b 1), .int .i64 (b 2), .int .i64 (b 3), .int .i64 (b 4), .int .i64 (b 5)] 23)).alloc (Obj.cells #[.int .i64 0, .int .i64 0, .int .i64 0, .int .i64 0, .int .i64 0, .int .i64 0] 23)) (w.heap.size + 1 + 1) := sf_new (w := ((w.alloc (Obj.cells #[.int .i64 (a 0), .int .i64 (a 1), .int .i64 (a 2), .int .i64 (a 3), .int .i64 (a 4), .int .i64 (a 5)] 23)).alloc (Obj.cells #[.int .i64 (b 0), .int .i64 (b 1), .int .i64 (b 2), .int .i64 (b 3), .int .i64 (b 4), .int .i64 (b 5)] 23))) (t := 23) (by simp)
  have hB0 : Below w.heap.size w (((w.alloc (Obj.cells #[.int .i64 (a 0), .int .i64 (a 1), .int .i64 (a 2), .int .i64 (a 3), .int .i64 (a 4), .int .i64 (a 5)] 23)).alloc (Obj.cells #[.int .i64 (b 0), .int .i64 (b 1), .int .i64 (b 2), .int .i64 (b 3), .int .i64 (b 4), .int .i64 (b 5)] 23)).alloc (Obj.cells #[.int .i64 0, .int .i64 0, .int .i64 0, .int .i64 0, .int .i64 0, .int .i64 0] 23)) := b_alloc (b_alloc (b_alloc (Below.refl _ _)))
  have ea := Lib.hid (f6b_yes ca)
  have eb := Lib.hid (f6b_yes cb)
  clear ca cb
  go_enter Tryd.func17, Tryd.ntmps17
  have l6 := sc_six kA
  go_wp2_with fail
  refine (fits_sym a ha _).mono ?_
  rintro e1 w1 ⟨rfl, hb9⟩
  clear l6
  rw [ea.out]
  replace kF := sf_keep hb9 kR kF
  replace kR := sc_keep hb9 kR
  replace kA := sc_keep hb9 kA
  replace kB := sc_keep hb9 kB
  replace hB0 := b_trans hB0 hb9
  clear hb9
  have l6 := sc_six kB
  go_wp2_with fail
  refine (fits_sym b hb _).mono ?_
  rintro e2 w2 ⟨rfl, hb9⟩
  clear l6
  rw [eb.out]
  replace kF := sf_keep hb9 kR kF
  replace kR := sc_keep hb9 kR
  replace kA := sc_keep hb9 kA
  replace kB := sc_keep hb9 kB
  replace hB0 := b_trans hB0 hb9
  clear hb9
  clear ea eb ha hb
  have z1 := sc_lt kR
  have hj0 : AJ w w.heap.size (w.heap.size + 1) (w.heap.size + 1 + 1) w2.heap.size a b x 0 (w2.alloc (Obj.cells #[.int .i64 0, .int .i64 0, .int .i64 0, .int .i64 0, .int .i64 0, .int .i64 0] 23)) := ⟨b_alloc hB0, sc_alloc kA, sc_alloc kB, sc_alloc kR, sf_keep (b_alloc (Below.refl _ _)) kR kF, by rw [show (fun i => if i < 0 then x i else 0) = (fun _ => (0 : Int)) from funext fun i => if_neg (by omega)]; exact sc_new (w := w2) (m := fun _ => 0) (t := 23) rfl, sf_new rfl⟩
  replace hj0 := Lib.hid hj0
  clear kA kB kR kF hB0
  go_wp2
  generalize w2.heap.size = Q at *
  go_loopw [19] (fun iv wr => ∃ k : Nat, k ≤ 6 ∧ iv = .int .i64 k ∧ Hid (AJ w w.heap.size (w.heap.size + 1) (w.heap.size + 1 + 1) Q a b x k wr) ∧ Hid (∀ i, i < k → e i = 0)) (fun iv _ => 6 - (intOf iv).toNat)
  case atStart => exact ⟨0, by decide, rfl, hj0, Lib.hid (fun i hi => absurd hi (by omega))⟩
  case round =>
    obtain ⟨k, hk, rfl, hj, hz⟩ := hrel
    clear hj0
    by_cases c : k = 6
    · subst c
      have E1 := Lib.hid (se_all hz.out)
      obtain ⟨s0, _, _, s3, s4, s5, _⟩ := hj.out
      replace s3 := sc_six s3
      replace s4 := sf_six s4
      replace s5 : SC6 wr Q x := sc_six (fun i hi => by have := s5 i hi; dsimp only at this; rwa [if_pos hi] at this)
      go_wp2
      obtain ⟨r0, r1, r2, r3, r4, r5⟩ := s3
      refine bodyPost_ret (v := .tuple #[sv x, .int .i64 0]) (by simp [results, Tryd.results17, go_sem, r0, r1, r2, r3, r4, r5]) rfl ⟨sz_end (sz_all E1.out).symm E1.out.symm, ?_⟩
      exact bb_set s0 (by omega)
    replace hk : k < 6 := by omega
    clear c
    have hk0 : (0 : Int) ≤ (k : Int) := by omega
    have hk6 : (k : Int) < 6 := by omega
    have kA := hj.out.2.1
    have kB := hj.out.2.2.1
    go_wp2
    refine region_late_k [23, 24, 25, 26, 27, 28, 29, 22, 30, 31] 9 (fun i_ => match i_ with | 0 => .int .i64 ((k : Nat) : Int) | 1 => .pointer (some ⟨w.heap.size, k, none⟩) | 2 => .int .i64 (a k) | 3 => .int .i64 ((k : Nat) : Int) | 4 => .pointer (some ⟨w.heap.size + 1, k, none⟩) | 5 => .int .i64 (b k) | 6 => .tuple #[.int .i64 (x k), .int .i64 (e k)] | 7 => .tuple #[.int .i64 (x k), .int .i64 (e k)] | 8 => .int .i64 (x k) | 9 => .int .i64 (e k) | _ => undef) (fun f => (f.put (some 8) (.int .i64 (x k))).put (some 9) (.int .i64 (e k))) (fun U_ => Below wr.heap.size wr U_) (fun i_ X_ U_ => match i_ with | 0 => X_ = .int .i64 ((k : Nat) : Int) | 1 => X_ = .pointer (some ⟨w.heap.size, k, none⟩) | 2 => X_ = .int .i64 (a k) | 3 => X_ = .int .i64 ((k : Nat) : Int) | 4 => X_ = .pointer (some ⟨w.heap.size + 1, k, none⟩) | 5 => X_ = .int .i64 (b k) | 6 => X_ = .tuple #[.int .i64 (x k), .int .i64 (e k)] | 7 => X_ = .tuple #[.int .i64 (x k), .int .i64 (e k)] | 8 => X_ = .int .i64 (x k) | 9 => X_ = .int .i64 (e k) | _ => True) (fun i_ => false) (by kernel_rfl) (by kernel_rfl) (by kernel_rfl) (by kernel_rfl) ?_ (fun i x w hi ha h => by cases ha) ?_ ?_ ?_ ?_
    · refine swp (upS (upS (upS (upS (upS (upS (upS (upS (upS (upS up0 ?_) ?_) ?_) ?_) ?_) ?_) ?_) ?_) ?_) ?_)
      all_goals exact fun _ _ _ h _ => h
    · refine upS (upS (upS (upS (upS (upS (upS (upS (upS (upS up0 ?_) ?_) ?_) ?_) ?_) ?_) ?_) ?_) ?_) ?_
      all_goals intro v f w' hb hv hB hd
      · have b7 : f.tmps[7]? = some (.int .i64 ((k : Nat) : Int)) := (hb 7 (by decide)).trans rfl
        clear hb hv hd
        refine wpOp_step rfl fun K hK => ?_
        go_simp
        exact hK _ _ ⟨_, rfl, Below.refl _ _, rfl, fun h => absurd h (by decide)⟩
      · have b2 : f.tmps[2]? = some (.pointer (some ⟨w.heap.size, 0, none⟩)) := (hb 2 (by decide)).trans rfl
        have d0 := got (hv 0 23 rfl) (hd 0 (by kernel_rfl))
        clear hb hv hd
        refine wpOp_step rfl fun K hK => ?_
        go_simp
        exact hK _ _ ⟨_, rfl, Below.refl _ _, rfl, fun h => absurd h (by decide)⟩
      · have d1 := got (hv 1 24 rfl) (hd 1 (by kernel_rfl))
        clear hb hv hd
        have c := sc_keep hB kA k hk
        refine wpOp_step rfl fun K hK => ?_
        go_simp
        exact hK _ _ ⟨_, rfl, Below.refl _ _, rfl, fun h => absurd h (by decide)⟩
      · have b7 : f.tmps[7]? = some (.int .i64 ((k : Nat) : Int)) := (hb 7 (by decide)).trans rfl
        clear hb hv hd
        refine wpOp_step rfl fun K hK => ?_
        go_simp
        exact hK _ _ ⟨_, rfl, Below.refl _ _, rfl, fun h => absurd h (by decide)⟩
      · have b3 : f.tmps[3]? = some (.pointer (some ⟨w.heap.size + 1, 0, none⟩)) := (hb 3 (by decide)).trans rfl
        have d3 := got (hv 3 26 rfl) (hd 3 (by kernel_rfl))
        clear hb hv hd
        refine wpOp_step rfl fun K hK => ?_
        go_simp
        exact hK _ _ ⟨_, rfl, Below.refl _ _, rfl, fun h => absurd h (by decide)⟩
      · have d4 := got (hv 4 27 rfl) (hd 4 (by kernel_rfl))
        clear hb hv hd
        have c := sc_keep hB kB k hk
        refine wpOp_step rfl fun K hK => ?_
        go_simp
        exact hK _ _ ⟨_, rfl, Below.refl _ _, rfl, fun h => absurd h (by decide)⟩
      · have d2 := got (hv 2 25 rfl) (hd 2 (by kernel_rfl))
        have d5 := got (hv 5 28 rfl) (hd 5 (by kernel_rfl))
        clear hb hv hd
        refine wpOp_call rfl Tryd.call43 (args2 (eval_tmp d2) (eval_tmp d5)) (hc k hk _) ?_
        rintro e5 w5 ⟨rfl, hb5⟩
        exact ⟨_, rfl, _, rfl, hb5, rfl, fun h => absurd h (by decide)⟩
      · have d6 := got (hv 6 29 rfl) (hd 6 (by kernel_rfl))
        clear hb hv hd
        refine wpOp_step rfl fun K hK => ?_
        go_simp
        exact hK _ _ ⟨_, rfl, Below.refl _ _, rfl, fun h => absurd h (by decide)⟩
      · have d7 := got (hv 7 22 rfl) (hd 7 (by kernel_rfl))
        clear hb hv hd
        refine wpOp_step rfl fun K hK => ?_
        go_simp
        exact hK _ _ ⟨_, rfl, Below.refl _ _, rfl, fun h => absurd h (by decide)⟩
      · have d7 := got (hv 7 22 rfl) (hd 7 (by kernel_rfl))
        clear hb hv hd
        refine wpOp_step rfl fun K hK => ?_
        go_simp
        exact hK _ _ ⟨_, rfl, Below.refl _ _, rfl, fun h => absurd h (by decide)⟩
    · intro v w' hB hF hD
      have F0 : v 0 = _ := hF 0 (by simp)
      have F1 : v 1 = _ := hF 1 (by simp)
      have F2 : v 2 = _ := hF 2 (by simp)
      have F3 : v 3 = _ := hF 3 (by simp)
      have F4 : v 4 = _ := hF 4 (by simp)
      have F5 : v 5 = _ := hF 5 (by simp)
      have F6 : v 6 = _ := hF 6 (by simp)
      have F7 : v 7 = _ := hF 7 (by simp)
      have F8 : v 8 = _ := hF 8 (by simp)
      have F9 : v 9 = _ := hF 9 (by simp)
      clear hF
      simp only [frOf, frGo, Nat.zero_add, Nat.reduceAdd, F0, F1, F2, F3, F4, F5, F6, F7, F8, F9]
      clear F0 F1 F2 F3 F4 F5 F6 F7 F8 F9 hD hc kA kB
      go_wp2
    · intro v w' hB hF hD
      have F0 : v 0 = _ := hF 0 (by simp) (by decide)
      have F1 : v 1 = _ := hF 1 (by simp) (by decide)
      have F2 : v 2 = _ := hF 2 (by simp) (by decide)
      have F3 : v 3 = _ := hF 3 (by simp) (by decide)
      have F4 : v 4 = _ := hF 4 (by simp) (by decide)
      have F5 : v 5 = _ := hF 5 (by simp) (by decide)
      have F6 : v 6 = _ := hF 6 (by simp) (by decide)
      have F7 : v 7 = _ := hF 7 (by simp) (by decide)
      have F8 : v 8 = _ := hF 8 (by simp) (by decide)
      clear hF
      simp only [frOf, frGo, Nat.zero_add, Nat.reduceAdd, F0, F1, F2, F3, F4, F5, F6, F7, F8]
      clear F0 F1 F2 F3 F4 F5 F6 F7 F8 hD hc kA kB
      refine wpOp_step rfl (fun K hK => ?_)
      go_simp
      refine hK _ _ ?_
      clear hK K
      refine wpOp_step rfl (fun K hK => ?_)
      go_simp
      refine hK _ _ ?_
      clear hK K
      go_wp2
    · intro w' hst
      have hB := hst
      clear hst
      simp only [frOf, frGo, Nat.zero_add, Nat.reduceAdd]
      clear hc kA kB
      have s1 := aj_keep hj.out hB
      clear hB hj
      generalize hek : e k = ek at *
      have EK := Lib.hid hek
      clear hek
      generalize hxk : x k = xk at *
      have XK := Lib.hid hxk
      clear hxk
      by_cases he : ek = 0
      · subst he
        have s2 := Lib.hid (aj_put s1 hk (by omega) (by omega) (by omega) (by omega))
        obtain ⟨_, _, _, _, _, s5, s6⟩ := s1
        have q1 := s5 k hk
        have q2 := s6 k hk
        clear s5 s6
        rw [XK.out] at s2
        go_wp2
        go_roundw
        case rel => exact ⟨k + 1, hk, by go_num, s2, Lib.hid (less_succ hz.out EK.out)⟩
        case measure => simp [intOf]; omega
      · have E1 := Lib.hid (se_first hk hz.out (by rw [EK.out]; exact he))
        have E2 := Lib.hid (show ¬ se e = 0 by rw [E1.out, EK.out]; exact he)
        have hn := neb_of he
        obtain ⟨s0, _, _, s3, s4, _, _⟩ := s1
        replace s3 := sc_six s3
        replace s4 := sf_six s4
        clear hk0 hk6 he
        go_wp2
        obtain ⟨r0, r1, r2, r3, r4, r5⟩ := s3
        refine bodyPost_ret (v := .tuple #[sv (fun _ => 0), .int .i64 ek]) (by simp [results, Tryd.results17, go_sem, r0, r1, r2, r3, r4, r5]) rfl ⟨sz_end (sz_no E2.out).symm (E1.out.trans EK.out).symm, ?_⟩
        exact bb_set s0 (by omega)
set_option maxHeartbeats 2000000 in
set_option maxRecDepth 10000 in
theorem add_sref_bad (a b : Nat → Int) (ha : I6 a) (hb : I6 b) (c : ¬ (F6 a ∧ F6 b)) (w : World) :
    Calls Tryd.prog 23 #[sv a, sv b] w (RetV (.tuple #[sv (fun _ => 0), .int .i64 1]) w) := by
  have kA : SC (((w.alloc (Obj.cells #[.int .i64 (a 0), .int .i64 (a 1), .int .i64 (a 2), .int .i64 (a 3), .int .i64 (a 4), .int .i64 (a 5)] 23)).alloc (Obj.cells #[.int .i64 (b 0), .int .i64 (b 1), .int .i64 (b 2), .int .i64 (b 3), .int .i64 (b 4), .int .i64 (b 5)] 23)).alloc (Obj.cells #[.int .i64 0, .int .i64 0, .int .i64 0, .int .i64 0, .int .i64 0, .int .i64 0] 23)) w.heap.size a := sc_alloc (sc_alloc (sc_new rfl))
  have kB : SC (((w.alloc (Obj.cells #[.int .i64 (a 0), .int .i64 (a 1), .int .i64 (a 2), .int .i64 (a 3), .int .i64 (a 4), .int .i64 (a 5)] 23)).alloc (Obj.cells #[.int .i64 (b 0), .int .i64 (b 1), .int .i64 (b 2), .int .i64 (b 3), .int .i64 (b 4), .int .i64 (b 5)] 23)).alloc (Obj.cells #[.int .i64 0, .int .i64 0, .int .i64 0, .int .i64 0, .int .i64 0, .int .i64 0] 23)) (w.heap.size + 1) b := sc_alloc (sc_new (w := (w.alloc (Obj.cells #[.int .i64 (a 0), .int .i64 (a 1), .int .i64 (a 2), .int .i64 (a 3), .int .i64 (a 4), .int .i64 (a 5)] 23))) (m := b) (t := 23) (by simp))
  have kR : SC (((w.alloc (Obj.cells #[.int .i64 (a 0), .int .i64 (a 1), .int .i64 (a 2), .int .i64 (a 3), .int .i64 (a 4), .int .i64 (a 5)] 23)).alloc (Obj.cells #[.int .i64 (b 0), .int .i64 (b 1), .int .i64 (b 2), .int .i64 (b 3), .int .i64 (b 4), .int .i64 (b 5)] 23)).alloc (Obj.cells #[.int .i64 0, .int .i64 0, .int .i64 0, .int .i64 0, .int .i64 0, .int .i64 0] 23)) (w.heap.size + 1 + 1) (fun _ => 0) := sc_new (w := ((w.alloc (Obj.cells #[.int .i64 (a 0), .int .i64 (a 1), .int .i64 (a 2), .int .i64 (a 3), .int .i64 (a 4), .int .i64 (a 5)] 23)).alloc (Obj.cells #[.int .i64 (b 0), .int .i64 (b 1), .int .i64 (b 2), .int .i64 (b 3), .int .i64 (b 4), .int .i64 (b 5)] 23))) (m := fun _ => 0) (t := 23) (by simp)
  have kF : SF (((w.alloc (Obj.cells #[.int .i64 (a 0), .int .i64 (a 1), .int .i64 (a 2), .int .i64 (a 3), .int .i64 (a 4), .int .i64 (a 5)] 23)).alloc (Obj.cells #[.int .i64 (b 0), .int .i64 (b 1), .int .i64 (b 2), .int .i64 (b 3), .int .i64 (b 4), .int .i64 (b 5)] 23)).alloc (Obj.cells #[.int .i64 0, .int .i64 0, .int .i64 0, .int .i64 0, .int .i64 0, .int .i64 0] 23)) (w.heap.size + 1 + 1) := sf_new (w := ((w.alloc (Obj.cells #[.int .i64 (a 0), .int .i64 (a 1), .int .i64 (a 2), .int .i64 (a 3), .int .i64 (a 4), .int .i64 (a 5)] 23)).alloc (Obj.cells #[.int .i64 (b 0), .int .i64 (b 1), .int .i64 (b 2), .int .i64 (b 3), .int .i64 (b 4), .int .i64 (b 5)] 23))) (t := 23) (by simp)
  have hB0 : Below w.heap.size w (((w.alloc (Obj.cells #[.int .i64 (a 0), .int .i64 (a 1), .int .i64 (a 2), .int .i64 (a 3), .int .i64 (a 4), .int .i64 (a 5)] 23)).alloc (Obj.cells #[.int .i64 (b 0), .int .i64 (b 1), .int .i64 (b 2), .int .i64 (b 3), .int .i64 (b 4), .int .i64 (b 5)] 23)).alloc (Obj.cells #[.int .i64 0, .int .i64 0, .int .i64 0, .int .i64 0, .int .i64 0, .int .i64 0] 23)) := b_alloc (b_alloc (b_alloc (Below.refl _ _)))
  by_cases ca : F6 a
  · have ea := Lib.hid (f6b_yes ca)
    have eb := Lib.hid (f6b_no (fun h => c ⟨ca, h⟩))
    clear ca c
    go_enter Tryd.func23, Tryd.ntmps23
    have l6 := sc_six kA
    go_wp2_with fail
    refine (fits_sref a ha _).mono ?_
    rintro e1 w1 ⟨rfl, hb9⟩
    clear l6
    rw [ea.out]
    replace kF := sf_keep hb9 kR kF
    replace kR := sc_keep hb9 kR
    replace kA := sc_keep hb9 kA
    replace kB := sc_keep hb9 kB
    replace hB0 := b_trans hB0 hb9
    clear hb9
    have l6 := sc_six kB
    go_wp2_with fail
    refine (fits_sref b hb _).mono ?_
    rintro e2 w2 ⟨rfl, hb9⟩
    clear l6
    rw [eb.out]
    replace kF := sf_keep hb9 kR kF
    replace kR := sc_keep hb9 kR
    replace kA := sc_keep hb9 kA
    replace kB := sc_keep hb9 kB
    replace hB0 := b_trans hB0 hb9
    clear hb9
    clear kA kB
    replace kR := sc_six kR
    replace kF := sf_six kF
    go_wp2
    obtain ⟨r0, r1, r2, r3, r4, r5⟩ := kR
    exact bodyPost_ret (v := .tuple #[sv (fun _ => 0), .int .i64 1]) (by simp [results, Tryd.results23, go_sem, r0, r1, r2, r3, r4, r5]) rfl ⟨rfl, bb_set hB0 (by omega)⟩
  · have ea := Lib.hid (f6b_no ca)
    clear ca c
    go_enter Tryd.func23, Tryd.ntmps23
    have l6 := sc_six kA
    go_wp2_with fail
    refine (fits_sref a ha _).mono ?_
    rintro e1 w1 ⟨rfl, hb9⟩
    clear l6
    rw [ea.out]
    replace kF := sf_keep hb9 kR kF
    replace kR := sc_keep hb9 kR
    replace kA := sc_keep hb9 kA
    replace kB := sc_keep hb9 kB
    replace hB0 := b_trans hB0 hb9
    clear hb9
    clear kA kB
    replace kR := sc_six kR
    replace kF := sf_six kF
    go_wp2
    obtain ⟨r0, r1, r2, r3, r4, r5⟩ := kR
    exact bodyPost_ret (v := .tuple #[sv (fun _ => 0), .int .i64 1]) (by simp [results, Tryd.results23, go_sem, r0, r1, r2, r3, r4, r5]) rfl ⟨rfl, bb_set hB0 (by omega)⟩
set_option maxHeartbeats 4000000 in
set_option maxRecDepth 10000 in
theorem add_sref_ok (a b x e : Nat → Int) (ha : I6 a) (hb : I6 b) (ca : F6 a) (cb : F6 b)
    (hc : ∀ k, k < 6 → ∀ w, Calls Tryd.prog 45 #[.int .i64 (a k), .int .i64 (b k)] w (RetV (.tuple #[.int .i64 (x k), .int .i64 (e k)]) w)) (w : World) :
    Calls Tryd.prog 23 #[sv a, sv b] w (RetV (.tuple #[sv (sz x e), .int .i64 (se e)]) w) := by
  have kA : SC (((w.alloc (Obj.cells #[.int .i64 (a 0), .int .i64 (a 1), .int .i64 (a 2), .int .i64 (a 3), .int .i64 (a 4), .int .i64 (a 5)] 23)).alloc (Obj.cells #[.int .i64 (b 0), .int .i64 (b 1), .int .i64 (b 2), .int .i64 (b 3), .int .i64 (b 4), .int .i64 (b 5)] 23)).alloc (Obj.cells #[.int .i64 0, .int .i64 0, .int .i64 0, .int .i64 0, .int .i64 0, .int .i64 0] 23)) w.heap.size a := sc_alloc (sc_alloc (sc_new rfl))
  have kB : SC (((w.alloc (Obj.cells #[.int .i64 (a 0), .int .i64 (a 1), .int .i64 (a 2), .int .i64 (a 3), .int .i64 (a 4), .int .i64 (a 5)] 23)).alloc (Obj.cells #[.int .i64 (b 0), .int .i64 (b 1), .int .i64 (b 2), .int .i64 (b 3), .int .i64 (b 4), .int .i64 (b 5)] 23)).alloc (Obj.cells #[.int .i64 0, .int .i64 0, .int .i64 0, .int .i64 0, .int .i64 0, .int .i64 0] 23)) (w.heap.size + 1) b := sc_alloc (sc_new (w := (w.alloc (Obj.cells #[.int .i64 (a 0), .int .i64 (a 1), .int .i64 (a 2), .int .i64 (a 3), .int .i64 (a 4), .int .i64 (a 5)] 23))) (m := b) (t := 23) (by simp))
  have kR : SC (((w.alloc (Obj.cells #[.int .i64 (a 0), .int .i64 (a 1), .int .i64 (a 2), .int .i64 (a 3), .int .i64 (a 4), .int .i64 (a 5)] 23)).alloc (Obj.cells #[.int .i64 (b 0), .int .i64 (b 1), .int .i64 (b 2), .int .i64 (b 3), .int .i64 (b 4), .int .i64 (b 5)] 23)).alloc (Obj.cells #[.int .i64 0, .int .i64 0, .int .i64 0, .int .i64 0, .int .i64 0, .int .i64 0] 23)) (w.heap.size + 1 + 1) (fun _ => 0) := sc_new (w := ((w.alloc (Obj.cells #[.int .i64 (a 0), .int .i64 (a 1), .int .i64 (a 2), .int .i64 (a 3), .int .i64 (a 4), .int .i64 (a 5)] 23)).alloc (Obj.cells #[.int .i64 (b 0), .int .i64 (b 1), .int .i64 (b 2), .int .i64 (b 3), .int .i64 (b 4), .int .i64 (b 5)] 23))) (m := fun _ => 0) (t := 23) (by simp)
  have kF : SF (((w.alloc (Obj.cells #[.int .i64 (a 0), .int .i64 (a 1), .int .i64 (a 2), .int .i64 (a 3), .int .i64 (a 4), .int .i64 (a 5)] 23)).alloc (Obj.cells #[.int .i64 (b 0), .int .i64 (b 1), .int .i64 (b 2), .int .i64 (b 3), .int .i64 (b 4), .int .i64 (b 5)] 23)).alloc (Obj.cells #[.int .i64 0, .int .i64 0, .int .i64 0, .int .i64 0, .int .i64 0, .int .i64 0] 23)) (w.heap.size + 1 + 1) := sf_new (w := ((w.alloc (Obj.cells #[.int .i64 (a 0), .int .i64 (a 1), .int .i64 (a 2), .int .i64 (a 3), .int .i64 (a 4), .int .i64 (a 5)] 23)).alloc (Obj.cells #[.int .i64 (b 0), .int .i64 (b 1), .int .i64 (b 2), .int .i64 (b 3), .int .i64 (b 4), .int .i64 (b 5)] 23))) (t := 23) (by simp)
  have hB0 : Below w.heap.size w (((w.alloc (Obj.cells #[.int .i64 (a 0), .int .i64 (a 1), .int .i64 (a 2), .int .i64 (a 3), .int .i64 (a 4), .int .i64 (a 5)] 23)).alloc (Obj.cells #[.int .i64 (b 0), .int .i64 (b 1), .int .i64 (b 2), .int .i64 (b 3), .int .i64 (b 4), .int .i64 (b 5)] 23)).alloc (Obj.cells #[.int .i64 0, .int .i64 0, .int .i64 0, .int .i64 0, .int .i64 0, .int .i64 0] 23)) := b_alloc (b_alloc (b_alloc (Below.refl _ _)))
  have ea := Lib.hid (f6b_yes ca)
  have eb := Lib.hid (f6b_yes cb)
  clear ca cb
  go_enter Tryd.func23, Tryd.ntmps23
  have l6 := sc_six kA
  go_wp2_with fail
  refine (fits_sref a ha _).mono ?_
  rintro e1 w1 ⟨rfl, hb9⟩
  clear l6
  rw [ea.out]
  replace kF := sf_keep hb9 kR kF
  replace kR := sc_keep hb9 kR
  replace kA := sc_keep hb9 kA
  replace kB := sc_keep hb9 kB
  replace hB0 := b_trans hB0 hb9
  clear hb9
  have l6 := sc_six kB
  go_wp2_with fail
  refine (fits_sref b hb _).mono ?_
  rintro e2 w2 ⟨rfl, hb9⟩
  clear l6
  rw [eb.out]
  replace kF := sf_keep hb9 kR kF
  replace kR := sc_keep hb9 kR
  replace kA := sc_keep hb9 kA
  replace kB := sc_keep hb9 kB
  replace hB0 := b_trans hB0 hb9
  clear hb9
  clear ea eb ha hb
  have z1 := sc_lt kR
  have hj0 : AJ w w.heap.size (w.heap.size + 1) (w.heap.size + 1 + 1) w2.heap.size a b x 0 (w2.alloc (Obj.cells #[.int .i64 0, .int .i64 0, .int .i64 0, .int .i64 0, .int .i64 0, .int .i64 0] 23)) := ⟨b_alloc hB0, sc_alloc kA, sc_alloc kB, sc_alloc kR, sf_keep (b_alloc (Below.refl _ _)) kR kF, by rw [show (fun i => if i < 0 then x i else 0) = (fun _ => (0 : Int)) from funext fun i => if_neg (by omega)]; exact sc_new (w := w2) (m := fun _ => 0) (t := 23) rfl, sf_new rfl⟩
  replace hj0 := Lib.hid hj0
  clear kA kB kR kF hB0
  go_wp2
  generalize w2.heap.size = Q at *
  go_loopw [7] (fun iv wr => ∃ k : Nat, k ≤ 6 ∧ iv = .int .i64 k ∧ Hid (AJ w w.heap.size (w.heap.size + 1) (w.heap.size + 1 + 1) Q a b x k wr) ∧ Hid (∀ i, i < k → e i = 0)) (fun iv _ => 6 - (intOf iv).toNat)
  case atStart => exact ⟨0, by decide, rfl, hj0, Lib.hid (fun i hi => absurd hi (by omega))⟩
  case round =>
    obtain ⟨k, hk, rfl, hj, hz⟩ := hrel
    clear hj0
    by_cases c : k = 6
    · subst c
      have E1 := Lib.hid (se_all hz.out)
      obtain ⟨s0, _, _, s3, s4, s5, _⟩ := hj.out
      replace s3 := sc_six s3
      replace s4 := sf_six s4
      replace s5 : SC6 wr Q x := sc_six (fun i hi => by have := s5 i hi; dsimp only at this; rwa [if_pos hi] at this)
      go_wp2
      obtain ⟨r0, r1, r2, r3, r4, r5⟩ := s3
      refine bodyPost_ret (v := .tuple #[sv x, .int .i64 0]) (by simp [results, Tryd.results23, go_sem, r0, r1, r2, r3, r4, r5]) rfl ⟨sz_end (sz_all E1.out).symm E1.out.symm, ?_⟩
      exact bb_set s0 (by omega)
    replace hk : k < 6 := by omega
    clear c
    have hk0 : (0 : Int) ≤ (k : Int) := by omega
    have hk6 : (k : Int) < 6 := by omega
    have kA := hj.out.2.1
    have kB := hj.out.2.2.1
    go_wp2
    refine region_late_k [25, 26, 27, 28, 29, 30, 31, 24, 32, 33] 9 (fun i_ => match i_ with | 0 => .int .i64 ((k : Nat) : Int) | 1 => .pointer (some ⟨w.heap.size, k, none⟩) | 2 => .int .i64 (a k) | 3 => .int .i64 ((k : Nat) : Int) | 4 => .pointer (some ⟨w.heap.size + 1, k, none⟩) | 5 => .int .i64 (b k) | 6 => .tuple #[.int .i64 (x k), .int .i64 (e k)] | 7 => .tuple #[.int .i64 (x k), .int .i64 (e k)] | 8 => .int .i64 (x k) | 9 => .int .i64 (e k) | _ => undef) (fun f => (f.put (some 8) (.int .i64 (x k))).put (some 9) (.int .i64 (e k))) (fun U_ => Below wr.heap.size wr U_) (fun i_ X_ U_ => match i_ with | 0 => X_ = .int .i64 ((k : Nat) : Int) | 1 => X_ = .pointer (some ⟨w.heap.size, k, none⟩) | 2 => X_ = .int .i64 (a k) | 3 => X_ = .int .i64 ((k : Nat) : Int) | 4 => X_ = .pointer (some ⟨w.heap.size + 1, k, none⟩) | 5 => X_ = .int .i64 (b k) | 6 => X_ = .tuple #[.int .i64 (x k), .int .i64 (e k)] | 7 => X_ = .tuple #[.int .i64 (x k), .int .i64 (e k)] | 8 => X_ = .int .i64 (x k) | 9 => X_ = .int .i64 (e k) | _ => True) (fun i_ => false) (by kernel_rfl) (by kernel_rfl) (by kernel_rfl) (by kernel_rfl) ?_ (fun i x w hi ha h => by cases ha) ?_ ?_ ?_ ?_
    · refine swp (upS (upS (upS (upS (upS (upS (upS (upS (upS (upS up0 ?_) ?_) ?_) ?_) ?_) ?_) ?_) ?_) ?_) ?_)
      all_goals exact fun _ _ _ h _ => h
    · refine upS (upS (upS (upS (upS (upS (upS (upS (upS (upS up0 ?_) ?_) ?_) ?_) ?_) ?_) ?_) ?_) ?_) ?_
      all_goals intro v f w' hb hv hB hd
      · have b7 : f.tmps[7]? = some (.int .i64 ((k : Nat) : Int)) := (hb 7 (by decide)).trans rfl
        clear hb hv hd
        refine wpOp_step rfl fun K hK => ?_
        go_simp
        exact hK _ _ ⟨_, rfl, Below.refl _ _, rfl, fun h => absurd h (by decide)⟩
      · have b2 : f.tmps[2]? = some (.pointer (some ⟨w.heap.size, 0, none⟩)) := (hb 2 (by decide)).trans rfl
        have d0 := got (hv 0 25 rfl) (hd 0 (by kernel_rfl))
        clear hb hv hd
        refine wpOp_step rfl fun K hK => ?_
        go_simp
        exact hK _ _ ⟨_, rfl, Below.refl _ _, rfl, fun h => absurd h (by decide)⟩
      · have d1 := got (hv 1 26 rfl) (hd 1 (by kernel_rfl))
        clear hb hv hd
        have c := sc_keep hB kA k hk
        refine wpOp_step rfl fun K hK => ?_
        go_simp
        exact hK _ _ ⟨_, rfl, Below.refl _ _, rfl, fun h => absurd h (by decide)⟩
      · have b7 : f.tmps[7]? = some (.int .i64 ((k : Nat) : Int)) := (hb 7 (by decide)).trans rfl
        clear hb hv hd
        refine wpOp_step rfl fun K hK => ?_
        go_simp
        exact hK _ _ ⟨_, rfl, Below.refl _ _, rfl, fun h => absurd h (by decide)⟩
      · have b3 : f.tmps[3]? = some (.pointer (some ⟨w.heap.size + 1, 0, none⟩)) := (hb 3 (by decide)).trans rfl
        have d3 := got (hv 3 28 rfl) (hd 3 (by kernel_rfl))
        clear hb hv hd
        refine wpOp_step rfl fun K hK => ?_
        go_simp
        exact hK _ _ ⟨_, rfl, Below.refl _ _, rfl, fun h => absurd h (by decide)⟩
      · have d4 := got (hv 4 29 rfl) (hd 4 (by kernel_rfl))
        clear hb hv hd
        have c := sc_keep hB kB k hk
        refine wpOp_step rfl fun K hK => ?_
        go_simp
        exact hK _ _ ⟨_, rfl, Below.refl _ _, rfl, fun h => absurd h (by decide)⟩
      · have d2 := got (hv 2 27 rfl) (hd 2 (by kernel_rfl))
        have d5 := got (hv 5 30 rfl) (hd 5 (by kernel_rfl))
        clear hb hv hd
        refine wpOp_call rfl Tryd.call45 (args2 (eval_tmp d2) (eval_tmp d5)) (hc k hk _) ?_
        rintro e5 w5 ⟨rfl, hb5⟩
        exact ⟨_, rfl, _, rfl, hb5, rfl, fun h => absurd h (by decide)⟩
      · have d6 := got (hv 6 31 rfl) (hd 6 (by kernel_rfl))
        clear hb hv hd
        refine wpOp_step rfl fun K hK => ?_
        go_simp
        exact hK _ _ ⟨_, rfl, Below.refl _ _, rfl, fun h => absurd h (by decide)⟩
      · have d7 := got (hv 7 24 rfl) (hd 7 (by kernel_rfl))
        clear hb hv hd
        refine wpOp_step rfl fun K hK => ?_
        go_simp
        exact hK _ _ ⟨_, rfl, Below.refl _ _, rfl, fun h => absurd h (by decide)⟩
      · have d7 := got (hv 7 24 rfl) (hd 7 (by kernel_rfl))
        clear hb hv hd
        refine wpOp_step rfl fun K hK => ?_
        go_simp
        exact hK _ _ ⟨_, rfl, Below.refl _ _, rfl, fun h => absurd h (by decide)⟩
    · intro v w' hB hF hD
      have F0 : v 0 = _ := hF 0 (by simp)
      have F1 : v 1 = _ := hF 1 (by simp)
      have F2 : v 2 = _ := hF 2 (by simp)
      have F3 : v 3 = _ := hF 3 (by simp)
      have F4 : v 4 = _ := hF 4 (by simp)
      have F5 : v 5 = _ := hF 5 (by simp)
      have F6 : v 6 = _ := hF 6 (by simp)
      have F7 : v 7 = _ := hF 7 (by simp)
      have F8 : v 8 = _ := hF 8 (by simp)
      have F9 : v 9 = _ := hF 9 (by simp)
      clear hF
      simp only [frOf, frGo, Nat.zero_add, Nat.reduceAdd, F0, F1, F2, F3, F4, F5, F6, F7, F8, F9]
      clear F0 F1 F2 F3 F4 F5 F6 F7 F8 F9 hD hc kA kB
      go_wp2
    · intro v w' hB hF hD
      have F0 : v 0 = _ := hF 0 (by simp) (by decide)
      have F1 : v 1 = _ := hF 1 (by simp) (by decide)
      have F2 : v 2 = _ := hF 2 (by simp) (by decide)
      have F3 : v 3 = _ := hF 3 (by simp) (by decide)
      have F4 : v 4 = _ := hF 4 (by simp) (by decide)
      have F5 : v 5 = _ := hF 5 (by simp) (by decide)
      have F6 : v 6 = _ := hF 6 (by simp) (by decide)
      have F7 : v 7 = _ := hF 7 (by simp) (by decide)
      have F8 : v 8 = _ := hF 8 (by simp) (by decide)
      clear hF
      simp only [frOf, frGo, Nat.zero_add, Nat.reduceAdd, F0, F1, F2, F3, F4, F5, F6, F7, F8]
      clear F0 F1 F2 F3 F4 F5 F6 F7 F8 hD hc kA kB
      refine wpOp_step rfl (fun K hK => ?_)
      go_simp
      refine hK _ _ ?_
      clear hK K
      refine wpOp_step rfl (fun K hK => ?_)
      go_simp
      refine hK _ _ ?_
      clear hK K
      go_wp2
    · intro w' hst
      have hB := hst
      clear hst
      simp only [frOf, frGo, Nat.zero_add, Nat.reduceAdd]
      clear hc kA kB
      have s1 := aj_keep hj.out hB
      clear hB hj
      generalize hek : e k = ek at *
      have EK := Lib.hid hek
      clear hek
      generalize hxk : x k = xk at *
      have XK := Lib.hid hxk
      clear hxk
      by_cases he : ek = 0
      · subst he
        have s2 := Lib.hid (aj_put s1 hk (by omega) (by omega) (by omega) (by omega))
        obtain ⟨_, _, _, _, _, s5, s6⟩ := s1
        have q1 := s5 k hk
        have q2 := s6 k hk
        clear s5 s6
        rw [XK.out] at s2
        go_wp2
        go_roundw
        case rel => exact ⟨k + 1, hk, by go_num, s2, Lib.hid (less_succ hz.out EK.out)⟩
        case measure => simp [intOf]; omega
      · have E1 := Lib.hid (se_first hk hz.out (by rw [EK.out]; exact he))
        have E2 := Lib.hid (show ¬ se e = 0 by rw [E1.out, EK.out]; exact he)
        have hn := neb_of he
        obtain ⟨s0, _, _, s3, s4, _, _⟩ := s1
        replace s3 := sc_six s3
        replace s4 := sf_six s4
        clear hk0 hk6 he
        go_wp2
        obtain ⟨r0, r1, r2, r3, r4, r5⟩ := s3
        refine bodyPost_ret (v := .tuple #[sv (fun _ => 0), .int .i64 ek]) (by simp [results, Tryd.results23, go_sem, r0, r1, r2, r3, r4, r5]) rfl ⟨sz_end (sz_no E2.out).symm (E1.out.trans EK.out).symm, ?_⟩
        exact bb_set s0 (by omega)

/-- What comes of a sum; the error's number. -/
def sumz (a b : Nat → Int) : Nat → Int := if F6 a ∧ F6 b then sz (fun i => gz (a i) (b i) (a i + b i)) (fun i => ge (a i) (b i) (a i + b i)) else fun _ => 0
def sume (a b : Nat → Int) : Int := if F6 a ∧ F6 b then se (fun i => ge (a i) (b i) (a i + b i)) else 1
theorem add_sym (a b : Nat → Int) (ha : I6 a) (hb : I6 b) (w : World) :
    Calls Tryd.prog 17 #[sv a, sv b] w (RetV (.tuple #[sv (sumz a b), .int .i64 (sume a b)]) w) := by
  unfold sumz sume
  by_cases c : F6 a ∧ F6 b
  · rw [if_pos c, if_pos c]
    exact add_sym_ok a b _ _ ha hb c.1 c.2 (fun k hk w => add_fix (a k) (b k) (ha k hk).1 (ha k hk).2 (hb k hk).1 (hb k hk).2 w) w
  · rw [if_neg c, if_neg c]
    exact add_sym_bad a b ha hb c w
theorem add_sref (a b : Nat → Int) (ha : I6 a) (hb : I6 b) (w : World) :
    Calls Tryd.prog 23 #[sv a, sv b] w (RetV (.tuple #[sv (sumz a b), .int .i64 (sume a b)]) w) := by
  unfold sumz sume
  by_cases c : F6 a ∧ F6 b
  · rw [if_pos c, if_pos c]
    exact add_sref_ok a b _ _ ha hb c.1 c.2 (fun k hk w => add_ref (a k) (b k) (ha k hk).1 (ha k hk).2 (hb k hk).1 (hb k hk).2 w) w
  · rw [if_neg c, if_neg c]
    exact add_sref_bad a b ha hb c w
/-- A sum that fits. -/
theorem sum_fits {a b : Nat → Int} (h : sume a b = 0) : F6 a ∧ F6 b ∧ (∀ i, i < 6 → sumz a b i = a i + b i ∧ FitP (a i + b i)) := by
  unfold sume at h
  by_cases c : F6 a ∧ F6 b
  · rw [if_pos c] at h
    refine ⟨c.1, c.2, fun i hi => ?_⟩
    have := ge_ok (se_zero h i hi)
    unfold sumz sz
    rw [if_pos c]
    simp only [h, if_true]
    exact ⟨this.1, this.2.2.2⟩
  · rw [if_neg c] at h; cases h
end Go.Proofs.YtlpmmnfijfljoaaDoor
