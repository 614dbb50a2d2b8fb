/- Motion: the program's and the document's On side by side; what it answers where all fits; the chapter's example. -/
import Derived.Test.YtahpiakjhdnigaaMotC
import Derived.Test.YtahpiakjhdnigaaMotD
namespace Go.Proofs.Ytahpiakjhdnigaa
open Go.RowKit Go.Shelf

theorem on_ref_ok (x0 x1 x2 t : Int) (hx0 : I64 x0) (hx1 : I64 x1) (hx2 : I64 x2) (ht : I64 t) (c : F3 x0 x1 x2) (ct : FitP t) (cd : FitP (t - x2)) (w : World) :
    Calls Try.prog 7 #[tv x0 x1 x2, .int .i64 t] w (RetV (.tuple #[tv (oz (ne (x0 + mvh x1 (t - x2))) (ne (x1 + mvs (t - x2))) (nz (x0 + mvh x1 (t - x2)))) (oz (ne (x0 + mvh x1 (t - x2))) (ne (x1 + mvs (t - x2))) (nz (x1 + mvs (t - x2)))) (oz (ne (x0 + mvh x1 (t - x2))) (ne (x1 + mvs (t - x2))) x2), .int .i64 (oe (ne (x0 + mvh x1 (t - x2))) (ne (x1 + mvs (t - x2))))]) w) := by
  have cS : ∀ w, Calls Try.prog 20 #[.int .i64 t, .int .i64 x2] w (RetV (.tuple #[.int .i64 (t - x2), .int .i64 0]) w) := fun w => by
    have h := sub_ref t x2 ht.1 ht.2 hx2.1 hx2.2 w
    rwa [(gz_of ⟨ct, c.2.2⟩ _).1, (gz_of ⟨ct, c.2.2⟩ _).2, (nz_of cd).1, (nz_of cd).2] at h
  have hd : I64 (t - x2) := ⟨by omega, by omega⟩
  generalize t - x2 = d at *
  have b1 := mvh_bd c.2.1 cd
  have b2 := mvs_bd cd
  exact on_ref_go x0 x1 x2 t d (mvh x1 d) (mvs d) _ _ _ _ hx0 hx1 hx2 ht c ct cS (of_big x0 hx0.1 hx0.2) (of_big x1 hx1.1 hx1.2) (of_big x1 hx1.1 hx1.2) (of_big d hd.1 hd.2)
    (small_of (by omega) (by omega)) (small_of (by omega) (by omega)) (small_of (by omega) (by omega)) (small_of (by omega) (by omega)) (small_of (by omega) (by omega)) (small_of (by omega) (by omega)) (small_of (by omega) (by omega))
    ⟨by omega, by omega⟩ ⟨by omega, by omega⟩ (Lib.hid (ef_pos (256 * x1 + d) (show (0 : Int) < 32768 by decide))) (Lib.hid (ef_pos d (show (0 : Int) < 128 by decide)))
    (fun v w h => to_ref v _ w h ⟨by omega, by omega⟩) (fun v w h => to_ref v _ w h ⟨by omega, by omega⟩) w

/-- Both sides answer alike. -/
theorem on_all (x0 x1 x2 t : Int) (hx0 : I64 x0) (hx1 : I64 x1) (hx2 : I64 x2) (ht : I64 t) : ∃ y0 y1 y2 e : Int,
    (∀ w, Calls Try.prog 6 #[tv x0 x1 x2, .int .i64 t] w (RetV (.tuple #[tv y0 y1 y2, .int .i64 e]) w)) ∧
    (∀ w, Calls Try.prog 7 #[tv x0 x1 x2, .int .i64 t] w (RetV (.tuple #[tv y0 y1 y2, .int .i64 e]) w)) := by
  by_cases c : F3 x0 x1 x2
  · by_cases ct : FitP t
    · by_cases cd : FitP (t - x2)
      · exact ⟨_, _, _, _, on_mot_ok x0 x1 x2 t hx0 hx1 hx2 ht c ct cd, on_ref_ok x0 x1 x2 t hx0 hx1 hx2 ht c ct cd⟩
      · refine ⟨0, 0, 0, 3, on_mot_sub x0 x1 x2 t 0 3 hx0 hx1 hx2 ht c rfl fun w => ?_, on_ref_sub x0 x1 x2 t 0 3 hx0 hx1 hx2 ht c ct rfl fun w => ?_⟩
        · have h := sub_fix t x2 ht.1 ht.2 hx2.1 hx2.2 w
          rwa [(gz_of ⟨ct, c.2.2⟩ _).1, (gz_of ⟨ct, c.2.2⟩ _).2, (nz_no cd).1, (nz_no cd).2] at h
        · have h := sub_ref t x2 ht.1 ht.2 hx2.1 hx2.2 w
          rwa [(gz_of ⟨ct, c.2.2⟩ _).1, (gz_of ⟨ct, c.2.2⟩ _).2, (nz_no cd).1, (nz_no cd).2] at h
    · refine ⟨0, 0, 0, 1, on_mot_sub x0 x1 x2 t 0 1 hx0 hx1 hx2 ht c rfl fun w => ?_, on_ref_bad x0 x1 x2 t hx0 hx1 hx2 ht fun h => ct h.2⟩
      have h := sub_fix t x2 ht.1 ht.2 hx2.1 hx2.2 w
      rwa [(gz_no (fun h => ct h.1) _).1, (gz_no (fun h => ct h.1) _).2] at h
  · exact ⟨0, 0, 0, 1, on_mot_bad x0 x1 x2 t hx0 hx1 hx2 ht c, on_ref_bad x0 x1 x2 t hx0 hx1 hx2 ht fun h => c h.1⟩

/-- Where all fits. -/
theorem on_fit (x0 x1 x2 t d h v : Int) (c : F3 x0 x1 x2) (ct : FitP t) (ed : t - x2 = d) (cd : FitP d) (eh : x0 + mvh x1 d = h) (ch : FitP h) (ev : x1 + mvs d = v) (cv : FitP v) (w : World) :
    Calls Try.prog 6 #[tv x0 x1 x2, .int .i64 t] w (RetV (.tuple #[tv h v x2, .int .i64 0]) w) := by
  subst ed
  have h1 := on_mot_ok x0 x1 x2 t ⟨by omega, by omega⟩ ⟨by omega, by omega⟩ ⟨by omega, by omega⟩ ⟨by omega, by omega⟩ c ct cd w
  rwa [eh, ev, (nz_of ch).1, (nz_of ch).2, (nz_of cv).1, (nz_of cv).2, (oz_yes _).1, (oz_yes _).1, (oz_yes _).1, (oz_yes 0).2] at h1

set_option maxHeartbeats 1000000 in
theorem fixed_mot (w : World) : Calls Try.prog 8 #[] w (RetV (.bool true) w) := by
  have cO := on_fit 0 1099511627776 0 0 0 8589934592 1099511627776 (by decide) (by decide) (by decide) (by decide) (by decide) (by decide) (by decide) (by decide)
  have hve := vec_eq_self
  go_enter Try.func8, Try.ntmps8
  go_wp2_with fail
  refine (cO _).mono ?_
  rintro e w1 ⟨rfl, hb1⟩
  have k1 : TC (w1.alloc (Obj.cells #[.int .i64 8589934592, .int .i64 1099511627776, .int .i64 0] 23)) w1.heap.size 8589934592 1099511627776 0 := tc_new rfl
  have B := b_alloc (o := Obj.cells #[.int .i64 8589934592, .int .i64 1099511627776, .int .i64 0] 23) hb1
  clear hb1 cO
  go_wp2
  go_ret
  exact ⟨rfl, B⟩

end Go.Proofs.Ytahpiakjhdnigaa
