/- The whole: TopText: every text is refused with its error, or builds a channel with which every script of ticks ends, tame, within its bound, and accepted not long ago. -/
import Derived.Test.YthnofhjgfhapiaaGreatDoorWbr
import Derived.Test.YthnofhjgfhapiaaGreatDoorWbh
import Derived.Test.YthnofhjgfhapiaaGreatDoorWaf
import Derived.BigQuiet
import Derived.Deep.DeepCutAuto
import Derived.Deep.CutBlock
namespace Go.Proofs.YthnofhjgfhapiaaGreatDoor
open Go.RowKit Go.Shelf Go.Joins

theorem cks_in (x : Nat → Int) : 0 ≤ cks x ∧ cks x ≤ 14 := by
  have A : ∀ (b : Bool) (u v : Int), 0 ≤ u ∧ u ≤ 14 → 0 ≤ v ∧ v ≤ 14 → 0 ≤ (bif b then u else v) ∧ (bif b then u else v) ≤ 14 := fun b u v hu hv => by
    cases b
    · exact hv
    · exact hu
  unfold cks
  repeat' (first | apply A | decide)
theorem sound_rg {w : World} (T : Tb3 w) {m : Nat → Int} {f0 f1 f2 : Int} (h : Snd m f0 f1 f2) (hm : I6 m) (h0 : I64 f0) (h1 : I64 f1) (h2 : I64 f2) : ∀ d os, Calls Tryz.prog 12 #[sv m, tv f0 f1 f2] (Sort.grow (redrawn w d) os) fun e w'' => e = .returned (.bool true) ∧ ∃ p : Regrown, w'' = Sort.grow (redrawn w p.d) p.os :=
  fun d os => Calls.regrown_of (by
    have q := sound_sym m f0 f1 f2 hm h0 h1 h2 _ (t3_keep (below_regrown w d os) T).1
    rw [sndb_yes h] at q
    exact q)

set_option maxHeartbeats 16000000 in
set_option maxRecDepth 20000 in
theorem topText_any (S : ByteArray) (hm0 : S.size ≤ 9223372036854775807) (a p : Nat → Int) (h s : Nat → Bool) (sa : Option Addr) (len cap : Nat) (hm : cap ≤ 9223372036854775807) (hl : len ≤ cap) (w : World) (hc : ∀ k, k < len → ∃ g off, sa = some ⟨g, off, none⟩ ∧ TW w g (off + k * 4) (a k) (h k) (p k) (s k)) (ev : EV w) (T : Tb3 w) : Calls Tryz.prog 3 #[.string S, .slice sa len cap] w (RetV (.bool true) w) := by
  by_cases hs : S.size ≤ 3000
  rotate_left
  · have q0 : (3000 : Int) < (S.size : Int) := by omega
    go_enter Tryz.func3, Tryz.ntmps3
    go_wp2_with fail
    refine (fixed_cha _ T).mono ?_
    rintro e_ y9 ⟨rfl, hb9⟩
    go_wp2
    go_ret
    exact ⟨rfl, b_trans (Below.refl _ _) hb9⟩
  have q0 : ¬ (3000 : Int) < (S.size : Int) := by omega
  by_cases la : len ≤ 300
  rotate_left
  · have q1 : (300 : Int) < (len : Int) := by omega
    go_enter Tryz.func3, Tryz.ntmps3
    go_wp2_with fail
    refine (fixed_cha _ T).mono ?_
    rintro e_ y9 ⟨rfl, hb9⟩
    go_wp2
    go_ret
    exact ⟨rfl, b_trans (Below.refl _ _) hb9⟩
  have q1 : ¬ (300 : Int) < (len : Int) := by omega
  rcases reads_or S.data.toList with ⟨x, hX⟩ | hX
  rotate_left
  · go_enter Tryz.func3, Tryz.ntmps3
    go_wp2_with fail
    refine (load_no S hs hX _ ev).mono ?_
    rintro e_ y1 ⟨rfl, hb1⟩
    replace T := t3_keep hb1 T
    have ev1 := ev_keep hb1 ev
    have E0 := hb1
    clear hb1
    go_wp2_with (with_reducible refine stop_at none rfl ?_)
    refine unstop ?_
    refine wpList_store_row rfl 27 (.tmp 5) (.tmp 30) rfl y1.heap.size #[.int .i64 0, .int .i64 0, .int .i64 0, .int .i64 0, .int .i64 0, .int .i64 0, .int .i64 0, .int .i64 0, .int .i64 0, .int .i64 0, .int .i64 0, .int .i64 0, .int .i64 0, .int .i64 0, .int .i64 0, .int .i64 0, .int .i64 0, .int .i64 0, .int .i64 0, .int .i64 0, .int .i64 0, .int .i64 0, .int .i64 0, .int .i64 0, .int .i64 0, .int .i64 0, .int .i64 0, .int .i64 0, .int .i64 0, .int .i64 0, .int .i64 0] rfl rfl 27 _ (heap_alloc_last y1 _) (by kernel_rfl) rfl (by kernel_rfl) ?_
    rw [World.setRow_alloc_new]
    have Z1 : Below y1.heap.size y1 (y1.alloc (Obj.cells #[.int .i64 0, .int .i64 0, .int .i64 0, .int .i64 0, .int .i64 0, .int .i64 0, .int .i64 0, .int .i64 0, .int .i64 0, .int .i64 0, .int .i64 0, .int .i64 0, .int .i64 0, .int .i64 0, .int .i64 0, .int .i64 0, .int .i64 0, .int .i64 0, .int .i64 0, .int .i64 0, .int .i64 0, .int .i64 0, .int .i64 0, .int .i64 0, .int .i64 0, .int .i64 0, .int .i64 0, .int .i64 0, .int .i64 0, .int .i64 0, .int .i64 0] 27)) := b_alloc (Below.refl _ _)
    have cr : (y1.alloc (Obj.cells #[.int .i64 0, .int .i64 0, .int .i64 0, .int .i64 0, .int .i64 0, .int .i64 0, .int .i64 0, .int .i64 0, .int .i64 0, .int .i64 0, .int .i64 0, .int .i64 0, .int .i64 0, .int .i64 0, .int .i64 0, .int .i64 0, .int .i64 0, .int .i64 0, .int .i64 0, .int .i64 0, .int .i64 0, .int .i64 0, .int .i64 0, .int .i64 0, .int .i64 0, .int .i64 0, .int .i64 0, .int .i64 0, .int .i64 0, .int .i64 0, .int .i64 0] 27)).heap[y1.heap.size]? = some (.cells #[.int .i64 0, .int .i64 0, .int .i64 0, .int .i64 0, .int .i64 0, .int .i64 0, .int .i64 0, .int .i64 0, .int .i64 0, .int .i64 0, .int .i64 0, .int .i64 0, .int .i64 0, .int .i64 0, .int .i64 0, .int .i64 0, .int .i64 0, .int .i64 0, .int .i64 0, .int .i64 0, .int .i64 0, .int .i64 0, .int .i64 0, .int .i64 0, .int .i64 0, .int .i64 0, .int .i64 0, .int .i64 0, .int .i64 0, .int .i64 0, .int .i64 0] 27 (0, 0)) := heap_alloc_last _ _
    replace T := t3_keep Z1 T
    replace ev1 := ev_keep Z1 ev1
    replace E0 := b_trans E0 Z1
    clear Z1
    generalize y1.alloc (Obj.cells #[.int .i64 0, .int .i64 0, .int .i64 0, .int .i64 0, .int .i64 0, .int .i64 0, .int .i64 0, .int .i64 0, .int .i64 0, .int .i64 0, .int .i64 0, .int .i64 0, .int .i64 0, .int .i64 0, .int .i64 0, .int .i64 0, .int .i64 0, .int .i64 0, .int .i64 0, .int .i64 0, .int .i64 0, .int .i64 0, .int .i64 0, .int .i64 0, .int .i64 0, .int .i64 0, .int .i64 0, .int .i64 0, .int .i64 0, .int .i64 0, .int .i64 0] 27) = z0 at *
    generalize y1.heap.size = D5 at *
    go_wp2_with fail
    refine (fixed_cha _ T).mono ?_
    rintro e_ y2 ⟨rfl, hb2⟩
    replace cr := row_keep hb2 cr
    replace E0 := b_trans E0 hb2
    clear hb2 T ev1
    have zq := zv_eq_self
    go_wp2_with (with_reducible refine stop_at (some 57) rfl ?_)
    refine unstop ?_
    refine wpList_load_part (by kernel_rfl) 27 (.tmp 5) rfl D5 0 rfl 27 _ #[.int .i64 0, .int .i64 0, .int .i64 0, .int .i64 0, .int .i64 0, .int .i64 0, .int .i64 0, .int .i64 0, .int .i64 0, .int .i64 0, .int .i64 0, .int .i64 0, .int .i64 0, .int .i64 0, .int .i64 0, .int .i64 0, .int .i64 0, .int .i64 0, .int .i64 0, .int .i64 0, .int .i64 0, .int .i64 0, .int .i64 0, .int .i64 0, .int .i64 0, .int .i64 0, .int .i64 0, .int .i64 0, .int .i64 0, .int .i64 0, .int .i64 0] (0, 0) _ cr (by kernel_rfl) Tryz.underlying27 rfl (by kernel_rfl) ?_
    go_wp2
    go_ret
    exact ⟨rfl, E0⟩
  by_cases ck : cks x = 0
  rotate_left
  · obtain ⟨m, hm9⟩ : ∃ m, cks x = m := ⟨_, rfl⟩
    obtain ⟨m0, m14⟩ := cks_in x
    rw [hm9] at ck m0 m14
    have m1 : (1 : Int) ≤ m := by omega
    go_enter Tryz.func3, Tryz.ntmps3
    go_wp2_with fail
    refine (load_rule S hs x hX m hm9 ck _ ev).mono ?_
    rintro e_ y1 ⟨rfl, hb1⟩
    replace T := t3_keep hb1 T
    have ev1 := ev_keep hb1 ev
    have E0 := hb1
    clear hb1
    go_wp2_with (with_reducible refine stop_at none rfl ?_)
    refine unstop ?_
    refine wpList_store_row rfl 27 (.tmp 5) (.tmp 30) rfl y1.heap.size #[.int .i64 0, .int .i64 0, .int .i64 0, .int .i64 0, .int .i64 0, .int .i64 0, .int .i64 0, .int .i64 0, .int .i64 0, .int .i64 0, .int .i64 0, .int .i64 0, .int .i64 0, .int .i64 0, .int .i64 0, .int .i64 0, .int .i64 0, .int .i64 0, .int .i64 0, .int .i64 0, .int .i64 0, .int .i64 0, .int .i64 0, .int .i64 0, .int .i64 0, .int .i64 0, .int .i64 0, .int .i64 0, .int .i64 0, .int .i64 0, .int .i64 0] rfl rfl 27 _ (heap_alloc_last y1 _) (by kernel_rfl) rfl (by kernel_rfl) ?_
    rw [World.setRow_alloc_new]
    have Z1 : Below y1.heap.size y1 (y1.alloc (Obj.cells #[.int .i64 0, .int .i64 0, .int .i64 0, .int .i64 0, .int .i64 0, .int .i64 0, .int .i64 0, .int .i64 0, .int .i64 0, .int .i64 0, .int .i64 0, .int .i64 0, .int .i64 0, .int .i64 0, .int .i64 0, .int .i64 0, .int .i64 0, .int .i64 0, .int .i64 0, .int .i64 0, .int .i64 0, .int .i64 0, .int .i64 0, .int .i64 0, .int .i64 0, .int .i64 0, .int .i64 0, .int .i64 0, .int .i64 0, .int .i64 0, .int .i64 0] 27)) := b_alloc (Below.refl _ _)
    have cr : (y1.alloc (Obj.cells #[.int .i64 0, .int .i64 0, .int .i64 0, .int .i64 0, .int .i64 0, .int .i64 0, .int .i64 0, .int .i64 0, .int .i64 0, .int .i64 0, .int .i64 0, .int .i64 0, .int .i64 0, .int .i64 0, .int .i64 0, .int .i64 0, .int .i64 0, .int .i64 0, .int .i64 0, .int .i64 0, .int .i64 0, .int .i64 0, .int .i64 0, .int .i64 0, .int .i64 0, .int .i64 0, .int .i64 0, .int .i64 0, .int .i64 0, .int .i64 0, .int .i64 0] 27)).heap[y1.heap.size]? = some (.cells #[.int .i64 0, .int .i64 0, .int .i64 0, .int .i64 0, .int .i64 0, .int .i64 0, .int .i64 0, .int .i64 0, .int .i64 0, .int .i64 0, .int .i64 0, .int .i64 0, .int .i64 0, .int .i64 0, .int .i64 0, .int .i64 0, .int .i64 0, .int .i64 0, .int .i64 0, .int .i64 0, .int .i64 0, .int .i64 0, .int .i64 0, .int .i64 0, .int .i64 0, .int .i64 0, .int .i64 0, .int .i64 0, .int .i64 0, .int .i64 0, .int .i64 0] 27 (0, 0)) := heap_alloc_last _ _
    replace T := t3_keep Z1 T
    replace ev1 := ev_keep Z1 ev1
    replace E0 := b_trans E0 Z1
    clear Z1
    generalize y1.alloc (Obj.cells #[.int .i64 0, .int .i64 0, .int .i64 0, .int .i64 0, .int .i64 0, .int .i64 0, .int .i64 0, .int .i64 0, .int .i64 0, .int .i64 0, .int .i64 0, .int .i64 0, .int .i64 0, .int .i64 0, .int .i64 0, .int .i64 0, .int .i64 0, .int .i64 0, .int .i64 0, .int .i64 0, .int .i64 0, .int .i64 0, .int .i64 0, .int .i64 0, .int .i64 0, .int .i64 0, .int .i64 0, .int .i64 0, .int .i64 0, .int .i64 0, .int .i64 0] 27) = z0 at *
    generalize y1.heap.size = D5 at *
    go_wp2_with fail
    refine (fixed_cha _ T).mono ?_
    rintro e_ y2 ⟨rfl, hb2⟩
    replace cr := row_keep hb2 cr
    replace E0 := b_trans E0 hb2
    clear hb2 T ev1
    have zq := zv_eq_self
    go_wp2_with (with_reducible refine stop_at (some 57) rfl ?_)
    refine unstop ?_
    refine wpList_load_part (by kernel_rfl) 27 (.tmp 5) rfl D5 0 rfl 27 _ #[.int .i64 0, .int .i64 0, .int .i64 0, .int .i64 0, .int .i64 0, .int .i64 0, .int .i64 0, .int .i64 0, .int .i64 0, .int .i64 0, .int .i64 0, .int .i64 0, .int .i64 0, .int .i64 0, .int .i64 0, .int .i64 0, .int .i64 0, .int .i64 0, .int .i64 0, .int .i64 0, .int .i64 0, .int .i64 0, .int .i64 0, .int .i64 0, .int .i64 0, .int .i64 0, .int .i64 0, .int .i64 0, .int .i64 0, .int .i64 0, .int .i64 0] (0, 0) _ cr (by kernel_rfl) Tryz.underlying27 rfl (by kernel_rfl) ?_
    go_wp2
    go_ret
    exact ⟨rfl, E0⟩
  have hx : C64 x := hX.1
  have eS : (⟨(txt x).toArray⟩ : ByteArray) = S := by rw [hX.2]
  have cp := fun u hu => put_any x hx u hu
  rw [eS] at cp
  go_enter Tryz.func3, Tryz.ntmps3
  go_wp2_with fail
  refine (load_yes S hs x hX ck _ ev).mono ?_
  rintro e_ y1 ⟨rfl, hb1⟩
  replace T := t3_keep hb1 T
  have ev1 := ev_keep hb1 ev
  have E0 := hb1
  clear hb1
  go_wp2_with (with_reducible refine stop_at none rfl ?_)
  refine unstop ?_
  refine wpList_store_row rfl 27 (.tmp 5) (.tmp 30) rfl y1.heap.size #[.int .i64 (x 0), .int .i64 (x 1), .int .i64 (x 2), .int .i64 (x 3), .int .i64 (x 4), .int .i64 (x 5), .int .i64 (x 6), .int .i64 (x 7), .int .i64 (x 8), .int .i64 (x 9), .int .i64 (x 10), .int .i64 (x 11), .int .i64 (x 12), .int .i64 (x 13), .int .i64 (x 14), .int .i64 (x 15), .int .i64 (x 16), .int .i64 (x 17), .int .i64 (x 18), .int .i64 (x 19), .int .i64 (x 20), .int .i64 (x 21), .int .i64 (x 22), .int .i64 (x 23), .int .i64 (x 24), .int .i64 (x 25), .int .i64 (x 26), .int .i64 (x 27), .int .i64 (x 28), .int .i64 (x 29), .int .i64 (x 30)] rfl rfl 27 _ (heap_alloc_last y1 _) (by kernel_rfl) rfl (by kernel_rfl) ?_
  rw [World.setRow_alloc_new]
  have Z1 : Below y1.heap.size y1 (y1.alloc (Obj.cells #[.int .i64 (x 0), .int .i64 (x 1), .int .i64 (x 2), .int .i64 (x 3), .int .i64 (x 4), .int .i64 (x 5), .int .i64 (x 6), .int .i64 (x 7), .int .i64 (x 8), .int .i64 (x 9), .int .i64 (x 10), .int .i64 (x 11), .int .i64 (x 12), .int .i64 (x 13), .int .i64 (x 14), .int .i64 (x 15), .int .i64 (x 16), .int .i64 (x 17), .int .i64 (x 18), .int .i64 (x 19), .int .i64 (x 20), .int .i64 (x 21), .int .i64 (x 22), .int .i64 (x 23), .int .i64 (x 24), .int .i64 (x 25), .int .i64 (x 26), .int .i64 (x 27), .int .i64 (x 28), .int .i64 (x 29), .int .i64 (x 30)] 27)) := b_alloc (Below.refl _ _)
  have cr : (y1.alloc (Obj.cells #[.int .i64 (x 0), .int .i64 (x 1), .int .i64 (x 2), .int .i64 (x 3), .int .i64 (x 4), .int .i64 (x 5), .int .i64 (x 6), .int .i64 (x 7), .int .i64 (x 8), .int .i64 (x 9), .int .i64 (x 10), .int .i64 (x 11), .int .i64 (x 12), .int .i64 (x 13), .int .i64 (x 14), .int .i64 (x 15), .int .i64 (x 16), .int .i64 (x 17), .int .i64 (x 18), .int .i64 (x 19), .int .i64 (x 20), .int .i64 (x 21), .int .i64 (x 22), .int .i64 (x 23), .int .i64 (x 24), .int .i64 (x 25), .int .i64 (x 26), .int .i64 (x 27), .int .i64 (x 28), .int .i64 (x 29), .int .i64 (x 30)] 27)).heap[y1.heap.size]? = some (.cells #[.int .i64 (x 0), .int .i64 (x 1), .int .i64 (x 2), .int .i64 (x 3), .int .i64 (x 4), .int .i64 (x 5), .int .i64 (x 6), .int .i64 (x 7), .int .i64 (x 8), .int .i64 (x 9), .int .i64 (x 10), .int .i64 (x 11), .int .i64 (x 12), .int .i64 (x 13), .int .i64 (x 14), .int .i64 (x 15), .int .i64 (x 16), .int .i64 (x 17), .int .i64 (x 18), .int .i64 (x 19), .int .i64 (x 20), .int .i64 (x 21), .int .i64 (x 22), .int .i64 (x 23), .int .i64 (x 24), .int .i64 (x 25), .int .i64 (x 26), .int .i64 (x 27), .int .i64 (x 28), .int .i64 (x 29), .int .i64 (x 30)] 27 (0, 0)) := heap_alloc_last _ _
  replace T := t3_keep Z1 T
  replace ev1 := ev_keep Z1 ev1
  replace E0 := b_trans E0 Z1
  clear Z1
  generalize y1.alloc (Obj.cells #[.int .i64 (x 0), .int .i64 (x 1), .int .i64 (x 2), .int .i64 (x 3), .int .i64 (x 4), .int .i64 (x 5), .int .i64 (x 6), .int .i64 (x 7), .int .i64 (x 8), .int .i64 (x 9), .int .i64 (x 10), .int .i64 (x 11), .int .i64 (x 12), .int .i64 (x 13), .int .i64 (x 14), .int .i64 (x 15), .int .i64 (x 16), .int .i64 (x 17), .int .i64 (x 18), .int .i64 (x 19), .int .i64 (x 20), .int .i64 (x 21), .int .i64 (x 22), .int .i64 (x 23), .int .i64 (x 24), .int .i64 (x 25), .int .i64 (x 26), .int .i64 (x 27), .int .i64 (x 28), .int .i64 (x 29), .int .i64 (x 30)] 27) = z0 at *
  generalize y1.heap.size = D5 at *
  clear hX eS
  have cr1 : Hid (CR z0 D5 x) := Lib.hid cr
  have T0 := Lib.hid T
  have E1 := Lib.hid E0
  have ev2 := Lib.hid ev1
  clear ev1
  go_wp2_with (with_reducible refine stop_at (some 62) rfl ?_)
  refine unstop ?_
  refine wpList_load_row rfl 27 (.tmp 5) rfl D5 rfl 27 _ (0, 0) _ cr Tryz.underlying27 rfl (by kernel_rfl) ?_
  go_wp2_with fail
  refine (chnew_ok x hx ck _ T).mono ?_
  rintro e_ y2 ⟨b, fb, gb, rfl, c0, i0, i1, i2, hb2⟩
  have S2 := Lib.hid (lc_new (Below.refl _ _) T c0 i0 i1 i2 hb2)
  replace cr := cr_keep hb2 cr
  have ev3 := ev_keep hb2 ev2.out
  clear c0 i0 i1 i2 hb2 E0 T
  go_wp2_with (with_reducible refine stop_at (some 73) rfl ?_)
  refine unstop ?_
  refine wpList_load_part (by kernel_rfl) 27 (.tmp 5) rfl D5 0 rfl 27 _ #[.int .i64 (x 0), .int .i64 (x 1), .int .i64 (x 2), .int .i64 (x 3), .int .i64 (x 4), .int .i64 (x 5), .int .i64 (x 6), .int .i64 (x 7), .int .i64 (x 8), .int .i64 (x 9), .int .i64 (x 10), .int .i64 (x 11), .int .i64 (x 12), .int .i64 (x 13), .int .i64 (x 14), .int .i64 (x 15), .int .i64 (x 16), .int .i64 (x 17), .int .i64 (x 18), .int .i64 (x 19), .int .i64 (x 20), .int .i64 (x 21), .int .i64 (x 22), .int .i64 (x 23), .int .i64 (x 24), .int .i64 (x 25), .int .i64 (x 26), .int .i64 (x 27), .int .i64 (x 28), .int .i64 (x 29), .int .i64 (x 30)] (0, 0) _ cr (by kernel_rfl) Tryz.underlying27 rfl (by kernel_rfl) ?_
  go_wp2_with fail
  refine (cp _ ev3).mono ?_
  rintro e_ y3 ⟨rfl, hb3⟩
  replace S2 := Lib.hid (lc_keep S2.out hb3)
  replace cr := cr_keep hb3 cr
  clear hb3 cp ev3
  have cc := check_any x hx
  rw [ck] at cc
  go_wp2_with (with_reducible refine stop_at (some 79) rfl ?_)
  refine unstop ?_
  refine wpList_load_part (by kernel_rfl) 27 (.tmp 5) rfl D5 0 rfl 27 _ #[.int .i64 (x 0), .int .i64 (x 1), .int .i64 (x 2), .int .i64 (x 3), .int .i64 (x 4), .int .i64 (x 5), .int .i64 (x 6), .int .i64 (x 7), .int .i64 (x 8), .int .i64 (x 9), .int .i64 (x 10), .int .i64 (x 11), .int .i64 (x 12), .int .i64 (x 13), .int .i64 (x 14), .int .i64 (x 15), .int .i64 (x 16), .int .i64 (x 17), .int .i64 (x 18), .int .i64 (x 19), .int .i64 (x 20), .int .i64 (x 21), .int .i64 (x 22), .int .i64 (x 23), .int .i64 (x 24), .int .i64 (x 25), .int .i64 (x 26), .int .i64 (x 27), .int .i64 (x 28), .int .i64 (x 29), .int .i64 (x 30)] (0, 0) _ cr (by kernel_rfl) Tryz.underlying27 rfl (by kernel_rfl) ?_
  go_wp2_with fail
  refine (cc _).mono ?_
  rintro e_ y4 ⟨rfl, hb4⟩
  replace S2 := Lib.hid (lc_keep S2.out hb4)
  clear hb4 cc cr
  have vt := Lib.hid (vt_itr (cn_of ck) a p h s)
  have om := Lib.hid (ok_itr hx ck a p h s)
  have ls := Lib.hid (las_s x a p h s)
  have lb := Lib.hid (las_bd x a p h s)
  go_wp2
  go_loopw [10, 85] (fun lv iv wr => ∃ (k : Nat) (h1 : Value), k ≤ len ∧ iv = .int .i64 k ∧ lv = .int .i64 (las x a p h s k) ∧ Hid (LC z0 b fb gb h1 x (itr x a p h s k) wr)) (fun _ iv _ => len - (intOf iv).toNat)
  case atStart => exact ⟨0, _, Nat.zero_le _, rfl, rfl, S2⟩
  case round =>
    clear S2
    obtain ⟨k, h1, hk, rfl, rfl, S1⟩ := hrel
    by_cases hlt : k < len
    · obtain ⟨gs, off, rfl, tw⟩ := hc k hlt
      have gl : gs < w.heap.size := World.block_lt_of_cell? w _ tw.1
      replace tw := tw_keep (b_trans E1.out S1.out.b) tw
      have hlk : (k : Int) < len := by omega
      have hk0 : (0 : Int) ≤ k := by omega
      have hk1 : (0 : Int) ≤ (k : Int) + 1 := by omega
      have hk2 : (k : Int) + 1 ≤ cap := by omega
      have ws : IntKind.i64.wrap ((k : Int) + 1) = (k : Int) + 1 := by rw [IntKind.wrap_i64]; omega
      have tn : ((k : Int) + 1).toNat = k + 1 := by omega
      have ro := itr_r x a p h s k
      have ok := ok_itr hx ck a p h s k
      have Z : Below wr.heap.size wr (wr.alloc (Obj.cells #[.int .i64 (a k), .bool (h k), .int .i64 (p k), .bool (s k)] 37)) := b_alloc (Below.refl _ _)
      have K1 := Lib.hid (lc_keep S1.out Z)
      have cs := step_any (b := b) (fb := fb) (gb := gb) (hl := h1) hx ck (C := itr x a p h s k) ok (by omega) (a k) (h k) (p k) (s k) _ K1.out.c K1.out.t
      replace hlt := Lib.hid hlt
      obtain ⟨t0, t1, t2, t3⟩ := tw
      clear ro ok Z S1
      have om1 := om.out (k + 1)
      have vt1 := vt.out (k + 1)
      have ls1 := ls.out (k + 1)
      have lb1 := lb.out (k + 1)
      have eL : las x a p h s (k + 1) = if (otr x a p h s k).ac then (k : Int) else las x a p h s k := rfl
      have eO : otr x a p h s k = (stp x (itr x a p h s k) (a k) (h k) (p k) (s k)).2 := rfl
      obtain ⟨R, hR⟩ : ∃ R, stp x (itr x a p h s k) (a k) (h k) (p k) (s k) = R := ⟨_, rfl⟩
      have eI : Hid (itr x a p h s (k + 1) = R.1) := Lib.hid (by rw [← hR]; rfl)
      have e2 : R.2.vd = vld R.1.m := by rw [← hR]; rfl
      rw [eI.out] at om1 vt1 ls1
      rw [hR] at eO cs
      rw [eO] at eL
      obtain ⟨L0, hL0⟩ : ∃ q, las x a p h s k = q := ⟨_, rfl⟩
      rw [hL0] at eL ⊢
      obtain ⟨Lq, hLq⟩ : ∃ q, las x a p h s (k + 1) = q := ⟨_, rfl⟩
      rw [hLq] at eL ls1 lb1
      replace hLq := Lib.hid hLq
      clear hR eO hL0
      obtain ⟨C1, m9, vd, ac, rf, ho, gr, al, sp, bi⟩ := R
      dsimp only at e2 om1 vt1 ls1 eL eI cs
      replace om1 := Lib.hid om1
      replace vt1 := Lib.hid vt1
      replace ls1 := Lib.hid ls1
      replace lb1 := Lib.hid lb1
      replace e2 := Lib.hid e2
      replace eL := Lib.hid eL
      go_wp2_with fail
      refine cs.mono ?_
      rintro e_ y3 ⟨rfl, h2, c2, q2, k2⟩
      have S2 := Lib.hid (lc_step K1.out c2 q2 k2)
      clear cs c2 q2 k2 K1 t0 t1 t2 t3
      have dD : (y3.alloc (Obj.cells #[.int .i64 m9, .bool vd, .bool ac, .bool rf, .bool ho, .bool gr, .int .i64 al, .int .i64 sp, .int .i64 bi] 39)).heap[y3.heap.size]? = some (.cells #[.int .i64 m9, .bool vd, .bool ac, .bool rf, .bool ho, .bool gr, .int .i64 al, .int .i64 sp, .int .i64 bi] 39 (0, 0)) := heap_alloc_last _ _
      have b3 : Below y3.heap.size y3 (y3.alloc (Obj.cells #[.int .i64 m9, .bool vd, .bool ac, .bool rf, .bool ho, .bool gr, .int .i64 al, .int .i64 sp, .int .i64 bi] 39)) := b_alloc (Below.refl _ _)
      replace S2 := Lib.hid (lc_keep S2.out b3)
      clear b3
      obtain ⟨d0, d1, d2, d3, d4, d5, d6, d7, d8⟩ := row9 dD
      go_upto_if 94 with fail
      generalize y3.alloc (Obj.cells #[.int .i64 m9, .bool vd, .bool ac, .bool rf, .bool ho, .bool gr, .int .i64 al, .int .i64 sp, .int .i64 bi] 39) = y4 at *
      generalize y3.heap.size = D at *
      go_cut [10] (fun s10 wx => s10 = .int .i64 Lq ∧ wx = y4)
      case first =>
        cases ac
        · obtain rfl : L0 = Lq := by have := eL.out; simpa using this.symm
          go_wp2_with fail
          go_meet
          exact ⟨rfl, rfl⟩
        · obtain rfl : (k : Int) = Lq := by have := eL.out; simpa using this.symm
          go_wp2_with fail
          go_meet
          exact ⟨rfl, rfl⟩
      case rest =>
        obtain ⟨rfl, rfl⟩ := hcut
        have ev_ := e2.out
        cases vd
        · clear ev_
          go_wp2
          refine ⟨⟨k + 1, h2, hlt.out, by go_num, by rw [hLq.out], by rw [eI.out]; exact S2⟩, ?_⟩
          simp only [intOf]
          have := hlt.out
          omega
        · have vv : vld C1.m = true := ev_.symm
          have VT := vt1.out vv
          obtain ⟨l0, ls2⟩ := ls1.out vv
          have ok1 := om1.out
          clear ev_
          go_wp2_with fail
          refine (chstate_any b fb gb h2 x C1.m C1.s C1.v C1.u _ S2.out.c.c).mono ?_
          rintro e_ y5 ⟨rfl, hb5⟩
          replace S2 := Lib.hid (lc_keep S2.out hb5)
          clear hb5
          have b3 : Below y5.heap.size y5 ((y5.alloc (Obj.cells #[.int .i64 (C1.v 0), .int .i64 (C1.v 1), .int .i64 (C1.v 2)] 25)).alloc (Obj.cells #[.int .i64 (C1.u 0), .int .i64 (C1.u 1), .int .i64 (C1.u 2), .int .i64 (C1.u 3), .int .i64 (C1.u 4), .int .i64 (C1.u 5)] 42)) := b_alloc (b_alloc (Below.refl _ _))
          have kV : VR ((y5.alloc (Obj.cells #[.int .i64 (C1.v 0), .int .i64 (C1.v 1), .int .i64 (C1.v 2)] 25)).alloc (Obj.cells #[.int .i64 (C1.u 0), .int .i64 (C1.u 1), .int .i64 (C1.u 2), .int .i64 (C1.u 3), .int .i64 (C1.u 4), .int .i64 (C1.u 5)] 42)) y5.heap.size C1.v := lay_old _ _ _
          have kS : ((y5.alloc (Obj.cells #[.int .i64 (C1.v 0), .int .i64 (C1.v 1), .int .i64 (C1.v 2)] 25)).alloc (Obj.cells #[.int .i64 (C1.u 0), .int .i64 (C1.u 1), .int .i64 (C1.u 2), .int .i64 (C1.u 3), .int .i64 (C1.u 4), .int .i64 (C1.u 5)] 42)).heap[y5.heap.size + 1]? = some (.cells #[.int .i64 (C1.u 0), .int .i64 (C1.u 1), .int .i64 (C1.u 2), .int .i64 (C1.u 3), .int .i64 (C1.u 4), .int .i64 (C1.u 5)] 42 (0, 0)) := lay_new _ _ _
          replace S2 := Lib.hid (lc_keep S2.out b3)
          clear b3
          obtain ⟨u0, u1, u2, u3, u4, u5⟩ := row6 kS
          go_wp2_with fail
          generalize ((y5.alloc (Obj.cells #[.int .i64 (C1.v 0), .int .i64 (C1.v 1), .int .i64 (C1.v 2)] 25)).alloc (Obj.cells #[.int .i64 (C1.u 0), .int .i64 (C1.u 1), .int .i64 (C1.u 2), .int .i64 (C1.u 3), .int .i64 (C1.u 4), .int .i64 (C1.u 5)] 42)) = y6 at *
          generalize y5.heap.size = V at *
          clear u0 u1 u2 u3 u4 u5
          refine (main_any C1.u _ S2.out.t.1).mono ?_
          rintro e_ y7 ⟨rfl, hb7⟩
          replace S2 := Lib.hid (lc_keep S2.out hb7)
          replace kV := row_keep hb7 kV
          replace kS := row_keep hb7 kS
          clear hb7
          have b4 : Below y7.heap.size y7 (y7.alloc (Obj.cells #[.int .i64 (C1.u 0), .int .i64 (C1.u 3), .int .i64 (C1.u 5)] 25)) := b_alloc (Below.refl _ _)
          have kM : (y7.alloc (Obj.cells #[.int .i64 (C1.u 0), .int .i64 (C1.u 3), .int .i64 (C1.u 5)] 25)).heap[y7.heap.size]? = some (.cells #[.int .i64 (C1.u 0), .int .i64 (C1.u 3), .int .i64 (C1.u 5)] 25 (0, 0)) := heap_alloc_last _ _
          replace S2 := Lib.hid (lc_keep S2.out b4)
          replace kV := row_keep b4 kV
          replace kS := row_keep b4 kS
          clear b4
          have k0 : (y7.alloc (Obj.cells #[.int .i64 (C1.u 0), .int .i64 (C1.u 3), .int .i64 (C1.u 5)] 25)).cell? ⟨y7.heap.size, 0, none⟩ = some (.int .i64 (C1.u 0)) := (cell_of_row _ _ 0 _ _ _ kM).trans rfl
          have k1 : (y7.alloc (Obj.cells #[.int .i64 (C1.u 0), .int .i64 (C1.u 3), .int .i64 (C1.u 5)] 25)).cell? ⟨y7.heap.size, 1, none⟩ = some (.int .i64 (C1.u 3)) := (cell_of_row _ _ 1 _ _ _ kM).trans rfl
          have k2 : (y7.alloc (Obj.cells #[.int .i64 (C1.u 0), .int .i64 (C1.u 3), .int .i64 (C1.u 5)] 25)).cell? ⟨y7.heap.size, 2, none⟩ = some (.int .i64 (C1.u 5)) := (cell_of_row _ _ 2 _ _ _ kM).trans rfl
          have TMt : Hid ((C1.u 0 ≤ x 14 ∧ C1.u 3 ≤ x 15 ∧ C1.u 5 ≤ x 16) ∧ x 11 ≤ C1.u 0 ∧ x 12 ≤ C1.u 3 ∧ x 13 ≤ C1.u 5) := Lib.hid ⟨VT.t.1, VT.t.2.2.1, VT.t.2.2.2.1, VT.t.2.2.2.2.1⟩
          go_wp2
          generalize y7.alloc (Obj.cells #[.int .i64 (C1.u 0), .int .i64 (C1.u 3), .int .i64 (C1.u 5)] 25) = y8 at *
          generalize y7.heap.size = M9 at *
          clear kM
          go_loopw [106] (fun jv wq => ∃ j : Nat, j ≤ 3 ∧ jv = .int .i64 j ∧ Hid (Below y8.heap.size y8 wq)) (fun jv _ => 3 - (intOf jv).toNat)
          case atStart => exact ⟨0, Nat.zero_le _, rfl, Lib.hid (Below.refl _ _)⟩
          case round =>
            obtain ⟨j, hj, rfl, HQ⟩ := hrel
            by_cases j3 : j < 3
            · rcases (show j = 0 ∨ j = 1 ∨ j = 2 by omega) with rfl | rfl | rfl
              · have m0 : wr.cell? ⟨M9, 0, none⟩ = some (.int .i64 (C1.u 0)) := cell_keep HQ.out k0
                have xc : wr.cell? ⟨D5, 14, none⟩ = some (.int .i64 (x 14)) := (cell_of_row _ _ 14 _ _ _ (cr_keep (b_trans S2.out.b HQ.out) cr1.out)).trans rfl
                have xf : wr.cell? ⟨D5, 11, none⟩ = some (.int .i64 (x 11)) := (cell_of_row _ _ 11 _ _ _ (cr_keep (b_trans S2.out.b HQ.out) cr1.out)).trans rfl
                have c1 : ¬ x 14 < C1.u 0 := by have := TMt.out.1; omega
                have c2 : ¬ C1.u 0 < x 11 := by have := TMt.out.2; omega
                go_wp2
                go_quiet (fail)
                have HQ2 : Hid (Below y8.heap.size y8 (wr.drewN nq)) := Lib.hid ⟨HQ.out.os, HQ.out.tape, HQ.out.output, HQ.out.size, HQ.out.block⟩
                clear HQ m0 xc xf
                generalize wr.drewN nq = wz at *
                go_wp2
                refine ⟨⟨1, by decide, by go_num, HQ2⟩, ?_⟩
                simp only [intOf]
                omega
              · have m1 : wr.cell? ⟨M9, 1, none⟩ = some (.int .i64 (C1.u 3)) := cell_keep HQ.out k1
                have xc : wr.cell? ⟨D5, 15, none⟩ = some (.int .i64 (x 15)) := (cell_of_row _ _ 15 _ _ _ (cr_keep (b_trans S2.out.b HQ.out) cr1.out)).trans rfl
                have xf : wr.cell? ⟨D5, 12, none⟩ = some (.int .i64 (x 12)) := (cell_of_row _ _ 12 _ _ _ (cr_keep (b_trans S2.out.b HQ.out) cr1.out)).trans rfl
                have c1 : ¬ x 15 < C1.u 3 := by have := TMt.out.1; omega
                have c2 : ¬ C1.u 3 < x 12 := by have := TMt.out.2; omega
                go_wp2
                go_quiet (fail)
                have HQ2 : Hid (Below y8.heap.size y8 (wr.drewN nq)) := Lib.hid ⟨HQ.out.os, HQ.out.tape, HQ.out.output, HQ.out.size, HQ.out.block⟩
                clear HQ m1 xc xf
                generalize wr.drewN nq = wz at *
                go_wp2
                refine ⟨⟨2, by decide, by go_num, HQ2⟩, ?_⟩
                simp only [intOf]
                omega
              · have m2 : wr.cell? ⟨M9, 2, none⟩ = some (.int .i64 (C1.u 5)) := cell_keep HQ.out k2
                have xc : wr.cell? ⟨D5, 16, none⟩ = some (.int .i64 (x 16)) := (cell_of_row _ _ 16 _ _ _ (cr_keep (b_trans S2.out.b HQ.out) cr1.out)).trans rfl
                have xf : wr.cell? ⟨D5, 13, none⟩ = some (.int .i64 (x 13)) := (cell_of_row _ _ 13 _ _ _ (cr_keep (b_trans S2.out.b HQ.out) cr1.out)).trans rfl
                have c1 : ¬ x 16 < C1.u 5 := by have := TMt.out.1; omega
                have c2 : ¬ C1.u 5 < x 13 := by have := TMt.out.2; omega
                go_wp2
                go_quiet (fail)
                have HQ2 : Hid (Below y8.heap.size y8 (wr.drewN nq)) := Lib.hid ⟨HQ.out.os, HQ.out.tape, HQ.out.output, HQ.out.size, HQ.out.block⟩
                clear HQ m2 xc xf
                generalize wr.drewN nq = wz at *
                go_wp2
                refine ⟨⟨3, by decide, by go_num, HQ2⟩, ?_⟩
                simp only [intOf]
                omega
            · obtain rfl : j = 3 := by omega
              have hlk3 : ¬ ((3 : Nat) : Int) < 3 := by decide
              replace S2 := Lib.hid (lc_keep S2.out HQ.out)
              replace kV := row_keep HQ.out kV
              replace kS := row_keep HQ.out kS
              clear HQ k0 k1 k2 TMt hj j3
              have cr := cr_keep S2.out.b cr1.out
              have x11 : wr.cell? ⟨D5, 11, none⟩ = some (.int .i64 (x 11)) := (cell_of_row _ _ 11 _ _ _ cr).trans rfl
              have x12 : wr.cell? ⟨D5, 12, none⟩ = some (.int .i64 (x 12)) := (cell_of_row _ _ 12 _ _ _ cr).trans rfl
              have x13 : wr.cell? ⟨D5, 13, none⟩ = some (.int .i64 (x 13)) := (cell_of_row _ _ 13 _ _ _ cr).trans rfl
              have x17 : wr.cell? ⟨D5, 17, none⟩ = some (.int .i64 (x 17)) := (cell_of_row _ _ 17 _ _ _ cr).trans rfl
              have x18 : wr.cell? ⟨D5, 18, none⟩ = some (.int .i64 (x 18)) := (cell_of_row _ _ 18 _ _ _ cr).trans rfl
              have x19 : wr.cell? ⟨D5, 19, none⟩ = some (.int .i64 (x 19)) := (cell_of_row _ _ 19 _ _ _ cr).trans rfl
              have x29 : wr.cell? ⟨D5, 29, none⟩ = some (.int .i64 (x 29)) := (cell_of_row _ _ 29 _ _ _ cr).trans rfl
              clear cr
              obtain ⟨v0, v1, v2⟩ := vr_tc kV
              obtain ⟨u0, u1, u2, u3, u4, u5⟩ := row6 kS
              clear kV kS
              have ve := vec_eq_self (C1.v 0) (C1.v 1) (C1.v 2)
              have cS := sound_rg S2.out.t VT.t.2 ok1.u (hx 11 (by decide)) (hx 12 (by decide)) (hx 13 (by decide))
              have cC := retV_regrown (w := wr) (fun u => (show Calls Tryz.prog 13 #[tv (C1.v 0) (C1.v 1) (C1.v 2), tv (x 17) (x 18) (x 19)] u (RetV (tv (C1.v 0) (C1.v 1) (C1.v 2)) u) from by
                                                            have q := clamp_vec (C1.v 0) (C1.v 1) (C1.v 2) (x 17) (x 18) (x 19) (ok1.v 0 (by decide)) (ok1.v 1 (by decide)) (ok1.v 2 (by decide)) (hx 17 (by decide)) (hx 18 (by decide)) (hx 19 (by decide)) u
                                                            have e0 : clz (C1.v 0) (x 17) = C1.v 0 := VT.v.1
                                                            have e1 : clz (C1.v 1) (x 18) = C1.v 1 := VT.v.2.1
                                                            have e2 : clz (C1.v 2) (x 19) = C1.v 2 := VT.v.2.2
                                                            rw [e0, e1, e2] at q
                                                            exact q))
              have b0 := lb1.out
              have hL0 : ¬ Lq < 0 := by omega
              have wL : IntKind.i64.wrap ((k : Int) - Lq) = (k : Int) - Lq := by rw [IntKind.wrap_i64]; have := hlt.out; omega
              have hL1 : ¬ x 29 < (k : Int) - Lq := by have := VT.s; omega
              clear VT ok1 l0 ls2 b0
              go_upto_region 25 with fail
              replace v0 := cell_regrown v0
              replace v1 := cell_regrown v1
              replace v2 := cell_regrown v2
              replace u0 := cell_regrown u0
              replace u1 := cell_regrown u1
              replace u2 := cell_regrown u2
              replace u3 := cell_regrown u3
              replace u4 := cell_regrown u4
              replace u5 := cell_regrown u5
              replace x11 := cell_regrown x11
              replace x12 := cell_regrown x12
              replace x13 := cell_regrown x13
              replace x17 := cell_regrown x17
              replace x18 := cell_regrown x18
              replace x19 := cell_regrown x19
              replace x29 := cell_regrown x29
              refine wp_region_quiet_below (by kernel_rfl) (by kernel_rfl) ?_
              repeat (first | go_big_quiet_skip | (go_big_quiet_want; go_big_quiet_op; first | go_big_quiet_on | (apply Exists.intro; refine ⟨fun _ => ?_, ?_⟩; (with_reducible first | exact cS _ _ | exact cC _ _); go_big_quiet_on)))
              refine wpQuiet_nil ?_
              intro _ hw'
              obtain ⟨⟨dq, osq⟩, hw''⟩ := hw'
              subst hw''
              replace S2 := Lib.hid (lc_keep S2.out (below_regrown wr dq osq))
              clear cS cC ve v0 v1 v2 u0 u1 u2 u3 u4 u5 x11 x12 x13 x17 x18 x19 x29 hL0 hL1 wL
              generalize Sort.grow (redrawn wr dq) osq = wz at *
              go_wp2
              refine ⟨⟨k + 1, h2, hlt.out, by go_num, by rw [hLq.out], by rw [eI.out]; exact S2⟩, ?_⟩
              simp only [intOf]
              have := hlt.out
              omega
    · have hlk : ¬ (k : Int) < len := by omega
      have T9 := S1.out.t
      have E9 := S1.out.b
      clear S1
      go_wp2_with fail
      refine (fixed_cha _ T9).mono ?_
      rintro e_ y9 ⟨rfl, hb9⟩
      go_wp2
      go_ret
      exact ⟨rfl, b_trans E1.out (b_trans E9 hb9)⟩
end Go.Proofs.YthnofhjgfhapiaaGreatDoor
