/- Layer 15: whatever counts are taken in, what each call answers is the document's; a copy goes its own way. -/
import Derived.Test.YtoohaphaeccafaaAccC
namespace Go.Proofs.Ytoohaphaeccafaa
open Go.RowKit Go.Shelf Go.Joins

theorem in_all (b : Nat) (x : Nat → Int) (hx : C64 x) (l r n : Int) (c : cks x = 0) (r0 : 0 ≤ r) (r1 : r ≤ 1000000) (w : World) (h : FR w b x l r) : Calls Try.prog 9 #[.pointer (some ⟨b, 0, none⟩), .int .i64 n] w fun e w' => e = .returned (.tuple #[.int .i64 (ap x l n), .bool (ah x n), .bool (aq x r n)]) ∧ FR w' b x (ap x l n) (ar x r n) ∧ But b w w' := by
  rcases the_or c n with t | t
  · obtain ⟨e1, e2, e3, e4⟩ := a_ok t l r
    rw [e1, e2, e3, e4]
    exact in_ok b x hx l r n c t w h
  · obtain ⟨e1, e2, e3, e4⟩ := a_no (n := n) (x := x) (by rw [t]; decide) l r
    rw [e1, e2, e3, e4]
    exact in_held b x hx l r n c t r0 r1 w h
theorem rin_all (x : Nat → Int) (hx : C64 x) (l r n : Int) (c : cks x = 0) (r0 : 0 ≤ r) (r1 : r ≤ 1000000) (w : World) : Calls Try.prog 10 #[fv x l r, .int .i64 n] w (RetV (gv x (ap x l n) (ar x r n) (ap x l n) (ah x n) (aq x r n)) w) := by
  rcases the_or c n with t | t
  · obtain ⟨e1, e2, e3, e4⟩ := a_ok t l r
    rw [e1, e2, e3, e4]
    exact rin_ok x hx l r n c t w
  · obtain ⟨e1, e2, e3, e4⟩ := a_no (n := n) (x := x) (by rw [t]; decide) l r
    rw [e1, e2, e3, e4]
    exact rin_held x hx l r n c t r0 r1 w
theorem ar_le (x : Nat → Int) {r n : Int} (r0 : 0 ≤ r) : 0 ≤ ar x r n ∧ ar x r n ≤ r + 1 := by
  unfold ar
  split <;> omega
theorem row_other {w : World} {g k : Nat} {cs : Array Value} {o : Obj} (hk : k ≠ g) (h : w.heap[k]? = some o) : (w.setRow g cs).heap[k]? = some o := (setRow_other w g k cs hk).trans h

set_option maxHeartbeats 8000000 in
set_option maxRecDepth 20000 in
/-- Whatever counts are taken in, what each call answers is the document's; a copy goes its own way. -/
theorem accelPlays_any (x : Nat → Int) (hx : C64 x) (sa : Option Addr) (len cap : Nat) (zs : List Int) (ao : Int) (a0 : 0 ≤ ao) (a1 : ao ≤ 255) (hm : len ≤ 9223372036854775807) (w : World)
    (hc : ∀ k, k < len → ∃ gb off, sa = some ⟨gb, off, none⟩ ∧ w.cell? ⟨gb, off + k, none⟩ = some (.int .i64 (zs.getD k 0))) :
    Calls Try.prog 3 #[cv x, .slice sa len cap, .int .u8 ao] w (RetV (.bool true) w) := by
  have E : Below w.heap.size w (w.alloc (Obj.cells #[.int .i64 (x 0), .int .i64 (x 1), .int .i64 (x 2), .int .i64 (x 3), .int .i64 (x 4), .int .i64 (x 5), .int .i64 (x 6), .int .i64 (x 7), .int .i64 (x 8), .int .i64 (x 9), .int .i64 (x 10), .int .i64 (x 11), .int .i64 (x 12), .int .i64 (x 13), .int .i64 (x 14), .int .i64 (x 15), .int .i64 (x 16), .int .i64 (x 17), .int .i64 (x 18), .int .i64 (x 19), .int .i64 (x 20), .int .i64 (x 21), .int .i64 (x 22), .int .i64 (x 23), .int .i64 (x 24), .int .i64 (x 25), .int .i64 (x 26), .int .i64 (x 27), .int .i64 (x 28), .int .i64 (x 29), .int .i64 (x 30)] 25)) := b_alloc (Below.refl _ _)
  have cr : CR (w.alloc (Obj.cells #[.int .i64 (x 0), .int .i64 (x 1), .int .i64 (x 2), .int .i64 (x 3), .int .i64 (x 4), .int .i64 (x 5), .int .i64 (x 6), .int .i64 (x 7), .int .i64 (x 8), .int .i64 (x 9), .int .i64 (x 10), .int .i64 (x 11), .int .i64 (x 12), .int .i64 (x 13), .int .i64 (x 14), .int .i64 (x 15), .int .i64 (x 16), .int .i64 (x 17), .int .i64 (x 18), .int .i64 (x 19), .int .i64 (x 20), .int .i64 (x 21), .int .i64 (x 22), .int .i64 (x 23), .int .i64 (x 24), .int .i64 (x 25), .int .i64 (x 26), .int .i64 (x 27), .int .i64 (x 28), .int .i64 (x 29), .int .i64 (x 30)] 25)) w.heap.size x := cr_new
  by_cases hl : len ≤ 2000
  · have h2 : ¬ (2000 : Int) < (len : Int) := by omega
    by_cases c : cks x = 0
    · have cn := new_ok x hx c
      have cd := rnew_ok x hx c
      go_enter Try.func3, Try.ntmps3
      go_wp2_with (with_reducible refine stop_at (some 23) rfl ?_)
      generalize (w.alloc (Obj.cells #[.int .i64 (x 0), .int .i64 (x 1), .int .i64 (x 2), .int .i64 (x 3), .int .i64 (x 4), .int .i64 (x 5), .int .i64 (x 6), .int .i64 (x 7), .int .i64 (x 8), .int .i64 (x 9), .int .i64 (x 10), .int .i64 (x 11), .int .i64 (x 12), .int .i64 (x 13), .int .i64 (x 14), .int .i64 (x 15), .int .i64 (x 16), .int .i64 (x 17), .int .i64 (x 18), .int .i64 (x 19), .int .i64 (x 20), .int .i64 (x 21), .int .i64 (x 22), .int .i64 (x 23), .int .i64 (x 24), .int .i64 (x 25), .int .i64 (x 26), .int .i64 (x 27), .int .i64 (x 28), .int .i64 (x 29), .int .i64 (x 30)] 25)) = z0 at *
      refine unstop ?_
      refine wpList_load_row rfl 25 (.tmp 3) rfl w.heap.size rfl 25 _ (0, 0) _ cr Try.underlying25 rfl (by kernel_rfl) ?_
      go_wp2_with fail
      refine (cn _).mono ?_
      rintro e y0 ⟨b, rfl, gb, h, hb⟩
      have gp := (Array.getElem?_eq_some_iff.1 cr).1
      replace gb : w.heap.size < b := by omega
      clear gp
      replace cr := cr_keep hb cr
      replace E := b_trans E hb
      clear hb cn
      go_wp2_with (with_reducible refine stop_at (some 28) rfl ?_)
      refine unstop ?_
      refine wpList_load_row rfl 25 (.tmp 3) rfl w.heap.size rfl 25 _ (0, 0) _ cr Try.underlying25 rfl (by kernel_rfl) ?_
      go_wp2_with fail
      refine (cd _).mono ?_
      rintro e y1 ⟨rfl, hb⟩
      replace cr := cr_keep hb cr
      replace h := row_keep hb h
      replace E := b_trans E hb
      clear hb cd
      go_wp2_with (with_reducible refine stop_at none rfl ?_)
      refine unstop ?_
      refine wpList_store_row rfl 33 (.tmp 9) (.tmp 30) rfl y1.heap.size #[.int .i64 (x 0), .int .i64 (x 1), .int .i64 (x 2), .int .i64 (x 3), .int .i64 (x 4), .int .i64 (x 5), .int .i64 (x 6), .int .i64 (x 7), .int .i64 (x 8), .int .i64 (x 9), .int .i64 (x 10), .int .i64 (x 11), .int .i64 (x 12), .int .i64 (x 13), .int .i64 (x 14), .int .i64 (x 15), .int .i64 (x 16), .int .i64 (x 17), .int .i64 (x 18), .int .i64 (x 19), .int .i64 (x 20), .int .i64 (x 21), .int .i64 (x 22), .int .i64 (x 23), .int .i64 (x 24), .int .i64 (x 25), .int .i64 (x 26), .int .i64 (x 27), .int .i64 (x 28), .int .i64 (x 29), .int .i64 (x 30), .int .i64 0, .int .i64 0] rfl rfl 33 _ (heap_alloc_last y1 _) (by kernel_rfl) rfl (by kernel_rfl) ?_
      rw [World.setRow_alloc_new]
      have hq : (y1.alloc (Obj.cells #[.int .i64 (x 0), .int .i64 (x 1), .int .i64 (x 2), .int .i64 (x 3), .int .i64 (x 4), .int .i64 (x 5), .int .i64 (x 6), .int .i64 (x 7), .int .i64 (x 8), .int .i64 (x 9), .int .i64 (x 10), .int .i64 (x 11), .int .i64 (x 12), .int .i64 (x 13), .int .i64 (x 14), .int .i64 (x 15), .int .i64 (x 16), .int .i64 (x 17), .int .i64 (x 18), .int .i64 (x 19), .int .i64 (x 20), .int .i64 (x 21), .int .i64 (x 22), .int .i64 (x 23), .int .i64 (x 24), .int .i64 (x 25), .int .i64 (x 26), .int .i64 (x 27), .int .i64 (x 28), .int .i64 (x 29), .int .i64 (x 30), .int .i64 0, .int .i64 0] 33)).heap[y1.heap.size]? = _ := heap_alloc_last y1 (Obj.cells #[.int .i64 (x 0), .int .i64 (x 1), .int .i64 (x 2), .int .i64 (x 3), .int .i64 (x 4), .int .i64 (x 5), .int .i64 (x 6), .int .i64 (x 7), .int .i64 (x 8), .int .i64 (x 9), .int .i64 (x 10), .int .i64 (x 11), .int .i64 (x 12), .int .i64 (x 13), .int .i64 (x 14), .int .i64 (x 15), .int .i64 (x 16), .int .i64 (x 17), .int .i64 (x 18), .int .i64 (x 19), .int .i64 (x 20), .int .i64 (x 21), .int .i64 (x 22), .int .i64 (x 23), .int .i64 (x 24), .int .i64 (x 25), .int .i64 (x 26), .int .i64 (x 27), .int .i64 (x 28), .int .i64 (x 29), .int .i64 (x 30), .int .i64 0, .int .i64 0] 33)
      replace E := b_alloc (o := Obj.cells #[.int .i64 (x 0), .int .i64 (x 1), .int .i64 (x 2), .int .i64 (x 3), .int .i64 (x 4), .int .i64 (x 5), .int .i64 (x 6), .int .i64 (x 7), .int .i64 (x 8), .int .i64 (x 9), .int .i64 (x 10), .int .i64 (x 11), .int .i64 (x 12), .int .i64 (x 13), .int .i64 (x 14), .int .i64 (x 15), .int .i64 (x 16), .int .i64 (x 17), .int .i64 (x 18), .int .i64 (x 19), .int .i64 (x 20), .int .i64 (x 21), .int .i64 (x 22), .int .i64 (x 23), .int .i64 (x 24), .int .i64 (x 25), .int .i64 (x 26), .int .i64 (x 27), .int .i64 (x 28), .int .i64 (x 29), .int .i64 (x 30), .int .i64 0, .int .i64 0] 33) E
      have k2 := (Array.getElem?_eq_some_iff.1 h).1
      have k3 := (Array.getElem?_eq_some_iff.1 cr).1
      replace h := row_keep (b_alloc (o := Obj.cells #[.int .i64 (x 0), .int .i64 (x 1), .int .i64 (x 2), .int .i64 (x 3), .int .i64 (x 4), .int .i64 (x 5), .int .i64 (x 6), .int .i64 (x 7), .int .i64 (x 8), .int .i64 (x 9), .int .i64 (x 10), .int .i64 (x 11), .int .i64 (x 12), .int .i64 (x 13), .int .i64 (x 14), .int .i64 (x 15), .int .i64 (x 16), .int .i64 (x 17), .int .i64 (x 18), .int .i64 (x 19), .int .i64 (x 20), .int .i64 (x 21), .int .i64 (x 22), .int .i64 (x 23), .int .i64 (x 24), .int .i64 (x 25), .int .i64 (x 26), .int .i64 (x 27), .int .i64 (x 28), .int .i64 (x 29), .int .i64 (x 30), .int .i64 0, .int .i64 0] 33) (Below.refl y1.heap.size y1)) h
      replace cr := row_keep (b_alloc (o := Obj.cells #[.int .i64 (x 0), .int .i64 (x 1), .int .i64 (x 2), .int .i64 (x 3), .int .i64 (x 4), .int .i64 (x 5), .int .i64 (x 6), .int .i64 (x 7), .int .i64 (x 8), .int .i64 (x 9), .int .i64 (x 10), .int .i64 (x 11), .int .i64 (x 12), .int .i64 (x 13), .int .i64 (x 14), .int .i64 (x 15), .int .i64 (x 16), .int .i64 (x 17), .int .i64 (x 18), .int .i64 (x 19), .int .i64 (x 20), .int .i64 (x 21), .int .i64 (x 22), .int .i64 (x 23), .int .i64 (x 24), .int .i64 (x 25), .int .i64 (x 26), .int .i64 (x 27), .int .i64 (x 28), .int .i64 (x 29), .int .i64 (x 30), .int .i64 0, .int .i64 0] 33) (Below.refl y1.heap.size y1)) cr
      generalize y1.alloc (Obj.cells #[.int .i64 (x 0), .int .i64 (x 1), .int .i64 (x 2), .int .i64 (x 3), .int .i64 (x 4), .int .i64 (x 5), .int .i64 (x 6), .int .i64 (x 7), .int .i64 (x 8), .int .i64 (x 9), .int .i64 (x 10), .int .i64 (x 11), .int .i64 (x 12), .int .i64 (x 13), .int .i64 (x 14), .int .i64 (x 15), .int .i64 (x 16), .int .i64 (x 17), .int .i64 (x 18), .int .i64 (x 19), .int .i64 (x 20), .int .i64 (x 21), .int .i64 (x 22), .int .i64 (x 23), .int .i64 (x 24), .int .i64 (x 25), .int .i64 (x 26), .int .i64 (x 27), .int .i64 (x 28), .int .i64 (x 29), .int .i64 (x 30), .int .i64 0, .int .i64 0] 33) = y2 at *
      generalize y1.heap.size = g at *
      go_wp2
      go_loopw [7, 47] (fun pv iv wr => ∃ (k b : Nat) (l r : Int), k ≤ len ∧ iv = .int .i64 k ∧ pv = .pointer (some ⟨b, 0, none⟩) ∧ 0 ≤ r ∧ r ≤ k ∧ w.heap.size < b ∧ b ≠ g ∧ FR wr b x l r ∧ QR wr g x l r ∧ CR wr w.heap.size x ∧ Below w.heap.size w wr) (fun _ iv _ => len - (intOf iv).toNat)
      case atStart => exact ⟨0, b, 0, 0, Nat.zero_le _, rfl, rfl, by decide, by decide, by omega, by omega, h, hq, cr, E⟩
      case round =>
        clear h hq cr E gb k2
        have gk : w.heap.size < g := k3
        clear k3
        obtain ⟨k, b, l, r, hk, rfl, rfl, r0, r1, gb, bg, h, hq, cr, E⟩ := hrel
        by_cases hlt : k < len
        · obtain ⟨gs, off, rfl, hcell⟩ := hc k hlt
          replace hcell := cell_keep E hcell
          generalize zs.getD k 0 = nn at *
          have hlk : (k : Int) < len := by omega
          have hk0 : (0 : Int) ≤ k := by omega
          by_cases hat : (k : Int) = ao
          · subst hat
            have c1 := copy_any b x l r
            have kp := kept_of c
            have c2 := in_held b x hx l r (x 26) c (th_out c (inb_no.2 (by omega))).2 r0 (by omega)
            have c3 := fun r => in_ok b x hx l r 0 c (th_ok c (inb_iff.2 ⟨by have := kp.c1; omega, by have := kp.c1; omega⟩)).2
            generalize thv x 0 = p0 at *
            clear kp
            go_wp2_with fail
            refine (c1 _ h).mono ?_
            rintro e y3 ⟨b2, rfl, gb2, h2, hb⟩
            have k1 := (Array.getElem?_eq_some_iff.1 hq).1
            have k2 := (Array.getElem?_eq_some_iff.1 h).1
            replace h := row_keep hb h
            replace hq := row_keep hb hq
            replace cr := cr_keep hb cr
            replace E := b_trans E hb
            clear hb c1
            have g26 := cr_cell cr 26 (by decide)
            go_wp2_with fail
            refine (c2 _ h).mono ?_
            clear h
            rintro e y4 ⟨rfl, h, B⟩
            replace h2 := but_row B (by omega) h2
            replace hq := but_row B (by omega) hq
            replace cr := but_row B (by omega) cr
            replace E := below_but E (by omega) B
            clear B g26 c2
            go_wp2_with fail
            refine (c3 _ _ h).mono ?_
            clear h
            rintro e y14 ⟨rfl, -, B⟩
            replace h := but_row B (by omega) h2
            clear h2
            replace hq := but_row B (by omega) hq
            replace cr := but_row B (by omega) cr
            replace E := below_but E (by omega) B
            clear B c3
            replace bg : b2 ≠ g := by omega
            replace gb : w.heap.size < b2 := by omega
            clear k1 k2 gb2
            have c5 := in_all b2 x hx l r nn c r0 (by omega)
            have c6 := rin_all x hx l r nn c r0 (by omega)
            obtain ⟨s0, s1⟩ := ar_le x (n := nn) r0
            generalize ap x l nn = p at *
            generalize ah x nn = hh at *
            generalize aq x r nn = qq at *
            generalize ar x r nn = r2 at *
            go_wp2_with fail
            refine (c5 _ h).mono ?_
            clear h c5
            rintro e y5 ⟨rfl, h, B⟩
            replace cr := but_row B (by omega) cr
            replace hq := but_row B (by omega) hq
            replace E := below_but E (by omega) B
            clear B
            go_wp2_with (with_reducible refine stop_at (some 74) rfl ?_)
            refine unstop ?_
            refine wpList_load_row rfl 33 (.tmp 9) rfl g rfl 33 _ (0, 0) _ hq Try.underlying33 rfl (by kernel_rfl) ?_
            go_wp2_with fail
            refine (c6 _).mono ?_
            rintro e y6 ⟨rfl, hb⟩
            replace cr := cr_keep hb cr
            replace hq := row_keep hb hq
            replace h := row_keep hb h
            replace E := b_trans E hb
            clear hb c6
            go_wp2_with (with_reducible refine stop_at none rfl ?_)
            refine unstop ?_
            refine wpList_store_row rfl 40 (.tmp 17) (.tmp 76) rfl y6.heap.size #[.int .i64 (x 0), .int .i64 (x 1), .int .i64 (x 2), .int .i64 (x 3), .int .i64 (x 4), .int .i64 (x 5), .int .i64 (x 6), .int .i64 (x 7), .int .i64 (x 8), .int .i64 (x 9), .int .i64 (x 10), .int .i64 (x 11), .int .i64 (x 12), .int .i64 (x 13), .int .i64 (x 14), .int .i64 (x 15), .int .i64 (x 16), .int .i64 (x 17), .int .i64 (x 18), .int .i64 (x 19), .int .i64 (x 20), .int .i64 (x 21), .int .i64 (x 22), .int .i64 (x 23), .int .i64 (x 24), .int .i64 (x 25), .int .i64 (x 26), .int .i64 (x 27), .int .i64 (x 28), .int .i64 (x 29), .int .i64 (x 30), .int .i64 p, .int .i64 r2, .int .i64 p, .bool hh, .bool qq] rfl rfl 40 _ (heap_alloc_last y6 _) (by kernel_rfl) rfl (by kernel_rfl) ?_
            rw [World.setRow_alloc_new]
            have hn : (y6.alloc (Obj.cells #[.int .i64 (x 0), .int .i64 (x 1), .int .i64 (x 2), .int .i64 (x 3), .int .i64 (x 4), .int .i64 (x 5), .int .i64 (x 6), .int .i64 (x 7), .int .i64 (x 8), .int .i64 (x 9), .int .i64 (x 10), .int .i64 (x 11), .int .i64 (x 12), .int .i64 (x 13), .int .i64 (x 14), .int .i64 (x 15), .int .i64 (x 16), .int .i64 (x 17), .int .i64 (x 18), .int .i64 (x 19), .int .i64 (x 20), .int .i64 (x 21), .int .i64 (x 22), .int .i64 (x 23), .int .i64 (x 24), .int .i64 (x 25), .int .i64 (x 26), .int .i64 (x 27), .int .i64 (x 28), .int .i64 (x 29), .int .i64 (x 30), .int .i64 p, .int .i64 r2, .int .i64 p, .bool hh, .bool qq] 40)).heap[y6.heap.size]? = _ := heap_alloc_last y6 (Obj.cells #[.int .i64 (x 0), .int .i64 (x 1), .int .i64 (x 2), .int .i64 (x 3), .int .i64 (x 4), .int .i64 (x 5), .int .i64 (x 6), .int .i64 (x 7), .int .i64 (x 8), .int .i64 (x 9), .int .i64 (x 10), .int .i64 (x 11), .int .i64 (x 12), .int .i64 (x 13), .int .i64 (x 14), .int .i64 (x 15), .int .i64 (x 16), .int .i64 (x 17), .int .i64 (x 18), .int .i64 (x 19), .int .i64 (x 20), .int .i64 (x 21), .int .i64 (x 22), .int .i64 (x 23), .int .i64 (x 24), .int .i64 (x 25), .int .i64 (x 26), .int .i64 (x 27), .int .i64 (x 28), .int .i64 (x 29), .int .i64 (x 30), .int .i64 p, .int .i64 r2, .int .i64 p, .bool hh, .bool qq] 40)
            replace E := b_alloc (o := Obj.cells #[.int .i64 (x 0), .int .i64 (x 1), .int .i64 (x 2), .int .i64 (x 3), .int .i64 (x 4), .int .i64 (x 5), .int .i64 (x 6), .int .i64 (x 7), .int .i64 (x 8), .int .i64 (x 9), .int .i64 (x 10), .int .i64 (x 11), .int .i64 (x 12), .int .i64 (x 13), .int .i64 (x 14), .int .i64 (x 15), .int .i64 (x 16), .int .i64 (x 17), .int .i64 (x 18), .int .i64 (x 19), .int .i64 (x 20), .int .i64 (x 21), .int .i64 (x 22), .int .i64 (x 23), .int .i64 (x 24), .int .i64 (x 25), .int .i64 (x 26), .int .i64 (x 27), .int .i64 (x 28), .int .i64 (x 29), .int .i64 (x 30), .int .i64 p, .int .i64 r2, .int .i64 p, .bool hh, .bool qq] 40) E
            have k1 := (Array.getElem?_eq_some_iff.1 hq).1
            have k2 := (Array.getElem?_eq_some_iff.1 h).1
            have k3 := (Array.getElem?_eq_some_iff.1 cr).1
            replace hq := row_keep (b_alloc (o := Obj.cells #[.int .i64 (x 0), .int .i64 (x 1), .int .i64 (x 2), .int .i64 (x 3), .int .i64 (x 4), .int .i64 (x 5), .int .i64 (x 6), .int .i64 (x 7), .int .i64 (x 8), .int .i64 (x 9), .int .i64 (x 10), .int .i64 (x 11), .int .i64 (x 12), .int .i64 (x 13), .int .i64 (x 14), .int .i64 (x 15), .int .i64 (x 16), .int .i64 (x 17), .int .i64 (x 18), .int .i64 (x 19), .int .i64 (x 20), .int .i64 (x 21), .int .i64 (x 22), .int .i64 (x 23), .int .i64 (x 24), .int .i64 (x 25), .int .i64 (x 26), .int .i64 (x 27), .int .i64 (x 28), .int .i64 (x 29), .int .i64 (x 30), .int .i64 p, .int .i64 r2, .int .i64 p, .bool hh, .bool qq] 40) (Below.refl y6.heap.size y6)) hq
            replace h := row_keep (b_alloc (o := Obj.cells #[.int .i64 (x 0), .int .i64 (x 1), .int .i64 (x 2), .int .i64 (x 3), .int .i64 (x 4), .int .i64 (x 5), .int .i64 (x 6), .int .i64 (x 7), .int .i64 (x 8), .int .i64 (x 9), .int .i64 (x 10), .int .i64 (x 11), .int .i64 (x 12), .int .i64 (x 13), .int .i64 (x 14), .int .i64 (x 15), .int .i64 (x 16), .int .i64 (x 17), .int .i64 (x 18), .int .i64 (x 19), .int .i64 (x 20), .int .i64 (x 21), .int .i64 (x 22), .int .i64 (x 23), .int .i64 (x 24), .int .i64 (x 25), .int .i64 (x 26), .int .i64 (x 27), .int .i64 (x 28), .int .i64 (x 29), .int .i64 (x 30), .int .i64 p, .int .i64 r2, .int .i64 p, .bool hh, .bool qq] 40) (Below.refl y6.heap.size y6)) h
            replace cr := row_keep (b_alloc (o := Obj.cells #[.int .i64 (x 0), .int .i64 (x 1), .int .i64 (x 2), .int .i64 (x 3), .int .i64 (x 4), .int .i64 (x 5), .int .i64 (x 6), .int .i64 (x 7), .int .i64 (x 8), .int .i64 (x 9), .int .i64 (x 10), .int .i64 (x 11), .int .i64 (x 12), .int .i64 (x 13), .int .i64 (x 14), .int .i64 (x 15), .int .i64 (x 16), .int .i64 (x 17), .int .i64 (x 18), .int .i64 (x 19), .int .i64 (x 20), .int .i64 (x 21), .int .i64 (x 22), .int .i64 (x 23), .int .i64 (x 24), .int .i64 (x 25), .int .i64 (x 26), .int .i64 (x 27), .int .i64 (x 28), .int .i64 (x 29), .int .i64 (x 30), .int .i64 p, .int .i64 r2, .int .i64 p, .bool hh, .bool qq] 40) (Below.refl y6.heap.size y6)) cr
            obtain ⟨y7, e7⟩ : ∃ y, y6.alloc (Obj.cells #[.int .i64 (x 0), .int .i64 (x 1), .int .i64 (x 2), .int .i64 (x 3), .int .i64 (x 4), .int .i64 (x 5), .int .i64 (x 6), .int .i64 (x 7), .int .i64 (x 8), .int .i64 (x 9), .int .i64 (x 10), .int .i64 (x 11), .int .i64 (x 12), .int .i64 (x 13), .int .i64 (x 14), .int .i64 (x 15), .int .i64 (x 16), .int .i64 (x 17), .int .i64 (x 18), .int .i64 (x 19), .int .i64 (x 20), .int .i64 (x 21), .int .i64 (x 22), .int .i64 (x 23), .int .i64 (x 24), .int .i64 (x 25), .int .i64 (x 26), .int .i64 (x 27), .int .i64 (x 28), .int .i64 (x 29), .int .i64 (x 30), .int .i64 p, .int .i64 r2, .int .i64 p, .bool hh, .bool qq] 40) = y := ⟨_, rfl⟩
            rw [e7] at hn
            rw [e7] at h
            rw [e7] at hq
            rw [e7] at cr
            rw [e7] at E
            rw [e7]
            clear e7
            obtain ⟨g2, e7⟩ : ∃ g2, y6.heap.size = g2 := ⟨_, rfl⟩
            rw [e7] at hn
            rw [e7] at k1
            rw [e7] at k2
            rw [e7] at k3
            simp only [e7]
            clear e7
            go_wp2_with (with_reducible refine stop_at (some 78) rfl ?_)
            refine unstop ?_
            refine wpList_load_part rfl 33 (.tmp 77) rfl g2 0 rfl 40 _ #[.int .i64 (x 0), .int .i64 (x 1), .int .i64 (x 2), .int .i64 (x 3), .int .i64 (x 4), .int .i64 (x 5), .int .i64 (x 6), .int .i64 (x 7), .int .i64 (x 8), .int .i64 (x 9), .int .i64 (x 10), .int .i64 (x 11), .int .i64 (x 12), .int .i64 (x 13), .int .i64 (x 14), .int .i64 (x 15), .int .i64 (x 16), .int .i64 (x 17), .int .i64 (x 18), .int .i64 (x 19), .int .i64 (x 20), .int .i64 (x 21), .int .i64 (x 22), .int .i64 (x 23), .int .i64 (x 24), .int .i64 (x 25), .int .i64 (x 26), .int .i64 (x 27), .int .i64 (x 28), .int .i64 (x 29), .int .i64 (x 30), .int .i64 p, .int .i64 r2] (0, 0) _ hn (by kernel_rfl) Try.underlying33 rfl (by kernel_rfl) ?_
            go_wp2_with (with_reducible refine stop_at none rfl ?_)
            refine unstop ?_
            refine wpList_store_row rfl 33 (.tmp 9) (.tmp 78) rfl g #[.int .i64 (x 0), .int .i64 (x 1), .int .i64 (x 2), .int .i64 (x 3), .int .i64 (x 4), .int .i64 (x 5), .int .i64 (x 6), .int .i64 (x 7), .int .i64 (x 8), .int .i64 (x 9), .int .i64 (x 10), .int .i64 (x 11), .int .i64 (x 12), .int .i64 (x 13), .int .i64 (x 14), .int .i64 (x 15), .int .i64 (x 16), .int .i64 (x 17), .int .i64 (x 18), .int .i64 (x 19), .int .i64 (x 20), .int .i64 (x 21), .int .i64 (x 22), .int .i64 (x 23), .int .i64 (x 24), .int .i64 (x 25), .int .i64 (x 26), .int .i64 (x 27), .int .i64 (x 28), .int .i64 (x 29), .int .i64 (x 30), .int .i64 p, .int .i64 r2] rfl rfl 33 _ hq (by kernel_rfl) rfl (by kernel_rfl) ?_
            replace hq := setRow_heap _ _ _ #[.int .i64 (x 0), .int .i64 (x 1), .int .i64 (x 2), .int .i64 (x 3), .int .i64 (x 4), .int .i64 (x 5), .int .i64 (x 6), .int .i64 (x 7), .int .i64 (x 8), .int .i64 (x 9), .int .i64 (x 10), .int .i64 (x 11), .int .i64 (x 12), .int .i64 (x 13), .int .i64 (x 14), .int .i64 (x 15), .int .i64 (x 16), .int .i64 (x 17), .int .i64 (x 18), .int .i64 (x 19), .int .i64 (x 20), .int .i64 (x 21), .int .i64 (x 22), .int .i64 (x 23), .int .i64 (x 24), .int .i64 (x 25), .int .i64 (x 26), .int .i64 (x 27), .int .i64 (x 28), .int .i64 (x 29), .int .i64 (x 30), .int .i64 p, .int .i64 r2] _ _ hq
            replace h := row_other (g := g) (cs := #[.int .i64 (x 0), .int .i64 (x 1), .int .i64 (x 2), .int .i64 (x 3), .int .i64 (x 4), .int .i64 (x 5), .int .i64 (x 6), .int .i64 (x 7), .int .i64 (x 8), .int .i64 (x 9), .int .i64 (x 10), .int .i64 (x 11), .int .i64 (x 12), .int .i64 (x 13), .int .i64 (x 14), .int .i64 (x 15), .int .i64 (x 16), .int .i64 (x 17), .int .i64 (x 18), .int .i64 (x 19), .int .i64 (x 20), .int .i64 (x 21), .int .i64 (x 22), .int .i64 (x 23), .int .i64 (x 24), .int .i64 (x 25), .int .i64 (x 26), .int .i64 (x 27), .int .i64 (x 28), .int .i64 (x 29), .int .i64 (x 30), .int .i64 p, .int .i64 r2]) (by omega) h
            replace cr := row_other (g := g) (cs := #[.int .i64 (x 0), .int .i64 (x 1), .int .i64 (x 2), .int .i64 (x 3), .int .i64 (x 4), .int .i64 (x 5), .int .i64 (x 6), .int .i64 (x 7), .int .i64 (x 8), .int .i64 (x 9), .int .i64 (x 10), .int .i64 (x 11), .int .i64 (x 12), .int .i64 (x 13), .int .i64 (x 14), .int .i64 (x 15), .int .i64 (x 16), .int .i64 (x 17), .int .i64 (x 18), .int .i64 (x 19), .int .i64 (x 20), .int .i64 (x 21), .int .i64 (x 22), .int .i64 (x 23), .int .i64 (x 24), .int .i64 (x 25), .int .i64 (x 26), .int .i64 (x 27), .int .i64 (x 28), .int .i64 (x 29), .int .i64 (x 30), .int .i64 p, .int .i64 r2]) (by omega) cr
            replace hn := row_other (g := g) (cs := #[.int .i64 (x 0), .int .i64 (x 1), .int .i64 (x 2), .int .i64 (x 3), .int .i64 (x 4), .int .i64 (x 5), .int .i64 (x 6), .int .i64 (x 7), .int .i64 (x 8), .int .i64 (x 9), .int .i64 (x 10), .int .i64 (x 11), .int .i64 (x 12), .int .i64 (x 13), .int .i64 (x 14), .int .i64 (x 15), .int .i64 (x 16), .int .i64 (x 17), .int .i64 (x 18), .int .i64 (x 19), .int .i64 (x 20), .int .i64 (x 21), .int .i64 (x 22), .int .i64 (x 23), .int .i64 (x 24), .int .i64 (x 25), .int .i64 (x 26), .int .i64 (x 27), .int .i64 (x 28), .int .i64 (x 29), .int .i64 (x 30), .int .i64 p, .int .i64 r2]) (by omega) hn
            replace E := row_below E (g := g) (cs := #[.int .i64 (x 0), .int .i64 (x 1), .int .i64 (x 2), .int .i64 (x 3), .int .i64 (x 4), .int .i64 (x 5), .int .i64 (x 6), .int .i64 (x 7), .int .i64 (x 8), .int .i64 (x 9), .int .i64 (x 10), .int .i64 (x 11), .int .i64 (x 12), .int .i64 (x 13), .int .i64 (x 14), .int .i64 (x 15), .int .i64 (x 16), .int .i64 (x 17), .int .i64 (x 18), .int .i64 (x 19), .int .i64 (x 20), .int .i64 (x 21), .int .i64 (x 22), .int .i64 (x 23), .int .i64 (x 24), .int .i64 (x 25), .int .i64 (x 26), .int .i64 (x 27), .int .i64 (x 28), .int .i64 (x 29), .int .i64 (x 30), .int .i64 p, .int .i64 r2]) (by omega)
            obtain ⟨y8, e8⟩ : ∃ y, y7.setRow g #[.int .i64 (x 0), .int .i64 (x 1), .int .i64 (x 2), .int .i64 (x 3), .int .i64 (x 4), .int .i64 (x 5), .int .i64 (x 6), .int .i64 (x 7), .int .i64 (x 8), .int .i64 (x 9), .int .i64 (x 10), .int .i64 (x 11), .int .i64 (x 12), .int .i64 (x 13), .int .i64 (x 14), .int .i64 (x 15), .int .i64 (x 16), .int .i64 (x 17), .int .i64 (x 18), .int .i64 (x 19), .int .i64 (x 20), .int .i64 (x 21), .int .i64 (x 22), .int .i64 (x 23), .int .i64 (x 24), .int .i64 (x 25), .int .i64 (x 26), .int .i64 (x 27), .int .i64 (x 28), .int .i64 (x 29), .int .i64 (x 30), .int .i64 p, .int .i64 r2] = y := ⟨_, rfl⟩
            rw [e8] at hn
            rw [e8] at h
            rw [e8] at hq
            rw [e8] at cr
            rw [e8] at E
            rw [e8]
            clear e8
            have g33 := cell_regrown (show y8.cell? ⟨g2, 33, none⟩ = some (.int .i64 p) from (cell_of_row _ _ 33 _ _ _ hn).trans rfl)
            have g34 := cell_regrown (show y8.cell? ⟨g2, 34, none⟩ = some (.bool hh) from (cell_of_row _ _ 34 _ _ _ hn).trans rfl)
            have g35 := cell_regrown (show y8.cell? ⟨g2, 35, none⟩ = some (.bool qq) from (cell_of_row _ _ 35 _ _ _ hn).trans rfl)
            have g32 := cell_regrown (show y8.cell? ⟨g, 32, none⟩ = some (.int .i64 r2) from (cell_of_row _ _ 32 _ _ _ hq).trans rfl)
            have c0 := fun d os => Calls.regrown_of (run_any b2 x p r2 _ (row_keep (below_regrown y8 d os) h))
            clear hn
            try go_wp2
            refine wp_region_quiet_below (by kernel_rfl) (by kernel_rfl) ?_
            repeat (with_reducible refine wpQuiet_step (fun KQ hKQ => ?_); go_simp; first | (with_reducible refine hKQ _ ?_; clear hKQ KQ) | (apply Exists.intro; with_reducible refine ⟨fun _ => ?_, hKQ _ ?_⟩; (with_reducible first | exact c0 _ _); clear hKQ KQ))
            refine wpQuiet_nil ?_
            intro _ hw'
            obtain ⟨⟨dq, osq⟩, hw''⟩ := hw'
            subst hw''
            replace E := b_trans E (below_regrown _ dq osq)
            replace h := row_keep (below_regrown _ dq osq) h
            replace hq := row_keep (below_regrown _ dq osq) hq
            replace cr := cr_keep (below_regrown _ dq osq) cr
            clear g32 g33 g34 g35 c0
            obtain ⟨y9, e9⟩ : ∃ y, Sort.grow (redrawn y8 dq) osq = y := ⟨_, rfl⟩
            rw [e9] at h
            rw [e9] at hq
            rw [e9] at cr
            rw [e9] at E
            rw [e9]
            clear e9
            have ws : IntKind.i64.wrap ((k : Int) + 1) = (k : Int) + 1 := by rw [IntKind.wrap_i64]; omega
            go_wp2
            refine ⟨⟨k + 1, b2, p, r2, by omega, rfl, rfl, by omega, by omega, by omega, by omega, h, hq, cr, E⟩, ?_⟩
            simp only [intOf]
            omega
          · have hat2 : (decide ((k : Int) = ao)) = false := decide_eq_false hat
            have c5 := in_all b x hx l r nn c r0 (by omega)
            have c6 := rin_all x hx l r nn c r0 (by omega)
            obtain ⟨s0, s1⟩ := ar_le x (n := nn) r0
            generalize ap x l nn = p at *
            generalize ah x nn = hh at *
            generalize aq x r nn = qq at *
            generalize ar x r nn = r2 at *
            go_wp2_with fail
            refine (c5 _ h).mono ?_
            clear h c5
            rintro e y5 ⟨rfl, h, B⟩
            replace cr := but_row B (by omega) cr
            replace hq := but_row B (by omega) hq
            replace E := below_but E (by omega) B
            clear B
            go_wp2_with (with_reducible refine stop_at (some 74) rfl ?_)
            refine unstop ?_
            refine wpList_load_row rfl 33 (.tmp 9) rfl g rfl 33 _ (0, 0) _ hq Try.underlying33 rfl (by kernel_rfl) ?_
            go_wp2_with fail
            refine (c6 _).mono ?_
            rintro e y6 ⟨rfl, hb⟩
            replace cr := cr_keep hb cr
            replace hq := row_keep hb hq
            replace h := row_keep hb h
            replace E := b_trans E hb
            clear hb c6
            go_wp2_with (with_reducible refine stop_at none rfl ?_)
            refine unstop ?_
            refine wpList_store_row rfl 40 (.tmp 17) (.tmp 76) rfl y6.heap.size #[.int .i64 (x 0), .int .i64 (x 1), .int .i64 (x 2), .int .i64 (x 3), .int .i64 (x 4), .int .i64 (x 5), .int .i64 (x 6), .int .i64 (x 7), .int .i64 (x 8), .int .i64 (x 9), .int .i64 (x 10), .int .i64 (x 11), .int .i64 (x 12), .int .i64 (x 13), .int .i64 (x 14), .int .i64 (x 15), .int .i64 (x 16), .int .i64 (x 17), .int .i64 (x 18), .int .i64 (x 19), .int .i64 (x 20), .int .i64 (x 21), .int .i64 (x 22), .int .i64 (x 23), .int .i64 (x 24), .int .i64 (x 25), .int .i64 (x 26), .int .i64 (x 27), .int .i64 (x 28), .int .i64 (x 29), .int .i64 (x 30), .int .i64 p, .int .i64 r2, .int .i64 p, .bool hh, .bool qq] rfl rfl 40 _ (heap_alloc_last y6 _) (by kernel_rfl) rfl (by kernel_rfl) ?_
            rw [World.setRow_alloc_new]
            have hn : (y6.alloc (Obj.cells #[.int .i64 (x 0), .int .i64 (x 1), .int .i64 (x 2), .int .i64 (x 3), .int .i64 (x 4), .int .i64 (x 5), .int .i64 (x 6), .int .i64 (x 7), .int .i64 (x 8), .int .i64 (x 9), .int .i64 (x 10), .int .i64 (x 11), .int .i64 (x 12), .int .i64 (x 13), .int .i64 (x 14), .int .i64 (x 15), .int .i64 (x 16), .int .i64 (x 17), .int .i64 (x 18), .int .i64 (x 19), .int .i64 (x 20), .int .i64 (x 21), .int .i64 (x 22), .int .i64 (x 23), .int .i64 (x 24), .int .i64 (x 25), .int .i64 (x 26), .int .i64 (x 27), .int .i64 (x 28), .int .i64 (x 29), .int .i64 (x 30), .int .i64 p, .int .i64 r2, .int .i64 p, .bool hh, .bool qq] 40)).heap[y6.heap.size]? = _ := heap_alloc_last y6 (Obj.cells #[.int .i64 (x 0), .int .i64 (x 1), .int .i64 (x 2), .int .i64 (x 3), .int .i64 (x 4), .int .i64 (x 5), .int .i64 (x 6), .int .i64 (x 7), .int .i64 (x 8), .int .i64 (x 9), .int .i64 (x 10), .int .i64 (x 11), .int .i64 (x 12), .int .i64 (x 13), .int .i64 (x 14), .int .i64 (x 15), .int .i64 (x 16), .int .i64 (x 17), .int .i64 (x 18), .int .i64 (x 19), .int .i64 (x 20), .int .i64 (x 21), .int .i64 (x 22), .int .i64 (x 23), .int .i64 (x 24), .int .i64 (x 25), .int .i64 (x 26), .int .i64 (x 27), .int .i64 (x 28), .int .i64 (x 29), .int .i64 (x 30), .int .i64 p, .int .i64 r2, .int .i64 p, .bool hh, .bool qq] 40)
            replace E := b_alloc (o := Obj.cells #[.int .i64 (x 0), .int .i64 (x 1), .int .i64 (x 2), .int .i64 (x 3), .int .i64 (x 4), .int .i64 (x 5), .int .i64 (x 6), .int .i64 (x 7), .int .i64 (x 8), .int .i64 (x 9), .int .i64 (x 10), .int .i64 (x 11), .int .i64 (x 12), .int .i64 (x 13), .int .i64 (x 14), .int .i64 (x 15), .int .i64 (x 16), .int .i64 (x 17), .int .i64 (x 18), .int .i64 (x 19), .int .i64 (x 20), .int .i64 (x 21), .int .i64 (x 22), .int .i64 (x 23), .int .i64 (x 24), .int .i64 (x 25), .int .i64 (x 26), .int .i64 (x 27), .int .i64 (x 28), .int .i64 (x 29), .int .i64 (x 30), .int .i64 p, .int .i64 r2, .int .i64 p, .bool hh, .bool qq] 40) E
            have k1 := (Array.getElem?_eq_some_iff.1 hq).1
            have k2 := (Array.getElem?_eq_some_iff.1 h).1
            have k3 := (Array.getElem?_eq_some_iff.1 cr).1
            replace hq := row_keep (b_alloc (o := Obj.cells #[.int .i64 (x 0), .int .i64 (x 1), .int .i64 (x 2), .int .i64 (x 3), .int .i64 (x 4), .int .i64 (x 5), .int .i64 (x 6), .int .i64 (x 7), .int .i64 (x 8), .int .i64 (x 9), .int .i64 (x 10), .int .i64 (x 11), .int .i64 (x 12), .int .i64 (x 13), .int .i64 (x 14), .int .i64 (x 15), .int .i64 (x 16), .int .i64 (x 17), .int .i64 (x 18), .int .i64 (x 19), .int .i64 (x 20), .int .i64 (x 21), .int .i64 (x 22), .int .i64 (x 23), .int .i64 (x 24), .int .i64 (x 25), .int .i64 (x 26), .int .i64 (x 27), .int .i64 (x 28), .int .i64 (x 29), .int .i64 (x 30), .int .i64 p, .int .i64 r2, .int .i64 p, .bool hh, .bool qq] 40) (Below.refl y6.heap.size y6)) hq
            replace h := row_keep (b_alloc (o := Obj.cells #[.int .i64 (x 0), .int .i64 (x 1), .int .i64 (x 2), .int .i64 (x 3), .int .i64 (x 4), .int .i64 (x 5), .int .i64 (x 6), .int .i64 (x 7), .int .i64 (x 8), .int .i64 (x 9), .int .i64 (x 10), .int .i64 (x 11), .int .i64 (x 12), .int .i64 (x 13), .int .i64 (x 14), .int .i64 (x 15), .int .i64 (x 16), .int .i64 (x 17), .int .i64 (x 18), .int .i64 (x 19), .int .i64 (x 20), .int .i64 (x 21), .int .i64 (x 22), .int .i64 (x 23), .int .i64 (x 24), .int .i64 (x 25), .int .i64 (x 26), .int .i64 (x 27), .int .i64 (x 28), .int .i64 (x 29), .int .i64 (x 30), .int .i64 p, .int .i64 r2, .int .i64 p, .bool hh, .bool qq] 40) (Below.refl y6.heap.size y6)) h
            replace cr := row_keep (b_alloc (o := Obj.cells #[.int .i64 (x 0), .int .i64 (x 1), .int .i64 (x 2), .int .i64 (x 3), .int .i64 (x 4), .int .i64 (x 5), .int .i64 (x 6), .int .i64 (x 7), .int .i64 (x 8), .int .i64 (x 9), .int .i64 (x 10), .int .i64 (x 11), .int .i64 (x 12), .int .i64 (x 13), .int .i64 (x 14), .int .i64 (x 15), .int .i64 (x 16), .int .i64 (x 17), .int .i64 (x 18), .int .i64 (x 19), .int .i64 (x 20), .int .i64 (x 21), .int .i64 (x 22), .int .i64 (x 23), .int .i64 (x 24), .int .i64 (x 25), .int .i64 (x 26), .int .i64 (x 27), .int .i64 (x 28), .int .i64 (x 29), .int .i64 (x 30), .int .i64 p, .int .i64 r2, .int .i64 p, .bool hh, .bool qq] 40) (Below.refl y6.heap.size y6)) cr
            obtain ⟨y7, e7⟩ : ∃ y, y6.alloc (Obj.cells #[.int .i64 (x 0), .int .i64 (x 1), .int .i64 (x 2), .int .i64 (x 3), .int .i64 (x 4), .int .i64 (x 5), .int .i64 (x 6), .int .i64 (x 7), .int .i64 (x 8), .int .i64 (x 9), .int .i64 (x 10), .int .i64 (x 11), .int .i64 (x 12), .int .i64 (x 13), .int .i64 (x 14), .int .i64 (x 15), .int .i64 (x 16), .int .i64 (x 17), .int .i64 (x 18), .int .i64 (x 19), .int .i64 (x 20), .int .i64 (x 21), .int .i64 (x 22), .int .i64 (x 23), .int .i64 (x 24), .int .i64 (x 25), .int .i64 (x 26), .int .i64 (x 27), .int .i64 (x 28), .int .i64 (x 29), .int .i64 (x 30), .int .i64 p, .int .i64 r2, .int .i64 p, .bool hh, .bool qq] 40) = y := ⟨_, rfl⟩
            rw [e7] at hn
            rw [e7] at h
            rw [e7] at hq
            rw [e7] at cr
            rw [e7] at E
            rw [e7]
            clear e7
            obtain ⟨g2, e7⟩ : ∃ g2, y6.heap.size = g2 := ⟨_, rfl⟩
            rw [e7] at hn
            rw [e7] at k1
            rw [e7] at k2
            rw [e7] at k3
            simp only [e7]
            clear e7
            go_wp2_with (with_reducible refine stop_at (some 78) rfl ?_)
            refine unstop ?_
            refine wpList_load_part rfl 33 (.tmp 77) rfl g2 0 rfl 40 _ #[.int .i64 (x 0), .int .i64 (x 1), .int .i64 (x 2), .int .i64 (x 3), .int .i64 (x 4), .int .i64 (x 5), .int .i64 (x 6), .int .i64 (x 7), .int .i64 (x 8), .int .i64 (x 9), .int .i64 (x 10), .int .i64 (x 11), .int .i64 (x 12), .int .i64 (x 13), .int .i64 (x 14), .int .i64 (x 15), .int .i64 (x 16), .int .i64 (x 17), .int .i64 (x 18), .int .i64 (x 19), .int .i64 (x 20), .int .i64 (x 21), .int .i64 (x 22), .int .i64 (x 23), .int .i64 (x 24), .int .i64 (x 25), .int .i64 (x 26), .int .i64 (x 27), .int .i64 (x 28), .int .i64 (x 29), .int .i64 (x 30), .int .i64 p, .int .i64 r2] (0, 0) _ hn (by kernel_rfl) Try.underlying33 rfl (by kernel_rfl) ?_
            go_wp2_with (with_reducible refine stop_at none rfl ?_)
            refine unstop ?_
            refine wpList_store_row rfl 33 (.tmp 9) (.tmp 78) rfl g #[.int .i64 (x 0), .int .i64 (x 1), .int .i64 (x 2), .int .i64 (x 3), .int .i64 (x 4), .int .i64 (x 5), .int .i64 (x 6), .int .i64 (x 7), .int .i64 (x 8), .int .i64 (x 9), .int .i64 (x 10), .int .i64 (x 11), .int .i64 (x 12), .int .i64 (x 13), .int .i64 (x 14), .int .i64 (x 15), .int .i64 (x 16), .int .i64 (x 17), .int .i64 (x 18), .int .i64 (x 19), .int .i64 (x 20), .int .i64 (x 21), .int .i64 (x 22), .int .i64 (x 23), .int .i64 (x 24), .int .i64 (x 25), .int .i64 (x 26), .int .i64 (x 27), .int .i64 (x 28), .int .i64 (x 29), .int .i64 (x 30), .int .i64 p, .int .i64 r2] rfl rfl 33 _ hq (by kernel_rfl) rfl (by kernel_rfl) ?_
            replace hq := setRow_heap _ _ _ #[.int .i64 (x 0), .int .i64 (x 1), .int .i64 (x 2), .int .i64 (x 3), .int .i64 (x 4), .int .i64 (x 5), .int .i64 (x 6), .int .i64 (x 7), .int .i64 (x 8), .int .i64 (x 9), .int .i64 (x 10), .int .i64 (x 11), .int .i64 (x 12), .int .i64 (x 13), .int .i64 (x 14), .int .i64 (x 15), .int .i64 (x 16), .int .i64 (x 17), .int .i64 (x 18), .int .i64 (x 19), .int .i64 (x 20), .int .i64 (x 21), .int .i64 (x 22), .int .i64 (x 23), .int .i64 (x 24), .int .i64 (x 25), .int .i64 (x 26), .int .i64 (x 27), .int .i64 (x 28), .int .i64 (x 29), .int .i64 (x 30), .int .i64 p, .int .i64 r2] _ _ hq
            replace h := row_other (g := g) (cs := #[.int .i64 (x 0), .int .i64 (x 1), .int .i64 (x 2), .int .i64 (x 3), .int .i64 (x 4), .int .i64 (x 5), .int .i64 (x 6), .int .i64 (x 7), .int .i64 (x 8), .int .i64 (x 9), .int .i64 (x 10), .int .i64 (x 11), .int .i64 (x 12), .int .i64 (x 13), .int .i64 (x 14), .int .i64 (x 15), .int .i64 (x 16), .int .i64 (x 17), .int .i64 (x 18), .int .i64 (x 19), .int .i64 (x 20), .int .i64 (x 21), .int .i64 (x 22), .int .i64 (x 23), .int .i64 (x 24), .int .i64 (x 25), .int .i64 (x 26), .int .i64 (x 27), .int .i64 (x 28), .int .i64 (x 29), .int .i64 (x 30), .int .i64 p, .int .i64 r2]) (by omega) h
            replace cr := row_other (g := g) (cs := #[.int .i64 (x 0), .int .i64 (x 1), .int .i64 (x 2), .int .i64 (x 3), .int .i64 (x 4), .int .i64 (x 5), .int .i64 (x 6), .int .i64 (x 7), .int .i64 (x 8), .int .i64 (x 9), .int .i64 (x 10), .int .i64 (x 11), .int .i64 (x 12), .int .i64 (x 13), .int .i64 (x 14), .int .i64 (x 15), .int .i64 (x 16), .int .i64 (x 17), .int .i64 (x 18), .int .i64 (x 19), .int .i64 (x 20), .int .i64 (x 21), .int .i64 (x 22), .int .i64 (x 23), .int .i64 (x 24), .int .i64 (x 25), .int .i64 (x 26), .int .i64 (x 27), .int .i64 (x 28), .int .i64 (x 29), .int .i64 (x 30), .int .i64 p, .int .i64 r2]) (by omega) cr
            replace hn := row_other (g := g) (cs := #[.int .i64 (x 0), .int .i64 (x 1), .int .i64 (x 2), .int .i64 (x 3), .int .i64 (x 4), .int .i64 (x 5), .int .i64 (x 6), .int .i64 (x 7), .int .i64 (x 8), .int .i64 (x 9), .int .i64 (x 10), .int .i64 (x 11), .int .i64 (x 12), .int .i64 (x 13), .int .i64 (x 14), .int .i64 (x 15), .int .i64 (x 16), .int .i64 (x 17), .int .i64 (x 18), .int .i64 (x 19), .int .i64 (x 20), .int .i64 (x 21), .int .i64 (x 22), .int .i64 (x 23), .int .i64 (x 24), .int .i64 (x 25), .int .i64 (x 26), .int .i64 (x 27), .int .i64 (x 28), .int .i64 (x 29), .int .i64 (x 30), .int .i64 p, .int .i64 r2]) (by omega) hn
            replace E := row_below E (g := g) (cs := #[.int .i64 (x 0), .int .i64 (x 1), .int .i64 (x 2), .int .i64 (x 3), .int .i64 (x 4), .int .i64 (x 5), .int .i64 (x 6), .int .i64 (x 7), .int .i64 (x 8), .int .i64 (x 9), .int .i64 (x 10), .int .i64 (x 11), .int .i64 (x 12), .int .i64 (x 13), .int .i64 (x 14), .int .i64 (x 15), .int .i64 (x 16), .int .i64 (x 17), .int .i64 (x 18), .int .i64 (x 19), .int .i64 (x 20), .int .i64 (x 21), .int .i64 (x 22), .int .i64 (x 23), .int .i64 (x 24), .int .i64 (x 25), .int .i64 (x 26), .int .i64 (x 27), .int .i64 (x 28), .int .i64 (x 29), .int .i64 (x 30), .int .i64 p, .int .i64 r2]) (by omega)
            obtain ⟨y8, e8⟩ : ∃ y, y7.setRow g #[.int .i64 (x 0), .int .i64 (x 1), .int .i64 (x 2), .int .i64 (x 3), .int .i64 (x 4), .int .i64 (x 5), .int .i64 (x 6), .int .i64 (x 7), .int .i64 (x 8), .int .i64 (x 9), .int .i64 (x 10), .int .i64 (x 11), .int .i64 (x 12), .int .i64 (x 13), .int .i64 (x 14), .int .i64 (x 15), .int .i64 (x 16), .int .i64 (x 17), .int .i64 (x 18), .int .i64 (x 19), .int .i64 (x 20), .int .i64 (x 21), .int .i64 (x 22), .int .i64 (x 23), .int .i64 (x 24), .int .i64 (x 25), .int .i64 (x 26), .int .i64 (x 27), .int .i64 (x 28), .int .i64 (x 29), .int .i64 (x 30), .int .i64 p, .int .i64 r2] = y := ⟨_, rfl⟩
            rw [e8] at hn
            rw [e8] at h
            rw [e8] at hq
            rw [e8] at cr
            rw [e8] at E
            rw [e8]
            clear e8
            have g33 := cell_regrown (show y8.cell? ⟨g2, 33, none⟩ = some (.int .i64 p) from (cell_of_row _ _ 33 _ _ _ hn).trans rfl)
            have g34 := cell_regrown (show y8.cell? ⟨g2, 34, none⟩ = some (.bool hh) from (cell_of_row _ _ 34 _ _ _ hn).trans rfl)
            have g35 := cell_regrown (show y8.cell? ⟨g2, 35, none⟩ = some (.bool qq) from (cell_of_row _ _ 35 _ _ _ hn).trans rfl)
            have g32 := cell_regrown (show y8.cell? ⟨g, 32, none⟩ = some (.int .i64 r2) from (cell_of_row _ _ 32 _ _ _ hq).trans rfl)
            have c0 := fun d os => Calls.regrown_of (run_any b x p r2 _ (row_keep (below_regrown y8 d os) h))
            clear hn
            try go_wp2
            refine wp_region_quiet_below (by kernel_rfl) (by kernel_rfl) ?_
            repeat (with_reducible refine wpQuiet_step (fun KQ hKQ => ?_); go_simp; first | (with_reducible refine hKQ _ ?_; clear hKQ KQ) | (apply Exists.intro; with_reducible refine ⟨fun _ => ?_, hKQ _ ?_⟩; (with_reducible first | exact c0 _ _); clear hKQ KQ))
            refine wpQuiet_nil ?_
            intro _ hw'
            obtain ⟨⟨dq, osq⟩, hw''⟩ := hw'
            subst hw''
            replace E := b_trans E (below_regrown _ dq osq)
            replace h := row_keep (below_regrown _ dq osq) h
            replace hq := row_keep (below_regrown _ dq osq) hq
            replace cr := cr_keep (below_regrown _ dq osq) cr
            clear g32 g33 g34 g35 c0
            obtain ⟨y9, e9⟩ : ∃ y, Sort.grow (redrawn y8 dq) osq = y := ⟨_, rfl⟩
            rw [e9] at h
            rw [e9] at hq
            rw [e9] at cr
            rw [e9] at E
            rw [e9]
            clear e9
            have ws : IntKind.i64.wrap ((k : Int) + 1) = (k : Int) + 1 := by rw [IntKind.wrap_i64]; omega
            go_wp2
            refine ⟨⟨k + 1, b, p, r2, by omega, rfl, rfl, by omega, by omega, by omega, by omega, h, hq, cr, E⟩, ?_⟩
            simp only [intOf]
            omega
        · have hlk : ¬ (k : Int) < len := by omega
          clear hc hlt
          have c0 := retV_regrown (w := wr) fixed_acc
          have c1 := fun d os => Calls.regrown_of (add_held b x l r _ (row_keep (below_regrown wr d os) h))
          have c2 := retV_regrown (w := wr) (radd_held x l r)
          have c3 := fun d os => Calls.regrown_of (add_not b x l r _ (row_keep (below_regrown wr d os) h))
          have c4 := retV_regrown (w := wr) (radd_not x l r)
          have v0 := vec_eq_self (x 3) (x 4) (x 5)
          have v1 := vec_eq_self (x 0) (x 1) (x 2)
          have hC : ∀ w', (∃ p : Regrown, w' = Sort.grow (redrawn wr p.d) p.os) → QR w' g x l r := by
            rintro _ ⟨p, rfl⟩
            exact row_keep (below_regrown _ p.d p.os) hq
          clear cr
          go_wp2
          refine wp_region_quiet_below (by kernel_rfl) (by kernel_rfl) ?_
          (with_reducible refine wpQuiet_step (fun KQ hKQ => ?_); go_simp; first | (with_reducible refine hKQ _ ?_; clear hKQ KQ) | (apply Exists.intro; with_reducible refine ⟨fun _ => ?_, hKQ _ ?_⟩; (with_reducible first | exact c0 _ _ | exact c1 _ _ | exact c2 _ _ | exact c3 _ _ | exact c4 _ _); clear hKQ KQ))
          (with_reducible refine wpQuiet_step (fun KQ hKQ => ?_); go_simp; first | (with_reducible refine hKQ _ ?_; clear hKQ KQ) | (apply Exists.intro; with_reducible refine ⟨fun _ => ?_, hKQ _ ?_⟩; (with_reducible first | exact c0 _ _ | exact c1 _ _ | exact c2 _ _ | exact c3 _ _ | exact c4 _ _); clear hKQ KQ))
          (with_reducible refine wpQuiet_step (fun KQ hKQ => ?_); go_simp; first | (with_reducible refine hKQ _ ?_; clear hKQ KQ) | (apply Exists.intro; with_reducible refine ⟨fun _ => ?_, hKQ _ ?_⟩; (with_reducible first | exact c0 _ _ | exact c1 _ _ | exact c2 _ _ | exact c3 _ _ | exact c4 _ _); clear hKQ KQ))
          (with_reducible refine wpQuiet_step (fun KQ hKQ => ?_); go_simp; first | (with_reducible refine hKQ _ ?_; clear hKQ KQ) | (apply Exists.intro; with_reducible refine ⟨fun _ => ?_, hKQ _ ?_⟩; (with_reducible first | exact c0 _ _ | exact c1 _ _ | exact c2 _ _ | exact c3 _ _ | exact c4 _ _); clear hKQ KQ))
          with_reducible refine quiet_load_part ?hw 33 (.tmp 9) ?ho g 0 ?hx 33 _ #[.int .i64 (x 0), .int .i64 (x 1), .int .i64 (x 2), .int .i64 (x 3), .int .i64 (x 4), .int .i64 (x 5), .int .i64 (x 6), .int .i64 (x 7), .int .i64 (x 8), .int .i64 (x 9), .int .i64 (x 10), .int .i64 (x 11), .int .i64 (x 12), .int .i64 (x 13), .int .i64 (x 14), .int .i64 (x 15), .int .i64 (x 16), .int .i64 (x 17), .int .i64 (x 18), .int .i64 (x 19), .int .i64 (x 20), .int .i64 (x 21), .int .i64 (x 22), .int .i64 (x 23), .int .i64 (x 24), .int .i64 (x 25), .int .i64 (x 26), .int .i64 (x 27), .int .i64 (x 28), .int .i64 (x 29), .int .i64 (x 30), .int .i64 l, .int .i64 r] (0, 0) _ hC ?hp Try.underlying33 ?hd ?hi ?_
          case hw => rfl
          case ho => rfl
          case hx => rfl
          case hp => kernel_rfl
          case hd => rfl
          case hi => kernel_rfl
          (with_reducible refine wpQuiet_step (fun KQ hKQ => ?_); go_simp; first | (with_reducible refine hKQ _ ?_; clear hKQ KQ) | (apply Exists.intro; with_reducible refine ⟨fun _ => ?_, hKQ _ ?_⟩; (with_reducible first | exact c0 _ _ | exact c1 _ _ | exact c2 _ _ | exact c3 _ _ | exact c4 _ _); clear hKQ KQ))
          (with_reducible refine wpQuiet_step (fun KQ hKQ => ?_); go_simp; first | (with_reducible refine hKQ _ ?_; clear hKQ KQ) | (apply Exists.intro; with_reducible refine ⟨fun _ => ?_, hKQ _ ?_⟩; (with_reducible first | exact c0 _ _ | exact c1 _ _ | exact c2 _ _ | exact c3 _ _ | exact c4 _ _); clear hKQ KQ))
          (with_reducible refine wpQuiet_step (fun KQ hKQ => ?_); go_simp; first | (with_reducible refine hKQ _ ?_; clear hKQ KQ) | (apply Exists.intro; with_reducible refine ⟨fun _ => ?_, hKQ _ ?_⟩; (with_reducible first | exact c0 _ _ | exact c1 _ _ | exact c2 _ _ | exact c3 _ _ | exact c4 _ _); clear hKQ KQ))
          (with_reducible refine wpQuiet_step (fun KQ hKQ => ?_); go_simp; first | (with_reducible refine hKQ _ ?_; clear hKQ KQ) | (apply Exists.intro; with_reducible refine ⟨fun _ => ?_, hKQ _ ?_⟩; (with_reducible first | exact c0 _ _ | exact c1 _ _ | exact c2 _ _ | exact c3 _ _ | exact c4 _ _); clear hKQ KQ))
          (with_reducible refine wpQuiet_step (fun KQ hKQ => ?_); go_simp; first | (with_reducible refine hKQ _ ?_; clear hKQ KQ) | (apply Exists.intro; with_reducible refine ⟨fun _ => ?_, hKQ _ ?_⟩; (with_reducible first | exact c0 _ _ | exact c1 _ _ | exact c2 _ _ | exact c3 _ _ | exact c4 _ _); clear hKQ KQ))
          (with_reducible refine wpQuiet_step (fun KQ hKQ => ?_); go_simp; first | (with_reducible refine hKQ _ ?_; clear hKQ KQ) | (apply Exists.intro; with_reducible refine ⟨fun _ => ?_, hKQ _ ?_⟩; (with_reducible first | exact c0 _ _ | exact c1 _ _ | exact c2 _ _ | exact c3 _ _ | exact c4 _ _); clear hKQ KQ))
          with_reducible refine quiet_load_part ?hw 33 (.tmp 9) ?ho g 0 ?hx 33 _ #[.int .i64 (x 0), .int .i64 (x 1), .int .i64 (x 2), .int .i64 (x 3), .int .i64 (x 4), .int .i64 (x 5), .int .i64 (x 6), .int .i64 (x 7), .int .i64 (x 8), .int .i64 (x 9), .int .i64 (x 10), .int .i64 (x 11), .int .i64 (x 12), .int .i64 (x 13), .int .i64 (x 14), .int .i64 (x 15), .int .i64 (x 16), .int .i64 (x 17), .int .i64 (x 18), .int .i64 (x 19), .int .i64 (x 20), .int .i64 (x 21), .int .i64 (x 22), .int .i64 (x 23), .int .i64 (x 24), .int .i64 (x 25), .int .i64 (x 26), .int .i64 (x 27), .int .i64 (x 28), .int .i64 (x 29), .int .i64 (x 30), .int .i64 l, .int .i64 r] (0, 0) _ hC ?hp Try.underlying33 ?hd ?hi ?_
          case hw => rfl
          case ho => rfl
          case hx => rfl
          case hp => kernel_rfl
          case hd => rfl
          case hi => kernel_rfl
          repeat (with_reducible refine wpQuiet_step (fun KQ hKQ => ?_); go_simp; first | (with_reducible refine hKQ _ ?_; clear hKQ KQ) | (apply Exists.intro; with_reducible refine ⟨fun _ => ?_, hKQ _ ?_⟩; (with_reducible first | exact c0 _ _ | exact c1 _ _ | exact c2 _ _ | exact c3 _ _ | exact c4 _ _); clear hKQ KQ))
          refine wpQuiet_nil ?_
          intro _ hw'
          obtain ⟨⟨dq, osq⟩, hw''⟩ := hw'
          subst hw''
          replace E := b_trans E (below_regrown _ dq osq)
          generalize Sort.grow (redrawn wr dq) osq = y3 at *
          go_wp2
          go_ret
          exact ⟨rfl, E⟩
    · have cn := new_bad x hx c
      have cd := rnew_bad x hx c
      go_enter Try.func3, Try.ntmps3
      go_wp2_with (with_reducible refine stop_at (some 23) rfl ?_)
      generalize (w.alloc (Obj.cells #[.int .i64 (x 0), .int .i64 (x 1), .int .i64 (x 2), .int .i64 (x 3), .int .i64 (x 4), .int .i64 (x 5), .int .i64 (x 6), .int .i64 (x 7), .int .i64 (x 8), .int .i64 (x 9), .int .i64 (x 10), .int .i64 (x 11), .int .i64 (x 12), .int .i64 (x 13), .int .i64 (x 14), .int .i64 (x 15), .int .i64 (x 16), .int .i64 (x 17), .int .i64 (x 18), .int .i64 (x 19), .int .i64 (x 20), .int .i64 (x 21), .int .i64 (x 22), .int .i64 (x 23), .int .i64 (x 24), .int .i64 (x 25), .int .i64 (x 26), .int .i64 (x 27), .int .i64 (x 28), .int .i64 (x 29), .int .i64 (x 30)] 25)) = z0 at *
      refine unstop ?_
      refine wpList_load_row rfl 25 (.tmp 3) rfl w.heap.size rfl 25 _ (0, 0) _ cr Try.underlying25 rfl (by kernel_rfl) ?_
      go_wp2_with fail
      refine (cn _).mono ?_
      rintro e y0 ⟨rfl, hb⟩
      replace cr := cr_keep hb cr
      replace E := b_trans E hb
      clear hb cn
      go_wp2_with (with_reducible refine stop_at (some 28) rfl ?_)
      refine unstop ?_
      refine wpList_load_row rfl 25 (.tmp 3) rfl w.heap.size rfl 25 _ (0, 0) _ cr Try.underlying25 rfl (by kernel_rfl) ?_
      go_wp2_with fail
      refine (cd _).mono ?_
      rintro e y1 ⟨rfl, hb⟩
      replace E := b_trans E hb
      clear hb cd cr c
      go_wp2_with (with_reducible refine stop_at none rfl ?_)
      refine unstop ?_
      refine wpList_store_row rfl 33 (.tmp 9) (.tmp 30) rfl y1.heap.size #[.int .i64 0, .int .i64 0, .int .i64 0, .int .i64 0, .int .i64 0, .int .i64 0, .int .i64 0, .int .i64 0, .int .i64 0, .int .i64 0, .int .i64 0, .int .i64 0, .int .i64 0, .int .i64 0, .int .i64 0, .int .i64 0, .int .i64 0, .int .i64 0, .int .i64 0, .int .i64 0, .int .i64 0, .int .i64 0, .int .i64 0, .int .i64 0, .int .i64 0, .int .i64 0, .int .i64 0, .int .i64 0, .int .i64 0, .int .i64 0, .int .i64 0, .int .i64 0, .int .i64 0] rfl rfl 33 _ (heap_alloc_last y1 _) (by kernel_rfl) rfl (by kernel_rfl) ?_
      rw [World.setRow_alloc_new]
      replace E := b_alloc (o := Obj.cells #[.int .i64 0, .int .i64 0, .int .i64 0, .int .i64 0, .int .i64 0, .int .i64 0, .int .i64 0, .int .i64 0, .int .i64 0, .int .i64 0, .int .i64 0, .int .i64 0, .int .i64 0, .int .i64 0, .int .i64 0, .int .i64 0, .int .i64 0, .int .i64 0, .int .i64 0, .int .i64 0, .int .i64 0, .int .i64 0, .int .i64 0, .int .i64 0, .int .i64 0, .int .i64 0, .int .i64 0, .int .i64 0, .int .i64 0, .int .i64 0, .int .i64 0, .int .i64 0, .int .i64 0] 33) E
      generalize y1.alloc (Obj.cells #[.int .i64 0, .int .i64 0, .int .i64 0, .int .i64 0, .int .i64 0, .int .i64 0, .int .i64 0, .int .i64 0, .int .i64 0, .int .i64 0, .int .i64 0, .int .i64 0, .int .i64 0, .int .i64 0, .int .i64 0, .int .i64 0, .int .i64 0, .int .i64 0, .int .i64 0, .int .i64 0, .int .i64 0, .int .i64 0, .int .i64 0, .int .i64 0, .int .i64 0, .int .i64 0, .int .i64 0, .int .i64 0, .int .i64 0, .int .i64 0, .int .i64 0, .int .i64 0, .int .i64 0] 33) = y2 at *
      generalize y1.heap.size = g at *
      try go_wp2_with fail
      try (refine wp_region_quiet_below (by kernel_rfl) (by kernel_rfl) ?_)
      go_wp2_with fail
      refine (fixed_acc _).mono ?_
      rintro e y3 ⟨rfl, hb⟩
      replace E := b_trans E hb
      go_wp2
      go_ret
      exact ⟨rfl, E⟩
  · have h2 : (2000 : Int) < (len : Int) := by omega
    go_enter Try.func3, Try.ntmps3
    go_wp2_with fail
    generalize (w.alloc (Obj.cells #[.int .i64 (x 0), .int .i64 (x 1), .int .i64 (x 2), .int .i64 (x 3), .int .i64 (x 4), .int .i64 (x 5), .int .i64 (x 6), .int .i64 (x 7), .int .i64 (x 8), .int .i64 (x 9), .int .i64 (x 10), .int .i64 (x 11), .int .i64 (x 12), .int .i64 (x 13), .int .i64 (x 14), .int .i64 (x 15), .int .i64 (x 16), .int .i64 (x 17), .int .i64 (x 18), .int .i64 (x 19), .int .i64 (x 20), .int .i64 (x 21), .int .i64 (x 22), .int .i64 (x 23), .int .i64 (x 24), .int .i64 (x 25), .int .i64 (x 26), .int .i64 (x 27), .int .i64 (x 28), .int .i64 (x 29), .int .i64 (x 30)] 25)) = z0 at *
    refine (fixed_acc _).mono ?_
    rintro e y1 ⟨rfl, hb⟩
    replace E := b_trans E hb
    clear hb cr
    go_wp2
    go_ret
    exact ⟨rfl, E⟩
end Go.Proofs.Ytoohaphaeccafaa
