/- Layer 16: a tick whose count is not good brings what one without does; whatever ticks are taken in, what each brings, and what the log tells then, is the document's. -/
import Derived.Test.YtmkdpnfhpnfmnaaBarB
import Derived.Test.YtmkdpnfhpnfmnaaBarC
namespace Go.Proofs.Ytmkdpnfhpnfmnaa
open Go.RowKit Go.Shelf Go.Joins

set_option maxHeartbeats 4000000 in
set_option maxRecDepth 10000 in
/-- The chapter's example: a tick that has 400000 brings it; one that has 1 brings none. -/
theorem fixed_bar (w : World) : Calls Try.prog 5 #[] w (RetV (.bool true) w) := by
  have c1 := brings_any 0 true 400000 false
  have c2 := brings_any 0 true 1 false
  rw [show bv true 400000 = 400000 from by decide, show br true 400000 = true from by decide] at c1
  rw [show bv true 1 = 0 from by decide, show br true 1 = false from by decide] at c2
  go_enter Try.func5, Try.ntmps5
  go_wp2_with fail
  refine (c1 _).mono ?_
  rintro e y0 ⟨rfl, E⟩
  go_wp2_with fail
  refine (c2 _).mono ?_
  rintro e y1 ⟨rfl, hb⟩
  replace E := b_trans E hb
  clear hb c1 c2
  go_wp2
  go_ret
  exact ⟨rfl, E⟩

set_option maxHeartbeats 4000000 in
set_option maxRecDepth 10000 in
/-- A tick whose count is not good brings what one without does. -/
theorem baroNone_any (a : Int) (h : Bool) (p : Int) (s : Bool) (ac : Int) (sh : Bool) (w : World) : Calls Try.prog 4 #[tk a h p s, .int .i64 ac, .bool sh] w (RetV (.bool true) w) := by
  have tw : TW (w.alloc (Obj.cells #[.int .i64 a, .bool h, .int .i64 p, .bool s] 27)) w.heap.size 0 a h p s := tw_new
  have E : Below w.heap.size w (w.alloc (Obj.cells #[.int .i64 a, .bool h, .int .i64 p, .bool s] 27)) := b_alloc (Below.refl _ _)
  have c1 := brings_any a h p s
  have c2 := brings_any ac h p sh
  have c3 := brings_any ac false p sh
  rw [show bv false p = 0 from rfl, show br false p = false from rfl] at c3
  have k0 : br h p = true ∨ (br h p = false ∧ bv h p = 0) := by rcases three h p with ⟨-, -, -, k1, k2⟩ | ⟨-, -, -, k1, k2⟩ | ⟨-, -, k1, k2⟩ <;> simp [k1, k2]
  generalize br h p = ok at *
  generalize bv h p = x at *
  go_enter Try.func4, Try.ntmps4
  go_wp2_with (with_reducible refine stop_at (some 14) rfl ?_)
  generalize (w.alloc (Obj.cells #[.int .i64 a, .bool h, .int .i64 p, .bool s] 27)) = z0 at *
  refine unstop ?_
  obtain ⟨t0, t1, t2, t3⟩ := tw
  go_wp2_with fail
  refine (c1 _).mono ?_
  rintro e y0 ⟨rfl, hb⟩
  replace t0 := cell_keep hb t0
  replace t1 := cell_keep hb t1
  replace t2 := cell_keep hb t2
  replace t3 := cell_keep hb t3
  replace E := b_trans E hb
  clear hb c1
  go_wp2_with fail
  refine (c2 _).mono ?_
  rintro e y1 ⟨rfl, hb⟩
  replace t2 := cell_keep hb t2
  replace E := b_trans E hb
  clear hb c2 t0 t1 t3
  go_wp2_with fail
  refine (c3 _).mono ?_
  rintro e y2 ⟨rfl, hb⟩
  replace E := b_trans E hb
  clear hb c3 t2
  go_wp2_with fail
  refine (fixed_bar _).mono ?_
  rintro e y3 ⟨rfl, hb⟩
  replace E := b_trans E hb
  clear hb
  rcases k0 with rfl | ⟨rfl, rfl⟩
  · go_wp2
    go_ret
    exact ⟨rfl, E⟩
  · go_wp2
    go_ret
    exact ⟨rfl, E⟩

theorem in_next (b : Nat) (a p : Nat → Int) (h s : Nat → Bool) (k : Nat) (hk : k ≤ 1000000) (w : World) (hl : LR w b (nk h p 0 k) (nk h p 1 k) (nk h p 2 k) (nl h p k)) :
    Calls Try.prog 7 #[.pointer (some ⟨b, 0, none⟩), tk (a k) (h k) (p k) (s k)] w fun e w' => e = .returned (.tuple #[.int .i64 (bv (h k) (p k)), .bool (br (h k) (p k))]) ∧ LR w' b (nk h p 0 (k + 1)) (nk h p 1 (k + 1)) (nk h p 2 (k + 1)) (nl h p (k + 1)) ∧ But b w w' := by
  obtain ⟨r0, r1⟩ := nk_range h p 0 k
  obtain ⟨r2, r3⟩ := nk_range h p 1 k
  obtain ⟨r4, r5⟩ := nk_range h p 2 k
  rcases three (h k) (p k) with ⟨-, -, kk, k1, k2⟩ | ⟨-, -, kk, k1, k2⟩ | ⟨-, kk, k1, k2⟩
  · rw [k1, k2, nk_yes kk, nk_no (j := 1) kk (by decide), nk_no (j := 2) kk (by decide), nl_yes k1]
    exact in_good b _ _ _ _ _ _ _ _ kk k1 k2 r0 (by omega) w hl
  · rw [k1, k2, nk_no (j := 0) kk (by decide), nk_yes kk, nk_no (j := 2) kk (by decide), nl_no k1]
    exact in_bad b _ _ _ _ _ _ _ _ kk k1 k2 r2 (by omega) w hl
  · rw [k1, k2, nk_no (j := 0) kk (by decide), nk_no (j := 1) kk (by decide), nk_yes kk, nl_no k1]
    exact in_none b _ _ _ _ _ _ _ _ kk k1 k2 r4 (by omega) w hl

set_option maxHeartbeats 4000000 in
set_option maxRecDepth 10000 in
/-- Whatever ticks are taken in, what each brings, and what the log tells then, is the document's. -/
theorem baroPlays_any (a p : Nat → Int) (h s : Nat → Bool) (sa : Option Addr) (len cap : Nat) (hm : cap ≤ 9223372036854775807) (hl : len ≤ cap) (w : World)
    (hc : ∀ k, k < len → ∃ gb off, sa = some ⟨gb, off, none⟩ ∧ TW w gb (off + k * 4) (a k) (h k) (p k) (s k)) :
    Calls Try.prog 3 #[.slice sa len cap] w (RetV (.bool true) w) := by
  by_cases hl2 : len ≤ 200
  · have h2 : ¬ (200 : Int) < (len : Int) := by omega
    go_enter Try.func3, Try.ntmps3
    go_wp2_with fail
    refine (newlog_any _).mono ?_
    rintro e y0 ⟨b, rfl, gb, r, E⟩
    go_wp2
    go_loopw [28] (fun iv wr => ∃ k : Nat, k ≤ len ∧ iv = .int .i64 k ∧ LR wr b (nk h p 0 k) (nk h p 1 k) (nk h p 2 k) (nl h p k) ∧ Below w.heap.size w wr) (fun iv _ => len - (intOf iv).toNat)
    case atStart => exact ⟨0, Nat.zero_le _, rfl, r, E⟩
    case round =>
      clear r E
      obtain ⟨k, hk, rfl, r, E⟩ := hrel
      by_cases hlt : k < len
      · obtain ⟨gs, off, rfl, tw⟩ := hc k hlt
        have gl := World.block_lt_of_cell? w _ tw.1
        replace gl : gs < w.heap.size := gl
        replace tw := tw_keep E tw
        have c1 := in_next b a p h s k (by omega)
        have c2 := rbrings_any (a k) (h k) (p k) (s k)
        have c3 := brings_any (a k) (h k) (p k) (s k)
        have c4 := fun u hu => rcounts_any a p h s (some ⟨gs, off, none⟩) (k + 1) cap (by omega) u hu
        have hlk : (k : Int) < len := by omega
        have hk0 : (0 : Int) ≤ k := by omega
        have hk1 : (0 : Int) ≤ (k : Int) + 1 := by omega
        have hk2 : (k : Int) + 1 ≤ cap := by omega
        have ws : IntKind.i64.wrap ((k : Int) + 1) = (k : Int) + 1 := by rw [IntKind.wrap_i64]; omega
        have tn : ((k : Int) + 1).toNat = k + 1 := by omega
        have tz := tw_new (w := wr) (a := a k) (h := h k) (p := p k) (s := s k) (t := 27)
        have gz : b < wr.heap.size := (Array.getElem?_eq_some_iff.1 r).1
        have Z : Below wr.heap.size wr (wr.alloc (Obj.cells #[.int .i64 (a k), .bool (h k), .int .i64 (p k), .bool (s k)] 27)) := b_alloc (Below.refl _ _)
        obtain ⟨t0, t1, t2, t3⟩ := tw
        replace r := row_keep Z r
        go_wp2_with fail
        replace E := b_trans E Z
        clear Z t0 t1 t2 t3
        obtain ⟨t0, t1, t2, t3⟩ := tz
        refine (c1 _ r).mono ?_
        clear r
        rintro e y1 ⟨rfl, r, B⟩
        obtain ⟨t0, t1, t2, t3⟩ := tw_but B (by omega) ⟨t0, t1, t2, t3⟩
        replace E := below_but E gb B
        clear B c1
        go_wp2_with fail
        refine (c2 _).mono ?_
        rintro e y2 ⟨rfl, hb⟩
        obtain ⟨t0, t1, t2, t3⟩ := tw_keep hb ⟨t0, t1, t2, t3⟩
        replace r := row_keep hb r
        replace E := b_trans E hb
        clear hb c2
        go_wp2_with fail
        refine (c3 _).mono ?_
        rintro e y3 ⟨rfl, hb⟩
        replace r := row_keep hb r
        replace E := b_trans E hb
        clear hb c3 t0 t1 t2 t3
        go_wp2_with fail
        refine (counts_any _ _ _ _ _ _ r).mono ?_
        rintro e y4 ⟨rfl, hb⟩
        replace r := row_keep hb r
        replace E := b_trans E hb
        clear hb
        go_wp2_with fail
        refine (c4 _ (fun j hj => ?_)).mono ?_
        · obtain ⟨g2, o2, e2, t2⟩ := hc j (by omega)
          exact ⟨g2, o2, e2, tw_keep E t2⟩
        rintro e y5 ⟨rfl, hb⟩
        replace r := row_keep hb r
        replace E := b_trans E hb
        clear hb c4
        generalize bv (h k) (p k) = bb at *
        generalize br (h k) (p k) = oo at *
        go_wp2_with fail
        refine (last_any _ _ _ _ _ _ r).mono ?_
        rintro e y6 ⟨rfl, hb⟩
        replace r := row_keep hb r
        replace E := b_trans E hb
        clear hb
        go_wp2
        refine ⟨⟨k + 1, by omega, rfl, r, E⟩, ?_⟩
        simp only [intOf]
        omega
      · have hlk : ¬ (k : Int) < len := by omega
        clear hlt hk r
        go_wp2_with fail
        refine (fixed_bar _).mono ?_
        rintro e y1 ⟨rfl, hb⟩
        replace E := b_trans E hb
        go_wp2
        go_ret
        exact ⟨rfl, E⟩
  · have h2 : (200 : Int) < (len : Int) := by omega
    go_enter Try.func3, Try.ntmps3
    go_wp2_with fail
    refine (fixed_bar _).mono ?_
    rintro e y0 ⟨rfl, E⟩
    go_wp2
    go_ret
    exact ⟨rfl, E⟩
end Go.Proofs.Ytmkdpnfhpnfmnaa
