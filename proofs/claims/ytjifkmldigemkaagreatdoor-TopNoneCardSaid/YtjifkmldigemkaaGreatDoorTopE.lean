/- The whole: TopNone: with all counts that aren't good taken off, all thrust counts beyond the clip put at the clip, and a channel copied on the way, a flight tells the same. -/
import Derived.Test.YtjifkmldigemkaaGreatDoorTbn
namespace Go.Proofs.YtjifkmldigemkaaGreatDoor
open Go.RowKit Go.Shelf Go.Joins

/-- Two channels lie apart. -/
def Dj (A B : Nat → Prop) : Prop := ∀ q, A q → ¬ B q
theorem dj_new {A B : Nat → Prop} {n : Nat} (a : ∀ q, A q → q < n) (b : ∀ q, B q → n ≤ q) : Dj A B := fun q h k => by
  have := a q h
  have := b q k
  omega
theorem dj_1 {b fb gb n : Nat} {hl h3 : Value} {B : Nat → Prop} (d : Dj (Ow b fb gb hl) B) (q3 : ∀ k, h3.ownBlock = some k → hl.ownBlock = some k ∨ n ≤ k) (l : ∀ q, B q → q < n) : Dj (Ow b fb gb h3) B := fun q o k => by
  rcases o with o | o | o | o
  · exact d q (Or.inl o) k
  · exact d q (Or.inr (Or.inl o)) k
  · exact d q (Or.inr (Or.inr (Or.inl o))) k
  · rcases q3 q o with o | o
    · exact d q (Or.inr (Or.inr (Or.inr o))) k
    · have := l q k
      omega
theorem dj_sym {A B : Nat → Prop} (d : Dj A B) : Dj B A := fun q b a => d q a b
/-- One channel, while the other one is ticked on. -/
theorem lc_dj {W U U' : World} {b fb gb b1 f1 g1 : Nat} {hl h1 : Value} {x : Nat → Int} {C C1 : Cn} (h : LC W b fb gb hl x C U) (f : LC W b1 f1 g1 h1 x C1 U) (k : Chs (Ow b1 f1 g1 h1) U U') (d : Dj (Ow b fb gb hl) (Ow b1 f1 g1 h1)) : LC W b fb gb hl x C U' :=
  lc_chs h k d f.o (fun q hq => f.c.up q hq)
theorem cks_clip {x : Nat → Int} (ck : cks x = 0) : 1 ≤ x 26 ∧ x 26 ≤ 131072 := by
  have h := (cks_zero ck).2
  unfold k11 at h
  rw [Bool.and_eq_true] at h
  exact inb_iff.1 h.1
theorem clp_if (c a : Int) : (if (if c < a then c else a) < -c then -c else if c < a then c else a) = max (min a c) (-c) := by
  by_cases h : c < a
  · rw [if_pos h]
    by_cases g : c < -c
    · rw [if_pos g]; omega
    · rw [if_neg g]; omega
  · rw [if_neg h]
    by_cases g : a < -c
    · rw [if_pos g]; omega
    · rw [if_neg g]; omega
theorem rem_in {n : Int} {len : Nat} (h : 0 ≤ n) (l : len ≤ 300) : ∃ r, n.tmod ((len : Int) + 1) = r ∧ IntKind.i64.wrap r = r := by
  have h1 := Int.tmod_nonneg ((len : Int) + 1) h
  have h2 := Int.tmod_lt_of_pos n (show (0 : Int) < (len : Int) + 1 by omega)
  exact ⟨_, rfl, by rw [IntKind.wrap_i64]; omega⟩
theorem ok_n {C : Cn} (k : Okc C) : C.n ≤ 1000 := Nat.le_trans k.n (by decide)
theorem u16_mod {n len : Nat} : ((n : Int)).tmod ((len : Int) + 1) = ((n % (len + 1) : Nat) : Int) := by
  have : ((len : Int) + 1) = ((len + 1 : Nat) : Int) := by omega
  rw [this, Int.ofNat_tmod]
theorem ow_1 {b fb gb D s : Nat} {hl h3 : Value} (n : ¬ Ow b fb gb hl D) (q3 : ∀ k, h3.ownBlock = some k → hl.ownBlock = some k ∨ s ≤ k) (l : D < s) : ¬ Ow b fb gb h3 D := fun o => by
  rcases o with o | o | o | o
  · exact n (Or.inl o)
  · exact n (Or.inr (Or.inl o))
  · exact n (Or.inr (Or.inr (Or.inl o)))
  · rcases q3 D o with o | o
    · exact n (Or.inr (Or.inr (Or.inr o)))
    · omega
theorem bw_two (h : Bool) (p : Int) : (br h p = true → h = true ∧ bv h p = p) ∧ (br h p = false → bv h p = 0) := by
  rcases three h p with e | e | e
  · exact ⟨fun _ => ⟨e.1, e.2.2.2.2⟩, fun q => (by rw [e.2.2.2.1] at q; cases q)⟩
  · exact ⟨fun q => (by rw [e.2.2.2.1] at q; cases q), fun _ => e.2.2.2.2⟩
  · exact ⟨fun q => (by rw [e.2.2.1] at q; cases q), fun _ => e.2.2.2⟩
/-- A tick in memory, put at the clip. -/
theorem tick_row {w : World} {V : Nat} {c0 c1 c2 c3 d0 : Value} (h : w.heap[V]? = some (.cells #[c0, c1, c2, c3] 49 (0, 0))) : (w.setCell ⟨V, 0, none⟩ d0).heap[V]? = some (.cells #[d0, c1, c2, c3] 49 (0, 0)) ∧ But V w (w.setCell ⟨V, 0, none⟩ d0) :=
  ⟨(heap_setCell_same _ V 0 _ _ _ h).trans rfl, but_set⟩
theorem tick_off {w : World} {V : Nat} {c0 c1 c2 c3 : Value} (h : w.heap[V]? = some (.cells #[c0, c1, c2, c3] 49 (0, 0))) : ((w.setCell ⟨V, 1, none⟩ (.bool false)).setCell ⟨V, 2, none⟩ (.int .i64 0)).heap[V]? = some (.cells #[c0, .bool false, .int .i64 0, c3] 49 (0, 0)) ∧ But V w ((w.setCell ⟨V, 1, none⟩ (.bool false)).setCell ⟨V, 2, none⟩ (.int .i64 0)) :=
  ⟨(heap_setCell_same _ V 2 _ _ _ ((heap_setCell_same _ V 1 _ _ _ h).trans rfl)).trans rfl, but_trans but_set but_set⟩

set_option maxHeartbeats 16000000 in
set_option maxRecDepth 20000 in
theorem topNone_any (x : Nat → Int) (hx : C64 x) (a p : Nat → Int) (h s : Nat → Bool) (sa : Option Addr) (len cap : Nat) (hm : cap ≤ 9223372036854775807) (hl : len ≤ cap) (n : Int) (n0 : 0 ≤ n) (n1 : n ≤ 65535) (w : World) (hc : ∀ k, k < len → ∃ g off, sa = some ⟨g, off, none⟩ ∧ TW w g (off + k * 4) (a k) (h k) (p k) (s k)) (T : Tb3 w) : Calls Tryz.prog 5 #[cv x, .slice sa len cap, .int .u16 n] w (RetV (.bool true) w) := by
  by_cases ck : cks x = 0
  rotate_left
  · have cr : CR (w.alloc (Obj.cells #[.int .i64 (x 0), .int .i64 (x 1), .int .i64 (x 2), .int .i64 (x 3), .int .i64 (x 4), .int .i64 (x 5), .int .i64 (x 6), .int .i64 (x 7), .int .i64 (x 8), .int .i64 (x 9), .int .i64 (x 10), .int .i64 (x 11), .int .i64 (x 12), .int .i64 (x 13), .int .i64 (x 14), .int .i64 (x 15), .int .i64 (x 16), .int .i64 (x 17), .int .i64 (x 18), .int .i64 (x 19), .int .i64 (x 20), .int .i64 (x 21), .int .i64 (x 22), .int .i64 (x 23), .int .i64 (x 24), .int .i64 (x 25), .int .i64 (x 26), .int .i64 (x 27), .int .i64 (x 28), .int .i64 (x 29), .int .i64 (x 30)] 25)) w.heap.size x := cr_new
    have E0 : Below w.heap.size w (w.alloc (Obj.cells #[.int .i64 (x 0), .int .i64 (x 1), .int .i64 (x 2), .int .i64 (x 3), .int .i64 (x 4), .int .i64 (x 5), .int .i64 (x 6), .int .i64 (x 7), .int .i64 (x 8), .int .i64 (x 9), .int .i64 (x 10), .int .i64 (x 11), .int .i64 (x 12), .int .i64 (x 13), .int .i64 (x 14), .int .i64 (x 15), .int .i64 (x 16), .int .i64 (x 17), .int .i64 (x 18), .int .i64 (x 19), .int .i64 (x 20), .int .i64 (x 21), .int .i64 (x 22), .int .i64 (x 23), .int .i64 (x 24), .int .i64 (x 25), .int .i64 (x 26), .int .i64 (x 27), .int .i64 (x 28), .int .i64 (x 29), .int .i64 (x 30)] 25)) := b_alloc (Below.refl _ _)
    replace T := t3_keep E0 T
    have cc := check_any x hx
    go_enter Tryz.func5, Tryz.ntmps5
    go_wp2_with (with_reducible refine stop_at (some 16) rfl ?_)
    generalize (w.alloc (Obj.cells #[.int .i64 (x 0), .int .i64 (x 1), .int .i64 (x 2), .int .i64 (x 3), .int .i64 (x 4), .int .i64 (x 5), .int .i64 (x 6), .int .i64 (x 7), .int .i64 (x 8), .int .i64 (x 9), .int .i64 (x 10), .int .i64 (x 11), .int .i64 (x 12), .int .i64 (x 13), .int .i64 (x 14), .int .i64 (x 15), .int .i64 (x 16), .int .i64 (x 17), .int .i64 (x 18), .int .i64 (x 19), .int .i64 (x 20), .int .i64 (x 21), .int .i64 (x 22), .int .i64 (x 23), .int .i64 (x 24), .int .i64 (x 25), .int .i64 (x 26), .int .i64 (x 27), .int .i64 (x 28), .int .i64 (x 29), .int .i64 (x 30)] 25)) = z0 at *
    refine unstop ?_
    refine wpList_load_row rfl 25 (.tmp 3) rfl w.heap.size rfl 25 _ (0, 0) _ cr Tryz.underlying25 rfl (by kernel_rfl) ?_
    obtain ⟨ce, hce⟩ : ∃ q, cks x = q := ⟨_, rfl⟩
    have c1 : (ce != 0) = true := by rw [← hce]; simpa using ck
    rw [hce] at cc
    clear hce ck
    go_wp2_with fail
    refine (cc _).mono ?_
    rintro e_ y1 ⟨rfl, hb1⟩
    replace T := t3_keep hb1 T
    replace E0 := b_trans E0 hb1
    replace cr := cr_keep hb1 cr
    clear hb1 cc
    go_wp2_with fail
    refine (fixed_cha _ T).mono ?_
    rintro e_ y9 ⟨rfl, hb9⟩
    go_wp2
    go_ret
    exact ⟨rfl, b_trans E0 hb9⟩
  by_cases la : len ≤ 300
  rotate_left
  · have q1 : (300 : Int) < (len : Int) := by omega
    have cr : CR (w.alloc (Obj.cells #[.int .i64 (x 0), .int .i64 (x 1), .int .i64 (x 2), .int .i64 (x 3), .int .i64 (x 4), .int .i64 (x 5), .int .i64 (x 6), .int .i64 (x 7), .int .i64 (x 8), .int .i64 (x 9), .int .i64 (x 10), .int .i64 (x 11), .int .i64 (x 12), .int .i64 (x 13), .int .i64 (x 14), .int .i64 (x 15), .int .i64 (x 16), .int .i64 (x 17), .int .i64 (x 18), .int .i64 (x 19), .int .i64 (x 20), .int .i64 (x 21), .int .i64 (x 22), .int .i64 (x 23), .int .i64 (x 24), .int .i64 (x 25), .int .i64 (x 26), .int .i64 (x 27), .int .i64 (x 28), .int .i64 (x 29), .int .i64 (x 30)] 25)) w.heap.size x := cr_new
    have E0 : Below w.heap.size w (w.alloc (Obj.cells #[.int .i64 (x 0), .int .i64 (x 1), .int .i64 (x 2), .int .i64 (x 3), .int .i64 (x 4), .int .i64 (x 5), .int .i64 (x 6), .int .i64 (x 7), .int .i64 (x 8), .int .i64 (x 9), .int .i64 (x 10), .int .i64 (x 11), .int .i64 (x 12), .int .i64 (x 13), .int .i64 (x 14), .int .i64 (x 15), .int .i64 (x 16), .int .i64 (x 17), .int .i64 (x 18), .int .i64 (x 19), .int .i64 (x 20), .int .i64 (x 21), .int .i64 (x 22), .int .i64 (x 23), .int .i64 (x 24), .int .i64 (x 25), .int .i64 (x 26), .int .i64 (x 27), .int .i64 (x 28), .int .i64 (x 29), .int .i64 (x 30)] 25)) := b_alloc (Below.refl _ _)
    replace T := t3_keep E0 T
    have cc := check_any x hx
    go_enter Tryz.func5, Tryz.ntmps5
    go_wp2_with (with_reducible refine stop_at (some 16) rfl ?_)
    generalize (w.alloc (Obj.cells #[.int .i64 (x 0), .int .i64 (x 1), .int .i64 (x 2), .int .i64 (x 3), .int .i64 (x 4), .int .i64 (x 5), .int .i64 (x 6), .int .i64 (x 7), .int .i64 (x 8), .int .i64 (x 9), .int .i64 (x 10), .int .i64 (x 11), .int .i64 (x 12), .int .i64 (x 13), .int .i64 (x 14), .int .i64 (x 15), .int .i64 (x 16), .int .i64 (x 17), .int .i64 (x 18), .int .i64 (x 19), .int .i64 (x 20), .int .i64 (x 21), .int .i64 (x 22), .int .i64 (x 23), .int .i64 (x 24), .int .i64 (x 25), .int .i64 (x 26), .int .i64 (x 27), .int .i64 (x 28), .int .i64 (x 29), .int .i64 (x 30)] 25)) = z0 at *
    refine unstop ?_
    refine wpList_load_row rfl 25 (.tmp 3) rfl w.heap.size rfl 25 _ (0, 0) _ cr Tryz.underlying25 rfl (by kernel_rfl) ?_
    rw [ck] at cc
    go_wp2_with fail
    refine (cc _).mono ?_
    rintro e_ y1 ⟨rfl, hb1⟩
    replace T := t3_keep hb1 T
    replace E0 := b_trans E0 hb1
    replace cr := cr_keep hb1 cr
    clear hb1 cc
    go_wp2_with fail
    refine (fixed_cha _ T).mono ?_
    rintro e_ y9 ⟨rfl, hb9⟩
    go_wp2
    go_ret
    exact ⟨rfl, b_trans E0 hb9⟩
  have q1 : ¬ (300 : Int) < (len : Int) := by omega
  have cr : CR (w.alloc (Obj.cells #[.int .i64 (x 0), .int .i64 (x 1), .int .i64 (x 2), .int .i64 (x 3), .int .i64 (x 4), .int .i64 (x 5), .int .i64 (x 6), .int .i64 (x 7), .int .i64 (x 8), .int .i64 (x 9), .int .i64 (x 10), .int .i64 (x 11), .int .i64 (x 12), .int .i64 (x 13), .int .i64 (x 14), .int .i64 (x 15), .int .i64 (x 16), .int .i64 (x 17), .int .i64 (x 18), .int .i64 (x 19), .int .i64 (x 20), .int .i64 (x 21), .int .i64 (x 22), .int .i64 (x 23), .int .i64 (x 24), .int .i64 (x 25), .int .i64 (x 26), .int .i64 (x 27), .int .i64 (x 28), .int .i64 (x 29), .int .i64 (x 30)] 25)) w.heap.size x := cr_new
  have E0 : Below w.heap.size w (w.alloc (Obj.cells #[.int .i64 (x 0), .int .i64 (x 1), .int .i64 (x 2), .int .i64 (x 3), .int .i64 (x 4), .int .i64 (x 5), .int .i64 (x 6), .int .i64 (x 7), .int .i64 (x 8), .int .i64 (x 9), .int .i64 (x 10), .int .i64 (x 11), .int .i64 (x 12), .int .i64 (x 13), .int .i64 (x 14), .int .i64 (x 15), .int .i64 (x 16), .int .i64 (x 17), .int .i64 (x 18), .int .i64 (x 19), .int .i64 (x 20), .int .i64 (x 21), .int .i64 (x 22), .int .i64 (x 23), .int .i64 (x 24), .int .i64 (x 25), .int .i64 (x 26), .int .i64 (x 27), .int .i64 (x 28), .int .i64 (x 29), .int .i64 (x 30)] 25)) := b_alloc (Below.refl _ _)
  replace T := t3_keep E0 T
  have cc := check_any x hx
  go_enter Tryz.func5, Tryz.ntmps5
  go_wp2_with (with_reducible refine stop_at (some 16) rfl ?_)
  generalize (w.alloc (Obj.cells #[.int .i64 (x 0), .int .i64 (x 1), .int .i64 (x 2), .int .i64 (x 3), .int .i64 (x 4), .int .i64 (x 5), .int .i64 (x 6), .int .i64 (x 7), .int .i64 (x 8), .int .i64 (x 9), .int .i64 (x 10), .int .i64 (x 11), .int .i64 (x 12), .int .i64 (x 13), .int .i64 (x 14), .int .i64 (x 15), .int .i64 (x 16), .int .i64 (x 17), .int .i64 (x 18), .int .i64 (x 19), .int .i64 (x 20), .int .i64 (x 21), .int .i64 (x 22), .int .i64 (x 23), .int .i64 (x 24), .int .i64 (x 25), .int .i64 (x 26), .int .i64 (x 27), .int .i64 (x 28), .int .i64 (x 29), .int .i64 (x 30)] 25)) = z0 at *
  refine unstop ?_
  refine wpList_load_row rfl 25 (.tmp 3) rfl w.heap.size rfl 25 _ (0, 0) _ cr Tryz.underlying25 rfl (by kernel_rfl) ?_
  rw [ck] at cc
  go_wp2_with fail
  refine (cc _).mono ?_
  rintro e_ y1 ⟨rfl, hb1⟩
  replace T := t3_keep hb1 T
  replace E0 := b_trans E0 hb1
  replace cr := cr_keep hb1 cr
  clear hb1 cc
  have E1 := Lib.hid E0
  have cr1 := Lib.hid cr
  go_wp2_with (with_reducible refine stop_at (some 26) rfl ?_)
  refine unstop ?_
  refine wpList_load_row rfl 25 (.tmp 3) rfl w.heap.size rfl 25 _ (0, 0) _ cr Tryz.underlying25 rfl (by kernel_rfl) ?_
  go_wp2_with fail
  refine (chnew_ok x hx ck _ T).mono ?_
  rintro e_ y2 ⟨b, fb, gb, rfl, c0, i0, i1, i2, hb2⟩
  have S := Lib.hid (lc_new (Below.refl _ _) T c0 i0 i1 i2 hb2)
  replace cr := cr_keep hb2 cr
  have A1 := Lib.hid (ch_own c0)
  clear c0 i0 i1 i2 hb2 E0 T
  go_wp2_with (with_reducible refine stop_at (some 31) rfl ?_)
  refine unstop ?_
  refine wpList_load_row rfl 25 (.tmp 3) rfl w.heap.size rfl 25 _ (0, 0) _ cr Tryz.underlying25 rfl (by kernel_rfl) ?_
  go_wp2_with fail
  refine (chnew_ok x hx ck _ S.out.t).mono ?_
  rintro e_ y3 ⟨b2, f2, g2, rfl, c0, i0, i1, i2, hb3⟩
  have S2 := Lib.hid (lc_new S.out.b S.out.t c0 i0 i1 i2 hb3)
  replace S := Lib.hid (lc_keep S.out hb3)
  have dj := Lib.hid (dj_new A1.out (ow_cop (h := .slice none 0 0) i0 i1 i2 (fun q hq => by cases hq)))
  clear c0 i0 i1 i2 hb3 A1 cr
  go_wp2
  clear q1
  go_loopw [9, 51] (fun dv iv wr => ∃ (k b2 f2 g2 : Nat) (h1 h2 : Value), k ≤ len ∧ iv = .int .i64 k ∧ dv = .pointer (some ⟨b2, 0, none⟩) ∧ Hid (LC y1 b fb gb h1 x (itr x a p h s k) wr) ∧ Hid (LC y1 b2 f2 g2 h2 x (itr x a p h s k) wr) ∧ Hid (Dj (Ow b fb gb h1) (Ow b2 f2 g2 h2))) (fun _ iv _ => len - (intOf iv).toNat)
  case atStart => exact ⟨0, b2, f2, g2, _, _, Nat.zero_le _, rfl, rfl, S, S2, dj⟩
  case round =>
    clear S S2 dj
    obtain ⟨k, b2, f2, g2, h1, h2, hk, rfl, rfl, S, S2, dj⟩ := hrel
    by_cases hlt : k < len
    · obtain ⟨gs, off, rfl, tw⟩ := hc k hlt
      have gl : gs < w.heap.size := World.block_lt_of_cell? w _ tw.1
      replace tw := tw_keep (b_trans E1.out S.out.b) tw
      have hlk : (k : Int) < len := by omega
      have hk0 : (0 : Int) ≤ k := by omega
      have hk1 : (0 : Int) ≤ (k : Int) + 1 := by omega
      have hk2 : (k : Int) + 1 ≤ cap := by omega
      have ws : IntKind.i64.wrap ((k : Int) + 1) = (k : Int) + 1 := by rw [IntKind.wrap_i64]; omega
      have tn : ((k : Int) + 1).toNat = k + 1 := by omega
      have ro := itr_r x a p h s k
      have ok := ok_itr hx ck a p h s k
      have tws := tw_otr hx ck a p h s k
      have eI0 : itr x a p h s (k + 1) = (stp x (itr x a p h s k) (a k) (h k) (p k) (s k)).1 := rfl
      have eO0 : otr x a p h s k = (stp x (itr x a p h s k) (a k) (h k) (p k) (s k)).2 := rfl
      have tp := stp_top x (itr x a p h s k) (a k) (h k) (p k) (s k)
      obtain ⟨C, hC⟩ : ∃ C, itr x a p h s k = C := ⟨_, rfl⟩
      rw [hC] at S S2 ro ok eI0 eO0 tp
      clear hC
      obtain ⟨cl, hcl⟩ : ∃ q, clp (x 26) (a k) = q := ⟨_, rfl⟩
      rw [hcl] at tp
      unfold clp at hcl
      obtain ⟨R, hR⟩ : ∃ R, stp x C (a k) (h k) (p k) (s k) = R := ⟨_, rfl⟩
      rw [hR] at eI0 eO0 tp
      have eI := Lib.hid eI0
      rw [eO0] at tws
      have hq := Lib.hid (bw_two (h k) (p k))
      have cb := rbrings_any (a k) (h k) (p k) (s k)
      obtain ⟨R1, m9, vd, ac, rf, ho, gr, al, sp, bi⟩ := R
      dsimp only at tws eI
      have te := fun w => td_eq_self (m := m9) (vd := vd) (ac := ac) (rf := rf) (ho := ho) (gr := gr) (al := al) (sp := sp) (bi := bi) tws.m tws.a tws.s tws.b w
      have cs1 : ∀ u (hu : CH u b fb gb h1 x C) (ht : Tb3 u), Calls Tryz.prog 10 #[.pointer (some ⟨b, 0, none⟩), tk (a k) (h k) (p k) (s k)] u (fun e w' => e = .returned (tdv m9 vd ac rf ho gr al sp bi) ∧ ∃ hz, CH w' b fb gb hz x R1 ∧ (∀ k, hz.ownBlock = some k → h1.ownBlock = some k ∨ u.heap.size ≤ k) ∧ Chs (Ow b fb gb h1) u w') := fun u hu ht => by
                  have q := step_any (b := b) (fb := fb) (gb := gb) (hl := h1) hx ck (C := C) ok (by omega) (a k) (h k) (p k) (s k) u hu ht
                  rw [hR] at q
                  exact q
      have cs2 : ∀ (b' f' g' : Nat) (h' : Value) u (hu : CH u b' f' g' h' x C) (ht : Tb3 u), Calls Tryz.prog 10 #[.pointer (some ⟨b', 0, none⟩), tk cl (br (h k) (p k)) (bv (h k) (p k)) (s k)] u (fun e w' => e = .returned (tdv m9 vd ac rf ho gr al sp bi) ∧ ∃ hz, CH w' b' f' g' hz x R1 ∧ (∀ k, hz.ownBlock = some k → h'.ownBlock = some k ∨ u.heap.size ≤ k) ∧ Chs (Ow b' f' g' h') u w') := fun b' f' g' h' u hu ht => by
                  have q := step_any (b := b') (fb := f') (gb := g') (hl := h') hx ck (C := C) ok (by omega) cl (br (h k) (p k)) (bv (h k) (p k)) (s k) u hu ht
                  rw [tp] at q
                  exact q
      have cn := ok_n ok
      have cg := ok.g
      clear tp hR eI0 eO0 tws ok ro
      have Z : Below wr.heap.size wr (wr.alloc (Obj.cells #[.int .i64 (a k), .bool (h k), .int .i64 (p k), .bool (s k)] 49)) := b_alloc (Below.refl _ _)
      have S1 := Lib.hid (lc_keep S.out Z)
      have K1 := Lib.hid (lc_keep S2.out Z)
      have kT : (wr.alloc (Obj.cells #[.int .i64 (a k), .bool (h k), .int .i64 (p k), .bool (s k)] 49)).heap[wr.heap.size]? = some (.cells #[.int .i64 (a k), .bool (h k), .int .i64 (p k), .bool (s k)] 49 (0, 0)) := heap_alloc_last _ _
      have nT : Hid (¬ Ow b fb gb h1 wr.heap.size) := Lib.hid (fun e => Nat.lt_irrefl _ (ch_own S.out.c _ e))
      have nT2 : Hid (¬ Ow b2 f2 g2 h2 wr.heap.size) := Lib.hid (fun e => Nat.lt_irrefl _ (ch_own S2.out.c _ e))
      have zD : Hid (y1.heap.size ≤ wr.heap.size) := Lib.hid S.out.b.size
      have uD : Hid (Up wr.heap.size) := Lib.hid (up_of S.out.t (Nat.le_refl _))
      have lD : Hid (wr.heap.size < (wr.alloc (Obj.cells #[.int .i64 (a k), .bool (h k), .int .i64 (p k), .bool (s k)] 49)).heap.size) := Lib.hid (by simp)
      replace hlt := Lib.hid hlt
      obtain ⟨t0, t1, t2, t3⟩ := tw
      clear S S2 Z
      go_wp2_with fail
      generalize wr.alloc (Obj.cells #[.int .i64 (a k), .bool (h k), .int .i64 (p k), .bool (s k)] 49) = y4 at *
      generalize wr.heap.size = D at *
      clear t0 t1 t2 t3
      refine (cs1 _ S1.out.c S1.out.t).mono ?_
      rintro e_ y5 ⟨rfl, h3, c3_, q3, k3⟩
      clear cs1
      have S3 := Lib.hid (lc_step S1.out c3_ q3 k3)
      have K3 := Lib.hid (lc_dj K1.out S1.out k3 (dj_sym dj.out))
      replace kT := chs_row k3 nT.out kT
      replace dj := Lib.hid (dj_1 dj.out q3 (fun q hq => ch_own K1.out.c q hq))
      replace nT : Hid (¬ Ow b fb gb h3 D) := Lib.hid (ow_1 nT.out q3 lD.out)
      clear S1 K1 c3_ q3 k3 lD
      have Z2 : Below y5.heap.size y5 (y5.alloc (Obj.cells #[.int .i64 m9, .bool vd, .bool ac, .bool rf, .bool ho, .bool gr, .int .i64 al, .int .i64 sp, .int .i64 bi] 51)) := b_alloc (Below.refl _ _)
      have kG : (y5.alloc (Obj.cells #[.int .i64 m9, .bool vd, .bool ac, .bool rf, .bool ho, .bool gr, .int .i64 al, .int .i64 sp, .int .i64 bi] 51)).heap[y5.heap.size]? = some (.cells #[.int .i64 m9, .bool vd, .bool ac, .bool rf, .bool ho, .bool gr, .int .i64 al, .int .i64 sp, .int .i64 bi] 51 (0, 0)) := heap_alloc_last _ _
      have nG : Hid (¬ Ow b2 f2 g2 h2 y5.heap.size) := Lib.hid (fun e => Nat.lt_irrefl _ (ch_own K3.out.c _ e))
      have nDG : Hid (D ≠ y5.heap.size) := Lib.hid (fun e => by have := (Array.getElem?_eq_some_iff.1 kT).1; omega)
      have gl9 : Hid (y5.heap.size < (y5.alloc (Obj.cells #[.int .i64 m9, .bool vd, .bool ac, .bool rf, .bool ho, .bool gr, .int .i64 al, .int .i64 sp, .int .i64 bi] 51)).heap.size) := Lib.hid (by simp)
      replace S3 := Lib.hid (lc_keep S3.out Z2)
      replace K3 := Lib.hid (lc_keep K3.out Z2)
      replace kT := row_keep Z2 kT
      clear Z2
      obtain ⟨t0, t1, t2, t3⟩ := row4 kT
      go_wp2_with fail
      generalize y5.alloc (Obj.cells #[.int .i64 m9, .bool vd, .bool ac, .bool rf, .bool ho, .bool gr, .int .i64 al, .int .i64 sp, .int .i64 bi] 51) = y6 at *
      generalize y5.heap.size = g9 at *
      clear t0 t1 t2 t3
      refine (cb _).mono ?_
      rintro e_ y7 ⟨rfl, hb7⟩
      clear cb
      replace S3 := Lib.hid (lc_keep S3.out hb7)
      replace K3 := Lib.hid (lc_keep K3.out hb7)
      replace kT := row_keep hb7 kT
      replace kG := row_keep hb7 kG
      replace gl9 := Lib.hid (Nat.lt_of_lt_of_le gl9.out hb7.size)
      clear hb7
      generalize br (h k) (p k) = bb at *
      generalize bv (h k) (p k) = pp at *
      generalize h k = hh at *
      generalize p k = p9 at *
      cases bb
      · obtain rfl := hq.out.2 rfl
        obtain ⟨r0, r1, r2, r3⟩ := row4 kT
        have f1 := frozen_of_row _ _ 1 _ _ kT
        have f2 := frozen_of_row _ _ 2 _ _ kT
        obtain ⟨kT2, kb⟩ := tick_off kT
        replace S3 := Lib.hid (lc_but S3.out kb zD.out uD.out nT.out)
        replace K3 := Lib.hid (lc_but K3.out kb zD.out uD.out nT2.out)
        replace kG := but_row kb (fun e => nDG.out e.symm) kG
        have hz : ((y7.setCell ⟨D, 1, none⟩ (.bool false)).setCell ⟨D, 2, none⟩ (.int .i64 0)).heap.size = y7.heap.size := by simp
        rw [← hz] at gl9
        replace kT := kT2
        clear kT2 kb hz hq
        go_upto_region 14 with fail
        generalize ((y7.setCell ⟨D, 1, none⟩ (.bool false)).setCell ⟨D, 2, none⟩ (.int .i64 0)) = y8 at *
        clear r0 r1 r2 r3 f1 f2
        obtain ⟨r0, r1, r2, r3⟩ := row4 kT
        have fz := frozen_of_row _ _ 0 _ _ kT
        have x26 : y8.cell? ⟨w.heap.size, 26, none⟩ = some (.int .i64 (x 26)) := (cell_of_row _ _ 26 _ _ _ (cr_keep S3.out.b cr1.out)).trans rfl
        obtain ⟨l26, h26⟩ := cks_clip ck
        have wn : IntKind.i64.wrap (-(x 26)) = -(x 26) := by rw [IntKind.wrap_i64]; omega
        rw [← clp_if] at hcl
        obtain ⟨mn, hmn⟩ : ∃ q, (if x 26 < a k then x 26 else a k) = q := ⟨_, rfl⟩
        rw [hmn] at hcl
        go_upto_region 15 with fail
        clear r0 r1 r2 r3 fz x26 wn l26 h26 hcl hmn
        obtain ⟨kT2, kb⟩ := tick_row (d0 := .int .i64 cl) kT
        replace S3 := Lib.hid (lc_but S3.out kb zD.out uD.out nT.out)
        replace K3 := Lib.hid (lc_but K3.out kb zD.out uD.out nT2.out)
        replace kG := but_row kb (fun e => nDG.out e.symm) kG
        have hz : (y8.setCell ⟨D, 0, none⟩ (.int .i64 cl)).heap.size = y8.heap.size := by simp
        rw [← hz] at gl9
        replace kT := kT2
        clear kT2 kb hz
        generalize y8.setCell ⟨D, 0, none⟩ (.int .i64 cl) = y9 at *
        obtain ⟨r, hr, wr⟩ := rem_in n0 la
        have wn : IntKind.i64.wrap n = n := by rw [IntKind.wrap_i64]; omega
        have wl : IntKind.i64.wrap ((len : Int) + 1) = (len : Int) + 1 := by rw [IntKind.wrap_i64]; omega
        have l0 : ((len : Int) + 1) ≠ 0 := by omega
        by_cases kr : (k : Int) = r
        · have kq : ((k : Int) == r) = true := beq_iff_eq.2 kr
          clear kr
          go_upto_region 16 with fail
          go_wp2_with fail
          refine (chcopy_any b2 f2 g2 h2 x C cn cg _ K3.out.c K3.out.t).mono ?_
          rintro e_ y10 ⟨n2, f3, g3, v2, rfl, cc, i0, i1, i2, i3, hb⟩
          have oc := ow_cop i0 i1 i2 i3
          have lT := (Array.getElem?_eq_some_iff.1 kT).1
          have lG := (Array.getElem?_eq_some_iff.1 kG).1
          replace nT2 : Hid (¬ Ow n2 f3 g3 v2 D) := Lib.hid (fun e => by have := oc _ e; omega)
          replace nG : Hid (¬ Ow n2 f3 g3 v2 g9) := Lib.hid (fun e => by have := oc _ e; omega)
          replace dj := Lib.hid (dj_new (ch_own S3.out.c) oc)
          replace K3 := Lib.hid (lc_copy K3.out.b K3.out.t cc i0 i1 i2 i3 hb)
          replace S3 := Lib.hid (lc_keep S3.out hb)
          replace kT := row_keep hb kT
          replace kG := row_keep hb kG
          clear cc i0 i1 i2 i3 hb oc lT lG
          obtain ⟨r0, r1, r2, r3⟩ := row4 kT
          obtain ⟨c0, c1, c2, c3, c4, c5, c6, c7, c8⟩ := row9 kG
          have S0 := And.intro r0 (And.intro r1 (And.intro r2 (And.intro r3 (And.intro c0 (And.intro c1 (And.intro c2 (And.intro c3 (And.intro c4 (And.intro c5 (And.intro c6 (And.intro c7 c8)))))))))))
          clear r0 r1 r2 r3 c0 c1 c2 c3 c4 c5 c6 c7 c8 kT kG
          have SD := Lib.hid (lc_keep K3.out (b_drew (Below.refl _ _)))
          clear K3
          go_upto_region 17 with fail
          go_region_held3 (fun u => u.cell? ⟨D, 0, none⟩ = some (.int .i64 cl) ∧ u.cell? ⟨D, 1, none⟩ = some (.bool false) ∧ u.cell? ⟨D, 2, none⟩ = some (.int .i64 0) ∧ u.cell? ⟨D, 3, none⟩ = some (.bool (s k)) ∧ u.cell? ⟨g9, 0, none⟩ = some (.int .i64 m9) ∧ u.cell? ⟨g9, 1, none⟩ = some (.bool vd) ∧ u.cell? ⟨g9, 2, none⟩ = some (.bool ac) ∧ u.cell? ⟨g9, 3, none⟩ = some (.bool rf) ∧ u.cell? ⟨g9, 4, none⟩ = some (.bool ho) ∧ u.cell? ⟨g9, 5, none⟩ = some (.bool gr) ∧ u.cell? ⟨g9, 6, none⟩ = some (.int .i64 al) ∧ u.cell? ⟨g9, 7, none⟩ = some (.int .i64 sp) ∧ u.cell? ⟨g9, 8, none⟩ = some (.int .i64 bi)) (first | assumption | exact s13_keep (o := 0) (by assumption) (b_drew (Below.refl _ _))) (first | (go_at_call 10; refine (cs2 _ _ _ _ _ SD.out.c SD.out.t).mono ?_; rintro e_ y11 ⟨rfl, h5, c5_, q5, k5⟩; have S5 := s13_chs (o := 0) k5 nT2.out nG.out (s13_keep (o := 0) S0 (b_drew (Below.refl _ _)))))
          have S6 := Lib.hid (lc_step SD.out c5_ q5 k5)
          have S3d := Lib.hid (lc_keep S3.out (b_drew (Below.refl _ _)))
          have K6 := Lib.hid (lc_dj S3d.out SD.out k5 dj.out)
          have dj6 := Lib.hid (dj_sym (dj_1 (dj_sym dj.out) q5 (fun q hq => ch_own S3d.out.c q hq)))
          clear S0 S5 SD S3 S3d cs2 c5_ q5 k5 te dj nT nT2 nG nDG gl9 zD uD
          go_wp2
          refine ⟨⟨k + 1, n2, f3, g3, h3, h5, hlt.out, by go_num, rfl, by rw [eI.out]; exact K6, by rw [eI.out]; exact S6, dj6⟩, ?_⟩
          simp only [intOf]
          have := hlt.out
          omega
        · have kq : ((k : Int) == r) = false := beq_eq_false_iff_ne.2 kr
          clear kr
          obtain ⟨r0, r1, r2, r3⟩ := row4 kT
          obtain ⟨c0, c1, c2, c3, c4, c5, c6, c7, c8⟩ := row9 kG
          have S0 := And.intro r0 (And.intro r1 (And.intro r2 (And.intro r3 (And.intro c0 (And.intro c1 (And.intro c2 (And.intro c3 (And.intro c4 (And.intro c5 (And.intro c6 (And.intro c7 c8)))))))))))
          clear r0 r1 r2 r3 c0 c1 c2 c3 c4 c5 c6 c7 c8 kT kG
          have SD := Lib.hid (lc_keep K3.out (b_drew (Below.refl _ _)))
          clear K3
          go_upto_region 17 with fail
          go_region_held3 (fun u => u.cell? ⟨D, 0, none⟩ = some (.int .i64 cl) ∧ u.cell? ⟨D, 1, none⟩ = some (.bool false) ∧ u.cell? ⟨D, 2, none⟩ = some (.int .i64 0) ∧ u.cell? ⟨D, 3, none⟩ = some (.bool (s k)) ∧ u.cell? ⟨g9, 0, none⟩ = some (.int .i64 m9) ∧ u.cell? ⟨g9, 1, none⟩ = some (.bool vd) ∧ u.cell? ⟨g9, 2, none⟩ = some (.bool ac) ∧ u.cell? ⟨g9, 3, none⟩ = some (.bool rf) ∧ u.cell? ⟨g9, 4, none⟩ = some (.bool ho) ∧ u.cell? ⟨g9, 5, none⟩ = some (.bool gr) ∧ u.cell? ⟨g9, 6, none⟩ = some (.int .i64 al) ∧ u.cell? ⟨g9, 7, none⟩ = some (.int .i64 sp) ∧ u.cell? ⟨g9, 8, none⟩ = some (.int .i64 bi)) (first | assumption | exact s13_keep (o := 0) (by assumption) (b_drew (Below.refl _ _))) (first | (go_at_call 10; refine (cs2 _ _ _ _ _ SD.out.c SD.out.t).mono ?_; rintro e_ y11 ⟨rfl, h5, c5_, q5, k5⟩; have S5 := s13_chs (o := 0) k5 nT2.out nG.out (s13_keep (o := 0) S0 (b_drew (Below.refl _ _)))))
          have S6 := Lib.hid (lc_step SD.out c5_ q5 k5)
          have S3d := Lib.hid (lc_keep S3.out (b_drew (Below.refl _ _)))
          have K6 := Lib.hid (lc_dj S3d.out SD.out k5 dj.out)
          have dj6 := Lib.hid (dj_sym (dj_1 (dj_sym dj.out) q5 (fun q hq => ch_own S3d.out.c q hq)))
          clear S0 S5 SD S3 S3d cs2 c5_ q5 k5 te dj nT nT2 nG nDG gl9 zD uD
          go_wp2
          refine ⟨⟨k + 1, b2, f2, g2, h3, h5, hlt.out, by go_num, rfl, by rw [eI.out]; exact K6, by rw [eI.out]; exact S6, dj6⟩, ?_⟩
          simp only [intOf]
          have := hlt.out
          omega
      · obtain ⟨rfl, rfl⟩ := hq.out.1 rfl
        clear hq
        obtain ⟨r0, r1, r2, r3⟩ := row4 kT
        have fz := frozen_of_row _ _ 0 _ _ kT
        have x26 : y7.cell? ⟨w.heap.size, 26, none⟩ = some (.int .i64 (x 26)) := (cell_of_row _ _ 26 _ _ _ (cr_keep S3.out.b cr1.out)).trans rfl
        obtain ⟨l26, h26⟩ := cks_clip ck
        have wn : IntKind.i64.wrap (-(x 26)) = -(x 26) := by rw [IntKind.wrap_i64]; omega
        rw [← clp_if] at hcl
        obtain ⟨mn, hmn⟩ : ∃ q, (if x 26 < a k then x 26 else a k) = q := ⟨_, rfl⟩
        rw [hmn] at hcl
        go_upto_region 15 with fail
        clear r0 r1 r2 r3 fz x26 wn l26 h26 hcl hmn
        obtain ⟨kT2, kb⟩ := tick_row (d0 := .int .i64 cl) kT
        replace S3 := Lib.hid (lc_but S3.out kb zD.out uD.out nT.out)
        replace K3 := Lib.hid (lc_but K3.out kb zD.out uD.out nT2.out)
        replace kG := but_row kb (fun e => nDG.out e.symm) kG
        have hz : (y7.setCell ⟨D, 0, none⟩ (.int .i64 cl)).heap.size = y7.heap.size := by simp
        rw [← hz] at gl9
        replace kT := kT2
        clear kT2 kb hz
        generalize y7.setCell ⟨D, 0, none⟩ (.int .i64 cl) = y9 at *
        obtain ⟨r, hr, wr⟩ := rem_in n0 la
        have wn : IntKind.i64.wrap n = n := by rw [IntKind.wrap_i64]; omega
        have wl : IntKind.i64.wrap ((len : Int) + 1) = (len : Int) + 1 := by rw [IntKind.wrap_i64]; omega
        have l0 : ((len : Int) + 1) ≠ 0 := by omega
        by_cases kr : (k : Int) = r
        · have kq : ((k : Int) == r) = true := beq_iff_eq.2 kr
          clear kr
          go_upto_region 16 with fail
          go_wp2_with fail
          refine (chcopy_any b2 f2 g2 h2 x C cn cg _ K3.out.c K3.out.t).mono ?_
          rintro e_ y10 ⟨n2, f3, g3, v2, rfl, cc, i0, i1, i2, i3, hb⟩
          have oc := ow_cop i0 i1 i2 i3
          have lT := (Array.getElem?_eq_some_iff.1 kT).1
          have lG := (Array.getElem?_eq_some_iff.1 kG).1
          replace nT2 : Hid (¬ Ow n2 f3 g3 v2 D) := Lib.hid (fun e => by have := oc _ e; omega)
          replace nG : Hid (¬ Ow n2 f3 g3 v2 g9) := Lib.hid (fun e => by have := oc _ e; omega)
          replace dj := Lib.hid (dj_new (ch_own S3.out.c) oc)
          replace K3 := Lib.hid (lc_copy K3.out.b K3.out.t cc i0 i1 i2 i3 hb)
          replace S3 := Lib.hid (lc_keep S3.out hb)
          replace kT := row_keep hb kT
          replace kG := row_keep hb kG
          clear cc i0 i1 i2 i3 hb oc lT lG
          obtain ⟨r0, r1, r2, r3⟩ := row4 kT
          obtain ⟨c0, c1, c2, c3, c4, c5, c6, c7, c8⟩ := row9 kG
          have S0 := And.intro r0 (And.intro r1 (And.intro r2 (And.intro r3 (And.intro c0 (And.intro c1 (And.intro c2 (And.intro c3 (And.intro c4 (And.intro c5 (And.intro c6 (And.intro c7 c8)))))))))))
          clear r0 r1 r2 r3 c0 c1 c2 c3 c4 c5 c6 c7 c8 kT kG
          have SD := Lib.hid (lc_keep K3.out (b_drew (Below.refl _ _)))
          clear K3
          go_upto_region 17 with fail
          go_region_held3 (fun u => u.cell? ⟨D, 0, none⟩ = some (.int .i64 cl) ∧ u.cell? ⟨D, 1, none⟩ = some (.bool true) ∧ u.cell? ⟨D, 2, none⟩ = some (.int .i64 pp) ∧ u.cell? ⟨D, 3, none⟩ = some (.bool (s k)) ∧ u.cell? ⟨g9, 0, none⟩ = some (.int .i64 m9) ∧ u.cell? ⟨g9, 1, none⟩ = some (.bool vd) ∧ u.cell? ⟨g9, 2, none⟩ = some (.bool ac) ∧ u.cell? ⟨g9, 3, none⟩ = some (.bool rf) ∧ u.cell? ⟨g9, 4, none⟩ = some (.bool ho) ∧ u.cell? ⟨g9, 5, none⟩ = some (.bool gr) ∧ u.cell? ⟨g9, 6, none⟩ = some (.int .i64 al) ∧ u.cell? ⟨g9, 7, none⟩ = some (.int .i64 sp) ∧ u.cell? ⟨g9, 8, none⟩ = some (.int .i64 bi)) (first | assumption | exact s13_keep (o := 0) (by assumption) (b_drew (Below.refl _ _))) (first | (go_at_call 10; refine (cs2 _ _ _ _ _ SD.out.c SD.out.t).mono ?_; rintro e_ y11 ⟨rfl, h5, c5_, q5, k5⟩; have S5 := s13_chs (o := 0) k5 nT2.out nG.out (s13_keep (o := 0) S0 (b_drew (Below.refl _ _)))))
          have S6 := Lib.hid (lc_step SD.out c5_ q5 k5)
          have S3d := Lib.hid (lc_keep S3.out (b_drew (Below.refl _ _)))
          have K6 := Lib.hid (lc_dj S3d.out SD.out k5 dj.out)
          have dj6 := Lib.hid (dj_sym (dj_1 (dj_sym dj.out) q5 (fun q hq => ch_own S3d.out.c q hq)))
          clear S0 S5 SD S3 S3d cs2 c5_ q5 k5 te dj nT nT2 nG nDG gl9 zD uD
          go_wp2
          refine ⟨⟨k + 1, n2, f3, g3, h3, h5, hlt.out, by go_num, rfl, by rw [eI.out]; exact K6, by rw [eI.out]; exact S6, dj6⟩, ?_⟩
          simp only [intOf]
          have := hlt.out
          omega
        · have kq : ((k : Int) == r) = false := beq_eq_false_iff_ne.2 kr
          clear kr
          obtain ⟨r0, r1, r2, r3⟩ := row4 kT
          obtain ⟨c0, c1, c2, c3, c4, c5, c6, c7, c8⟩ := row9 kG
          have S0 := And.intro r0 (And.intro r1 (And.intro r2 (And.intro r3 (And.intro c0 (And.intro c1 (And.intro c2 (And.intro c3 (And.intro c4 (And.intro c5 (And.intro c6 (And.intro c7 c8)))))))))))
          clear r0 r1 r2 r3 c0 c1 c2 c3 c4 c5 c6 c7 c8 kT kG
          have SD := Lib.hid (lc_keep K3.out (b_drew (Below.refl _ _)))
          clear K3
          go_upto_region 17 with fail
          go_region_held3 (fun u => u.cell? ⟨D, 0, none⟩ = some (.int .i64 cl) ∧ u.cell? ⟨D, 1, none⟩ = some (.bool true) ∧ u.cell? ⟨D, 2, none⟩ = some (.int .i64 pp) ∧ u.cell? ⟨D, 3, none⟩ = some (.bool (s k)) ∧ u.cell? ⟨g9, 0, none⟩ = some (.int .i64 m9) ∧ u.cell? ⟨g9, 1, none⟩ = some (.bool vd) ∧ u.cell? ⟨g9, 2, none⟩ = some (.bool ac) ∧ u.cell? ⟨g9, 3, none⟩ = some (.bool rf) ∧ u.cell? ⟨g9, 4, none⟩ = some (.bool ho) ∧ u.cell? ⟨g9, 5, none⟩ = some (.bool gr) ∧ u.cell? ⟨g9, 6, none⟩ = some (.int .i64 al) ∧ u.cell? ⟨g9, 7, none⟩ = some (.int .i64 sp) ∧ u.cell? ⟨g9, 8, none⟩ = some (.int .i64 bi)) (first | assumption | exact s13_keep (o := 0) (by assumption) (b_drew (Below.refl _ _))) (first | (go_at_call 10; refine (cs2 _ _ _ _ _ SD.out.c SD.out.t).mono ?_; rintro e_ y11 ⟨rfl, h5, c5_, q5, k5⟩; have S5 := s13_chs (o := 0) k5 nT2.out nG.out (s13_keep (o := 0) S0 (b_drew (Below.refl _ _)))))
          have S6 := Lib.hid (lc_step SD.out c5_ q5 k5)
          have S3d := Lib.hid (lc_keep S3.out (b_drew (Below.refl _ _)))
          have K6 := Lib.hid (lc_dj S3d.out SD.out k5 dj.out)
          have dj6 := Lib.hid (dj_sym (dj_1 (dj_sym dj.out) q5 (fun q hq => ch_own S3d.out.c q hq)))
          clear S0 S5 SD S3 S3d cs2 c5_ q5 k5 te dj nT nT2 nG nDG gl9 zD uD
          go_wp2
          refine ⟨⟨k + 1, b2, f2, g2, h3, h5, hlt.out, by go_num, rfl, by rw [eI.out]; exact K6, by rw [eI.out]; exact S6, dj6⟩, ?_⟩
          simp only [intOf]
          have := hlt.out
          omega
    · have hlk : ¬ (k : Int) < len := by omega
      have T9 := S.out.t
      have E9 := S.out.b
      clear S S2 dj
      go_wp2_with fail
      refine (fixed_cha _ T9).mono ?_
      rintro e_ y9 ⟨rfl, hb9⟩
      go_wp2
      go_ret
      exact ⟨rfl, b_trans E1.out (b_trans E9 hb9)⟩
end Go.Proofs.YtjifkmldigemkaaGreatDoor
