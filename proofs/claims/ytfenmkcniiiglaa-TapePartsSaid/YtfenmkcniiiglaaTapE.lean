/- Layer 21: the program's Put: ticks' bytes. -/
import Derived.Test.YtfenmkcniiiglaaTapD
import Derived.Test.YtfenmkcniiiglaaTick
namespace Go.Proofs.Ytfenmkcniiiglaa
open Go.RowKit Go.Shelf Go.Joins Go.Maps

/-- A slice holds these ticks. -/
def TS (w : World) (sa : Option Addr) (l : List Tk) : Prop := ∀ k t, l[k]? = some t → ∃ gb off, sa = some ⟨gb, off, none⟩ ∧ TW w gb (off + k * 4) t.a t.h t.p t.s
theorem ts_keep {w w' : World} (hb : Below w.heap.size w w') {sa : Option Addr} {l : List Tk} (h : TS w sa l) : TS w' sa l := fun k x hk => by
  obtain ⟨gb, off, e, c⟩ := h k x hk
  exact ⟨gb, off, e, tw_keep hb c⟩
theorem mk_fb (t : Tk) : (mk (fun k => if k = 0 then t.h else t.s) 2 : Int) = fb t := by
  obtain ⟨a, h, p, s⟩ := t
  cases h <;> cases s <;> rfl
theorem two_bools {w : World} {b : Nat} {x y : Bool} {t : TypeId} (hb : w.heap.size = b) : ∀ k, k < 2 → ∃ gb off, (some ⟨b, 0, none⟩ : Option Addr) = some ⟨gb, off, none⟩ ∧ (w.alloc (Obj.cells #[.bool x, .bool y] t)).cell? ⟨gb, off + k, none⟩ = some (.bool (if k = 0 then x else y)) := fun k hk => by
  subst hb
  refine ⟨_, 0, rfl, ?_⟩
  rw [Nat.zero_add, cell_of_row _ _ k _ _ _ (heap_alloc_last w _)]
  have : k = 0 ∨ k = 1 := by omega
  rcases this with rfl | rfl <;> rfl
theorem own_new {w : World} {B g : Nat} {v : Value} {l : List Int} (h : OB w B v l) (hg : w.heap.size ≤ g) : v.ownBlock ≠ some g := fun e => by
  have := own_to h g e
  omega
theorem num_row {w : World} {B : Nat} {v : Value} {l : List Int} {x : Int} {t : TypeId} (h : OB w B v l) : ∀ k, k < 1 → ∃ gb off, (some ⟨w.heap.size, 0, none⟩ : Option Addr) = some ⟨gb, off, none⟩ ∧ v.ownBlock ≠ some gb ∧ (w.alloc (Obj.cells #[.int .i64 x] t)).cell? ⟨gb, off + k, none⟩ = some (.int .i64 x) := fun k hk => by
  refine ⟨_, 0, rfl, own_new h (Nat.le_refl _), ?_⟩
  obtain rfl : k = 0 := by omega
  rw [Nat.zero_add, cell_of_row _ _ 0 _ _ _ (heap_alloc_last w _)]
  rfl
theorem gr_own {w w' : World} {v v' : Value} {g : Nat} (G : GR w w' v v') (hn : v.ownBlock ≠ some g) (hg : g < w.heap.size) : v'.ownBlock ≠ some g := fun e => by
  rcases G.2 with h | ⟨q, h, hq⟩
  · exact hn (h.symm.trans e)
  · rw [h] at e
    injection e with e
    omega
theorem tw_gr {w w' : World} {v v' : Value} {g o : Nat} {a : Int} {h : Bool} {p : Int} {s : Bool} (G : GR w w' v v') (hn : v.ownBlock ≠ some g) (t : TW w g o a h p s) : TW w' g o a h p s :=
  ⟨gr_cell G hn t.1, gr_cell G hn t.2.1, gr_cell G hn t.2.2.1, gr_cell G hn t.2.2.2⟩
theorem nm_one (x : Int) : nm (fun _ => x) 1 = num x := by simp [nm]
theorem take_one {l : List Tk} {k : Nat} {t : Tk} (h : l[k]? = some t) : l.take (k + 1) = l.take k ++ [t] := by rw [List.take_add_one, h]; rfl

set_option maxHeartbeats 4000000 in
set_option maxRecDepth 10000 in
theorem put_any (l : List Tk) (hl : l.length ≤ 10000) (sa : Option Addr) (cap : Nat) (w : World) (hc : TS w sa l) :
    Calls Try.prog 8 #[.slice sa l.length cap] w fun e w' => ∃ v, e = .returned (.tuple #[v, .int .i64 (pe l)]) ∧ OB w' w.heap.size v (px l) ∧ Below w.heap.size w w' := by
  obtain ⟨i0, hi, hz0, hz1, hz2⟩ := info_u8
  generalize hn : l.length = n at *
  go_enter Try.func8, Try.ntmps8
  go_wp2
  go_loopw [4, 9] (fun bv iv wr => ∃ k : Nat, k ≤ n ∧ iv = .int .i64 k ∧ OB wr w.heap.size bv (pb (l.take k)) ∧ (l.take k).all may = true ∧ Below w.heap.size w wr) (fun _ iv _ => n - (intOf iv).toNat)
  case atStart => exact ⟨0, Nat.zero_le _, rfl, ob_nil, rfl, Below.refl _ _⟩
  case round =>
    obtain ⟨k, hk, rfl, ho, ha, E⟩ := hrel
    by_cases hlt : k < n
    · obtain ⟨t, ht⟩ : ∃ t, l[k]? = some t := ⟨l[k]'(by omega), List.getElem?_eq_getElem _⟩
      obtain ⟨gb, off, rfl, tw⟩ := hc k t ht
      replace tw := tw_keep E tw
      have hlk : (k : Int) < n := by omega
      have hk0 : (0 : Int) ≤ k := by omega
      have ws : IntKind.i64.wrap ((k : Int) + 1) = (k : Int) + 1 := by rw [IntKind.wrap_i64]; omega
      have te := take_one ht
      have tl := tb_len t
      have pl := pb_len (l.take k)
      rw [List.length_take] at pl
      have cm := fun sa w' h => marks_any (fun k => if k = 0 then t.h else t.s) sa 2 2 (by decide) w' h
      rw [mk_fb] at cm
      have tn := tw_new (w := wr) (a := t.a) (h := t.h) (p := t.p) (s := t.s) (t := 48)
      have Z : Below wr.heap.size wr (wr.alloc (Obj.cells #[.int .i64 t.a, .bool t.h, .int .i64 t.p, .bool t.s] 48)) := b_alloc (Below.refl _ _)
      by_cases hm : may t = true
      · have e0 : Hid (pb (l.take (k + 1)) = pb (l.take k) ++ tb t) := Lib.hid (by rw [te, pb_snoc])
        have e1 : Hid ((l.take (k + 1)).all may = true) := Lib.hid (by rw [te, List.all_append, ha]; simp [hm])
        have HO := Lib.hid ho
        clear hc te ha ho
        generalize pb (l.take k) = ys at *
        obtain ⟨a, h, p, s⟩ := t
        simp only at tw tn Z cm
        obtain ⟨t0, t1, t2, t3⟩ := tw
        cases h
        · have hp : p = 0 := by simpa [may] using hm
          subst hp
          generalize hf : fb ⟨a, false, 0, s⟩ = f at *
          go_wp2_with fail
          refine (cm _ _ (two_bools (by simp))).mono ?_
          rintro e y1 ⟨rfl, hb⟩
          have HZ := Lib.hid (b_trans (b_alloc Z) hb)
          have HT := Lib.hid (tw_keep hb (tw_keep (b_alloc (Below.refl _ _)) tn))
          have hs1 := HZ.out.size
          have hg1 : wr.heap.size < y1.heap.size := World.block_lt_of_cell? y1 _ HT.out.1
          have HE := Lib.hid E
          have hs2 := E.size
          clear hb cm tn Z t0 t1 t2 t3 E
          go_wp2_with (at_builtin; refine wpList_append_own_at _ rfl _ _ 24 rfl w.heap.size 5 i0 (.int .u8 0) 1 1 Try.underlying24 hi hz0 hz1 hz2 rfl (by decide) _ _ _ rfl ((ob_keep HZ.out HO.out).alloc _) ⟨y1.heap.size, 0, none⟩ 1 1 (us [f]) rfl rfl (cell_one_new _ _ _) us_cell (by simp [maxLen]; omega) (by simp; omega) (by simp; omega) ?_; intro v1 w3 hown1 hgrow3 _ hat3; have HN := Lib.hid (ob_grow hown1 rfl); have HG := Lib.hid (gr_trans (gr_below HZ.out) (gr_app (b_alloc (Below.refl _ _)) hgrow3 hat3)); have hv1 := gr_own (gr_app (b_alloc (Below.refl _ _)) hgrow3 hat3) (own_new HO.out (Nat.le_refl _)) hg1; replace HT := Lib.hid (tw_gr (gr_app (b_alloc (Below.refl _ _)) hgrow3 hat3) (own_new HO.out (Nat.le_refl _)) HT.out); clear hown1 hgrow3 hat3; obtain ⟨q0, q1, q2, q3⟩ := HT.out)
          refine (numbers_any w.heap.size v1 (ys ++ [f]) (fun _ => a) _ 1 1 (by simp; omega) _ (by have := gr_size HG.out; simp; omega) (HN.out.alloc _) (num_row HN.out)).mono ?_
          rintro e w4 ⟨v2, rfl, ho2, G2⟩
          rw [nm_one] at ho2
          replace G2 := gr_trans (gr_below (b_alloc (Below.refl _ _))) G2
          have HG2 := Lib.hid (gr_trans HG.out G2)
          replace HT := Lib.hid (tw_gr G2 hv1 HT.out)
          clear q0 q1 q2 q3 G2
          obtain ⟨q0, q1, q2, q3⟩ := HT.out
          have HF := Lib.hid ho2
          have HH := Lib.hid hf
          clear ho2 hf
          go_wp2
          refine ⟨⟨k + 1, by omega, rfl, by rw [e0.out, tb, HH.out]; simpa using HF.out, e1.out, below_gr HE.out HG2.out (own_from HO.out)⟩, ?_⟩
          simp only [intOf]
          omega
        · clear hm
          generalize hf : fb ⟨a, true, p, s⟩ = f at *
          go_wp2_with fail
          refine (cm _ _ (two_bools (by simp))).mono ?_
          rintro e y1 ⟨rfl, hb⟩
          have HZ := Lib.hid (b_trans (b_alloc Z) hb)
          have HT := Lib.hid (tw_keep hb (tw_keep (b_alloc (Below.refl _ _)) tn))
          have hs1 := HZ.out.size
          have hg1 : wr.heap.size < y1.heap.size := World.block_lt_of_cell? y1 _ HT.out.1
          have HE := Lib.hid E
          have hs2 := E.size
          clear hb cm tn Z t0 t1 t2 t3 E
          go_wp2_with (at_builtin; refine wpList_append_own_at _ rfl _ _ 24 rfl w.heap.size 5 i0 (.int .u8 0) 1 1 Try.underlying24 hi hz0 hz1 hz2 rfl (by decide) _ _ _ rfl ((ob_keep HZ.out HO.out).alloc _) ⟨y1.heap.size, 0, none⟩ 1 1 (us [f]) rfl rfl (cell_one_new _ _ _) us_cell (by simp [maxLen]; omega) (by simp; omega) (by simp; omega) ?_; intro v1 w3 hown1 hgrow3 _ hat3; have HN := Lib.hid (ob_grow hown1 rfl); have HG := Lib.hid (gr_trans (gr_below HZ.out) (gr_app (b_alloc (Below.refl _ _)) hgrow3 hat3)); have hv1 := gr_own (gr_app (b_alloc (Below.refl _ _)) hgrow3 hat3) (own_new HO.out (Nat.le_refl _)) hg1; replace HT := Lib.hid (tw_gr (gr_app (b_alloc (Below.refl _ _)) hgrow3 hat3) (own_new HO.out (Nat.le_refl _)) HT.out); clear hown1 hgrow3 hat3; obtain ⟨q0, q1, q2, q3⟩ := HT.out)
          refine (numbers_any w.heap.size v1 (ys ++ [f]) (fun _ => a) _ 1 1 (by simp; omega) _ (by have := gr_size HG.out; simp; omega) (HN.out.alloc _) (num_row HN.out)).mono ?_
          rintro e w4 ⟨v2, rfl, ho2, G2⟩
          rw [nm_one] at ho2
          replace G2 := gr_trans (gr_below (b_alloc (Below.refl _ _))) G2
          have HG2 := Lib.hid (gr_trans HG.out G2)
          replace HT := Lib.hid (tw_gr G2 hv1 HT.out)
          clear q0 q1 q2 q3 G2
          obtain ⟨q0, q1, q2, q3⟩ := HT.out
          have HF := Lib.hid ho2
          have HH := Lib.hid hf
          clear ho2 hf
          go_wp2_with fail
          refine (numbers_any w.heap.size v2 (ys ++ [f] ++ num a) (fun _ => p) _ 1 1 (by simp [num_len]; omega) _ (by have := gr_size HG2.out; simp; omega) (HF.out.alloc _) (num_row HF.out)).mono ?_
          rintro e w5 ⟨v3, rfl, ho3, G3⟩
          rw [nm_one] at ho3
          have HG3 := Lib.hid (gr_trans HG2.out (gr_trans (gr_below (b_alloc (Below.refl _ _))) G3))
          have HI := Lib.hid ho3
          clear ho3 G3 q0 q1 q2 q3
          go_wp2
          refine ⟨⟨k + 1, by omega, rfl, by rw [e0.out, tb, HH.out]; simpa using HI.out, e1.out, below_gr HE.out HG3.out (own_from HO.out)⟩, ?_⟩
          simp only [intOf]
          omega
      · have HX : Hid (px l = [] ∧ pe l = 1) := Lib.hid (by
          have hn : ¬ l.all may = true := fun h => hm (List.all_eq_true.1 h t (List.mem_of_getElem? ht))
          exact ⟨by rw [px, if_neg hn], by rw [pe, if_neg hn]⟩)
        clear hc te ha ho cm tl pl ht
        obtain ⟨a, h, p, s⟩ := t
        simp only at tw tn Z
        obtain ⟨t0, t1, t2, t3⟩ := tw
        cases h
        · have hp : ¬ p = 0 := by simpa [may] using hm
          clear hm
          go_wp2
          refine bodyPost_ret (v := .tuple #[.slice none 0 0, .int .i64 1]) (by simp [results, Try.results8, go_sem]) rfl ⟨_, by rw [HX.out.2], by rw [HX.out.1]; exact ob_nil, b_trans E Z⟩
        · exact absurd rfl hm
    · have hlk : ¬ (k : Int) < n := by omega
      have e : k = n := by omega
      subst e
      rw [List.take_of_length_le (by omega)] at ho ha
      have HX : Hid (px l = pb l ∧ pe l = 0) := Lib.hid ⟨by rw [px, if_pos ha], by rw [pe, if_pos ha]⟩
      clear hlt hk hc ha
      go_wp2
      exact bodyPost_ret (v := .tuple #[u4, .int .i64 0]) (by simp [results, Try.results8, go_sem]) rfl ⟨_, by rw [HX.out.2], by rw [HX.out.1]; exact ho, E⟩
end Go.Proofs.Ytfenmkcniiiglaa
