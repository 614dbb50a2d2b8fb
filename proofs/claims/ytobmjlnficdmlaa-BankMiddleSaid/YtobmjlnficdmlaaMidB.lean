/- Layer 22: the program's Middle. -/
import Derived.Test.YtobmjlnficdmlaaTapQ
import Derived.Test.YtobmjlnficdmlaaInts
import Derived.Test.YtobmjlnficdmlaaMidA
import Derived.Test.YtobmjlnficdmlaaShelf
import Derived.Sort.OwnSortedInts
namespace Go.Proofs.Ytobmjlnficdmlaa
open Go.RowKit Go.Shelf Go.Joins Go.Maps Go.Sort

theorem td_new (w : World) (t : Td) : Below w.heap.size w (w.alloc (Obj.cells #[.int .i64 t.m, .bool t.v, .bool t.c, .bool t.r, .bool t.d, .bool t.g, .int .i64 t.al, .int .i64 t.sp, .int .i64 t.bi] 29)) := b_alloc (Below.refl _ _)
/-- The numbers xs in a row of its own. -/
def OI (w : World) (B : Nat) (v : Value) (l : List Int) : Prop := w.ownsRow B 2 1 v l.length (l.map (Value.int .i64))
theorem oi_nil {w : World} {B : Nat} : OI w B (.slice none 0 0) [] := World.ownsRow_nil _ _ _ _
theorem oI_keep {w w' : World} {B : Nat} {v : Value} {l : List Int} (hb : Below w.heap.size w w') (h : OI w B v l) : OI w' B v l := oi_keep hb h
theorem oi_cell (l : List Int) : ∀ u ∈ l.map (Value.int .i64), u.oneCell' = true := fun u hu => by
  obtain ⟨x, _, rfl⟩ := List.mem_map.1 hu
  rfl
theorem oi_one {w : World} {g : Nat} {t : TypeId} {x : Int} (hg : w.heap.size = g) : ∀ j u, ([Value.int .i64 x] : List Value)[j]? = some u → (w.alloc (Obj.cells #[.int .i64 x] t)).cell? ((⟨g, 0, none⟩ : Addr).add j) = some u := fun j u h => by
  rw [add_off, Nat.zero_add, ← hg, cell_of_row _ _ j _ _ _ (heap_alloc_last w _)]
  simpa using h
theorem oi_new {w : World} {B : Nat} {v : Value} {l : List Int} {x : Int} (h : w.ownsRow B 2 1 v (l.length + 1) (l.map (Value.int .i64) ++ [.int .i64 x])) : OI w B v (l ++ [x]) := by
  unfold OI
  rw [List.length_append, List.map_append]
  exact h
/-- A row that is not empty. -/
theorem oi_some {w : World} {B : Nat} {v : Value} {l : List Int} (h : OI w B v l) (hl : 0 < l.length) : ∃ g cap cur, v = .slice (some ⟨g, 0, none⟩) l.length cap ∧ B ≤ g ∧ w.heap[g]? = some (.cells cur 2 (0, 0)) ∧ l.length ≤ cap ∧ cap ≤ maxLen ∧ cur.size = cap * 1 ∧ cur.toList.take (l.length * 1) = l.map (Value.int .i64) := by
  rcases h.2 with ⟨_, e⟩ | ⟨g, cap, cur, h0, h1, h2, h3, h4, h5, h6⟩
  · omega
  · exact ⟨g, cap, cur, h0, h1, h2, h3, h4, h5, h6⟩
theorem oi_srt {w : World} {B : Nat} {v : Value} {l : List Int} (h : w.ownsRow B 2 1 v l.length ((srt l).map (Value.int .i64))) : OI w B v (srt l) := by
  unfold OI
  rw [srt_len]
  exact h
theorem oi_at {w : World} {B g cap i n : Nat} {l : List Int} {x : Int} (h : OI w B (.slice (some ⟨g, 0, none⟩) n cap) l) (hi : l[i]? = some x) : w.cell? ⟨g, i, none⟩ = some (.int .i64 x) := by
  have hl : i < l.length := (List.getElem?_eq_some_iff.1 hi).1
  rcases h.2 with ⟨e, _⟩ | ⟨g', cap', cur, e, _, h2, h3, _, h5, h6⟩
  · cases e
  · cases e
    have hx : (l.map (Value.int .i64))[i]? = some (.int .i64 x) := by simp [hi]
    rw [← h6, List.getElem?_take_of_lt (by omega)] at hx
    rw [cell_of_row _ _ i _ _ _ h2]
    simpa using hx

set_option maxHeartbeats 4000000 in
set_option maxRecDepth 10000 in
theorem middle_any (l : List Td) (hl : l.length ≤ 1000) (n : Nat) (hn : l.length = n) (sa : Option Addr) (cap : Nat) (w : World) (hc : DS w sa l) :
    Calls Try.prog 5 #[.slice sa n cap] w fun e w' => e = .returned (.tuple #[.int .i64 (mdl (alts l)), .bool (decide (0 < (alts l).length))]) ∧ Below w.heap.size w w' := by
  obtain ⟨i0, hi, hz0, hz1, hz2⟩ := info_whole
  go_enter Try.func5, Try.ntmps5
  go_wp2
  go_loopw [4, 9] (fun bv iv wr => ∃ k : Nat, k ≤ n ∧ iv = .int .i64 k ∧ OI wr w.heap.size bv (alts (l.take k)) ∧ Below w.heap.size w wr) (fun _ iv _ => n - (intOf iv).toNat)
  case atStart => exact ⟨0, Nat.zero_le _, rfl, oi_nil, Below.refl _ _⟩
  case round =>
    obtain ⟨k, hk, rfl, ho, E⟩ := hrel
    by_cases hlt : k < n
    · obtain ⟨t, ht⟩ : ∃ t, l[k]? = some t := ⟨l[k]'(by omega), List.getElem?_eq_getElem _⟩
      obtain ⟨gb, off, rfl, tw⟩ := hc k t ht
      replace tw := tdw_keep E tw
      have hlk : (k : Int) < n := by omega
      have hk0 : (0 : Int) ≤ k := by omega
      have ws : IntKind.i64.wrap ((k : Int) + 1) = (k : Int) + 1 := by rw [IntKind.wrap_i64]; omega
      have ey := Lib.hid (alts_yes (l := l) ht)
      have en := Lib.hid (alts_no (l := l) ht)
      have pl := alts_len (l.take k)
      rw [List.length_take] at pl
      have tn := tdw_new wr t
      have Z := td_new wr t
      have HE := Lib.hid (b_trans E Z)
      have HO := Lib.hid (oI_keep Z ho)
      have hs2 := E.size
      clear hc ho E ht Z
      generalize alts (l.take k) = ys at *
      obtain ⟨tm, tv, tc, tr, td, tg, ta, tsp, tb⟩ := t
      simp only at tw tn ey en HO HE
      obtain ⟨t0, t1, t2, t3, t4, t5, t6, t7, t8⟩ := tw
      obtain ⟨u0, u1, u2, u3, u4, u5, u6, u7, u8⟩ := tn
      cases tv
      · have e := en.out rfl
        clear ey en
        go_wp2
        rw [← e] at HO
        refine ⟨⟨k + 1, by omega, rfl, HO.out, HE.out⟩, ?_⟩
        simp only [intOf]
        omega
      · have e := Lib.hid (ey.out rfl)
        clear ey en
        go_wp2_with (at_builtin; refine wpList_append_own _ rfl _ _ 30 rfl w.heap.size 2 i0 (.int .i64 0) 1 8 Try.underlying30 hi hz0 hz1 hz2 rfl (by decide) _ _ _ rfl (World.ownsRow.alloc HO.out _) ⟨wr.heap.size + 1, 0, none⟩ 1 1 [.int .i64 ta] rfl rfl (oi_one (by simp)) (fun u hu => by simp at hu; subst hu; rfl) (by unfold maxLen; omega) (by omega) (by simp; omega) ?_; intro v1 w3 hown1 hgrow3 _; have HN := Lib.hid (oi_new hown1); have HG := Lib.hid (below_grown (b_alloc HE.out) hgrow3 (oi_part HO.out)); clear hown1 hgrow3)
        rw [← e.out] at HN
        refine ⟨⟨k + 1, by omega, rfl, HN.out, HG.out⟩, ?_⟩
        simp only [intOf]
        omega
    · have hlk : ¬ (k : Int) < n := by omega
      have e : k = n := by omega
      subst e
      rw [List.take_of_length_le (by omega)] at ho
      have al := alts_len l
      have HO := Lib.hid ho
      have HE := Lib.hid E
      have hs2 := E.size
      clear hlt hk hc E
      obtain ⟨ys, hy⟩ : ∃ ys, alts l = ys := ⟨_, rfl⟩
      rw [hy] at ho al
      have hy := Lib.hid hy
      have d1 := fun h => mdl_at (l := ys) h
      have d2 := fun h => mat_lt (l := ys) h
      have dm : mat ys = (ys.length - 1) / 2 := rfl
      generalize mat ys = q at *
      by_cases h0 : ys.length = 0
      · obtain ⟨a, cp, rfl⟩ := oi_form ho
        have hM := Lib.hid (mdl_nil h0)
        have hb := Lib.hid (decide_eq_false (p := 0 < ys.length) (by omega))
        have hz : ((ys.length : Int) == 0) = true := beq_iff_eq.2 (by omega)
        clear d1 d2 ho dm HO
        obtain ⟨m, hm⟩ : ∃ m, ys.length = m := ⟨_, rfl⟩
        rw [hm] at hz h0
        go_wp2
        exact bodyPost_ret (v := .tuple #[.int .i64 0, .bool false]) (by simp [results, Try.results5, go_sem]) rfl ⟨by rw [hM.out], HE.out⟩
      · obtain ⟨g, cp, cur, rfl, r1, r2, r3, r4, r5, r6⟩ := oi_some ho (by omega)
        have hM := Lib.hid (d1 (by omega))
        have hq := d2 (by omega)
        have hb := Lib.hid (decide_eq_true (p := 0 < ys.length) (by omega))
        have hz : ((ys.length : Int) == 0) = false := beq_eq_false_iff_ne.2 (by omega)
        have cs := Try.slices_Sort_int g 0 cp ys wr (holds_of_blockI r2 (by simpa using r6)) (Array.getElem?_eq_some_iff.1 r2).1 (by omega)
        have w1 : IntKind.i64.wrap ((ys.length : Int) - 1) = (ys.length : Int) - 1 := by rw [IntKind.wrap_i64]; omega
        have w2 : ((ys.length : Int) - 1).tdiv 2 = (q : Int) := by rw [Int.tdiv_eq_ediv_of_nonneg (by omega)]; omega
        have q0 : (0 : Int) ≤ q := by omega
        have q1 : (q : Int) < ys.length := by omega
        have RO := Lib.hid (fun os nn => ownsRow_sortedI (w := wr) (n := nn) (os := os) (ss := ys) (ts := srt ys) (srt_len ys) r1 r2 r3 r4 r5)
        have GB := Lib.hid (fun os nn => grownBy_sortedI (w := wr) (g := g) (n := nn) (os := os) (srt ys).toArray)
        have R1 := Lib.hid r1
        clear d1 d2 ho dm HO r1 r2 r3 r4 r5 r6 h0 hq
        go_wp2_with fail
        refine cs.mono ?_
        rintro e y1 ⟨rfl, nn, os, rfl⟩
        have RO1 := oi_srt (RO.out os nn)
        have C := oi_at RO1 hM.out
        have HB := Lib.hid (below_grown HE.out (GB.out os nn) (fun k hk => by cases hk; exact R1.out))
        rw [show (ys.mergeSort fun x y => decide (x ≤ y)) = srt ys from rfl]
        clear RO GB RO1 cs
        generalize grow (putRow (Value.int .i64) (Sort.ahead wr nn) g 0 (srt ys).toArray) os = y1 at *
        obtain ⟨M, hMM⟩ : ∃ M, mdl ys = M := ⟨_, rfl⟩
        rw [hMM] at C
        replace hMM := Lib.hid hMM
        clear hM
        obtain ⟨m, hm⟩ : ∃ m, ys.length = m := ⟨_, rfl⟩
        rw [hm] at hz w1 w2 q1
        rw [hm]
        go_wp2
        exact bodyPost_ret (v := .tuple #[.int .i64 M, .bool true]) (by simp [results, Try.results5, go_sem]) rfl ⟨by rw [hy.out, hMM.out, hb.out], HB.out⟩
end Go.Proofs.Ytobmjlnficdmlaa
