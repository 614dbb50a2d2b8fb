/- Layer 21: what was told, in memory; the program's bytes of it. -/
import Derived.Test.YtfenmkcniiiglaaTapE
import Derived.Test.YtfenmkcniiiglaaRegion
namespace Go.Proofs.Ytfenmkcniiiglaa
open Go.RowKit Go.Shelf Go.Joins Go.Maps

/-- Cells off .. hold what was told. -/
structure TDW (w : World) (g o : Nat) (t : Td) : Prop where
  c0 : w.cell? ⟨g, o, none⟩ = some (.int .i64 t.m)
  c1 : w.cell? ⟨g, o + 1, none⟩ = some (.bool t.v)
  c2 : w.cell? ⟨g, o + 2, none⟩ = some (.bool t.c)
  c3 : w.cell? ⟨g, o + 3, none⟩ = some (.bool t.r)
  c4 : w.cell? ⟨g, o + 4, none⟩ = some (.bool t.d)
  c5 : w.cell? ⟨g, o + 5, none⟩ = some (.bool t.g)
  c6 : w.cell? ⟨g, o + 6, none⟩ = some (.int .i64 t.al)
  c7 : w.cell? ⟨g, o + 7, none⟩ = some (.int .i64 t.sp)
  c8 : w.cell? ⟨g, o + 8, none⟩ = some (.int .i64 t.bi)
theorem tdw_keep {w w' : World} (hb : Below w.heap.size w w') {g o : Nat} {t : Td} (h : TDW w g o t) : TDW w' g o t :=
  ⟨cell_keep hb h.c0, cell_keep hb h.c1, cell_keep hb h.c2, cell_keep hb h.c3, cell_keep hb h.c4, cell_keep hb h.c5, cell_keep hb h.c6, cell_keep hb h.c7, cell_keep hb h.c8⟩
theorem tdw_gr {w w' : World} {v v' : Value} (G : GR w w' v v') {g o : Nat} {t : Td} (hn : v.ownBlock ≠ some g) (h : TDW w g o t) : TDW w' g o t :=
  ⟨gr_cell G hn h.c0, gr_cell G hn h.c1, gr_cell G hn h.c2, gr_cell G hn h.c3, gr_cell G hn h.c4, gr_cell G hn h.c5, gr_cell G hn h.c6, gr_cell G hn h.c7, gr_cell G hn h.c8⟩
theorem tdw_new (w : World) (t : Td) : TDW (w.alloc (Obj.cells #[.int .i64 t.m, .bool t.v, .bool t.c, .bool t.r, .bool t.d, .bool t.g, .int .i64 t.al, .int .i64 t.sp, .int .i64 t.bi] 57)) w.heap.size 0 t :=
  ⟨(cell_of_row _ _ 0 _ _ _ (heap_alloc_last _ _)).trans rfl, (cell_of_row _ _ 1 _ _ _ (heap_alloc_last _ _)).trans rfl, (cell_of_row _ _ 2 _ _ _ (heap_alloc_last _ _)).trans rfl, (cell_of_row _ _ 3 _ _ _ (heap_alloc_last _ _)).trans rfl, (cell_of_row _ _ 4 _ _ _ (heap_alloc_last _ _)).trans rfl, (cell_of_row _ _ 5 _ _ _ (heap_alloc_last _ _)).trans rfl, (cell_of_row _ _ 6 _ _ _ (heap_alloc_last _ _)).trans rfl, (cell_of_row _ _ 7 _ _ _ (heap_alloc_last _ _)).trans rfl, (cell_of_row _ _ 8 _ _ _ (heap_alloc_last _ _)).trans rfl⟩
/-- A slice holds what was told. -/
def DS (w : World) (sa : Option Addr) (l : List Td) : Prop := ∀ k t, l[k]? = some t → ∃ gb off, sa = some ⟨gb, off, none⟩ ∧ TDW w gb (off + k * 9) t
theorem ds_keep {w w' : World} (hb : Below w.heap.size w w') {sa : Option Addr} {l : List Td} (h : DS w sa l) : DS w' sa l := fun k x hk => by
  obtain ⟨gb, off, e, c⟩ := h k x hk
  exact ⟨gb, off, e, tdw_keep hb c⟩
/-- Five marks. -/
def m5 (tv tc tr td tg : Bool) : Nat → Bool := fun k => if k = 0 then tv else if k = 1 then tc else if k = 2 then tr else if k = 3 then td else tg
theorem mk_ms (t : Td) : (mk (m5 t.v t.c t.r t.d t.g) 5 : Int) = ms t := by
  obtain ⟨tm, tv, tc, tr, td, tg, ta, tsp, tb⟩ := t
  cases tv <;> cases tc <;> cases tr <;> cases td <;> cases tg <;> rfl
theorem five_bools {w : World} {g : Nat} {tv tc tr td tg : Bool} {t : TypeId} (hg : w.heap[g]? = some (Obj.cells #[.bool tv, .bool tc, .bool tr, .bool td, .bool tg] t)) : ∀ k, k < 5 → ∃ gb off, (some ⟨g, 0, none⟩ : Option Addr) = some ⟨gb, off, none⟩ ∧ w.cell? ⟨gb, off + k, none⟩ = some (.bool (m5 tv tc tr td tg k)) := fun k hk => by
  refine ⟨_, 0, rfl, ?_⟩
  rw [Nat.zero_add, cell_of_row _ _ k _ _ _ hg]
  have : k = 0 ∨ k = 1 ∨ k = 2 ∨ k = 3 ∨ k = 4 := by omega
  rcases this with rfl | rfl | rfl | rfl | rfl <;> rfl
/-- Three numbers. -/
def z3 (x y z : Int) : Nat → Int := fun k => if k = 0 then x else if k = 1 then y else z
theorem nm_three (x y z : Int) : nm (z3 x y z) 3 = num x ++ (num y ++ num z) := by simp [nm, z3]
theorem num_row3 {w : World} {B : Nat} {v : Value} {l : List Int} {x y z : Int} {t : TypeId} (h : OB w B v l) : ∀ k, k < 3 → ∃ gb off, (some ⟨w.heap.size, 0, none⟩ : Option Addr) = some ⟨gb, off, none⟩ ∧ v.ownBlock ≠ some gb ∧ (w.alloc (Obj.cells #[.int .i64 x, .int .i64 y, .int .i64 z] t)).cell? ⟨gb, off + k, none⟩ = some (.int .i64 (z3 x y z k)) := fun k hk => by
  refine ⟨_, 0, rfl, own_new h (Nat.le_refl _), ?_⟩
  rw [Nat.zero_add, cell_of_row _ _ k _ _ _ (heap_alloc_last w _)]
  have : k = 0 ∨ k = 1 ∨ k = 2 := by omega
  rcases this with rfl | rfl | rfl <;> rfl
theorem us_new {w : World} {g : Nat} {a : Array Value} {ty : TypeId} {l : List Int} (hg : w.heap[g]? = some (Obj.cells a ty)) (ha : a.toList = us l) : ∀ j u, (us l)[j]? = some u → w.cell? ((⟨g, 0, none⟩ : Addr).add j) = some u := fun j u h => by
  rw [add_off, Nat.zero_add, cell_of_row _ _ j _ _ _ hg, ← Array.getElem?_toList, ha, h]
theorem take_td {l : List Td} {k : Nat} {t : Td} (h : l[k]? = some t) : l.take (k + 1) = l.take k ++ [t] := by rw [List.take_add_one, h]; rfl

set_option maxHeartbeats 4000000 in
set_option maxRecDepth 10000 in
/-- The bytes of what was told. -/
theorem told_any (l : List Td) (hl : l.length ≤ 10000) (n : Nat) (hn : l.length = n) (sa : Option Addr) (cap : Nat) (w : World) (hc : DS w sa l) :
    Calls Try.prog 13 #[.slice sa n cap] w fun e w' => ∃ v, e = .returned v ∧ OB w' w.heap.size v (dbs l) ∧ Below w.heap.size w w' := by
  obtain ⟨i0, hi, hz0, hz1, hz2⟩ := info_u8
  go_enter Try.func13, Try.ntmps13
  go_wp2
  go_loopw [3, 8] (fun bv iv wr => ∃ k : Nat, k ≤ n ∧ iv = .int .i64 k ∧ OB wr w.heap.size bv (dbs (l.take k)) ∧ Below w.heap.size w wr) (fun _ iv _ => n - (intOf iv).toNat)
  case atStart => exact ⟨0, Nat.zero_le _, rfl, ob_nil, Below.refl _ _⟩
  case round =>
    obtain ⟨k, hk, rfl, ho, E⟩ := hrel
    by_cases hlt : k < n
    · obtain ⟨t, ht⟩ : ∃ t, l[k]? = some t := ⟨l[k]'(by omega), List.getElem?_eq_getElem _⟩
      obtain ⟨gb, off, rfl, tw⟩ := hc k t ht
      replace tw := tdw_keep E tw
      have hlk : (k : Int) < n := by omega
      have hk0 : (0 : Int) ≤ k := by omega
      have ws : IntKind.i64.wrap ((k : Int) + 1) = (k : Int) + 1 := by rw [IntKind.wrap_i64]; omega
      have e0 : Hid (dbs (l.take (k + 1)) = dbs (l.take k) ++ ([t.m % 256, ms t, 0, 0] ++ (num t.al ++ (num t.sp ++ num t.bi)))) := Lib.hid (by rw [take_td ht, dbs_snoc]; rfl)
      have pl := dbs_len (l.take k)
      rw [List.length_take] at pl
      have cm := fun sa w' h => marks_any (m5 t.v t.c t.r t.d t.g) sa 5 5 (by decide) w' h
      rw [mk_ms] at cm
      have wc : IntKind.u8.wrap t.m = t.m % 256 := IntKind.wrap_u8 t.m
      have tn := tdw_new wr t
      have Z : Below wr.heap.size wr (wr.alloc (Obj.cells #[.int .i64 t.m, .bool t.v, .bool t.c, .bool t.r, .bool t.d, .bool t.g, .int .i64 t.al, .int .i64 t.sp, .int .i64 t.bi] 57)) := b_alloc (Below.refl _ _)
      have HO := Lib.hid ho
      have HE := Lib.hid E
      have hs2 := E.size
      clear hc ho E ht
      generalize dbs (l.take k) = ys at *
      generalize ms t = c1 at *
      obtain ⟨tm, tv, tc, tr, td, tg, ta, tsp, tb⟩ := t
      simp only at tw tn Z cm wc e0
      generalize tm % 256 = c0 at *
      obtain ⟨t0, t1, t2, t3, t4, t5, t6, t7, t8⟩ := tw
      go_wp2
      have HT := Lib.hid tn
      clear t0 t1 t2 t3 t4 t5 t6 t7 t8 tn
      generalize (wr.alloc (Obj.cells #[.int .i64 tm, .bool tv, .bool tc, .bool tr, .bool td, .bool tg, .int .i64 ta, .int .i64 tsp, .int .i64 tb] 57)) = y0 at *
      refine region_each [12, 13, 14, 15, 16, 17, 18, 19, 20, 21, 22, 23, 24, 25, 26, 27, 28] (fun i_ X_ U_ => match i_ with | 0 => X_ = u3 | 1 => X_ = .pointer (some ⟨wr.heap.size, 0, none⟩) | 2 => X_ = .int .i64 tm | 3 => X_ = .int .u8 c0 | 4 => X_ = .pointer (some ⟨wr.heap.size, 1, none⟩) | 5 => X_ = .bool tv | 6 => X_ = .pointer (some ⟨wr.heap.size, 2, none⟩) | 7 => X_ = .bool tc | 8 => X_ = .pointer (some ⟨wr.heap.size, 3, none⟩) | 9 => X_ = .bool tr | 10 => X_ = .pointer (some ⟨wr.heap.size, 4, none⟩) | 11 => X_ = .bool td | 12 => X_ = .pointer (some ⟨wr.heap.size, 5, none⟩) | 13 => X_ = .bool tg | 14 => ∃ g, X_ = .slice (some ⟨g, 0, none⟩) 5 5 ∧ U_.heap[g]? = some (Obj.cells #[.bool tv, .bool tc, .bool tr, .bool td, .bool tg] 4) | 15 => X_ = .int .u8 c1 | 16 => ∃ g, X_ = .slice (some ⟨g, 0, none⟩) 4 4 ∧ U_.heap[g]? = some (Obj.cells #[.int .u8 c0, .int .u8 c1, .int .u8 0, .int .u8 0] 5) | _ => True) (fun i_ => false) (by kernel_rfl) (by kernel_rfl) (by kernel_rfl) (by kernel_rfl) (by kernel_rfl) ?_ (fun i x w hi ha h => by cases ha) ?_ ?_
      · refine swp (upS (upS (upS (upS (upS (upS (upS (upS (upS (upS (upS (upS (upS (upS (upS (upS (upS up0 ?_) ?_) ?_) ?_) ?_) ?_) ?_) ?_) ?_) ?_) ?_) ?_) ?_) ?_) ?_) ?_) ?_)
        · exact fun _ _ _ h _ => h
        · exact fun _ _ _ h _ => h
        · exact fun _ _ _ h _ => h
        · exact fun _ _ _ h _ => h
        · exact fun _ _ _ h _ => h
        · exact fun _ _ _ h _ => h
        · exact fun _ _ _ h _ => h
        · exact fun _ _ _ h _ => h
        · exact fun _ _ _ h _ => h
        · exact fun _ _ _ h _ => h
        · exact fun _ _ _ h _ => h
        · exact fun _ _ _ h _ => h
        · exact fun _ _ _ h _ => h
        · exact fun _ _ _ h _ => h
        · intro x w w' h hb; obtain ⟨g, rfl, c⟩ := h; exact ⟨g, rfl, row_keep hb c⟩
        · exact fun _ _ _ h _ => h
        · intro x w w' h hb; obtain ⟨g, rfl, c⟩ := h; exact ⟨g, rfl, row_keep hb c⟩
      · refine upS (upS (upS (upS (upS (upS (upS (upS (upS (upS (upS (upS (upS (upS (upS (upS (upS up0 ?_) ?_) ?_) ?_) ?_) ?_) ?_) ?_) ?_) ?_) ?_) ?_) ?_) ?_) ?_) ?_) ?_
        all_goals intro v f w' hb hv hB hd
        · have b3 : f.tmps[3]? = some (u3) := (hb 3 (by decide)).trans rfl
          clear hb hv hd
          refine wpOp_step rfl fun K hK => ?_
          go_simp
          exact hK _ _ ⟨_, rfl, Below.refl _ _, rfl, fun h => absurd h (by decide)⟩
        · have b5 : f.tmps[5]? = some (.pointer (some ⟨wr.heap.size, 0, none⟩)) := (hb 5 (by decide)).trans rfl
          clear hb hv hd
          refine wpOp_step rfl fun K hK => ?_
          go_simp
          exact hK _ _ ⟨_, rfl, Below.refl _ _, rfl, fun h => absurd h (by decide)⟩
        · have d1 := got (hv 1 13 rfl) (hd 1 (by kernel_rfl))
          clear hb hv hd
          have q := (tdw_keep hB HT.out).c0
          refine wpOp_step rfl fun K hK => ?_
          go_simp
          exact hK _ _ ⟨_, rfl, Below.refl _ _, rfl, fun h => absurd h (by decide)⟩
        · have d2 := got (hv 2 14 rfl) (hd 2 (by kernel_rfl))
          clear hb hv hd
          refine wpOp_step rfl fun K hK => ?_
          go_simp
          exact hK _ _ ⟨_, rfl, Below.refl _ _, rfl, fun h => absurd h (by decide)⟩
        · have b5 : f.tmps[5]? = some (.pointer (some ⟨wr.heap.size, 0, none⟩)) := (hb 5 (by decide)).trans rfl
          clear hb hv hd
          refine wpOp_step rfl fun K hK => ?_
          go_simp
          exact hK _ _ ⟨_, rfl, Below.refl _ _, rfl, fun h => absurd h (by decide)⟩
        · have d4 := got (hv 4 16 rfl) (hd 4 (by kernel_rfl))
          clear hb hv hd
          have q := (tdw_keep hB HT.out).c1
          refine wpOp_step rfl fun K hK => ?_
          go_simp
          exact hK _ _ ⟨_, rfl, Below.refl _ _, rfl, fun h => absurd h (by decide)⟩
        · have b5 : f.tmps[5]? = some (.pointer (some ⟨wr.heap.size, 0, none⟩)) := (hb 5 (by decide)).trans rfl
          clear hb hv hd
          refine wpOp_step rfl fun K hK => ?_
          go_simp
          exact hK _ _ ⟨_, rfl, Below.refl _ _, rfl, fun h => absurd h (by decide)⟩
        · have d6 := got (hv 6 18 rfl) (hd 6 (by kernel_rfl))
          clear hb hv hd
          have q := (tdw_keep hB HT.out).c2
          refine wpOp_step rfl fun K hK => ?_
          go_simp
          exact hK _ _ ⟨_, rfl, Below.refl _ _, rfl, fun h => absurd h (by decide)⟩
        · have b5 : f.tmps[5]? = some (.pointer (some ⟨wr.heap.size, 0, none⟩)) := (hb 5 (by decide)).trans rfl
          clear hb hv hd
          refine wpOp_step rfl fun K hK => ?_
          go_simp
          exact hK _ _ ⟨_, rfl, Below.refl _ _, rfl, fun h => absurd h (by decide)⟩
        · have d8 := got (hv 8 20 rfl) (hd 8 (by kernel_rfl))
          clear hb hv hd
          have q := (tdw_keep hB HT.out).c3
          refine wpOp_step rfl fun K hK => ?_
          go_simp
          exact hK _ _ ⟨_, rfl, Below.refl _ _, rfl, fun h => absurd h (by decide)⟩
        · have b5 : f.tmps[5]? = some (.pointer (some ⟨wr.heap.size, 0, none⟩)) := (hb 5 (by decide)).trans rfl
          clear hb hv hd
          refine wpOp_step rfl fun K hK => ?_
          go_simp
          exact hK _ _ ⟨_, rfl, Below.refl _ _, rfl, fun h => absurd h (by decide)⟩
        · have d10 := got (hv 10 22 rfl) (hd 10 (by kernel_rfl))
          clear hb hv hd
          have q := (tdw_keep hB HT.out).c4
          refine wpOp_step rfl fun K hK => ?_
          go_simp
          exact hK _ _ ⟨_, rfl, Below.refl _ _, rfl, fun h => absurd h (by decide)⟩
        · have b5 : f.tmps[5]? = some (.pointer (some ⟨wr.heap.size, 0, none⟩)) := (hb 5 (by decide)).trans rfl
          clear hb hv hd
          refine wpOp_step rfl fun K hK => ?_
          go_simp
          exact hK _ _ ⟨_, rfl, Below.refl _ _, rfl, fun h => absurd h (by decide)⟩
        · have d12 := got (hv 12 24 rfl) (hd 12 (by kernel_rfl))
          clear hb hv hd
          have q := (tdw_keep hB HT.out).c5
          refine wpOp_step rfl fun K hK => ?_
          go_simp
          exact hK _ _ ⟨_, rfl, Below.refl _ _, rfl, fun h => absurd h (by decide)⟩
        · have d5 := got (hv 5 17 rfl) (hd 5 (by kernel_rfl))
          have d7 := got (hv 7 19 rfl) (hd 7 (by kernel_rfl))
          have d9 := got (hv 9 21 rfl) (hd 9 (by kernel_rfl))
          have d11 := got (hv 11 23 rfl) (hd 11 (by kernel_rfl))
          have d13 := got (hv 13 25 rfl) (hd 13 (by kernel_rfl))
          clear hb hv hd
          refine wpOp_step rfl fun K hK => ?_
          go_simp
          skip
          exact hK _ _ ⟨_, rfl, b_alloc (Below.refl _ _), ⟨_, rfl, heap_alloc_last _ _⟩, fun h => absurd h (by decide)⟩
        · have h14 : ∃ g, (v 14) = .slice (some ⟨g, 0, none⟩) 5 5 ∧ w'.heap[g]? = some (Obj.cells #[.bool tv, .bool tc, .bool tr, .bool td, .bool tg] 4) := hd 14 (by kernel_rfl)
          have d14 : f.tmps[26]? = some (v 14) := hv 14 26 rfl
          clear hb hv hd
          obtain ⟨g5, e26, c26⟩ := h14
          rw [e26] at d14
          refine wpOp_call rfl Try.call17 (args1 (eval_tmp d14)) (cm _ _ (five_bools c26)) ?_
          rintro e w5 ⟨rfl, hb5⟩
          exact ⟨_, rfl, _, rfl, hb5, rfl, fun h => absurd h (by decide)⟩
        · have d3 := got (hv 3 15 rfl) (hd 3 (by kernel_rfl))
          have d15 := got (hv 15 27 rfl) (hd 15 (by kernel_rfl))
          clear hb hv hd
          refine wpOp_step rfl fun K hK => ?_
          go_simp
          skip
          exact hK _ _ ⟨_, rfl, b_alloc (Below.refl _ _), ⟨_, rfl, heap_alloc_last _ _⟩, fun h => absurd h (by decide)⟩
      · intro v w' hB hF hD
        have F0 : v 0 = _ := hF 0 (by simp)
        have F1 : v 1 = _ := hF 1 (by simp)
        have F2 : v 2 = _ := hF 2 (by simp)
        have F3 : v 3 = _ := hF 3 (by simp)
        have F4 : v 4 = _ := hF 4 (by simp)
        have F5 : v 5 = _ := hF 5 (by simp)
        have F6 : v 6 = _ := hF 6 (by simp)
        have F7 : v 7 = _ := hF 7 (by simp)
        have F8 : v 8 = _ := hF 8 (by simp)
        have F9 : v 9 = _ := hF 9 (by simp)
        have F10 : v 10 = _ := hF 10 (by simp)
        have F11 : v 11 = _ := hF 11 (by simp)
        have F12 : v 12 = _ := hF 12 (by simp)
        have F13 : v 13 = _ := hF 13 (by simp)
        have F14 : ∃ g, (v 14) = .slice (some ⟨g, 0, none⟩) 5 5 ∧ w'.heap[g]? = some (Obj.cells #[.bool tv, .bool tc, .bool tr, .bool td, .bool tg] 4) := hF 14 (by simp)
        have F15 : v 15 = _ := hF 15 (by simp)
        have F16 : ∃ g, (v 16) = .slice (some ⟨g, 0, none⟩) 4 4 ∧ w'.heap[g]? = some (Obj.cells #[.int .u8 c0, .int .u8 c1, .int .u8 0, .int .u8 0] 5) := hF 16 (by simp)
        clear hF
        obtain ⟨g5, e5, -⟩ := F14
        obtain ⟨g4, e4, c4⟩ := F16
        simp only [frOf, frGo, Nat.zero_add, Nat.reduceAdd, e5, e4, F0, F1, F2, F3, F4, F5, F6, F7, F8, F9, F10, F11, F12, F13, F15]
        clear e5 e4 F0 F1 F2 F3 F4 F5 F6 F7 F8 F9 F10 F11 F12 F13 F15 hD cm wc
        replace HT := Lib.hid (tdw_keep hB HT.out)
        have hs3 := hB.size
        have HZ := Lib.hid (b_trans Z hB)
        have hs4 := HZ.out.size
        clear Z hB v
        simp only [List.length_cons, List.length_nil, List.drop_succ_cons, List.drop_zero, Nat.reduceAdd, Act.put, List.setIfInBounds_toArray, List.set_cons_zero, List.set_cons_succ]
        refine wpList_append_own_at _ rfl _ _ 24 rfl w.heap.size 5 i0 (.int .u8 0) 1 1 Try.underlying24 hi hz0 hz1 hz2 rfl (by decide) u3 _ _ rfl (ob_keep HZ.out HO.out) ⟨g4, 0, none⟩ 4 4 (us [c0, c1, 0, 0]) rfl rfl (us_new c4 rfl) us_cell (by unfold maxLen; omega) (by omega) (by omega) ?_
        intro v1 w3 hown1 hgrow3 _ hat3
        have HN := Lib.hid (ob_grow (m := [c0, c1, 0, 0]) hown1 rfl)
        have hG := gr_app (Below.refl _ _) hgrow3 hat3
        have HG := Lib.hid (gr_trans (gr_below HZ.out) hG)
        have hv1 := gr_own hG (own_new HO.out (Nat.le_refl _)) (World.block_lt_of_cell? _ _ HT.out.c0)
        replace HT := Lib.hid (tdw_gr hG (own_new HO.out (Nat.le_refl _)) HT.out)
        clear hown1 hgrow3 hat3 hG c4
        have q6 := HT.out.c6
        have q7 := HT.out.c7
        have q8 := HT.out.c8
        go_wp2_with fail
        refine (numbers_any w.heap.size v1 (ys ++ [c0, c1, 0, 0]) (z3 ta tsp tb) _ 3 3 (by simp; omega) _ (by have := gr_size HG.out; simp; omega) (HN.out.alloc _) (num_row3 HN.out)).mono ?_
        rintro e w4 ⟨v2, rfl, ho2, G2⟩
        rw [nm_three] at ho2
        have HG2 := Lib.hid (gr_trans HG.out (gr_trans (gr_below (b_alloc (Below.refl _ _))) G2))
        have HF := Lib.hid ho2
        clear G2 ho2 q6 q7 q8
        go_wp2
        refine ⟨⟨k + 1, by omega, rfl, by rw [e0.out]; simpa using HF.out, below_gr HE.out HG2.out (own_from HO.out)⟩, ?_⟩
        simp only [intOf]
        omega
    · have hlk : ¬ (k : Int) < n := by omega
      have e : k = n := by omega
      subst e
      rw [List.take_of_length_le (by omega)] at ho
      clear hlt hk hc
      go_wp2
      exact bodyPost_ret (v := u3) (by simp [results, Try.results13, go_sem]) rfl ⟨_, rfl, ho, E⟩
end Go.Proofs.Ytfenmkcniiiglaa
