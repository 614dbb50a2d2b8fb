/- Layer 21: the document's bytes of what was told. -/
import Derived.Test.YtfenmkcniiiglaaTapQ
import Derived.Test.YtfenmkcniiiglaaTapF
namespace Go.Proofs.Ytfenmkcniiiglaa
open Go.RowKit Go.Shelf Go.Joins

set_option maxHeartbeats 4000000 in
set_option maxRecDepth 10000 in
theorem rtold_any (l : List Td) (hl : l.length ≤ 10000) (n : Nat) (hn : l.length = n) (sa : Option Addr) (cap : Nat) (w : World) (hc : DS w sa l) :
    Calls Try.prog 14 #[.slice sa n cap] w (RetV (.string (bs (dbs l))) w) := by
  go_enter Try.func14, Try.ntmps14
  go_wp2
  go_loopw [3, 4] (fun sv iv wr => ∃ k : Nat, k ≤ n ∧ iv = .int .i64 k ∧ sv = .string (bs (dbs (l.take k))) ∧ Below w.heap.size w wr) (fun _ iv _ => n - (intOf iv).toNat)
  case atStart => exact ⟨0, Nat.zero_le _, rfl, rfl, Below.refl _ _⟩
  case round =>
    obtain ⟨k, hk, rfl, rfl, E⟩ := hrel
    by_cases hlt : k < n
    · obtain ⟨t, ht⟩ : ∃ t, l[k]? = some t := ⟨l[k]'(by omega), List.getElem?_eq_getElem _⟩
      obtain ⟨gb, off, rfl, tw⟩ := hc k t ht
      replace tw := tdw_keep E tw
      have hlk : (k : Int) < n := by omega
      have hk0 : (0 : Int) ≤ k := by omega
      have ws : IntKind.i64.wrap ((k : Int) + 1) = (k : Int) + 1 := by rw [IntKind.wrap_i64]; omega
      have e0 : dbs (l.take (k + 1)) = dbs (l.take k) ++ [t.m % 256, ms t, 0, 0] ++ num t.al ++ num t.sp ++ num t.bi := by rw [take_td ht, dbs_snoc, db]; simp
      have pl := dbs_len (l.take k)
      rw [List.length_take] at pl
      have tn := tdw_new wr t
      replace E : Below w.heap.size w (wr.alloc (Obj.cells #[.int .i64 t.m, .bool t.v, .bool t.c, .bool t.r, .bool t.d, .bool t.g, .int .i64 t.al, .int .i64 t.sp, .int .i64 t.bi] 57)) := b_alloc E
      have cb1 := fun w => bit_any 1 t.v w
      have cb2 := fun w => bit_any 2 t.c w
      have cb3 := fun w => bit_any 4 t.r w
      have cb4 := fun w => bit_any 8 t.d w
      have cb5 := fun w => bit_any 16 t.g w
      have cn1 := fun w => number_any t.al w
      have cn2 := fun w => number_any t.sp w
      have cn3 := fun w => number_any t.bi w
      have hct1 := fun w => cat_ok (P := Try.prog) (dbs (l.take k)) [t.m % 256, ms t, 0, 0] (by simp; omega) w
      have hct2 := fun w => cat_ok (P := Try.prog) (dbs (l.take k) ++ [t.m % 256, ms t, 0, 0]) (num t.al) (by simp [num_len]; omega) w
      have hct3 := fun w => cat_ok (P := Try.prog) (dbs (l.take k) ++ [t.m % 256, ms t, 0, 0] ++ num t.al) (num t.sp) (by simp [num_len]; omega) w
      have hct4 := fun w => cat_ok (P := Try.prog) (dbs (l.take k) ++ [t.m % 256, ms t, 0, 0] ++ num t.al ++ num t.sp) (num t.bi) (by simp [num_len]; omega) w
      have HS := Lib.hid (congrArg bs e0)
      clear hc ht e0 pl
      generalize bs (dbs (l.take k) ++ [t.m % 256, ms t, 0, 0] ++ num t.al ++ num t.sp ++ num t.bi) = S5 at *
      generalize bs (dbs (l.take k) ++ [t.m % 256, ms t, 0, 0] ++ num t.al ++ num t.sp) = S4 at *
      generalize bs (dbs (l.take k) ++ [t.m % 256, ms t, 0, 0] ++ num t.al) = S3 at *
      generalize bs (dbs (l.take k) ++ [t.m % 256, ms t, 0, 0]) = S2 at *
      generalize hS1 : bs [t.m % 256, ms t, 0, 0] = S1 at *
      generalize bs (dbs (l.take k)) = S0 at *
      generalize bs (num t.al) = SA at *
      generalize bs (num t.sp) = SB at *
      generalize bs (num t.bi) = SC at *
      have wp2 : IntKind.u8.wrap ((if t.v = true then (1 : Int) else 0) + (if t.c = true then 2 else 0)) = (if t.v = true then (1 : Int) else 0) + (if t.c = true then 2 else 0) := by cases t.v <;> cases t.c <;> rfl
      have wp3 : IntKind.u8.wrap ((if t.v = true then (1 : Int) else 0) + (if t.c = true then 2 else 0) + (if t.r = true then 4 else 0)) = (if t.v = true then (1 : Int) else 0) + (if t.c = true then 2 else 0) + (if t.r = true then 4 else 0) := by cases t.v <;> cases t.c <;> cases t.r <;> rfl
      have wp4 : IntKind.u8.wrap ((if t.v = true then (1 : Int) else 0) + (if t.c = true then 2 else 0) + (if t.r = true then 4 else 0) + (if t.d = true then 8 else 0)) = (if t.v = true then (1 : Int) else 0) + (if t.c = true then 2 else 0) + (if t.r = true then 4 else 0) + (if t.d = true then 8 else 0) := by cases t.v <;> cases t.c <;> cases t.r <;> cases t.d <;> rfl
      have wp5 : IntKind.u8.wrap ((if t.v = true then (1 : Int) else 0) + (if t.c = true then 2 else 0) + (if t.r = true then 4 else 0) + (if t.d = true then 8 else 0) + (if t.g = true then 16 else 0)) = ms t := by unfold ms; cases t.v <;> cases t.c <;> cases t.r <;> cases t.d <;> cases t.g <;> rfl
      have wm : IntKind.u64.wrap t.m = t.m % 18446744073709551616 := IntKind.wrap_u64 _
      have wr1 : (t.m % 18446744073709551616).tmod 256 = t.m % 256 := by rw [Int.tmod_eq_emod_of_nonneg (by omega)]; omega
      have wr2 : IntKind.u8.wrap (t.m % 256) = t.m % 256 := by rw [IntKind.wrap_u8]; omega
      have wr3 : IntKind.u64.wrap (t.m % 256) = t.m % 256 := by rw [IntKind.wrap_u64]; omega
      obtain ⟨tm, tv, tc, tr, td, tg, ta, tsp, tb⟩ := t
      simp only at tw tn E cb1 cb2 cb3 cb4 cb5 cn1 cn2 cn3 wp2 wp3 wp4 wp5 wm wr1 wr2 wr3 hS1
      generalize ms ⟨tm, tv, tc, tr, td, tg, ta, tsp, tb⟩ = c1 at *
      generalize tm % 256 = c0 at *
      generalize tm % 18446744073709551616 = M at *
      generalize (if tv = true then (1 : Int) else 0) = b1 at *
      generalize (if tc = true then (2 : Int) else 0) = b2 at *
      generalize (if tr = true then (4 : Int) else 0) = b3 at *
      generalize (if td = true then (8 : Int) else 0) = b4 at *
      generalize (if tg = true then (16 : Int) else 0) = b5 at *
      obtain ⟨p2, hp2⟩ : ∃ p, b1 + b2 = p := ⟨_, rfl⟩
      replace wp2 := wp2.trans hp2
      rw [hp2] at wp3 wp4 wp5
      obtain ⟨p3, hp3⟩ : ∃ p, p2 + b3 = p := ⟨_, rfl⟩
      replace wp3 := wp3.trans hp3
      rw [hp3] at wp4 wp5
      obtain ⟨p4, hp4⟩ : ∃ p, p3 + b4 = p := ⟨_, rfl⟩
      replace wp4 := wp4.trans hp4
      rw [hp4] at wp5
      clear hp2 hp3 hp4
      obtain ⟨t0, t1, t2, t3, t4, t5, t6, t7, t8⟩ := tw
      go_wp2
      have HT := Lib.hid tn
      clear t0 t1 t2 t3 t4 t5 t6 t7 t8 tn
      generalize (wr.alloc (Obj.cells #[.int .i64 tm, .bool tv, .bool tc, .bool tr, .bool td, .bool tg, .int .i64 ta, .int .i64 tsp, .int .i64 tb] 57)) = y0 at *
      refine region_each [17, 18, 19, 20, 21, 22, 23, 24, 25, 26, 27, 28, 29, 30, 31, 32, 33, 34, 35] (fun i_ X_ U_ => match i_ with | 0 => X_ = .pointer (some ⟨wr.heap.size, 1, none⟩) | 1 => X_ = .bool tv | 2 => X_ = .int .u8 b1 | 3 => X_ = .pointer (some ⟨wr.heap.size, 2, none⟩) | 4 => X_ = .bool tc | 5 => X_ = .int .u8 b2 | 6 => X_ = .int .u8 p2 | 7 => X_ = .pointer (some ⟨wr.heap.size, 3, none⟩) | 8 => X_ = .bool tr | 9 => X_ = .int .u8 b3 | 10 => X_ = .int .u8 p3 | 11 => X_ = .pointer (some ⟨wr.heap.size, 4, none⟩) | 12 => X_ = .bool td | 13 => X_ = .int .u8 b4 | 14 => X_ = .int .u8 p4 | 15 => X_ = .pointer (some ⟨wr.heap.size, 5, none⟩) | 16 => X_ = .bool tg | 17 => X_ = .int .u8 b5 | 18 => X_ = .int .u8 c1 | _ => True) (fun i_ => false) (by kernel_rfl) (by kernel_rfl) (by kernel_rfl) (by kernel_rfl) (by kernel_rfl) ?_ (fun i x w hi ha h => by cases ha) ?_ ?_
      · refine swp (upS (upS (upS (upS (upS (upS (upS (upS (upS (upS (upS (upS (upS (upS (upS (upS (upS (upS (upS up0 ?_) ?_) ?_) ?_) ?_) ?_) ?_) ?_) ?_) ?_) ?_) ?_) ?_) ?_) ?_) ?_) ?_) ?_) ?_)
        all_goals exact fun _ _ _ h _ => h
      · refine upS (upS (upS (upS (upS (upS (upS (upS (upS (upS (upS (upS (upS (upS (upS (upS (upS (upS (upS up0 ?_) ?_) ?_) ?_) ?_) ?_) ?_) ?_) ?_) ?_) ?_) ?_) ?_) ?_) ?_) ?_) ?_) ?_) ?_
        all_goals intro v f w' hb hv hB hd
        · have b5 : f.tmps[5]? = some (.pointer (some ⟨wr.heap.size, 0, none⟩)) := (hb 5 (by decide)).trans rfl
          clear hb hv hd
          refine wpOp_step rfl fun K hK => ?_
          go_simp
          exact hK _ _ ⟨_, rfl, Below.refl _ _, rfl, fun h => absurd h (by decide)⟩
        · have d0 := got (hv 0 17 rfl) (hd 0 (by kernel_rfl))
          clear hb hv hd
          have q := (tdw_keep hB HT.out).c1
          refine wpOp_step rfl fun K hK => ?_
          go_simp
          exact hK _ _ ⟨_, rfl, Below.refl _ _, rfl, fun h => absurd h (by decide)⟩
        · have d1 := got (hv 1 18 rfl) (hd 1 (by kernel_rfl))
          clear hb hv hd
          refine wpOp_call rfl Try.call19 (args2 rfl (eval_tmp d1)) (cb1 _) ?_
          rintro e w5 ⟨rfl, hb5⟩
          exact ⟨_, rfl, _, rfl, hb5, rfl, fun h => absurd h (by decide)⟩
        · have b5 : f.tmps[5]? = some (.pointer (some ⟨wr.heap.size, 0, none⟩)) := (hb 5 (by decide)).trans rfl
          clear hb hv hd
          refine wpOp_step rfl fun K hK => ?_
          go_simp
          exact hK _ _ ⟨_, rfl, Below.refl _ _, rfl, fun h => absurd h (by decide)⟩
        · have d3 := got (hv 3 20 rfl) (hd 3 (by kernel_rfl))
          clear hb hv hd
          have q := (tdw_keep hB HT.out).c2
          refine wpOp_step rfl fun K hK => ?_
          go_simp
          exact hK _ _ ⟨_, rfl, Below.refl _ _, rfl, fun h => absurd h (by decide)⟩
        · have d4 := got (hv 4 21 rfl) (hd 4 (by kernel_rfl))
          clear hb hv hd
          refine wpOp_call rfl Try.call19 (args2 rfl (eval_tmp d4)) (cb2 _) ?_
          rintro e w5 ⟨rfl, hb5⟩
          exact ⟨_, rfl, _, rfl, hb5, rfl, fun h => absurd h (by decide)⟩
        · have d2 := got (hv 2 19 rfl) (hd 2 (by kernel_rfl))
          have d5 := got (hv 5 22 rfl) (hd 5 (by kernel_rfl))
          clear hb hv hd
          refine wpOp_step rfl fun K hK => ?_
          go_simp
          exact hK _ _ ⟨_, rfl, Below.refl _ _, rfl, fun h => absurd h (by decide)⟩
        · have b5 : f.tmps[5]? = some (.pointer (some ⟨wr.heap.size, 0, none⟩)) := (hb 5 (by decide)).trans rfl
          clear hb hv hd
          refine wpOp_step rfl fun K hK => ?_
          go_simp
          exact hK _ _ ⟨_, rfl, Below.refl _ _, rfl, fun h => absurd h (by decide)⟩
        · have d7 := got (hv 7 24 rfl) (hd 7 (by kernel_rfl))
          clear hb hv hd
          have q := (tdw_keep hB HT.out).c3
          refine wpOp_step rfl fun K hK => ?_
          go_simp
          exact hK _ _ ⟨_, rfl, Below.refl _ _, rfl, fun h => absurd h (by decide)⟩
        · have d8 := got (hv 8 25 rfl) (hd 8 (by kernel_rfl))
          clear hb hv hd
          refine wpOp_call rfl Try.call19 (args2 rfl (eval_tmp d8)) (cb3 _) ?_
          rintro e w5 ⟨rfl, hb5⟩
          exact ⟨_, rfl, _, rfl, hb5, rfl, fun h => absurd h (by decide)⟩
        · have d6 := got (hv 6 23 rfl) (hd 6 (by kernel_rfl))
          have d9 := got (hv 9 26 rfl) (hd 9 (by kernel_rfl))
          clear hb hv hd
          refine wpOp_step rfl fun K hK => ?_
          go_simp
          exact hK _ _ ⟨_, rfl, Below.refl _ _, rfl, fun h => absurd h (by decide)⟩
        · have b5 : f.tmps[5]? = some (.pointer (some ⟨wr.heap.size, 0, none⟩)) := (hb 5 (by decide)).trans rfl
          clear hb hv hd
          refine wpOp_step rfl fun K hK => ?_
          go_simp
          exact hK _ _ ⟨_, rfl, Below.refl _ _, rfl, fun h => absurd h (by decide)⟩
        · have d11 := got (hv 11 28 rfl) (hd 11 (by kernel_rfl))
          clear hb hv hd
          have q := (tdw_keep hB HT.out).c4
          refine wpOp_step rfl fun K hK => ?_
          go_simp
          exact hK _ _ ⟨_, rfl, Below.refl _ _, rfl, fun h => absurd h (by decide)⟩
        · have d12 := got (hv 12 29 rfl) (hd 12 (by kernel_rfl))
          clear hb hv hd
          refine wpOp_call rfl Try.call19 (args2 rfl (eval_tmp d12)) (cb4 _) ?_
          rintro e w5 ⟨rfl, hb5⟩
          exact ⟨_, rfl, _, rfl, hb5, rfl, fun h => absurd h (by decide)⟩
        · have d10 := got (hv 10 27 rfl) (hd 10 (by kernel_rfl))
          have d13 := got (hv 13 30 rfl) (hd 13 (by kernel_rfl))
          clear hb hv hd
          refine wpOp_step rfl fun K hK => ?_
          go_simp
          exact hK _ _ ⟨_, rfl, Below.refl _ _, rfl, fun h => absurd h (by decide)⟩
        · have b5 : f.tmps[5]? = some (.pointer (some ⟨wr.heap.size, 0, none⟩)) := (hb 5 (by decide)).trans rfl
          clear hb hv hd
          refine wpOp_step rfl fun K hK => ?_
          go_simp
          exact hK _ _ ⟨_, rfl, Below.refl _ _, rfl, fun h => absurd h (by decide)⟩
        · have d15 := got (hv 15 32 rfl) (hd 15 (by kernel_rfl))
          clear hb hv hd
          have q := (tdw_keep hB HT.out).c5
          refine wpOp_step rfl fun K hK => ?_
          go_simp
          exact hK _ _ ⟨_, rfl, Below.refl _ _, rfl, fun h => absurd h (by decide)⟩
        · have d16 := got (hv 16 33 rfl) (hd 16 (by kernel_rfl))
          clear hb hv hd
          refine wpOp_call rfl Try.call19 (args2 rfl (eval_tmp d16)) (cb5 _) ?_
          rintro e w5 ⟨rfl, hb5⟩
          exact ⟨_, rfl, _, rfl, hb5, rfl, fun h => absurd h (by decide)⟩
        · have d14 := got (hv 14 31 rfl) (hd 14 (by kernel_rfl))
          have d17 := got (hv 17 34 rfl) (hd 17 (by kernel_rfl))
          clear hb hv hd
          refine wpOp_step rfl fun K hK => ?_
          go_simp
          exact hK _ _ ⟨_, rfl, Below.refl _ _, rfl, fun h => absurd h (by decide)⟩
      · intro v w' hB hF hD
        have F0 : v 0 = _ := hF 0 (by simp)
        have F1 : v 1 = _ := hF 1 (by simp)
        have F2 : v 2 = _ := hF 2 (by simp)
        have F3 : v 3 = _ := hF 3 (by simp)
        have F4 : v 4 = _ := hF 4 (by simp)
        have F5 : v 5 = _ := hF 5 (by simp)
        have F6 : v 6 = _ := hF 6 (by simp)
        have F7 : v 7 = _ := hF 7 (by simp)
        have F8 : v 8 = _ := hF 8 (by simp)
        have F9 : v 9 = _ := hF 9 (by simp)
        have F10 : v 10 = _ := hF 10 (by simp)
        have F11 : v 11 = _ := hF 11 (by simp)
        have F12 : v 12 = _ := hF 12 (by simp)
        have F13 : v 13 = _ := hF 13 (by simp)
        have F14 : v 14 = _ := hF 14 (by simp)
        have F15 : v 15 = _ := hF 15 (by simp)
        have F16 : v 16 = _ := hF 16 (by simp)
        have F17 : v 17 = _ := hF 17 (by simp)
        have F18 : v 18 = _ := hF 18 (by simp)
        clear hF
        simp only [frOf, frGo, Nat.zero_add, Nat.reduceAdd, F0, F1, F2, F3, F4, F5, F6, F7, F8, F9, F10, F11, F12, F13, F14, F15, F16, F17, F18]
        clear F0 F1 F2 F3 F4 F5 F6 F7 F8 F9 F10 F11 F12 F13 F14 F15 F16 F17 F18 hD cb1 cb2 cb3 cb4 cb5 wp2 wp3 wp4 wp5
        replace HT := Lib.hid (tdw_keep hB HT.out)
        have HE := Lib.hid (b_trans E hB)
        clear hB E v
        go_wp2
        generalize w' = y1 at *
        refine region_each [36, 37, 38, 39, 40, 41, 42, 43, 44, 45, 46, 47, 48, 49, 50, 51, 52, 53, 54, 55, 56, 57] (fun i_ X_ U_ => match i_ with | 0 => X_ = .string S0 | 1 => X_ = .pointer (some ⟨wr.heap.size, 0, none⟩) | 2 => X_ = .int .i64 tm | 3 => X_ = .int .u64 M | 4 => X_ = .int .u64 c0 | 5 => X_ = .int .u8 c0 | 6 => X_ = .int .u8 c1 | 7 => ∃ g, X_ = .slice (some ⟨g, 0, none⟩) 4 4 ∧ U_.heap[g]? = some (Obj.cells #[.int .u8 c0, .int .u8 c1, .int .u8 0, .int .u8 0] 5) | 8 => X_ = .string S1 | 9 => X_ = .string S2 | 10 => X_ = .pointer (some ⟨wr.heap.size, 6, none⟩) | 11 => X_ = .int .i64 ta | 12 => X_ = .string SA | 13 => X_ = .string S3 | 14 => X_ = .pointer (some ⟨wr.heap.size, 7, none⟩) | 15 => X_ = .int .i64 tsp | 16 => X_ = .string SB | 17 => X_ = .string S4 | 18 => X_ = .pointer (some ⟨wr.heap.size, 8, none⟩) | 19 => X_ = .int .i64 tb | 20 => X_ = .string SC | 21 => X_ = .string S5 | _ => True) (fun i_ => false) (by kernel_rfl) (by kernel_rfl) (by kernel_rfl) (by kernel_rfl) (by kernel_rfl) ?_ (fun i x w hi ha h => by cases ha) ?_ ?_
        · refine swp (upS (upS (upS (upS (upS (upS (upS (upS (upS (upS (upS (upS (upS (upS (upS (upS (upS (upS (upS (upS (upS (upS up0 ?_) ?_) ?_) ?_) ?_) ?_) ?_) ?_) ?_) ?_) ?_) ?_) ?_) ?_) ?_) ?_) ?_) ?_) ?_) ?_) ?_) ?_)
          · exact fun _ _ _ h _ => h
          · exact fun _ _ _ h _ => h
          · exact fun _ _ _ h _ => h
          · exact fun _ _ _ h _ => h
          · exact fun _ _ _ h _ => h
          · exact fun _ _ _ h _ => h
          · exact fun _ _ _ h _ => h
          · intro x w w' h hb; obtain ⟨g, rfl, c⟩ := h; exact ⟨g, rfl, row_keep hb c⟩
          · exact fun _ _ _ h _ => h
          · exact fun _ _ _ h _ => h
          · exact fun _ _ _ h _ => h
          · exact fun _ _ _ h _ => h
          · exact fun _ _ _ h _ => h
          · exact fun _ _ _ h _ => h
          · exact fun _ _ _ h _ => h
          · exact fun _ _ _ h _ => h
          · exact fun _ _ _ h _ => h
          · exact fun _ _ _ h _ => h
          · exact fun _ _ _ h _ => h
          · exact fun _ _ _ h _ => h
          · exact fun _ _ _ h _ => h
          · exact fun _ _ _ h _ => h
        · refine upS (upS (upS (upS (upS (upS (upS (upS (upS (upS (upS (upS (upS (upS (upS (upS (upS (upS (upS (upS (upS (upS up0 ?_) ?_) ?_) ?_) ?_) ?_) ?_) ?_) ?_) ?_) ?_) ?_) ?_) ?_) ?_) ?_) ?_) ?_) ?_) ?_) ?_) ?_
          all_goals intro v f w' hb hv hB hd
          · have b3 : f.tmps[3]? = some (.string S0) := (hb 3 (by decide)).trans rfl
            clear hb hv hd
            refine wpOp_step rfl fun K hK => ?_
            go_simp
            exact hK _ _ ⟨_, rfl, Below.refl _ _, rfl, fun h => absurd h (by decide)⟩
          · have b5 : f.tmps[5]? = some (.pointer (some ⟨wr.heap.size, 0, none⟩)) := (hb 5 (by decide)).trans rfl
            clear hb hv hd
            refine wpOp_step rfl fun K hK => ?_
            go_simp
            exact hK _ _ ⟨_, rfl, Below.refl _ _, rfl, fun h => absurd h (by decide)⟩
          · have d1 := got (hv 1 37 rfl) (hd 1 (by kernel_rfl))
            clear hb hv hd
            have q := (tdw_keep hB HT.out).c0
            refine wpOp_step rfl fun K hK => ?_
            go_simp
            exact hK _ _ ⟨_, rfl, Below.refl _ _, rfl, fun h => absurd h (by decide)⟩
          · have d2 := got (hv 2 38 rfl) (hd 2 (by kernel_rfl))
            clear hb hv hd
            refine wpOp_step rfl fun K hK => ?_
            go_simp
            exact hK _ _ ⟨_, rfl, Below.refl _ _, rfl, fun h => absurd h (by decide)⟩
          · have d3 := got (hv 3 39 rfl) (hd 3 (by kernel_rfl))
            clear hb hv hd
            refine wpOp_step rfl fun K hK => ?_
            go_simp
            exact hK _ _ ⟨_, rfl, Below.refl _ _, rfl, fun h => absurd h (by decide)⟩
          · have d4 := got (hv 4 40 rfl) (hd 4 (by kernel_rfl))
            clear hb hv hd
            refine wpOp_step rfl fun K hK => ?_
            go_simp
            exact hK _ _ ⟨_, rfl, Below.refl _ _, rfl, fun h => absurd h (by decide)⟩
          · have b6 : f.tmps[6]? = some (.int .u8 c1) := (hb 6 (by decide)).trans rfl
            clear hb hv hd
            refine wpOp_step rfl fun K hK => ?_
            go_simp
            exact hK _ _ ⟨_, rfl, Below.refl _ _, rfl, fun h => absurd h (by decide)⟩
          · have d5 := got (hv 5 41 rfl) (hd 5 (by kernel_rfl))
            have d6 := got (hv 6 42 rfl) (hd 6 (by kernel_rfl))
            clear hb hv hd
            refine wpOp_step rfl fun K hK => ?_
            go_simp
            skip
            exact hK _ _ ⟨_, rfl, b_alloc (Below.refl _ _), ⟨_, rfl, heap_alloc_last _ _⟩, fun h => absurd h (by decide)⟩
          · have h7 : ∃ g, (v 7) = .slice (some ⟨g, 0, none⟩) 4 4 ∧ w'.heap[g]? = some (Obj.cells #[.int .u8 c0, .int .u8 c1, .int .u8 0, .int .u8 0] 5) := hd 7 (by kernel_rfl)
            have d7 : f.tmps[43]? = some (v 7) := hv 7 43 rfl
            clear hb hv hd
            obtain ⟨g, e43, c43⟩ := h7
            rw [e43] at d7
            have hcv : (convert 24 9 (.slice (some ⟨g, 0, none⟩) 4 4)).run Try.prog w' = .ok (.string S1) w' := hS1 ▸ cv_row (l := [c0, c1, 0, 0]) c43 rfl rfl
            refine wpOp_step rfl fun K hK => ?_
            go_simp
            exact hK _ _ ⟨_, rfl, Below.refl _ _, rfl, fun h => absurd h (by decide)⟩
          · have d0 := got (hv 0 36 rfl) (hd 0 (by kernel_rfl))
            have d8 := got (hv 8 44 rfl) (hd 8 (by kernel_rfl))
            clear hb hv hd
            refine wpOp_step rfl fun K hK => ?_
            go_simp
            exact hK _ _ ⟨_, rfl, Below.refl _ _, rfl, fun h => absurd h (by decide)⟩
          · have b5 : f.tmps[5]? = some (.pointer (some ⟨wr.heap.size, 0, none⟩)) := (hb 5 (by decide)).trans rfl
            clear hb hv hd
            refine wpOp_step rfl fun K hK => ?_
            go_simp
            exact hK _ _ ⟨_, rfl, Below.refl _ _, rfl, fun h => absurd h (by decide)⟩
          · have d10 := got (hv 10 46 rfl) (hd 10 (by kernel_rfl))
            clear hb hv hd
            have q := (tdw_keep hB HT.out).c6
            refine wpOp_step rfl fun K hK => ?_
            go_simp
            exact hK _ _ ⟨_, rfl, Below.refl _ _, rfl, fun h => absurd h (by decide)⟩
          · have d11 := got (hv 11 47 rfl) (hd 11 (by kernel_rfl))
            clear hb hv hd
            refine wpOp_call rfl Try.call20 (args1 (eval_tmp d11)) (cn1 _) ?_
            rintro e w5 ⟨rfl, hb5⟩
            exact ⟨_, rfl, _, rfl, hb5, rfl, fun h => absurd h (by decide)⟩
          · have d9 := got (hv 9 45 rfl) (hd 9 (by kernel_rfl))
            have d12 := got (hv 12 48 rfl) (hd 12 (by kernel_rfl))
            clear hb hv hd
            refine wpOp_step rfl fun K hK => ?_
            go_simp
            exact hK _ _ ⟨_, rfl, Below.refl _ _, rfl, fun h => absurd h (by decide)⟩
          · have b5 : f.tmps[5]? = some (.pointer (some ⟨wr.heap.size, 0, none⟩)) := (hb 5 (by decide)).trans rfl
            clear hb hv hd
            refine wpOp_step rfl fun K hK => ?_
            go_simp
            exact hK _ _ ⟨_, rfl, Below.refl _ _, rfl, fun h => absurd h (by decide)⟩
          · have d14 := got (hv 14 50 rfl) (hd 14 (by kernel_rfl))
            clear hb hv hd
            have q := (tdw_keep hB HT.out).c7
            refine wpOp_step rfl fun K hK => ?_
            go_simp
            exact hK _ _ ⟨_, rfl, Below.refl _ _, rfl, fun h => absurd h (by decide)⟩
          · have d15 := got (hv 15 51 rfl) (hd 15 (by kernel_rfl))
            clear hb hv hd
            refine wpOp_call rfl Try.call20 (args1 (eval_tmp d15)) (cn2 _) ?_
            rintro e w5 ⟨rfl, hb5⟩
            exact ⟨_, rfl, _, rfl, hb5, rfl, fun h => absurd h (by decide)⟩
          · have d13 := got (hv 13 49 rfl) (hd 13 (by kernel_rfl))
            have d16 := got (hv 16 52 rfl) (hd 16 (by kernel_rfl))
            clear hb hv hd
            refine wpOp_step rfl fun K hK => ?_
            go_simp
            exact hK _ _ ⟨_, rfl, Below.refl _ _, rfl, fun h => absurd h (by decide)⟩
          · have b5 : f.tmps[5]? = some (.pointer (some ⟨wr.heap.size, 0, none⟩)) := (hb 5 (by decide)).trans rfl
            clear hb hv hd
            refine wpOp_step rfl fun K hK => ?_
            go_simp
            exact hK _ _ ⟨_, rfl, Below.refl _ _, rfl, fun h => absurd h (by decide)⟩
          · have d18 := got (hv 18 54 rfl) (hd 18 (by kernel_rfl))
            clear hb hv hd
            have q := (tdw_keep hB HT.out).c8
            refine wpOp_step rfl fun K hK => ?_
            go_simp
            exact hK _ _ ⟨_, rfl, Below.refl _ _, rfl, fun h => absurd h (by decide)⟩
          · have d19 := got (hv 19 55 rfl) (hd 19 (by kernel_rfl))
            clear hb hv hd
            refine wpOp_call rfl Try.call20 (args1 (eval_tmp d19)) (cn3 _) ?_
            rintro e w5 ⟨rfl, hb5⟩
            exact ⟨_, rfl, _, rfl, hb5, rfl, fun h => absurd h (by decide)⟩
          · have d17 := got (hv 17 53 rfl) (hd 17 (by kernel_rfl))
            have d20 := got (hv 20 56 rfl) (hd 20 (by kernel_rfl))
            clear hb hv hd
            refine wpOp_step rfl fun K hK => ?_
            go_simp
            exact hK _ _ ⟨_, rfl, Below.refl _ _, rfl, fun h => absurd h (by decide)⟩
        · intro v w' hB hF hD
          have F0 : v 0 = _ := hF 0 (by simp)
          have F1 : v 1 = _ := hF 1 (by simp)
          have F2 : v 2 = _ := hF 2 (by simp)
          have F3 : v 3 = _ := hF 3 (by simp)
          have F4 : v 4 = _ := hF 4 (by simp)
          have F5 : v 5 = _ := hF 5 (by simp)
          have F6 : v 6 = _ := hF 6 (by simp)
          have F7 : ∃ g, (v 7) = .slice (some ⟨g, 0, none⟩) 4 4 ∧ w'.heap[g]? = some (Obj.cells #[.int .u8 c0, .int .u8 c1, .int .u8 0, .int .u8 0] 5) := hF 7 (by simp)
          have F8 : v 8 = _ := hF 8 (by simp)
          have F9 : v 9 = _ := hF 9 (by simp)
          have F10 : v 10 = _ := hF 10 (by simp)
          have F11 : v 11 = _ := hF 11 (by simp)
          have F12 : v 12 = _ := hF 12 (by simp)
          have F13 : v 13 = _ := hF 13 (by simp)
          have F14 : v 14 = _ := hF 14 (by simp)
          have F15 : v 15 = _ := hF 15 (by simp)
          have F16 : v 16 = _ := hF 16 (by simp)
          have F17 : v 17 = _ := hF 17 (by simp)
          have F18 : v 18 = _ := hF 18 (by simp)
          have F19 : v 19 = _ := hF 19 (by simp)
          have F20 : v 20 = _ := hF 20 (by simp)
          have F21 : v 21 = _ := hF 21 (by simp)
          clear hF
          obtain ⟨g4, e4, -⟩ := F7
          simp only [frOf, frGo, Nat.zero_add, Nat.reduceAdd, e4, F0, F1, F2, F3, F4, F5, F6, F8, F9, F10, F11, F12, F13, F14, F15, F16, F17, F18, F19, F20, F21]
          clear e4 F0 F1 F2 F3 F4 F5 F6 F8 F9 F10 F11 F12 F13 F14 F15 F16 F17 F18 F19 F20 F21 hD cn1 cn2 cn3 hct1 hct2 hct3 hct4 wm wr1 wr2 wr3
          have HE2 := Lib.hid (b_trans HE.out hB)
          clear hB HT
          go_wp2
          refine ⟨⟨k + 1, by omega, rfl, by rw [HS.out], HE2.out⟩, ?_⟩
          simp only [intOf]
          omega
    · have hlk : ¬ (k : Int) < n := by omega
      have e : k = n := by omega
      subst e
      rw [List.take_of_length_le (by omega)]
      clear hlt hk hc
      go_wp2
      exact bodyPost_ret (v := .string (bs (dbs l))) (by simp [results, Try.results14, go_sem]) rfl ⟨rfl, E⟩
end Go.Proofs.Ytfenmkcniiiglaa
