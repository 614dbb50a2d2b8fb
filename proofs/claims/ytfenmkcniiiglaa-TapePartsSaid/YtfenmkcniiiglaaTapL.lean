/- Layer 21: the document's Get: the ticks of bytes. -/
import Derived.Test.YtfenmkcniiiglaaTapK
namespace Go.Proofs.Ytfenmkcniiiglaa
open Go.RowKit Go.Shelf Go.Joins Go.Maps

theorem drop_of {z r : List Int} {q m : Nat} {f : Int} (h : z.drop q = f :: r) : r.drop m = z.drop (q + (m + 1)) := by
  rw [← List.drop_drop, h]
  rfl
theorem drop_at {z r : List Int} {q k : Nat} {f : Int} (h : z.drop q = f :: r) : at0 r k = at0 z (q + (k + 1)) := by
  unfold at0
  rw [List.getD_eq_getElem?_getD, List.getD_eq_getElem?_getD, ← List.getElem?_drop, h]
  rfl
theorem tick_eq {z r : List Int} {q : Nat} {f : Int} (h : z.drop q = f :: r) : tick f r = ⟨rd (fun k => at0 z (q + 1 + k)), f % 2 == 1, if f % 2 = 1 then rd (fun k => at0 z (q + 9 + k)) else 0, decide (1 < f)⟩ := by
  have e1 : rd (at0 r) = rd (fun k => at0 z (q + 1 + k)) := rd_same (fun k _ => by rw [drop_at h, Nat.add_assoc, Nat.add_comm 1 k])
  have e2 : rd (fun k => at0 r (8 + k)) = rd (fun k => at0 z (q + 9 + k)) := rd_same (fun k _ => by rw [drop_at h, show q + (8 + k + 1) = q + 9 + k from by omega])
  rw [tick, e1, e2]
theorem ot_empty {w : World} {B g : Nat} (hg : w.heap.size = g) (hB : B ≤ g) : OT (w.alloc (Obj.cells #[] 48)) B (.slice (some ⟨g, 0, none⟩) 0 0) [] := by
  subst hg
  exact ⟨rfl, Or.inr ⟨w.heap.size, 0, #[], rfl, hB, heap_alloc_last w _, Nat.le_refl _, Nat.zero_le _, rfl, rfl⟩⟩

set_option maxHeartbeats 4000000 in
set_option maxRecDepth 10000 in
theorem rget_any (z : List Int) (hz : By z) (hl : z.length ≤ 100000) (S : ByteArray) (hS : SB S z) (w : World) :
    Calls Try.prog 12 #[.string S] w fun e w' => ∃ v, e = .returned (.tuple #[v, .int .i64 (ge z)]) ∧ OT w' w.heap.size v (gx z) ∧ Below w.heap.size w w' := by
  obtain ⟨i0, zv, hi, hz0, hz1, hz2, hz3⟩ := info_tick
  have hsz := hS.size
  obtain ⟨n, hn⟩ : ∃ n, z.length = n := ⟨_, rfl⟩
  go_enter Try.func12, Try.ntmps12
  go_wp2
  go_loopw [4, 5] (fun lv iv wr => ∃ (q : Nat) (l : List Tk), q ≤ n ∧ iv = .int .i64 q ∧ OT wr w.heap.size lv l ∧ gt (z.drop q) l = gt z [] ∧ l.length ≤ q ∧ Below w.heap.size w wr) (fun _ iv _ => n - (intOf iv).toNat)
  case atStart => exact ⟨0, [], Nat.zero_le _, rfl, ot_empty rfl (Nat.le_refl _), rfl, Nat.le_refl _, b_alloc (Below.refl _ _)⟩
  case round =>
    obtain ⟨q, l, hq, rfl, ho, hg, hln, E⟩ := hrel
    have hss : S.size = n := by omega
    by_cases hlt : q < n
    · obtain ⟨f, r, hd⟩ : ∃ f r, z.drop q = f :: r := ⟨_, _, List.drop_eq_getElem_cons (by omega)⟩
      have hrl : r.length + 1 + q = n := by
        have := congrArg List.length hd
        rw [List.length_drop, List.length_cons] at this
        omega
      have hfz : at0 z q = f := by
        unfold at0
        have := congrArg (fun l => l[0]?) hd
        simp only [List.getElem?_drop, Nat.add_zero, List.getElem?_cons_zero] at this
        rw [List.getD_eq_getElem?_getD, this]
        rfl
      have hv := hS.at' q (by omega)
      rw [hfz] at hv
      have fb := by_at hz q
      rw [hfz] at fb
      obtain ⟨f0, f1⟩ := fb
      have hqs : q < S.size := by omega
      have hq0 : (0 : Int) ≤ q := by omega
      obtain ⟨a1, ha1⟩ : ∃ a : Nat, q + 1 = a := ⟨_, rfl⟩
      obtain ⟨a9, ha9⟩ : ∃ a : Nat, q + 9 = a := ⟨_, rfl⟩
      obtain ⟨a17, ha17⟩ : ∃ a : Nat, q + 17 = a := ⟨_, rfl⟩
      have w1 : IntKind.i64.wrap ((q : Int) + 1) = a1 := by rw [IntKind.wrap_i64]; omega
      have w9 : IntKind.i64.wrap ((q : Int) + 9) = a9 := by rw [IntKind.wrap_i64]; omega
      have w17 : IntKind.i64.wrap ((q : Int) + 17) = a17 := by rw [IntKind.wrap_i64]; omega
      rw [hd] at hg
      clear hfz
      by_cases h3 : 3 < f
      · rw [gt_form h3] at hg
        have HX : Hid (gx z = [] ∧ ge z = 6) := Lib.hid ⟨by rw [gx, ← hg], by rw [ge, ← hg]⟩
        clear hg hd ho
        go_wp2
        exact bodyPost_ret (v := .tuple #[.slice (some ⟨wr.heap.size, 0, none⟩) 0 0, .int .i64 6]) (by simp [results, Try.results12, go_sem]) rfl ⟨_, by rw [HX.out.2], by rw [HX.out.1]; exact ot_empty rfl E.size, b_alloc E⟩
      · by_cases hs : r.length < lg f
        · rw [gt_short h3 hs] at hg
          rcases (show f = 0 ∨ f = 1 ∨ f = 2 ∨ f = 3 by omega) with rfl | rfl | rfl | rfl
          · have hlg : lg 0 = 8 := rfl
            have hs2 : (n : Int) < (a9 : Nat) := by omega
            have HX : Hid (gx z = [] ∧ ge z = 5) := Lib.hid ⟨by rw [gx, ← hg], by rw [ge, ← hg]⟩
            clear hg hd ho hs
            go_wp2
            exact bodyPost_ret (v := .tuple #[.slice (some ⟨wr.heap.size + 1, 0, none⟩) 0 0, .int .i64 5]) (by simp [results, Try.results12, go_sem]) rfl ⟨_, by rw [HX.out.2], by rw [HX.out.1]; exact ot_empty (by simp) (Nat.le_trans E.size (Nat.le_succ _)), b_alloc (b_alloc E)⟩
          · have hlg : lg 1 = 16 := rfl
            have hs2 : (n : Int) < (a17 : Nat) := by omega
            have HX : Hid (gx z = [] ∧ ge z = 5) := Lib.hid ⟨by rw [gx, ← hg], by rw [ge, ← hg]⟩
            clear hg hd ho hs
            go_wp2
            exact bodyPost_ret (v := .tuple #[.slice (some ⟨wr.heap.size + 1, 0, none⟩) 0 0, .int .i64 5]) (by simp [results, Try.results12, go_sem]) rfl ⟨_, by rw [HX.out.2], by rw [HX.out.1]; exact ot_empty (by simp) (Nat.le_trans E.size (Nat.le_succ _)), b_alloc (b_alloc E)⟩
          · have hlg : lg 2 = 8 := rfl
            have hs2 : (n : Int) < (a9 : Nat) := by omega
            have HX : Hid (gx z = [] ∧ ge z = 5) := Lib.hid ⟨by rw [gx, ← hg], by rw [ge, ← hg]⟩
            clear hg hd ho hs
            go_wp2
            exact bodyPost_ret (v := .tuple #[.slice (some ⟨wr.heap.size + 1, 0, none⟩) 0 0, .int .i64 5]) (by simp [results, Try.results12, go_sem]) rfl ⟨_, by rw [HX.out.2], by rw [HX.out.1]; exact ot_empty (by simp) (Nat.le_trans E.size (Nat.le_succ _)), b_alloc (b_alloc E)⟩
          · have hlg : lg 3 = 16 := rfl
            have hs2 : (n : Int) < (a17 : Nat) := by omega
            have HX : Hid (gx z = [] ∧ ge z = 5) := Lib.hid ⟨by rw [gx, ← hg], by rw [ge, ← hg]⟩
            clear hg hd ho hs
            go_wp2
            exact bodyPost_ret (v := .tuple #[.slice (some ⟨wr.heap.size + 1, 0, none⟩) 0 0, .int .i64 5]) (by simp [results, Try.results12, go_sem]) rfl ⟨_, by rw [HX.out.2], by rw [HX.out.1]; exact ot_empty (by simp) (Nat.le_trans E.size (Nat.le_succ _)), b_alloc (b_alloc E)⟩
        · rw [gt_one h3 hs] at hg
          rcases (show f = 0 ∨ f = 1 ∨ f = 2 ∨ f = 3 by omega) with rfl | rfl | rfl | rfl
          · have hlg : lg 0 = 8 := rfl
            have hs' : q + 9 ≤ n := by omega
            have hs2 : ¬ (n : Int) < (a9 : Nat) := by omega
            have cr := read_any S z hS hz hl a1 (by omega)
            have htk : Hid (tick 0 r = ⟨rd (fun k => at0 z (a1 + k)), false, 0, false⟩) := Lib.hid (by
              rw [tick_eq hd]
              simp [ha1])
            have HD : Hid (z.drop a9 = r.drop (lg 0)) := Lib.hid (by rw [hlg, drop_of hd, ha9])
            have hq2 : Hid (q + 9 = a9) := Lib.hid ha9
            have T0 : TR (wr.alloc (Obj.cells #[.int .i64 0, .bool false, .int .i64 0, .bool false] 48)) wr.heap.size 0 false 0 false := heap_alloc_last _ _
            have Z := b_alloc (o := Obj.cells #[.int .i64 0, .bool false, .int .i64 0, .bool false] 48) (Below.refl wr.heap.size wr)
            have HG := Lib.hid hg
            have HO := Lib.hid ho
            have HE := Lib.hid E
            have hs1 := E.size
            clear hg ho E hd hs
            go_wp2_with fail
            refine (cr _).mono ?_
            rintro e y1 ⟨rfl, hb⟩
            replace T0 := row_keep hb T0
            replace Z := b_trans Z hb
            clear hb cr
            generalize (rd fun k => at0 z (a1 + k)) = x at *
            have g0 := (cell_of_row _ _ 0 _ _ _ T0).trans rfl
            have g1 := (cell_of_row _ _ 1 _ _ _ T0).trans rfl
            have g2 := (cell_of_row _ _ 2 _ _ _ T0).trans rfl
            have g3 := (cell_of_row _ _ 3 _ _ _ T0).trans rfl
            have z0 := frozen_of_row y1 wr.heap.size 0 _ _ T0
            replace T0 := tr_0 x T0
            replace Z := b_set (p := ⟨wr.heap.size, 0, none⟩) (v := .int .i64 x) Z (Nat.le_refl _)
            have HZ := Lib.hid Z
            have hs3 := Z.size
            have hs4 : (y1.setCell ⟨wr.heap.size, 0, none⟩ (.int .i64 x)).heap.size = y1.heap.size := by simp
            clear Z T0
            go_wp2_with (at_builtin; go_loud (refine wpList_append_own_at _ rfl _ _ 22 rfl w.heap.size 48 i0 zv 4 32 Try.underlying22 hi hz0 hz1 hz2 hz3 (by decide) _ _ _ rfl (ot_keep (b_alloc HZ.out) HO.out) ⟨y1.heap.size, 0, none⟩ 1 1 (cl [⟨x, false, 0, false⟩]) rfl rfl (cl_one (by simp)) (cl_cell _) (by unfold maxLen; omega) (by omega) (by simp; omega) ?_); intro v1 w3 hown1 hgrow3 _ hat3; have HN := Lib.hid (ot_grow hown1); have HG3 := Lib.hid (gr_trans (gr_below HZ.out) (gr_app (b_alloc (Below.refl _ _)) hgrow3 hat3)); clear hown1 hgrow3 hat3)
            refine ⟨⟨a9, l ++ [⟨x, false, 0, false⟩], by omega, rfl, HN.out, by rw [HD.out, ← htk.out]; exact HG.out, by simp; omega, below_gr HE.out HG3.out (own_from HO.out)⟩, ?_⟩
            simp only [intOf]
            omega
          · have hlg : lg 1 = 16 := rfl
            have hs' : q + 17 ≤ n := by omega
            have hs2 : ¬ (n : Int) < (a17 : Nat) := by omega
            have cr := read_any S z hS hz hl a1 (by omega)
            have cr2 := read_any S z hS hz hl a9 (by omega)
            have htk : Hid (tick 1 r = ⟨rd (fun k => at0 z (a1 + k)), true, rd (fun k => at0 z (a9 + k)), false⟩) := Lib.hid (by
              rw [tick_eq hd]
              simp [ha1, ha9])
            have HD : Hid (z.drop a17 = r.drop (lg 1)) := Lib.hid (by rw [hlg, drop_of hd, ha17])
            have hq2 : Hid (q + 17 = a17) := Lib.hid ha17
            have T0 : TR (wr.alloc (Obj.cells #[.int .i64 0, .bool true, .int .i64 0, .bool false] 48)) wr.heap.size 0 true 0 false := heap_alloc_last _ _
            have Z := b_alloc (o := Obj.cells #[.int .i64 0, .bool true, .int .i64 0, .bool false] 48) (Below.refl wr.heap.size wr)
            have HG := Lib.hid hg
            have HO := Lib.hid ho
            have HE := Lib.hid E
            have hs1 := E.size
            clear hg ho E hd hs
            go_wp2_with fail
            refine (cr _).mono ?_
            rintro e y1 ⟨rfl, hb⟩
            replace T0 := row_keep hb T0
            replace Z := b_trans Z hb
            clear hb cr
            generalize (rd fun k => at0 z (a1 + k)) = x at *
            have g0 := (cell_of_row _ _ 0 _ _ _ T0).trans rfl
            have z0 := frozen_of_row y1 wr.heap.size 0 _ _ T0
            replace T0 := tr_0 x T0
            replace Z := b_set (p := ⟨wr.heap.size, 0, none⟩) (v := .int .i64 x) Z (Nat.le_refl _)
            go_wp2_with fail
            refine (cr2 _).mono ?_
            rintro e y2 ⟨rfl, hb⟩
            replace T0 := row_keep hb T0
            replace Z := b_trans Z hb
            clear hb cr2 g0 z0
            generalize (rd fun k => at0 z (a9 + k)) = y at *
            have g0 := (cell_of_row _ _ 0 _ _ _ T0).trans rfl
            have g1 := (cell_of_row _ _ 1 _ _ _ T0).trans rfl
            have g2 := (cell_of_row _ _ 2 _ _ _ T0).trans rfl
            have g3 := (cell_of_row _ _ 3 _ _ _ T0).trans rfl
            have z2 := frozen_of_row y2 wr.heap.size 2 _ _ T0
            replace T0 := tr_2 y T0
            replace Z := b_set (p := ⟨wr.heap.size, 2, none⟩) (v := .int .i64 y) Z (Nat.le_refl _)
            have HZ := Lib.hid Z
            have hs3 := Z.size
            have hs4 : (y2.setCell ⟨wr.heap.size, 2, none⟩ (.int .i64 y)).heap.size = y2.heap.size := by simp
            clear Z T0
            go_wp2_with (at_builtin; go_loud (refine wpList_append_own_at _ rfl _ _ 22 rfl w.heap.size 48 i0 zv 4 32 Try.underlying22 hi hz0 hz1 hz2 hz3 (by decide) _ _ _ rfl (ot_keep (b_alloc HZ.out) HO.out) ⟨y2.heap.size, 0, none⟩ 1 1 (cl [⟨x, true, y, false⟩]) rfl rfl (cl_one (by simp)) (cl_cell _) (by unfold maxLen; omega) (by omega) (by simp; omega) ?_); intro v1 w3 hown1 hgrow3 _ hat3; have HN := Lib.hid (ot_grow hown1); have HG3 := Lib.hid (gr_trans (gr_below HZ.out) (gr_app (b_alloc (Below.refl _ _)) hgrow3 hat3)); clear hown1 hgrow3 hat3)
            refine ⟨⟨a17, l ++ [⟨x, true, y, false⟩], by omega, rfl, HN.out, by rw [HD.out, ← htk.out]; exact HG.out, by simp; omega, below_gr HE.out HG3.out (own_from HO.out)⟩, ?_⟩
            simp only [intOf]
            omega
          · have hlg : lg 2 = 8 := rfl
            have hs' : q + 9 ≤ n := by omega
            have hs2 : ¬ (n : Int) < (a9 : Nat) := by omega
            have cr := read_any S z hS hz hl a1 (by omega)
            have htk : Hid (tick 2 r = ⟨rd (fun k => at0 z (a1 + k)), false, 0, true⟩) := Lib.hid (by
              rw [tick_eq hd]
              simp [ha1])
            have HD : Hid (z.drop a9 = r.drop (lg 2)) := Lib.hid (by rw [hlg, drop_of hd, ha9])
            have hq2 : Hid (q + 9 = a9) := Lib.hid ha9
            have T0 : TR (wr.alloc (Obj.cells #[.int .i64 0, .bool false, .int .i64 0, .bool true] 48)) wr.heap.size 0 false 0 true := heap_alloc_last _ _
            have Z := b_alloc (o := Obj.cells #[.int .i64 0, .bool false, .int .i64 0, .bool true] 48) (Below.refl wr.heap.size wr)
            have HG := Lib.hid hg
            have HO := Lib.hid ho
            have HE := Lib.hid E
            have hs1 := E.size
            clear hg ho E hd hs
            go_wp2_with fail
            refine (cr _).mono ?_
            rintro e y1 ⟨rfl, hb⟩
            replace T0 := row_keep hb T0
            replace Z := b_trans Z hb
            clear hb cr
            generalize (rd fun k => at0 z (a1 + k)) = x at *
            have g0 := (cell_of_row _ _ 0 _ _ _ T0).trans rfl
            have g1 := (cell_of_row _ _ 1 _ _ _ T0).trans rfl
            have g2 := (cell_of_row _ _ 2 _ _ _ T0).trans rfl
            have g3 := (cell_of_row _ _ 3 _ _ _ T0).trans rfl
            have z0 := frozen_of_row y1 wr.heap.size 0 _ _ T0
            replace T0 := tr_0 x T0
            replace Z := b_set (p := ⟨wr.heap.size, 0, none⟩) (v := .int .i64 x) Z (Nat.le_refl _)
            have HZ := Lib.hid Z
            have hs3 := Z.size
            have hs4 : (y1.setCell ⟨wr.heap.size, 0, none⟩ (.int .i64 x)).heap.size = y1.heap.size := by simp
            clear Z T0
            go_wp2_with (at_builtin; go_loud (refine wpList_append_own_at _ rfl _ _ 22 rfl w.heap.size 48 i0 zv 4 32 Try.underlying22 hi hz0 hz1 hz2 hz3 (by decide) _ _ _ rfl (ot_keep (b_alloc HZ.out) HO.out) ⟨y1.heap.size, 0, none⟩ 1 1 (cl [⟨x, false, 0, true⟩]) rfl rfl (cl_one (by simp)) (cl_cell _) (by unfold maxLen; omega) (by omega) (by simp; omega) ?_); intro v1 w3 hown1 hgrow3 _ hat3; have HN := Lib.hid (ot_grow hown1); have HG3 := Lib.hid (gr_trans (gr_below HZ.out) (gr_app (b_alloc (Below.refl _ _)) hgrow3 hat3)); clear hown1 hgrow3 hat3)
            refine ⟨⟨a9, l ++ [⟨x, false, 0, true⟩], by omega, rfl, HN.out, by rw [HD.out, ← htk.out]; exact HG.out, by simp; omega, below_gr HE.out HG3.out (own_from HO.out)⟩, ?_⟩
            simp only [intOf]
            omega
          · have hlg : lg 3 = 16 := rfl
            have hs' : q + 17 ≤ n := by omega
            have hs2 : ¬ (n : Int) < (a17 : Nat) := by omega
            have cr := read_any S z hS hz hl a1 (by omega)
            have cr2 := read_any S z hS hz hl a9 (by omega)
            have htk : Hid (tick 3 r = ⟨rd (fun k => at0 z (a1 + k)), true, rd (fun k => at0 z (a9 + k)), true⟩) := Lib.hid (by
              rw [tick_eq hd]
              simp [ha1, ha9])
            have HD : Hid (z.drop a17 = r.drop (lg 3)) := Lib.hid (by rw [hlg, drop_of hd, ha17])
            have hq2 : Hid (q + 17 = a17) := Lib.hid ha17
            have T0 : TR (wr.alloc (Obj.cells #[.int .i64 0, .bool true, .int .i64 0, .bool true] 48)) wr.heap.size 0 true 0 true := heap_alloc_last _ _
            have Z := b_alloc (o := Obj.cells #[.int .i64 0, .bool true, .int .i64 0, .bool true] 48) (Below.refl wr.heap.size wr)
            have HG := Lib.hid hg
            have HO := Lib.hid ho
            have HE := Lib.hid E
            have hs1 := E.size
            clear hg ho E hd hs
            go_wp2_with fail
            refine (cr _).mono ?_
            rintro e y1 ⟨rfl, hb⟩
            replace T0 := row_keep hb T0
            replace Z := b_trans Z hb
            clear hb cr
            generalize (rd fun k => at0 z (a1 + k)) = x at *
            have g0 := (cell_of_row _ _ 0 _ _ _ T0).trans rfl
            have z0 := frozen_of_row y1 wr.heap.size 0 _ _ T0
            replace T0 := tr_0 x T0
            replace Z := b_set (p := ⟨wr.heap.size, 0, none⟩) (v := .int .i64 x) Z (Nat.le_refl _)
            go_wp2_with fail
            refine (cr2 _).mono ?_
            rintro e y2 ⟨rfl, hb⟩
            replace T0 := row_keep hb T0
            replace Z := b_trans Z hb
            clear hb cr2 g0 z0
            generalize (rd fun k => at0 z (a9 + k)) = y at *
            have g0 := (cell_of_row _ _ 0 _ _ _ T0).trans rfl
            have g1 := (cell_of_row _ _ 1 _ _ _ T0).trans rfl
            have g2 := (cell_of_row _ _ 2 _ _ _ T0).trans rfl
            have g3 := (cell_of_row _ _ 3 _ _ _ T0).trans rfl
            have z2 := frozen_of_row y2 wr.heap.size 2 _ _ T0
            replace T0 := tr_2 y T0
            replace Z := b_set (p := ⟨wr.heap.size, 2, none⟩) (v := .int .i64 y) Z (Nat.le_refl _)
            have HZ := Lib.hid Z
            have hs3 := Z.size
            have hs4 : (y2.setCell ⟨wr.heap.size, 2, none⟩ (.int .i64 y)).heap.size = y2.heap.size := by simp
            clear Z T0
            go_wp2_with (at_builtin; go_loud (refine wpList_append_own_at _ rfl _ _ 22 rfl w.heap.size 48 i0 zv 4 32 Try.underlying22 hi hz0 hz1 hz2 hz3 (by decide) _ _ _ rfl (ot_keep (b_alloc HZ.out) HO.out) ⟨y2.heap.size, 0, none⟩ 1 1 (cl [⟨x, true, y, true⟩]) rfl rfl (cl_one (by simp)) (cl_cell _) (by unfold maxLen; omega) (by omega) (by simp; omega) ?_); intro v1 w3 hown1 hgrow3 _ hat3; have HN := Lib.hid (ot_grow hown1); have HG3 := Lib.hid (gr_trans (gr_below HZ.out) (gr_app (b_alloc (Below.refl _ _)) hgrow3 hat3)); clear hown1 hgrow3 hat3)
            refine ⟨⟨a17, l ++ [⟨x, true, y, true⟩], by omega, rfl, HN.out, by rw [HD.out, ← htk.out]; exact HG.out, by simp; omega, below_gr HE.out HG3.out (own_from HO.out)⟩, ?_⟩
            simp only [intOf]
            omega
    · have e : q = n := by omega
      subst e
      rw [List.drop_of_length_le (by omega), gt_nil] at hg
      have HX : Hid (gx z = l ∧ ge z = 0) := Lib.hid ⟨by rw [gx, ← hg], by rw [ge, ← hg]⟩
      clear hg hlt
      go_wp2
      exact bodyPost_ret (v := .tuple #[u4, .int .i64 0]) (by simp [results, Try.results12, go_sem]) rfl ⟨_, by rw [HX.out.2], by rw [HX.out.1]; exact ho, E⟩
end Go.Proofs.Ytfenmkcniiiglaa
