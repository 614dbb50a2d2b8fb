/- Layer 22: what was told in rows of its own; two rows of the same; the example; the law: the middle of any tellings is the document's. -/
import Derived.Test.YtobmjlnficdmlaaMidB
import Derived.Test.YtobmjlnficdmlaaMidC
import Derived.Test.YtobmjlnficdmlaaTolArgs
import Derived.Test.YtobmjlnficdmlaaAppAny
import Derived.DeepKeys
namespace Go.Proofs.Ytobmjlnficdmlaa
open Go.RowKit Go.Shelf Go.Joins Go.Maps

/-- What was told, as cells. -/
abbrev dr (t : Td) : List Value := [.int .i64 t.m, .bool t.v, .bool t.c, .bool t.r, .bool t.d, .bool t.g, .int .i64 t.al, .int .i64 t.sp, .int .i64 t.bi]
def dl : List Td → List Value
  | [] => []
  | t :: l => dr t ++ dl l
theorem dl_len : ∀ l, (dl l).length = l.length * 9
  | [] => rfl
  | t :: l => by rw [dl, List.length_append, dl_len l]; simp; omega
theorem dl_cell : ∀ (l : List Td) (u : Value), u ∈ dl l → u.oneCell' = true
  | [], _, h => by simp [dl] at h
  | t :: l, u, h => by
    simp only [dl, dr, List.mem_append, List.mem_cons, List.not_mem_nil, or_false] at h
    rcases h with (rfl | rfl | rfl | rfl | rfl | rfl | rfl | rfl | rfl) | h
    all_goals first | rfl | exact dl_cell l u h
theorem dl_at : ∀ (l : List Td) (k : Nat) (t : Td), l[k]? = some t → ∀ r, r < 9 → (dl l)[k * 9 + r]? = (dr t)[r]?
  | [], k, t, h, r, hr => by simp at h
  | s :: l, 0, t, h, r, hr => by
    simp at h
    subst h
    rw [dl, Nat.zero_mul, Nat.zero_add, List.getElem?_append_left (by simpa using hr)]
  | s :: l, k + 1, t, h, r, hr => by
    rw [List.getElem?_cons_succ] at h
    rw [dl, List.getElem?_append_right (by simp; omega)]
    have := dl_at l k t h r hr
    rw [← this]
    congr 1
    simp
    omega
theorem tdw_of {w : World} {g o : Nat} {t : Td} (h : ∀ r u, r < 9 → (dr t)[r]? = some u → w.cell? ⟨g, o + r, none⟩ = some u) : TDW w g o t :=
  ⟨h 0 _ (by decide) rfl, h 1 _ (by decide) rfl, h 2 _ (by decide) rfl, h 3 _ (by decide) rfl, h 4 _ (by decide) rfl, h 5 _ (by decide) rfl, h 6 _ (by decide) rfl, h 7 _ (by decide) rfl, h 8 _ (by decide) rfl⟩
theorem tdw_at {w : World} {g o : Nat} {t : Td} (h : TDW w g o t) : ∀ r u, r < 9 → (dr t)[r]? = some u → w.cell? ⟨g, o + r, none⟩ = some u := fun r u hr hu => by
  rcases (show r = 0 ∨ r = 1 ∨ r = 2 ∨ r = 3 ∨ r = 4 ∨ r = 5 ∨ r = 6 ∨ r = 7 ∨ r = 8 by omega) with rfl | rfl | rfl | rfl | rfl | rfl | rfl | rfl | rfl
  all_goals
    simp at hu
    subst hu
    first | exact h.c0 | exact h.c1 | exact h.c2 | exact h.c3 | exact h.c4 | exact h.c5 | exact h.c6 | exact h.c7 | exact h.c8
theorem ds_news {w : World} {sa : Option Addr} {l : List Td} (h : DS w sa l) : ∀ j u, (dl l)[j]? = some u → ∃ ad, sa = some ad ∧ w.cell? (ad.add j) = some u := fun j u hj => by
  have hl : j < l.length * 9 := by
    have := (List.getElem?_eq_some_iff.1 hj).1
    rwa [dl_len] at this
  obtain ⟨k, r, hr, rfl⟩ : ∃ k r, r < 9 ∧ j = k * 9 + r := ⟨j / 9, j % 9, Nat.mod_lt _ (by decide), by omega⟩
  have hkl : k < l.length := by omega
  obtain ⟨gb, off, rfl, tw⟩ := h k l[k] (List.getElem?_eq_getElem hkl)
  rw [dl_at l k l[k] (List.getElem?_eq_getElem hkl) r hr] at hj
  refine ⟨_, rfl, ?_⟩
  rw [add_off, ← Nat.add_assoc]
  exact tdw_at tw r u hr hj
/-- A row of its own of what was told. -/
theorem od_ds {w : World} {B : Nat} {v : Value} {l : List Td} {n : Nat} (hn : l.length = n) (h : w.ownsRow B 29 9 v n (dl l)) : ∃ sb cap, v = .slice sb n cap ∧ DS w sb l := by
  subst hn
  have hn := dl_len l
  rcases h.2 with ⟨rfl, e⟩ | ⟨g, cap, cur, rfl, hB, hg, hc, hm, hs, ht⟩
  · exact ⟨none, 0, by rw [e], fun k t hk => by
      have := (List.getElem?_eq_some_iff.1 hk).1
      omega⟩
  · refine ⟨_, cap, rfl, fun k t hk => ⟨g, 0, rfl, tdw_of fun r u hr hu => ?_⟩⟩
    have hkl : k < l.length := (List.getElem?_eq_some_iff.1 hk).1
    have e := (dl_at l k t hk r hr).trans hu
    rw [← ht, List.getElem?_take_of_lt (by omega)] at e
    rw [Nat.zero_add, cell_of_row _ _ (k * 9 + r) _ _ _ hg]
    simpa using e
theorem info_told : ∃ i0 z, Try.prog.info? 29 = some i0 ∧ i0.zero = some z ∧ i0.size = 9 ∧ i0.bytes = 40 ∧ z.cells.size = 9 := by
  have h : (Try.prog.info? 29).map (fun i => (i.zero.map (·.cells.size), i.size, i.bytes)) = some (some 9, 9, 40) := by kernel_rfl
  revert h
  cases Try.prog.info? 29 with
  | none => intro h; cases h
  | some i =>
    intro h
    simp at h
    obtain ⟨⟨z, h1, h2⟩, h3, h4⟩ := h
    exact ⟨i, z, rfl, h1, h3, h4, h2⟩

/- What was told, held against itself. -/
abbrev dv (t : Td) : Value := .agg #[.int .i64 t.m, .bool t.v, .bool t.c, .bool t.r, .bool t.d, .bool t.g, .int .i64 t.al, .int .i64 t.sp, .int .i64 t.bi]
set_option maxRecDepth 20000 in
theorem kl_told {t : Td} (h : Wfd t) : ∃ la, Try.prog.keyLits 5 29 (dv t).cells.toList = some la := by
  have h1 : Try.prog.cellsOf 2 = 1 := by kernel_rfl
  have h2 : Try.prog.cellsOf 3 = 1 := by kernel_rfl
  have h3 : Try.prog.cellsOf 4 = 1 := by kernel_rfl
  have h9 : Try.prog.cellsOf 29 = 9 := by kernel_rfl
  obtain ⟨m0, m6, m7, m8⟩ := h
  have K := fun (n : Int) (h : (Lit.int .i64 n).wf = true) => (show Try.prog.keyLits 4 2 [.int .i64 n] = some [.int .i64 n] by simp only [Program.keyLits, Try.underlying2]; rw [if_pos ⟨trivial, h⟩])
  have I := fun (n : Int) (h : (Lit.int .i64 n).wf = true) => (show Try.prog.keyLits 4 3 [.int .i64 n] = some [.int .i64 n] by simp only [Program.keyLits, Try.underlying3]; rw [if_pos ⟨trivial, h⟩])
  have L := fun (q : Bool) => (show Try.prog.keyLits 4 4 [.bool q] = some [.bool q] by simp only [Program.keyLits, Try.underlying4])
  refine ⟨[.int .i64 t.m, .bool t.v, .bool t.c, .bool t.r, .bool t.d, .bool t.g, .int .i64 t.al, .int .i64 t.sp, .int .i64 t.bi], ?_⟩
  unfold Program.keyLits
  rw [Try.underlying29]
  simp only
  rw [if_pos ⟨by rw [h9]; rfl, by kernel_rfl⟩]
  simp [Value.cells, h1, h2, h3, K _ m6, K _ m7, K _ m8, I _ m0, L]
set_option maxRecDepth 20000 in
theorem told_eq_self {t : Td} (h : Wfd t) (w : World) : (Op.equalIn 10000 29 (dv t) (dv t)).run Try.prog w = .ok true w := by
  have hk : Try.prog.keyTypeAt 5 29 = true := by kernel_rfl
  have hf : (dv t).formed Try.prog 29 = true := by kernel_rfl
  obtain ⟨la, hla⟩ := kl_told h
  obtain ⟨r, hr, hiff⟩ := run_equalIn_deep (P := Try.prog) 9995 5 29 hk w 5 5 _ _ la la hf hf hla hla
  rw [hiff.2 rfl] at hr
  exact hr

set_option maxHeartbeats 4000000 in
set_option maxRecDepth 10000 in
theorem same_told (l : List Td) (hl : l.length ≤ 1000) (n : Nat) (hn : l.length = n) (hw : ∀ t ∈ l, Wfd t) (sa sb : Option Addr) (ca cb : Nat) (w : World) (ha : DS w sa l) (hb : DS w sb l) :
    Calls Try.prog 7 #[.slice sa n ca, .slice sb n cb] w (RetV (.bool true) w) := by
  go_enter Try.func7, Try.ntmps7
  go_wp2
  go_loopw [5] (fun iv wr => ∃ k : Nat, k ≤ n ∧ iv = .int .i64 k ∧ Below w.heap.size w wr) (fun iv _ => n - (intOf iv).toNat)
  case atStart => exact ⟨0, Nat.zero_le _, rfl, Below.refl _ _⟩
  case round =>
    obtain ⟨k, hk, rfl, E⟩ := hrel
    by_cases hlt : k < n
    · obtain ⟨t, ht⟩ : ∃ t, l[k]? = some t := ⟨l[k]'(by omega), List.getElem?_eq_getElem _⟩
      obtain ⟨g1, o1, rfl, t1⟩ := ha k t ht
      obtain ⟨g2, o2, rfl, t2⟩ := hb k t ht
      replace t1 := tdw_keep E t1
      replace t2 := tdw_keep E t2
      have te := fun u => told_eq_self (hw t (List.mem_of_getElem? ht)) u
      obtain ⟨tm, tv, tc, tr, td, tg, ta, tsp, tb⟩ := t
      simp only [dv] at te
      obtain ⟨p0, p1, p2, p3, p4, p5, p6, p7, p8⟩ := t1
      obtain ⟨q0, q1, q2, q3, q4, q5, q6, q7, q8⟩ := t2
      have hlk : (k : Int) < n := by omega
      have hk0 : (0 : Int) ≤ k := by omega
      have ws : IntKind.i64.wrap ((k : Int) + 1) = (k : Int) + 1 := by rw [IntKind.wrap_i64]; omega
      clear ha hb ht hw
      go_wp2
      go_quiet (fail)
      have E1 : Below w.heap.size w (wr.drewN nq) := bm_drewN E
      generalize wr.drewN nq = y0 at *
      clear p0 p1 p2 p3 p4 p5 p6 p7 p8 q0 q1 q2 q3 q4 q5 q6 q7 q8
      go_wp2
      refine ⟨⟨k + 1, by omega, rfl, E1⟩, ?_⟩
      simp only [intOf]
      omega
    · have hlk : ¬ (k : Int) < n := by omega
      have e : k = n := by omega
      subst e
      clear hlt hk
      go_wp2
      exact bodyPost_ret (v := .bool true) (by simp [results, Try.results7, go_sem]) rfl ⟨rfl, E⟩

/- The example. -/
abbrev ex4 : List Td := [⟨0, true, false, false, false, false, 5, 0, 0⟩, ⟨0, true, false, false, false, false, 1, 0, 0⟩, ⟨0, true, false, false, false, false, 9, 0, 0⟩, ⟨0, true, false, false, false, false, 7, 0, 0⟩]
theorem ex4_mid : mdl (alts ex4) = 5 := (mid_met (l := ex4) (x := 5) (by decide)).1 (by decide)
theorem ex4_ds {w : World} {g : Nat} {a : Array Value} {ty : TypeId} (hg : w.heap[g]? = some (Obj.cells a ty)) (ha : a.toList = dl ex4) : DS w (some ⟨g, 0, none⟩) ex4 := fun k t hk => ⟨g, 0, rfl, tdw_of fun r u hr hu => by
  rw [Nat.zero_add, cell_of_row _ _ (k * 9 + r) _ _ _ hg, ← Array.getElem?_toList, ha]
  exact (dl_at ex4 k t hk r hr).trans hu⟩
set_option maxHeartbeats 4000000 in
set_option maxRecDepth 10000 in
theorem fixed_mid (w : World) : Calls Try.prog 4 #[] w (RetV (.bool true) w) := by
  have cm := fun u hu => middle_any ex4 (by decide) 4 rfl (some ⟨w.heap.size, 0, none⟩) 4 u hu
  rw [ex4_mid, show decide (0 < (alts ex4).length) = true from rfl] at cm
  go_enter Try.func4, Try.ntmps4
  go_wp2_with fail
  refine (cm _ (ex4_ds (heap_alloc_last _ _) rfl)).mono ?_
  rintro e y1 ⟨rfl, hb⟩
  have E := Lib.hid (b_trans (b_alloc (Below.refl _ _)) hb)
  clear cm hb
  go_wp2
  go_ret
  exact ⟨rfl, E.out⟩
end Go.Proofs.Ytobmjlnficdmlaa
