/- Layer 14: the document's Get: the configuration whose text this is, or that it is none's. -/
import Derived.Test.YtjaccedpkkcjnaaGreatDoorParB
import Derived.Test.YtjaccedpkkcjnaaGreatDoorParF
import Derived.Test.YtjaccedpkkcjnaaGreatDoorParG
import Derived.Test.YtjaccedpkkcjnaaGreatDoorParI
import Derived.Test.YtjaccedpkkcjnaaGreatDoorSymD
namespace Go.Proofs.YtjaccedpkkcjnaaGreatDoor
open Go.RowKit Go.Shelf Go.Lib Go.Maps

/-- Numbers of 64 bits as values. -/
def IL (ns : List Int) : List Value := ns.map fun n => .int .i64 n
theorem il_len (ns : List Int) : (IL ns).length = ns.length := by simp [IL]
theorem il_snoc (ns : List Int) (n : Int) : IL (ns ++ [n]) = IL ns ++ [.int .i64 n] := by simp [IL]
theorem own_apart {w : World} {B : Nat} {t t' : TypeId} {v : Value} {n : Nat} {xs : List Value} {g : Nat} {cur : Array Value} {fr : Nat × Nat} (h : w.ownsRow B t 1 v n xs) (hg : w.heap[g]? = some (.cells cur t' fr)) (ht : t ≠ t') : v.ownBlock ≠ some g := by
  rcases h.2 with ⟨rfl, _⟩ | ⟨g0, cap, c0, rfl, _, h0, _⟩
  · intro e; cases e
  · intro e
    have e : some g0 = some g := e
    injection e with e
    subst e
    rw [hg] at h0
    injection h0 with h0
    injection h0 with _ h1
    exact ht h1.symm
theorem grown_block {w w' : World} {row : Option Nat} {g : Nat} {o : Obj} (h : w.grownBy w' row) (hg : w.heap[g]? = some o) (hn : row ≠ some g) : w'.heap[g]? = some o := by
  have hl : g < w.heap.size := (Array.getElem?_eq_some_iff.1 hg).1
  rw [h.block g hl (fun e => hn e.symm)]
  exact hg
theorem block_keep {w w' : World} {g : Nat} {o : Obj} (hb : Below w.heap.size w w') (hg : w.heap[g]? = some o) : w'.heap[g]? = some o := (hb.block g (Array.getElem?_eq_some_iff.1 hg).1).trans hg
theorem block_alloc {w : World} {g : Nat} {o q : Obj} (hg : w.heap[g]? = some o) : (w.alloc q).heap[g]? = some o := block_keep (b_alloc (Below.refl _ _)) hg
theorem results_cell_tmp {P : Program} {fn : Func} {p q : Tmp} {ty : TypeId} (h : fn.results = #[.cell p ty, .tmp q]) (tmps : Array Value) (w : World) (g : Nat) (t : TypeId) (cs : Array Value) (fr : Nat × Nat) (d : TypeDesc)
    (hp : tmps.getD p undef = .pointer (some ⟨g, 0, none⟩)) (hg : w.heap[g]? = some (.cells cs t fr))
    (hu : P.underlying ty = some d) (hd : (match d with | .struct _ | .array _ _ => true | _ => false) = true) (hi : (P.info? ty).map (·.size) = some cs.size) :
    (results fn tmps).run P w = .ok (.tuple #[.agg cs, tmps.getD q undef]) w := by
  have hp' : tmps[p]?.getD undef = .pointer (some ⟨g, 0, none⟩) := by simpa using hp
  simp [results, h, hp', asAddr, run_loadVar_row w g t ty cs fr d hg hu hd hi]
/-- A slice of its own: its form. -/
theorem own_form {w : World} {B : Nat} {t : TypeId} {v : Value} {n : Nat} {xs : List Value} (h : w.ownsRow B t 1 v n xs) : ∃ a cap, v = .slice a n cap := by
  rcases h.2 with ⟨rfl, rfl⟩ | ⟨g0, cap, c0, rfl, _⟩
  · exact ⟨_, _, rfl⟩
  · exact ⟨_, _, rfl⟩
theorem own_row {w : World} {B : Nat} {t : TypeId} {v : Value} {n : Nat} {xs : List Value} (h : w.ownsRow B t 1 v n xs) (hn : 0 < n) : ∃ g cap cur, v = .slice (some ⟨g, 0, none⟩) n cap ∧ B ≤ g ∧ w.heap[g]? = some (.cells cur t (0, 0)) ∧ n ≤ cur.size ∧ ∀ (i : Nat) (u : Value), xs[i]? = some u → cur[i]? = some u := by
  rcases h.2 with ⟨rfl, rfl⟩ | ⟨g0, cap, c0, rfl, hb, hg, hc, _, hs, ht⟩
  · cases hn
  · refine ⟨g0, cap, c0, rfl, hb, hg, by omega, fun i u hi => ?_⟩
    rw [← ht] at hi
    have hl : i < n * 1 := by
      have := (List.getElem?_eq_some_iff.1 hi).1
      rw [List.length_take] at this
      omega
    rw [List.getElem?_take_of_lt hl] at hi
    simpa using hi
theorem row_at {w : World} {g i : Nat} {cur : Array Value} {t : TypeId} {u : Value} (hg : w.heap[g]? = some (.cells cur t (0, 0))) (hi : cur[i]? = some u) : w.cell? ⟨g, i, none⟩ = some u := (cell_of_row _ _ i _ _ _ hg).trans hi
theorem sl_at {ls : List (List UInt8)} {i : Nat} {l : List UInt8} (h : ls[i]? = some l) : (SL ls)[i]? = some (.string ⟨l.toArray⟩) := by
  unfold SL
  rw [List.getElem?_map, h]
  rfl
theorem nml_take {ls : List (List UInt8)} {k : Nat} {l : List UInt8} (h : ls[k]? = some l) : nml (ls.take (k + 1)) = nml (ls.take k) ++ (numL l).toList := by
  obtain ⟨hk, rfl⟩ := List.getElem?_eq_some_iff.1 h
  rw [List.take_succ_eq_append_getElem hk, nml, List.filterMap_append]
  congr 1
theorem nml_len (ls : List (List UInt8)) : (nml ls).length ≤ ls.length := List.length_filterMap_le _ _

/-- What Get hands back where the text is none's. -/
abbrev zv : Value := .agg #[.int .i64 0, .int .i64 0, .int .i64 0, .int .i64 0, .int .i64 0, .int .i64 0, .int .i64 0, .int .i64 0, .int .i64 0, .int .i64 0, .int .i64 0, .int .i64 0, .int .i64 0, .int .i64 0, .int .i64 0, .int .i64 0, .int .i64 0, .int .i64 0, .int .i64 0, .int .i64 0, .int .i64 0, .int .i64 0, .int .i64 0, .int .i64 0, .int .i64 0, .int .i64 0, .int .i64 0, .int .i64 0, .int .i64 0, .int .i64 0, .int .i64 0]
theorem own_below {w w' : World} {B : Nat} {t : TypeId} {v : Value} {n : Nat} {xs : List Value} (h : w.ownsRow B t 1 v n xs) (hb : Below w.heap.size w w') : w'.ownsRow B t 1 v n xs := by
  refine ⟨h.1, ?_⟩
  rcases h.2 with h | ⟨g, cap, cur, h1, h2, h3, h4⟩
  · exact Or.inl h
  · exact Or.inr ⟨g, cap, cur, h1, h2, block_keep hb h3, h4⟩
theorem own_empty_at (w : World) (t : TypeId) (g : Nat) (hn : g = w.heap.size) : (w.alloc (Obj.cells #[] t)).ownsRow g t 1 (.slice (some ⟨g, 0, none⟩) 0 0) 0 [] := by
  subst hn
  exact own_empty w t
theorem wds_word_le : ∀ (l c w : List UInt8), w ∈ wds c l → w.length ≤ c.length + l.length
  | [], _, _, h => by cases h
  | b :: l, c, w, h => by
    unfold wds at h
    split at h
    · rcases List.mem_cons.1 h with rfl | h
      · simp
      · have := wds_word_le l [] w h
        simp at this ⊢
        omega
    · have := wds_word_le l (c ++ [b]) w h
      simp at this ⊢
      omega

set_option maxHeartbeats 4000000 in
set_option maxRecDepth 20000 in
theorem rget_len (s : ByteArray) (hs : s.size ≤ 3000) (hn : (nml (wds [] s.data.toList)).length ≠ 31) (h0 : 0 < (wds [] s.data.toList).length) (w : World) : Calls Tryz.prog 6 #[.string s] w (RetV (.tuple #[zv, .int .i64 6]) w) := by
  obtain ⟨i0, hi, hz0, hz1, hz2⟩ := info_parts info_i64
  obtain ⟨ws, hws⟩ : ∃ ws, wds [] s.data.toList = ws := ⟨_, rfl⟩
  have hwl : ws.length ≤ 3000 := by rw [← hws]; have := wds_le s.data.toList []; rw [← Lib.size_eq] at this; omega
  have cw := words_any s hs
  rw [hws] at cw hn h0
  have HWS := Lib.hid hws
  have HN := Lib.hid hn
  clear hws hn
  go_enter Tryz.func6, Tryz.ntmps6
  go_wp2_with fail
  refine (cw _).mono ?_
  rintro e w1 ⟨v, rfl, hown, hb⟩
  have hr0 := block_keep hb (block_alloc (q := Obj.cells #[] 2) (heap_alloc_last w (Obj.cells #[.int .i64 0, .int .i64 0, .int .i64 0, .int .i64 0, .int .i64 0, .int .i64 0, .int .i64 0, .int .i64 0, .int .i64 0, .int .i64 0, .int .i64 0, .int .i64 0, .int .i64 0, .int .i64 0, .int .i64 0, .int .i64 0, .int .i64 0, .int .i64 0, .int .i64 0, .int .i64 0, .int .i64 0, .int .i64 0, .int .i64 0, .int .i64 0, .int .i64 0, .int .i64 0, .int .i64 0, .int .i64 0, .int .i64 0, .int .i64 0, .int .i64 0] 26)))
  have ho0 := own_empty_at (w.alloc (Obj.cells #[.int .i64 0, .int .i64 0, .int .i64 0, .int .i64 0, .int .i64 0, .int .i64 0, .int .i64 0, .int .i64 0, .int .i64 0, .int .i64 0, .int .i64 0, .int .i64 0, .int .i64 0, .int .i64 0, .int .i64 0, .int .i64 0, .int .i64 0, .int .i64 0, .int .i64 0, .int .i64 0, .int .i64 0, .int .i64 0, .int .i64 0, .int .i64 0, .int .i64 0, .int .i64 0, .int .i64 0, .int .i64 0, .int .i64 0, .int .i64 0, .int .i64 0] 26)) 2 (w.heap.size + 1) (by simp)
  have ho1 : w1.ownsRow (w.heap.size + 1) 2 1 (.slice (some ⟨w.heap.size + 1, 0, none⟩) 0 0) 0 [] := own_below ho0 hb
  have E := b_trans (b_alloc (b_alloc (Below.refl w.heap.size w))) hb
  have hsz := hb.size
  simp at hsz
  clear ho0
  rw [sl_len] at hown
  obtain ⟨gw, capw, curw, rfl, hgB, hgw, hcn, hcu⟩ := own_row hown (by omega)
  have HCU := Lib.hid hcu
  clear hown hb hcu cw
  go_wp2
  go_loopw [4, 6] (fun nv iv wr => ∃ k : Nat, k ≤ ws.length ∧ iv = .int .i64 k ∧ wr.ownsRow (w.heap.size + 1) 2 1 nv (nml (ws.take k)).length (IL (nml (ws.take k))) ∧ wr.heap[gw]? = some (.cells curw 9 (0, 0)) ∧ wr.heap[w.heap.size]? = some (.cells #[.int .i64 0, .int .i64 0, .int .i64 0, .int .i64 0, .int .i64 0, .int .i64 0, .int .i64 0, .int .i64 0, .int .i64 0, .int .i64 0, .int .i64 0, .int .i64 0, .int .i64 0, .int .i64 0, .int .i64 0, .int .i64 0, .int .i64 0, .int .i64 0, .int .i64 0, .int .i64 0, .int .i64 0, .int .i64 0, .int .i64 0, .int .i64 0, .int .i64 0, .int .i64 0, .int .i64 0, .int .i64 0, .int .i64 0, .int .i64 0, .int .i64 0] 26 (0, 0)) ∧ w.heap.size + 1 ≤ wr.heap.size ∧ Below w.heap.size w wr) (fun _ iv _ => ws.length - (RowKit.intOf iv).toNat)
  case atStart => exact ⟨0, Nat.zero_le _, rfl, ho1, hgw, hr0, by omega, E⟩
  case round =>
    clear ho1 hgw hr0 E hsz
    obtain ⟨k, hk, rfl, ho, hgw, hr0, hsz, E⟩ := hrel
    by_cases hlt : k < ws.length
    · obtain ⟨l, hl⟩ : ∃ l, ws[k]? = some l := ⟨_, List.getElem?_eq_getElem hlt⟩
      have hc := row_at hgw (HCU.out k _ (sl_at hl))
      have hnt := nml_take hl
      have hkl := nml_len (ws.take k)
      have hkt : (ws.take k).length ≤ 3000 := by rw [List.length_take]; omega
      have hls : (⟨l.toArray⟩ : ByteArray).size ≤ 3000 := by
        have : l.length ≤ 3000 := by
          have := wds_word_le s.data.toList [] l (by rw [HWS.out]; exact List.mem_of_getElem? hl)
          rw [← Lib.size_eq] at this
          simp at this
          omega
        rw [Lib.size_eq, mk_list]; exact this
      have cn := rnumber_any ⟨l.toArray⟩ hls
      rw [mk_list] at cn
      obtain ⟨sl, hsl⟩ : ∃ sl : ByteArray, ⟨l.toArray⟩ = sl := ⟨_, rfl⟩
      rw [hsl] at cn hc
      have e5 : IntKind.i64.wrap ((k : Int) + 1) = (k : Int) + 1 := by rw [IntKind.wrap_i64]; omega
      have HNT := Lib.hid hnt
      have HO := Lib.hid ho
      have HG := Lib.hid hgw
      have HR := Lib.hid hr0
      have HE := Lib.hid E
      have HSL := Lib.hid hsl
      have HL := Lib.hid hl
      clear hnt ho hgw hr0 E hsl hls hl
      go_wp2_with fail
      refine (cn _).mono ?_
      rintro e w2 ⟨X, b, rfl, hw, ht, hf⟩
      rw [hw]
      clear hw
      cases b
      · have hq := numL_none (hf rfl)
        have HT : Hid (nml (ws.take (k + 1)) = nml (ws.take k)) := by have := HNT.out; rw [hq, Option.toList_none, List.append_nil] at this; exact this
        clear ht hf hq cn
        go_wp2
        go_roundw
        case rel => exact ⟨k + 1, by omega, by go_num, by rw [HT.out]; exact HO.out, HG.out, HR.out, hsz, HE.out⟩
        case measure => simp [RowKit.intOf]; omega
      · obtain ⟨hx, hq⟩ := ht rfl
        have HT : Hid (nml (ws.take (k + 1)) = nml (ws.take k) ++ [X]) := by have := HNT.out; rw [numL_some hx hq, Option.toList_some] at this; exact this
        clear ht hf hq hx cn
        go_wp2_with (at_builtin; refine wpList_append_own _ rfl _ _ 39 rfl (w.heap.size + 1) 2 i0 (.int .i64 0) 1 8 Tryz.underlying39 hi hz0 hz1 hz2 rfl (by decide) _ _ _ rfl (HO.out.alloc _) ⟨wr.heap.size, 0, none⟩ 1 1 [.int .i64 X] rfl rfl (cell_one_new _ _ _) (fun x hx => by simp at hx; subst hx; rfl) (by unfold maxLen; omega) (by omega) (by simp; omega) ?_; intro v' w3 hown' hgrow3 hnil3)
        have n1 := own_apart HO.out HG.out (by decide)
        have n2 := own_apart HO.out HR.out (by decide)
        have HB3 := Lib.hid (Below.grown (b_alloc HE.out) hgrow3 (by simp; omega) (fun q hq => Nat.le_of_succ_le (own_part HO.out q hq)))
        have HG3 := Lib.hid (grown_block hgrow3 (block_alloc HG.out) n1)
        have HR3 := Lib.hid (grown_block hgrow3 (block_alloc HR.out) n2)
        have hs3 : w.heap.size + 1 ≤ w3.heap.size := by have := hgrow3.size; simp at this; omega
        have HO3 := Lib.hid hown'
        clear hown' hgrow3 hnil3 n1 n2
        go_wp2
        go_roundw
        case rel => exact ⟨k + 1, by omega, by go_num, by rw [HT.out, il_snoc, List.length_append]; exact HO3.out, HG3.out, HR3.out, hs3, HB3.out⟩
        case measure => simp [RowKit.intOf]; omega
    · obtain rfl : k = ws.length := by omega
      rw [List.take_length] at ho
      obtain ⟨a, cap, rfl⟩ := own_form ho
      have f1 : (((nml ws).length : Int) != 31) = true := by rw [bne_iff_ne]; have := HN.out; omega
      have HR := Lib.hid hr0
      clear ho hgw hr0
      go_wp2_with (with_reducible refine stop_at none rfl ?_)
      refine unstop ?_
      refine wpList_store_row rfl 26 (.tmp 2) (.tmp 35) rfl w.heap.size #[.int .i64 0, .int .i64 0, .int .i64 0, .int .i64 0, .int .i64 0, .int .i64 0, .int .i64 0, .int .i64 0, .int .i64 0, .int .i64 0, .int .i64 0, .int .i64 0, .int .i64 0, .int .i64 0, .int .i64 0, .int .i64 0, .int .i64 0, .int .i64 0, .int .i64 0, .int .i64 0, .int .i64 0, .int .i64 0, .int .i64 0, .int .i64 0, .int .i64 0, .int .i64 0, .int .i64 0, .int .i64 0, .int .i64 0, .int .i64 0, .int .i64 0] rfl rfl 26 _ HR.out (by kernel_rfl) rfl (by kernel_rfl) ?_
      have hg2 := setRow_heap _ _ _ #[.int .i64 0, .int .i64 0, .int .i64 0, .int .i64 0, .int .i64 0, .int .i64 0, .int .i64 0, .int .i64 0, .int .i64 0, .int .i64 0, .int .i64 0, .int .i64 0, .int .i64 0, .int .i64 0, .int .i64 0, .int .i64 0, .int .i64 0, .int .i64 0, .int .i64 0, .int .i64 0, .int .i64 0, .int .i64 0, .int .i64 0, .int .i64 0, .int .i64 0, .int .i64 0, .int .i64 0, .int .i64 0, .int .i64 0, .int .i64 0, .int .i64 0] _ _ HR.out
      replace E := row_below E (g := w.heap.size) (cs := #[.int .i64 0, .int .i64 0, .int .i64 0, .int .i64 0, .int .i64 0, .int .i64 0, .int .i64 0, .int .i64 0, .int .i64 0, .int .i64 0, .int .i64 0, .int .i64 0, .int .i64 0, .int .i64 0, .int .i64 0, .int .i64 0, .int .i64 0, .int .i64 0, .int .i64 0, .int .i64 0, .int .i64 0, .int .i64 0, .int .i64 0, .int .i64 0, .int .i64 0, .int .i64 0, .int .i64 0, .int .i64 0, .int .i64 0, .int .i64 0, .int .i64 0]) (Nat.le_refl _)
      generalize wr.setRow w.heap.size #[.int .i64 0, .int .i64 0, .int .i64 0, .int .i64 0, .int .i64 0, .int .i64 0, .int .i64 0, .int .i64 0, .int .i64 0, .int .i64 0, .int .i64 0, .int .i64 0, .int .i64 0, .int .i64 0, .int .i64 0, .int .i64 0, .int .i64 0, .int .i64 0, .int .i64 0, .int .i64 0, .int .i64 0, .int .i64 0, .int .i64 0, .int .i64 0, .int .i64 0, .int .i64 0, .int .i64 0, .int .i64 0, .int .i64 0, .int .i64 0, .int .i64 0] = y at *
      go_wp2
      exact bodyPost_ret (v := .tuple #[zv, .int .i64 6]) (results_cell_tmp Tryz.results6 _ _ w.heap.size 26 _ (0, 0) _ rfl hg2 Tryz.underlying26 rfl (by kernel_rfl)) rfl ⟨rfl, E⟩

set_option maxHeartbeats 4000000 in
set_option maxRecDepth 20000 in
theorem rget_empty (s : ByteArray) (hs : s.size ≤ 3000) (h0 : (wds [] s.data.toList).length = 0) (w : World) : Calls Tryz.prog 6 #[.string s] w (RetV (.tuple #[zv, .int .i64 6]) w) := by
  have hn : True := trivial
  obtain ⟨i0, hi, hz0, hz1, hz2⟩ := info_parts info_i64
  obtain ⟨ws, hws⟩ : ∃ ws, wds [] s.data.toList = ws := ⟨_, rfl⟩
  have hwl : ws.length ≤ 3000 := by rw [← hws]; have := wds_le s.data.toList []; rw [← Lib.size_eq] at this; omega
  have cw := words_any s hs
  rw [hws] at cw h0
  obtain rfl : ws = [] := List.eq_nil_of_length_eq_zero h0
  have H0 := Lib.hid h0
  clear h0
  have HWS := Lib.hid hws
  have HN := Lib.hid hn
  clear hws hn
  go_enter Tryz.func6, Tryz.ntmps6
  go_wp2_with fail
  refine (cw _).mono ?_
  rintro e w1 ⟨v, rfl, hown, hb⟩
  have hr0 := block_keep hb (block_alloc (q := Obj.cells #[] 2) (heap_alloc_last w (Obj.cells #[.int .i64 0, .int .i64 0, .int .i64 0, .int .i64 0, .int .i64 0, .int .i64 0, .int .i64 0, .int .i64 0, .int .i64 0, .int .i64 0, .int .i64 0, .int .i64 0, .int .i64 0, .int .i64 0, .int .i64 0, .int .i64 0, .int .i64 0, .int .i64 0, .int .i64 0, .int .i64 0, .int .i64 0, .int .i64 0, .int .i64 0, .int .i64 0, .int .i64 0, .int .i64 0, .int .i64 0, .int .i64 0, .int .i64 0, .int .i64 0, .int .i64 0] 26)))
  have ho0 := own_empty_at (w.alloc (Obj.cells #[.int .i64 0, .int .i64 0, .int .i64 0, .int .i64 0, .int .i64 0, .int .i64 0, .int .i64 0, .int .i64 0, .int .i64 0, .int .i64 0, .int .i64 0, .int .i64 0, .int .i64 0, .int .i64 0, .int .i64 0, .int .i64 0, .int .i64 0, .int .i64 0, .int .i64 0, .int .i64 0, .int .i64 0, .int .i64 0, .int .i64 0, .int .i64 0, .int .i64 0, .int .i64 0, .int .i64 0, .int .i64 0, .int .i64 0, .int .i64 0, .int .i64 0] 26)) 2 (w.heap.size + 1) (by simp)
  have ho1 : w1.ownsRow (w.heap.size + 1) 2 1 (.slice (some ⟨w.heap.size + 1, 0, none⟩) 0 0) 0 [] := own_below ho0 hb
  have E := b_trans (b_alloc (b_alloc (Below.refl w.heap.size w))) hb
  have hsz := hb.size
  simp at hsz
  clear ho0
  rw [sl_len] at hown
  obtain ⟨a, cap, rfl⟩ := own_form hown
  have HR := Lib.hid hr0
  clear hown hb hr0 cw ho1
  go_wp2
  go_loopw [4, 6] (fun nv iv wr => nv = .slice (some ⟨w.heap.size + 1, 0, none⟩) 0 0 ∧ iv = .int .i64 0 ∧ wr = w1) (fun _ iv _ => 0)
  case atStart => exact ⟨rfl, rfl, rfl⟩
  case round =>
    obtain ⟨rfl, rfl, rfl⟩ := hrel
    go_wp2_with (with_reducible refine stop_at none rfl ?_)
    refine unstop ?_
    refine wpList_store_row rfl 26 (.tmp 2) (.tmp 35) rfl w.heap.size #[.int .i64 0, .int .i64 0, .int .i64 0, .int .i64 0, .int .i64 0, .int .i64 0, .int .i64 0, .int .i64 0, .int .i64 0, .int .i64 0, .int .i64 0, .int .i64 0, .int .i64 0, .int .i64 0, .int .i64 0, .int .i64 0, .int .i64 0, .int .i64 0, .int .i64 0, .int .i64 0, .int .i64 0, .int .i64 0, .int .i64 0, .int .i64 0, .int .i64 0, .int .i64 0, .int .i64 0, .int .i64 0, .int .i64 0, .int .i64 0, .int .i64 0] rfl rfl 26 _ HR.out (by kernel_rfl) rfl (by kernel_rfl) ?_
    have hg2 := setRow_heap _ _ _ #[.int .i64 0, .int .i64 0, .int .i64 0, .int .i64 0, .int .i64 0, .int .i64 0, .int .i64 0, .int .i64 0, .int .i64 0, .int .i64 0, .int .i64 0, .int .i64 0, .int .i64 0, .int .i64 0, .int .i64 0, .int .i64 0, .int .i64 0, .int .i64 0, .int .i64 0, .int .i64 0, .int .i64 0, .int .i64 0, .int .i64 0, .int .i64 0, .int .i64 0, .int .i64 0, .int .i64 0, .int .i64 0, .int .i64 0, .int .i64 0, .int .i64 0] _ _ HR.out
    replace E := row_below E (g := w.heap.size) (cs := #[.int .i64 0, .int .i64 0, .int .i64 0, .int .i64 0, .int .i64 0, .int .i64 0, .int .i64 0, .int .i64 0, .int .i64 0, .int .i64 0, .int .i64 0, .int .i64 0, .int .i64 0, .int .i64 0, .int .i64 0, .int .i64 0, .int .i64 0, .int .i64 0, .int .i64 0, .int .i64 0, .int .i64 0, .int .i64 0, .int .i64 0, .int .i64 0, .int .i64 0, .int .i64 0, .int .i64 0, .int .i64 0, .int .i64 0, .int .i64 0, .int .i64 0]) (Nat.le_refl _)
    generalize wr.setRow w.heap.size #[.int .i64 0, .int .i64 0, .int .i64 0, .int .i64 0, .int .i64 0, .int .i64 0, .int .i64 0, .int .i64 0, .int .i64 0, .int .i64 0, .int .i64 0, .int .i64 0, .int .i64 0, .int .i64 0, .int .i64 0, .int .i64 0, .int .i64 0, .int .i64 0, .int .i64 0, .int .i64 0, .int .i64 0, .int .i64 0, .int .i64 0, .int .i64 0, .int .i64 0, .int .i64 0, .int .i64 0, .int .i64 0, .int .i64 0, .int .i64 0, .int .i64 0] = y at *
    go_wp2
    exact bodyPost_ret (v := .tuple #[zv, .int .i64 6]) (results_cell_tmp Tryz.results6 _ _ w.heap.size 26 _ (0, 0) _ rfl hg2 Tryz.underlying26 rfl (by kernel_rfl)) rfl ⟨rfl, E⟩

set_option maxHeartbeats 4000000 in
set_option maxRecDepth 20000 in
theorem rget_is (s : ByteArray) (hs : s.size ≤ 3000) (y : Nat → Int) (hn : nml (wds [] s.data.toList) = (List.range 31).map y) (hy : C64 y) (h0 : 0 < (wds [] s.data.toList).length) (ht : txt y = s.data.toList) (w : World) : Calls Tryz.prog 6 #[.string s] w (RetV (.tuple #[cv y, .int .i64 0]) w) := by
  obtain ⟨i0, hi, hz0, hz1, hz2⟩ := info_parts info_i64
  obtain ⟨ws, hws⟩ : ∃ ws, wds [] s.data.toList = ws := ⟨_, rfl⟩
  have hwl : ws.length ≤ 3000 := by rw [← hws]; have := wds_le s.data.toList []; rw [← Lib.size_eq] at this; omega
  have cw := words_any s hs
  rw [hws] at cw hn h0
  have HWS := Lib.hid hws
  have HN := Lib.hid hn
  clear hws hn
  go_enter Tryz.func6, Tryz.ntmps6
  go_wp2_with fail
  refine (cw _).mono ?_
  rintro e w1 ⟨v, rfl, hown, hb⟩
  have hr0 := block_keep hb (block_alloc (q := Obj.cells #[] 2) (heap_alloc_last w (Obj.cells #[.int .i64 0, .int .i64 0, .int .i64 0, .int .i64 0, .int .i64 0, .int .i64 0, .int .i64 0, .int .i64 0, .int .i64 0, .int .i64 0, .int .i64 0, .int .i64 0, .int .i64 0, .int .i64 0, .int .i64 0, .int .i64 0, .int .i64 0, .int .i64 0, .int .i64 0, .int .i64 0, .int .i64 0, .int .i64 0, .int .i64 0, .int .i64 0, .int .i64 0, .int .i64 0, .int .i64 0, .int .i64 0, .int .i64 0, .int .i64 0, .int .i64 0] 26)))
  have ho0 := own_empty_at (w.alloc (Obj.cells #[.int .i64 0, .int .i64 0, .int .i64 0, .int .i64 0, .int .i64 0, .int .i64 0, .int .i64 0, .int .i64 0, .int .i64 0, .int .i64 0, .int .i64 0, .int .i64 0, .int .i64 0, .int .i64 0, .int .i64 0, .int .i64 0, .int .i64 0, .int .i64 0, .int .i64 0, .int .i64 0, .int .i64 0, .int .i64 0, .int .i64 0, .int .i64 0, .int .i64 0, .int .i64 0, .int .i64 0, .int .i64 0, .int .i64 0, .int .i64 0, .int .i64 0] 26)) 2 (w.heap.size + 1) (by simp)
  have ho1 : w1.ownsRow (w.heap.size + 1) 2 1 (.slice (some ⟨w.heap.size + 1, 0, none⟩) 0 0) 0 [] := own_below ho0 hb
  have E := b_trans (b_alloc (b_alloc (Below.refl w.heap.size w))) hb
  have hsz := hb.size
  simp at hsz
  clear ho0
  rw [sl_len] at hown
  obtain ⟨gw, capw, curw, rfl, hgB, hgw, hcn, hcu⟩ := own_row hown (by omega)
  have HCU := Lib.hid hcu
  clear hown hb hcu cw
  go_wp2
  go_loopw [4, 6] (fun nv iv wr => ∃ k : Nat, k ≤ ws.length ∧ iv = .int .i64 k ∧ wr.ownsRow (w.heap.size + 1) 2 1 nv (nml (ws.take k)).length (IL (nml (ws.take k))) ∧ wr.heap[gw]? = some (.cells curw 9 (0, 0)) ∧ wr.heap[w.heap.size]? = some (.cells #[.int .i64 0, .int .i64 0, .int .i64 0, .int .i64 0, .int .i64 0, .int .i64 0, .int .i64 0, .int .i64 0, .int .i64 0, .int .i64 0, .int .i64 0, .int .i64 0, .int .i64 0, .int .i64 0, .int .i64 0, .int .i64 0, .int .i64 0, .int .i64 0, .int .i64 0, .int .i64 0, .int .i64 0, .int .i64 0, .int .i64 0, .int .i64 0, .int .i64 0, .int .i64 0, .int .i64 0, .int .i64 0, .int .i64 0, .int .i64 0, .int .i64 0] 26 (0, 0)) ∧ w.heap.size + 1 ≤ wr.heap.size ∧ Below w.heap.size w wr) (fun _ iv _ => ws.length - (RowKit.intOf iv).toNat)
  case atStart => exact ⟨0, Nat.zero_le _, rfl, ho1, hgw, hr0, by omega, E⟩
  case round =>
    clear ho1 hgw hr0 E hsz
    obtain ⟨k, hk, rfl, ho, hgw, hr0, hsz, E⟩ := hrel
    by_cases hlt : k < ws.length
    · obtain ⟨l, hl⟩ : ∃ l, ws[k]? = some l := ⟨_, List.getElem?_eq_getElem hlt⟩
      have hc := row_at hgw (HCU.out k _ (sl_at hl))
      have hnt := nml_take hl
      have hkl := nml_len (ws.take k)
      have hkt : (ws.take k).length ≤ 3000 := by rw [List.length_take]; omega
      have hls : (⟨l.toArray⟩ : ByteArray).size ≤ 3000 := by
        have : l.length ≤ 3000 := by
          have := wds_word_le s.data.toList [] l (by rw [HWS.out]; exact List.mem_of_getElem? hl)
          rw [← Lib.size_eq] at this
          simp at this
          omega
        rw [Lib.size_eq, mk_list]; exact this
      have cn := rnumber_any ⟨l.toArray⟩ hls
      rw [mk_list] at cn
      obtain ⟨sl, hsl⟩ : ∃ sl : ByteArray, ⟨l.toArray⟩ = sl := ⟨_, rfl⟩
      rw [hsl] at cn hc
      have e5 : IntKind.i64.wrap ((k : Int) + 1) = (k : Int) + 1 := by rw [IntKind.wrap_i64]; omega
      have HNT := Lib.hid hnt
      have HO := Lib.hid ho
      have HG := Lib.hid hgw
      have HR := Lib.hid hr0
      have HE := Lib.hid E
      have HSL := Lib.hid hsl
      have HL := Lib.hid hl
      clear hnt ho hgw hr0 E hsl hls hl
      go_wp2_with fail
      refine (cn _).mono ?_
      rintro e w2 ⟨X, b, rfl, hw, ht, hf⟩
      rw [hw]
      clear hw
      cases b
      · have hq := numL_none (hf rfl)
        have HT : Hid (nml (ws.take (k + 1)) = nml (ws.take k)) := by have := HNT.out; rw [hq, Option.toList_none, List.append_nil] at this; exact this
        clear ht hf hq cn
        go_wp2
        go_roundw
        case rel => exact ⟨k + 1, by omega, by go_num, by rw [HT.out]; exact HO.out, HG.out, HR.out, hsz, HE.out⟩
        case measure => simp [RowKit.intOf]; omega
      · obtain ⟨hx, hq⟩ := ht rfl
        have HT : Hid (nml (ws.take (k + 1)) = nml (ws.take k) ++ [X]) := by have := HNT.out; rw [numL_some hx hq, Option.toList_some] at this; exact this
        clear ht hf hq hx cn
        go_wp2_with (at_builtin; refine wpList_append_own _ rfl _ _ 39 rfl (w.heap.size + 1) 2 i0 (.int .i64 0) 1 8 Tryz.underlying39 hi hz0 hz1 hz2 rfl (by decide) _ _ _ rfl (HO.out.alloc _) ⟨wr.heap.size, 0, none⟩ 1 1 [.int .i64 X] rfl rfl (cell_one_new _ _ _) (fun x hx => by simp at hx; subst hx; rfl) (by unfold maxLen; omega) (by omega) (by simp; omega) ?_; intro v' w3 hown' hgrow3 hnil3)
        have n1 := own_apart HO.out HG.out (by decide)
        have n2 := own_apart HO.out HR.out (by decide)
        have HB3 := Lib.hid (Below.grown (b_alloc HE.out) hgrow3 (by simp; omega) (fun q hq => Nat.le_of_succ_le (own_part HO.out q hq)))
        have HG3 := Lib.hid (grown_block hgrow3 (block_alloc HG.out) n1)
        have HR3 := Lib.hid (grown_block hgrow3 (block_alloc HR.out) n2)
        have hs3 : w.heap.size + 1 ≤ w3.heap.size := by have := hgrow3.size; simp at this; omega
        have HO3 := Lib.hid hown'
        clear hown' hgrow3 hnil3 n1 n2
        go_wp2
        go_roundw
        case rel => exact ⟨k + 1, by omega, by go_num, by rw [HT.out, il_snoc, List.length_append]; exact HO3.out, HG3.out, HR3.out, hs3, HB3.out⟩
        case measure => simp [RowKit.intOf]; omega
    · obtain rfl : k = ws.length := by omega
      rw [List.take_length] at ho
      have hnl : (nml ws).length = 31 := by rw [HN.out]; simp
      rw [hnl, HN.out] at ho
      obtain ⟨g, cap, cur, rfl, hgB2, hgn, hcn2, hcv⟩ := own_row ho (by decide)
      have K : ∀ j, j < 31 → wr.cell? ⟨g, j, none⟩ = some (.int .i64 (y j)) := fun j hj => row_at hgn (hcv j _ (by unfold IL; rw [List.getElem?_map, List.getElem?_map, List.getElem?_range hj]; rfl))
      have HR := Lib.hid hr0
      have HT := Lib.hid ht
      have cp := rput_any y hy
      obtain ⟨tb, htb⟩ : ∃ tb : ByteArray, ⟨(txt y).toArray⟩ = tb := ⟨_, rfl⟩
      rw [htb] at cp
      have HTB := Lib.hid htb
      have f1 : (((31 : Nat) : Int) != 31) = false := by decide
      clear ho hgw hr0 hcv hgn hnl ht htb hy hgB2 hcn2
      go_wp2
      refine region_each [36, 37, 38, 39, 40, 41, 42, 43, 44, 45, 46, 47, 48, 49, 50, 51, 52, 53, 54, 55, 56, 57, 58, 59, 60, 61, 62, 63, 64, 65, 66, 67, 68, 69, 70, 71, 72, 73, 74, 75, 76, 77, 78, 79, 80, 9] (fun i_ X_ U_ => match i_ with | 0 => X_ = .slice (some ⟨g, 0, none⟩) 31 cap | 1 => X_ = tv (y 0) (y 1) (y 2) | 2 => X_ = .slice (some ⟨g, 0, none⟩) 31 cap | 3 => X_ = tv (y 3) (y 4) (y 5) | 4 => X_ = .slice (some ⟨g, 0, none⟩) 31 cap | 5 => X_ = .pointer (some ⟨g, 6, none⟩) | 6 => X_ = .int .i64 (y 6) | 7 => X_ = .slice (some ⟨g, 0, none⟩) 31 cap | 8 => X_ = .pointer (some ⟨g, 7, none⟩) | 9 => X_ = .int .i64 (y 7) | 10 => X_ = .slice (some ⟨g, 0, none⟩) 31 cap | 11 => X_ = tv (y 8) (y 9) (y 10) | 12 => X_ = .slice (some ⟨g, 0, none⟩) 31 cap | 13 => X_ = tv (y 11) (y 12) (y 13) | 14 => X_ = .slice (some ⟨g, 0, none⟩) 31 cap | 15 => X_ = tv (y 14) (y 15) (y 16) | 16 => X_ = .slice (some ⟨g, 0, none⟩) 31 cap | 17 => X_ = tv (y 17) (y 18) (y 19) | 18 => X_ = .slice (some ⟨g, 0, none⟩) 31 cap | 19 => X_ = .pointer (some ⟨g, 20, none⟩) | 20 => X_ = .int .i64 (y 20) | 21 => X_ = .slice (some ⟨g, 0, none⟩) 31 cap | 22 => X_ = tv (y 21) (y 22) (y 23) | 23 => X_ = .slice (some ⟨g, 0, none⟩) 31 cap | 24 => X_ = .pointer (some ⟨g, 24, none⟩) | 25 => X_ = .int .i64 (y 24) | 26 => X_ = .slice (some ⟨g, 0, none⟩) 31 cap | 27 => X_ = .pointer (some ⟨g, 25, none⟩) | 28 => X_ = .int .i64 (y 25) | 29 => X_ = .slice (some ⟨g, 0, none⟩) 31 cap | 30 => X_ = .pointer (some ⟨g, 26, none⟩) | 31 => X_ = .int .i64 (y 26) | 32 => X_ = .slice (some ⟨g, 0, none⟩) 31 cap | 33 => X_ = .pointer (some ⟨g, 27, none⟩) | 34 => X_ = .int .i64 (y 27) | 35 => X_ = .slice (some ⟨g, 0, none⟩) 31 cap | 36 => X_ = .pointer (some ⟨g, 28, none⟩) | 37 => X_ = .int .i64 (y 28) | 38 => X_ = .slice (some ⟨g, 0, none⟩) 31 cap | 39 => X_ = .pointer (some ⟨g, 29, none⟩) | 40 => X_ = .int .i64 (y 29) | 41 => X_ = .slice (some ⟨g, 0, none⟩) 31 cap | 42 => X_ = .pointer (some ⟨g, 30, none⟩) | 43 => X_ = .int .i64 (y 30) | 44 => X_ = cv y | 45 => ∃ g, X_ = .pointer (some ⟨g, 0, none⟩) ∧ wr.heap.size ≤ g ∧ U_.heap[g]? = some (.cells #[.int .i64 0, .int .i64 0, .int .i64 0, .int .i64 0, .int .i64 0, .int .i64 0, .int .i64 0, .int .i64 0, .int .i64 0, .int .i64 0, .int .i64 0, .int .i64 0, .int .i64 0, .int .i64 0, .int .i64 0, .int .i64 0, .int .i64 0, .int .i64 0, .int .i64 0, .int .i64 0, .int .i64 0, .int .i64 0, .int .i64 0, .int .i64 0, .int .i64 0, .int .i64 0, .int .i64 0, .int .i64 0, .int .i64 0, .int .i64 0, .int .i64 0] 26 (0, 0)) ∧ True | _ => True) (fun i_ => i_ == 45) (by kernel_rfl) (by kernel_rfl) (by kernel_rfl) (by kernel_rfl) (by kernel_rfl) ?_ ?_ ?_ ?_
      · refine swp (upS (upS (upS (upS (upS (upS (upS (upS (upS (upS (upS (upS (upS (upS (upS (upS (upS (upS (upS (upS (upS (upS (upS (upS (upS (upS (upS (upS (upS (upS (upS (upS (upS (upS (upS (upS (upS (upS (upS (upS (upS (upS (upS (upS (upS (upS up0 ?_) ?_) ?_) ?_) ?_) ?_) ?_) ?_) ?_) ?_) ?_) ?_) ?_) ?_) ?_) ?_) ?_) ?_) ?_) ?_) ?_) ?_) ?_) ?_) ?_) ?_) ?_) ?_) ?_) ?_) ?_) ?_) ?_) ?_) ?_) ?_) ?_) ?_) ?_) ?_) ?_) ?_) ?_) ?_) ?_) ?_)
        · exact fun _ _ _ h _ => h
        · exact fun _ _ _ h _ => h
        · exact fun _ _ _ h _ => h
        · exact fun _ _ _ h _ => h
        · exact fun _ _ _ h _ => h
        · exact fun _ _ _ h _ => h
        · exact fun _ _ _ h _ => h
        · exact fun _ _ _ h _ => h
        · exact fun _ _ _ h _ => h
        · exact fun _ _ _ h _ => h
        · exact fun _ _ _ h _ => h
        · exact fun _ _ _ h _ => h
        · exact fun _ _ _ h _ => h
        · exact fun _ _ _ h _ => h
        · exact fun _ _ _ h _ => h
        · exact fun _ _ _ h _ => h
        · exact fun _ _ _ h _ => h
        · exact fun _ _ _ h _ => h
        · exact fun _ _ _ h _ => h
        · exact fun _ _ _ h _ => h
        · exact fun _ _ _ h _ => h
        · exact fun _ _ _ h _ => h
        · exact fun _ _ _ h _ => h
        · exact fun _ _ _ h _ => h
        · exact fun _ _ _ h _ => h
        · exact fun _ _ _ h _ => h
        · exact fun _ _ _ h _ => h
        · exact fun _ _ _ h _ => h
        · exact fun _ _ _ h _ => h
        · exact fun _ _ _ h _ => h
        · exact fun _ _ _ h _ => h
        · exact fun _ _ _ h _ => h
        · exact fun _ _ _ h _ => h
        · exact fun _ _ _ h _ => h
        · exact fun _ _ _ h _ => h
        · exact fun _ _ _ h _ => h
        · exact fun _ _ _ h _ => h
        · exact fun _ _ _ h _ => h
        · exact fun _ _ _ h _ => h
        · exact fun _ _ _ h _ => h
        · exact fun _ _ _ h _ => h
        · exact fun _ _ _ h _ => h
        · exact fun _ _ _ h _ => h
        · exact fun _ _ _ h _ => h
        · exact fun _ _ _ h _ => h
        · intro x w w' h hb; obtain ⟨g, e, hg, hc, _⟩ := h; exact ⟨g, e, hg, block_keep hb hc, trivial⟩
      · refine swa (upS (upS (upS (upS (upS (upS (upS (upS (upS (upS (upS (upS (upS (upS (upS (upS (upS (upS (upS (upS (upS (upS (upS (upS (upS (upS (upS (upS (upS (upS (upS (upS (upS (upS (upS (upS (upS (upS (upS (upS (upS (upS (upS (upS (upS (upS up0 ?_) ?_) ?_) ?_) ?_) ?_) ?_) ?_) ?_) ?_) ?_) ?_) ?_) ?_) ?_) ?_) ?_) ?_) ?_) ?_) ?_) ?_) ?_) ?_) ?_) ?_) ?_) ?_) ?_) ?_) ?_) ?_) ?_) ?_) ?_) ?_) ?_) ?_) ?_) ?_) ?_) ?_) ?_) ?_) ?_) ?_)
        · exact fun _ _ ha => absurd ha (by decide)
        · exact fun _ _ ha => absurd ha (by decide)
        · exact fun _ _ ha => absurd ha (by decide)
        · exact fun _ _ ha => absurd ha (by decide)
        · exact fun _ _ ha => absurd ha (by decide)
        · exact fun _ _ ha => absurd ha (by decide)
        · exact fun _ _ ha => absurd ha (by decide)
        · exact fun _ _ ha => absurd ha (by decide)
        · exact fun _ _ ha => absurd ha (by decide)
        · exact fun _ _ ha => absurd ha (by decide)
        · exact fun _ _ ha => absurd ha (by decide)
        · exact fun _ _ ha => absurd ha (by decide)
        · exact fun _ _ ha => absurd ha (by decide)
        · exact fun _ _ ha => absurd ha (by decide)
        · exact fun _ _ ha => absurd ha (by decide)
        · exact fun _ _ ha => absurd ha (by decide)
        · exact fun _ _ ha => absurd ha (by decide)
        · exact fun _ _ ha => absurd ha (by decide)
        · exact fun _ _ ha => absurd ha (by decide)
        · exact fun _ _ ha => absurd ha (by decide)
        · exact fun _ _ ha => absurd ha (by decide)
        · exact fun _ _ ha => absurd ha (by decide)
        · exact fun _ _ ha => absurd ha (by decide)
        · exact fun _ _ ha => absurd ha (by decide)
        · exact fun _ _ ha => absurd ha (by decide)
        · exact fun _ _ ha => absurd ha (by decide)
        · exact fun _ _ ha => absurd ha (by decide)
        · exact fun _ _ ha => absurd ha (by decide)
        · exact fun _ _ ha => absurd ha (by decide)
        · exact fun _ _ ha => absurd ha (by decide)
        · exact fun _ _ ha => absurd ha (by decide)
        · exact fun _ _ ha => absurd ha (by decide)
        · exact fun _ _ ha => absurd ha (by decide)
        · exact fun _ _ ha => absurd ha (by decide)
        · exact fun _ _ ha => absurd ha (by decide)
        · exact fun _ _ ha => absurd ha (by decide)
        · exact fun _ _ ha => absurd ha (by decide)
        · exact fun _ _ ha => absurd ha (by decide)
        · exact fun _ _ ha => absurd ha (by decide)
        · exact fun _ _ ha => absurd ha (by decide)
        · exact fun _ _ ha => absurd ha (by decide)
        · exact fun _ _ ha => absurd ha (by decide)
        · exact fun _ _ ha => absurd ha (by decide)
        · exact fun _ _ ha => absurd ha (by decide)
        · exact fun _ _ ha => absurd ha (by decide)
        · intro x w _ h; obtain ⟨g, rfl, _, hg, _⟩ := h; exact (Array.getElem?_eq_some_iff.1 hg).1
      · refine upS (upS (upS (upS (upS (upS (upS (upS (upS (upS (upS (upS (upS (upS (upS (upS (upS (upS (upS (upS (upS (upS (upS (upS (upS (upS (upS (upS (upS (upS (upS (upS (upS (upS (upS (upS (upS (upS (upS (upS (upS (upS (upS (upS (upS (upS up0 ?_) ?_) ?_) ?_) ?_) ?_) ?_) ?_) ?_) ?_) ?_) ?_) ?_) ?_) ?_) ?_) ?_) ?_) ?_) ?_) ?_) ?_) ?_) ?_) ?_) ?_) ?_) ?_) ?_) ?_) ?_) ?_) ?_) ?_) ?_) ?_) ?_) ?_) ?_) ?_) ?_) ?_) ?_) ?_) ?_) ?_
        all_goals intro v f w' hb hv hB hd
        · have b4 : f.tmps[4]? = some (.slice (some ⟨g, 0, none⟩) 31 cap) := (hb 4 (by decide)).trans rfl
          clear hb hv hd
          refine wpOp_step rfl fun K hK => ?_
          go_simp
          exact hK _ _ ⟨_, rfl, Below.refl _ _, rfl, fun h => absurd h (by decide)⟩
        · have d0 := got (hv 0 36 rfl) (hd 0 (by kernel_rfl))
          clear hb hv hd
          refine wpOp_call rfl Tryz.call16 (args2 (eval_tmp d0) rfl) (part_at g cap 0 0 1 2 y rfl rfl rfl (by decide) _ (fun j hj => cell_keep hB (K j hj))) ?_
          rintro e5 w5 ⟨rfl, hb5⟩
          exact ⟨_, rfl, _, rfl, hb5, rfl, fun h => absurd h (by decide)⟩
        · have b4 : f.tmps[4]? = some (.slice (some ⟨g, 0, none⟩) 31 cap) := (hb 4 (by decide)).trans rfl
          clear hb hv hd
          refine wpOp_step rfl fun K hK => ?_
          go_simp
          exact hK _ _ ⟨_, rfl, Below.refl _ _, rfl, fun h => absurd h (by decide)⟩
        · have d2 := got (hv 2 38 rfl) (hd 2 (by kernel_rfl))
          clear hb hv hd
          refine wpOp_call rfl Tryz.call16 (args2 (eval_tmp d2) rfl) (part_at g cap 3 3 4 5 y rfl rfl rfl (by decide) _ (fun j hj => cell_keep hB (K j hj))) ?_
          rintro e5 w5 ⟨rfl, hb5⟩
          exact ⟨_, rfl, _, rfl, hb5, rfl, fun h => absurd h (by decide)⟩
        · have b4 : f.tmps[4]? = some (.slice (some ⟨g, 0, none⟩) 31 cap) := (hb 4 (by decide)).trans rfl
          clear hb hv hd
          refine wpOp_step rfl fun K hK => ?_
          go_simp
          exact hK _ _ ⟨_, rfl, Below.refl _ _, rfl, fun h => absurd h (by decide)⟩
        · have d4 := got (hv 4 40 rfl) (hd 4 (by kernel_rfl))
          clear hb hv hd
          refine wpOp_step rfl fun K hK => ?_
          go_simp
          exact hK _ _ ⟨_, rfl, Below.refl _ _, rfl, fun h => absurd h (by decide)⟩
        · have d5 := got (hv 5 41 rfl) (hd 5 (by kernel_rfl))
          clear hb hv hd
          have c6 := cell_keep hB (K 6 (by decide))
          refine wpOp_step rfl fun K hK => ?_
          go_simp
          exact hK _ _ ⟨_, rfl, Below.refl _ _, rfl, fun h => absurd h (by decide)⟩
        · have b4 : f.tmps[4]? = some (.slice (some ⟨g, 0, none⟩) 31 cap) := (hb 4 (by decide)).trans rfl
          clear hb hv hd
          refine wpOp_step rfl fun K hK => ?_
          go_simp
          exact hK _ _ ⟨_, rfl, Below.refl _ _, rfl, fun h => absurd h (by decide)⟩
        · have d7 := got (hv 7 43 rfl) (hd 7 (by kernel_rfl))
          clear hb hv hd
          refine wpOp_step rfl fun K hK => ?_
          go_simp
          exact hK _ _ ⟨_, rfl, Below.refl _ _, rfl, fun h => absurd h (by decide)⟩
        · have d8 := got (hv 8 44 rfl) (hd 8 (by kernel_rfl))
          clear hb hv hd
          have c7 := cell_keep hB (K 7 (by decide))
          refine wpOp_step rfl fun K hK => ?_
          go_simp
          exact hK _ _ ⟨_, rfl, Below.refl _ _, rfl, fun h => absurd h (by decide)⟩
        · have b4 : f.tmps[4]? = some (.slice (some ⟨g, 0, none⟩) 31 cap) := (hb 4 (by decide)).trans rfl
          clear hb hv hd
          refine wpOp_step rfl fun K hK => ?_
          go_simp
          exact hK _ _ ⟨_, rfl, Below.refl _ _, rfl, fun h => absurd h (by decide)⟩
        · have d10 := got (hv 10 46 rfl) (hd 10 (by kernel_rfl))
          clear hb hv hd
          refine wpOp_call rfl Tryz.call16 (args2 (eval_tmp d10) rfl) (part_at g cap 8 8 9 10 y rfl rfl rfl (by decide) _ (fun j hj => cell_keep hB (K j hj))) ?_
          rintro e5 w5 ⟨rfl, hb5⟩
          exact ⟨_, rfl, _, rfl, hb5, rfl, fun h => absurd h (by decide)⟩
        · have b4 : f.tmps[4]? = some (.slice (some ⟨g, 0, none⟩) 31 cap) := (hb 4 (by decide)).trans rfl
          clear hb hv hd
          refine wpOp_step rfl fun K hK => ?_
          go_simp
          exact hK _ _ ⟨_, rfl, Below.refl _ _, rfl, fun h => absurd h (by decide)⟩
        · have d12 := got (hv 12 48 rfl) (hd 12 (by kernel_rfl))
          clear hb hv hd
          refine wpOp_call rfl Tryz.call16 (args2 (eval_tmp d12) rfl) (part_at g cap 11 11 12 13 y rfl rfl rfl (by decide) _ (fun j hj => cell_keep hB (K j hj))) ?_
          rintro e5 w5 ⟨rfl, hb5⟩
          exact ⟨_, rfl, _, rfl, hb5, rfl, fun h => absurd h (by decide)⟩
        · have b4 : f.tmps[4]? = some (.slice (some ⟨g, 0, none⟩) 31 cap) := (hb 4 (by decide)).trans rfl
          clear hb hv hd
          refine wpOp_step rfl fun K hK => ?_
          go_simp
          exact hK _ _ ⟨_, rfl, Below.refl _ _, rfl, fun h => absurd h (by decide)⟩
        · have d14 := got (hv 14 50 rfl) (hd 14 (by kernel_rfl))
          clear hb hv hd
          refine wpOp_call rfl Tryz.call16 (args2 (eval_tmp d14) rfl) (part_at g cap 14 14 15 16 y rfl rfl rfl (by decide) _ (fun j hj => cell_keep hB (K j hj))) ?_
          rintro e5 w5 ⟨rfl, hb5⟩
          exact ⟨_, rfl, _, rfl, hb5, rfl, fun h => absurd h (by decide)⟩
        · have b4 : f.tmps[4]? = some (.slice (some ⟨g, 0, none⟩) 31 cap) := (hb 4 (by decide)).trans rfl
          clear hb hv hd
          refine wpOp_step rfl fun K hK => ?_
          go_simp
          exact hK _ _ ⟨_, rfl, Below.refl _ _, rfl, fun h => absurd h (by decide)⟩
        · have d16 := got (hv 16 52 rfl) (hd 16 (by kernel_rfl))
          clear hb hv hd
          refine wpOp_call rfl Tryz.call16 (args2 (eval_tmp d16) rfl) (part_at g cap 17 17 18 19 y rfl rfl rfl (by decide) _ (fun j hj => cell_keep hB (K j hj))) ?_
          rintro e5 w5 ⟨rfl, hb5⟩
          exact ⟨_, rfl, _, rfl, hb5, rfl, fun h => absurd h (by decide)⟩
        · have b4 : f.tmps[4]? = some (.slice (some ⟨g, 0, none⟩) 31 cap) := (hb 4 (by decide)).trans rfl
          clear hb hv hd
          refine wpOp_step rfl fun K hK => ?_
          go_simp
          exact hK _ _ ⟨_, rfl, Below.refl _ _, rfl, fun h => absurd h (by decide)⟩
        · have d18 := got (hv 18 54 rfl) (hd 18 (by kernel_rfl))
          clear hb hv hd
          refine wpOp_step rfl fun K hK => ?_
          go_simp
          exact hK _ _ ⟨_, rfl, Below.refl _ _, rfl, fun h => absurd h (by decide)⟩
        · have d19 := got (hv 19 55 rfl) (hd 19 (by kernel_rfl))
          clear hb hv hd
          have c20 := cell_keep hB (K 20 (by decide))
          refine wpOp_step rfl fun K hK => ?_
          go_simp
          exact hK _ _ ⟨_, rfl, Below.refl _ _, rfl, fun h => absurd h (by decide)⟩
        · have b4 : f.tmps[4]? = some (.slice (some ⟨g, 0, none⟩) 31 cap) := (hb 4 (by decide)).trans rfl
          clear hb hv hd
          refine wpOp_step rfl fun K hK => ?_
          go_simp
          exact hK _ _ ⟨_, rfl, Below.refl _ _, rfl, fun h => absurd h (by decide)⟩
        · have d21 := got (hv 21 57 rfl) (hd 21 (by kernel_rfl))
          clear hb hv hd
          refine wpOp_call rfl Tryz.call16 (args2 (eval_tmp d21) rfl) (part_at g cap 21 21 22 23 y rfl rfl rfl (by decide) _ (fun j hj => cell_keep hB (K j hj))) ?_
          rintro e5 w5 ⟨rfl, hb5⟩
          exact ⟨_, rfl, _, rfl, hb5, rfl, fun h => absurd h (by decide)⟩
        · have b4 : f.tmps[4]? = some (.slice (some ⟨g, 0, none⟩) 31 cap) := (hb 4 (by decide)).trans rfl
          clear hb hv hd
          refine wpOp_step rfl fun K hK => ?_
          go_simp
          exact hK _ _ ⟨_, rfl, Below.refl _ _, rfl, fun h => absurd h (by decide)⟩
        · have d23 := got (hv 23 59 rfl) (hd 23 (by kernel_rfl))
          clear hb hv hd
          refine wpOp_step rfl fun K hK => ?_
          go_simp
          exact hK _ _ ⟨_, rfl, Below.refl _ _, rfl, fun h => absurd h (by decide)⟩
        · have d24 := got (hv 24 60 rfl) (hd 24 (by kernel_rfl))
          clear hb hv hd
          have c24 := cell_keep hB (K 24 (by decide))
          refine wpOp_step rfl fun K hK => ?_
          go_simp
          exact hK _ _ ⟨_, rfl, Below.refl _ _, rfl, fun h => absurd h (by decide)⟩
        · have b4 : f.tmps[4]? = some (.slice (some ⟨g, 0, none⟩) 31 cap) := (hb 4 (by decide)).trans rfl
          clear hb hv hd
          refine wpOp_step rfl fun K hK => ?_
          go_simp
          exact hK _ _ ⟨_, rfl, Below.refl _ _, rfl, fun h => absurd h (by decide)⟩
        · have d26 := got (hv 26 62 rfl) (hd 26 (by kernel_rfl))
          clear hb hv hd
          refine wpOp_step rfl fun K hK => ?_
          go_simp
          exact hK _ _ ⟨_, rfl, Below.refl _ _, rfl, fun h => absurd h (by decide)⟩
        · have d27 := got (hv 27 63 rfl) (hd 27 (by kernel_rfl))
          clear hb hv hd
          have c25 := cell_keep hB (K 25 (by decide))
          refine wpOp_step rfl fun K hK => ?_
          go_simp
          exact hK _ _ ⟨_, rfl, Below.refl _ _, rfl, fun h => absurd h (by decide)⟩
        · have b4 : f.tmps[4]? = some (.slice (some ⟨g, 0, none⟩) 31 cap) := (hb 4 (by decide)).trans rfl
          clear hb hv hd
          refine wpOp_step rfl fun K hK => ?_
          go_simp
          exact hK _ _ ⟨_, rfl, Below.refl _ _, rfl, fun h => absurd h (by decide)⟩
        · have d29 := got (hv 29 65 rfl) (hd 29 (by kernel_rfl))
          clear hb hv hd
          refine wpOp_step rfl fun K hK => ?_
          go_simp
          exact hK _ _ ⟨_, rfl, Below.refl _ _, rfl, fun h => absurd h (by decide)⟩
        · have d30 := got (hv 30 66 rfl) (hd 30 (by kernel_rfl))
          clear hb hv hd
          have c26 := cell_keep hB (K 26 (by decide))
          refine wpOp_step rfl fun K hK => ?_
          go_simp
          exact hK _ _ ⟨_, rfl, Below.refl _ _, rfl, fun h => absurd h (by decide)⟩
        · have b4 : f.tmps[4]? = some (.slice (some ⟨g, 0, none⟩) 31 cap) := (hb 4 (by decide)).trans rfl
          clear hb hv hd
          refine wpOp_step rfl fun K hK => ?_
          go_simp
          exact hK _ _ ⟨_, rfl, Below.refl _ _, rfl, fun h => absurd h (by decide)⟩
        · have d32 := got (hv 32 68 rfl) (hd 32 (by kernel_rfl))
          clear hb hv hd
          refine wpOp_step rfl fun K hK => ?_
          go_simp
          exact hK _ _ ⟨_, rfl, Below.refl _ _, rfl, fun h => absurd h (by decide)⟩
        · have d33 := got (hv 33 69 rfl) (hd 33 (by kernel_rfl))
          clear hb hv hd
          have c27 := cell_keep hB (K 27 (by decide))
          refine wpOp_step rfl fun K hK => ?_
          go_simp
          exact hK _ _ ⟨_, rfl, Below.refl _ _, rfl, fun h => absurd h (by decide)⟩
        · have b4 : f.tmps[4]? = some (.slice (some ⟨g, 0, none⟩) 31 cap) := (hb 4 (by decide)).trans rfl
          clear hb hv hd
          refine wpOp_step rfl fun K hK => ?_
          go_simp
          exact hK _ _ ⟨_, rfl, Below.refl _ _, rfl, fun h => absurd h (by decide)⟩
        · have d35 := got (hv 35 71 rfl) (hd 35 (by kernel_rfl))
          clear hb hv hd
          refine wpOp_step rfl fun K hK => ?_
          go_simp
          exact hK _ _ ⟨_, rfl, Below.refl _ _, rfl, fun h => absurd h (by decide)⟩
        · have d36 := got (hv 36 72 rfl) (hd 36 (by kernel_rfl))
          clear hb hv hd
          have c28 := cell_keep hB (K 28 (by decide))
          refine wpOp_step rfl fun K hK => ?_
          go_simp
          exact hK _ _ ⟨_, rfl, Below.refl _ _, rfl, fun h => absurd h (by decide)⟩
        · have b4 : f.tmps[4]? = some (.slice (some ⟨g, 0, none⟩) 31 cap) := (hb 4 (by decide)).trans rfl
          clear hb hv hd
          refine wpOp_step rfl fun K hK => ?_
          go_simp
          exact hK _ _ ⟨_, rfl, Below.refl _ _, rfl, fun h => absurd h (by decide)⟩
        · have d38 := got (hv 38 74 rfl) (hd 38 (by kernel_rfl))
          clear hb hv hd
          refine wpOp_step rfl fun K hK => ?_
          go_simp
          exact hK _ _ ⟨_, rfl, Below.refl _ _, rfl, fun h => absurd h (by decide)⟩
        · have d39 := got (hv 39 75 rfl) (hd 39 (by kernel_rfl))
          clear hb hv hd
          have c29 := cell_keep hB (K 29 (by decide))
          refine wpOp_step rfl fun K hK => ?_
          go_simp
          exact hK _ _ ⟨_, rfl, Below.refl _ _, rfl, fun h => absurd h (by decide)⟩
        · have b4 : f.tmps[4]? = some (.slice (some ⟨g, 0, none⟩) 31 cap) := (hb 4 (by decide)).trans rfl
          clear hb hv hd
          refine wpOp_step rfl fun K hK => ?_
          go_simp
          exact hK _ _ ⟨_, rfl, Below.refl _ _, rfl, fun h => absurd h (by decide)⟩
        · have d41 := got (hv 41 77 rfl) (hd 41 (by kernel_rfl))
          clear hb hv hd
          refine wpOp_step rfl fun K hK => ?_
          go_simp
          exact hK _ _ ⟨_, rfl, Below.refl _ _, rfl, fun h => absurd h (by decide)⟩
        · have d42 := got (hv 42 78 rfl) (hd 42 (by kernel_rfl))
          clear hb hv hd
          have c30 := cell_keep hB (K 30 (by decide))
          refine wpOp_step rfl fun K hK => ?_
          go_simp
          exact hK _ _ ⟨_, rfl, Below.refl _ _, rfl, fun h => absurd h (by decide)⟩
        · have d1 := got (hv 1 37 rfl) (hd 1 (by kernel_rfl))
          have d3 := got (hv 3 39 rfl) (hd 3 (by kernel_rfl))
          have d6 := got (hv 6 42 rfl) (hd 6 (by kernel_rfl))
          have d9 := got (hv 9 45 rfl) (hd 9 (by kernel_rfl))
          have d11 := got (hv 11 47 rfl) (hd 11 (by kernel_rfl))
          have d13 := got (hv 13 49 rfl) (hd 13 (by kernel_rfl))
          have d15 := got (hv 15 51 rfl) (hd 15 (by kernel_rfl))
          have d17 := got (hv 17 53 rfl) (hd 17 (by kernel_rfl))
          have d20 := got (hv 20 56 rfl) (hd 20 (by kernel_rfl))
          have d22 := got (hv 22 58 rfl) (hd 22 (by kernel_rfl))
          have d25 := got (hv 25 61 rfl) (hd 25 (by kernel_rfl))
          have d28 := got (hv 28 64 rfl) (hd 28 (by kernel_rfl))
          have d31 := got (hv 31 67 rfl) (hd 31 (by kernel_rfl))
          have d34 := got (hv 34 70 rfl) (hd 34 (by kernel_rfl))
          have d37 := got (hv 37 73 rfl) (hd 37 (by kernel_rfl))
          have d40 := got (hv 40 76 rfl) (hd 40 (by kernel_rfl))
          have d43 := got (hv 43 79 rfl) (hd 43 (by kernel_rfl))
          clear hb hv hd
          refine wpOp_step rfl fun K hK => ?_
          go_simp
          exact hK _ _ ⟨_, rfl, Below.refl _ _, rfl, fun h => absurd h (by decide)⟩
        · clear hb hv hd
          refine wpOp_step rfl fun K hK => ?_
          go_simp
          exact hK _ _ ⟨_, rfl, b_alloc (Below.refl _ _), ⟨_, rfl, hB.size, heap_alloc_last _ _, trivial⟩, fun _ => Nat.le_refl _⟩
      · intro v w' hB hF hD
        have F0 : v 0 = _ := hF 0 (by simp)
        have F1 : v 1 = _ := hF 1 (by simp)
        have F2 : v 2 = _ := hF 2 (by simp)
        have F3 : v 3 = _ := hF 3 (by simp)
        have F4 : v 4 = _ := hF 4 (by simp)
        have F5 : v 5 = _ := hF 5 (by simp)
        have F6 : v 6 = _ := hF 6 (by simp)
        have F7 : v 7 = _ := hF 7 (by simp)
        have F8 : v 8 = _ := hF 8 (by simp)
        have F9 : v 9 = _ := hF 9 (by simp)
        have F10 : v 10 = _ := hF 10 (by simp)
        have F11 : v 11 = _ := hF 11 (by simp)
        have F12 : v 12 = _ := hF 12 (by simp)
        have F13 : v 13 = _ := hF 13 (by simp)
        have F14 : v 14 = _ := hF 14 (by simp)
        have F15 : v 15 = _ := hF 15 (by simp)
        have F16 : v 16 = _ := hF 16 (by simp)
        have F17 : v 17 = _ := hF 17 (by simp)
        have F18 : v 18 = _ := hF 18 (by simp)
        have F19 : v 19 = _ := hF 19 (by simp)
        have F20 : v 20 = _ := hF 20 (by simp)
        have F21 : v 21 = _ := hF 21 (by simp)
        have F22 : v 22 = _ := hF 22 (by simp)
        have F23 : v 23 = _ := hF 23 (by simp)
        have F24 : v 24 = _ := hF 24 (by simp)
        have F25 : v 25 = _ := hF 25 (by simp)
        have F26 : v 26 = _ := hF 26 (by simp)
        have F27 : v 27 = _ := hF 27 (by simp)
        have F28 : v 28 = _ := hF 28 (by simp)
        have F29 : v 29 = _ := hF 29 (by simp)
        have F30 : v 30 = _ := hF 30 (by simp)
        have F31 : v 31 = _ := hF 31 (by simp)
        have F32 : v 32 = _ := hF 32 (by simp)
        have F33 : v 33 = _ := hF 33 (by simp)
        have F34 : v 34 = _ := hF 34 (by simp)
        have F35 : v 35 = _ := hF 35 (by simp)
        have F36 : v 36 = _ := hF 36 (by simp)
        have F37 : v 37 = _ := hF 37 (by simp)
        have F38 : v 38 = _ := hF 38 (by simp)
        have F39 : v 39 = _ := hF 39 (by simp)
        have F40 : v 40 = _ := hF 40 (by simp)
        have F41 : v 41 = _ := hF 41 (by simp)
        have F42 : v 42 = _ := hF 42 (by simp)
        have F43 : v 43 = _ := hF 43 (by simp)
        have F44 : v 44 = _ := hF 44 (by simp)
        have F45 : ∃ g, (v 45) = .pointer (some ⟨g, 0, none⟩) ∧ wr.heap.size ≤ g ∧ w'.heap[g]? = some (.cells #[.int .i64 0, .int .i64 0, .int .i64 0, .int .i64 0, .int .i64 0, .int .i64 0, .int .i64 0, .int .i64 0, .int .i64 0, .int .i64 0, .int .i64 0, .int .i64 0, .int .i64 0, .int .i64 0, .int .i64 0, .int .i64 0, .int .i64 0, .int .i64 0, .int .i64 0, .int .i64 0, .int .i64 0, .int .i64 0, .int .i64 0, .int .i64 0, .int .i64 0, .int .i64 0, .int .i64 0, .int .i64 0, .int .i64 0, .int .i64 0, .int .i64 0] 26 (0, 0)) ∧ True := hF 45 (by simp)
        clear hF
        obtain ⟨g9, e9, hg9, hc9, _⟩ := F45
        simp only [frOf, frGo, Nat.zero_add, Nat.reduceAdd, F0, F1, F2, F3, F4, F5, F6, F7, F8, F9, F10, F11, F12, F13, F14, F15, F16, F17, F18, F19, F20, F21, F22, F23, F24, F25, F26, F27, F28, F29, F30, F31, F32, F33, F34, F35, F36, F37, F38, F39, F40, F41, F42, F43, F44, e9]
        clear hD e9 F0 F1 F2 F3 F4 F5 F6 F7 F8 F9 F10 F11 F12 F13 F14 F15 F16 F17 F18 F19 F20 F21 F22 F23 F24 F25 F26 F27 F28 F29 F30 F31 F32 F33 F34 F35 F36 F37 F38 F39 F40 F41 F42 F43 F44
        simp only [List.length_cons, List.length_nil, Nat.zero_add, Nat.reduceAdd, List.drop_succ_cons, List.drop_zero]
        simp only [Act.put, List.setIfInBounds_toArray, List.set_cons_zero, List.set_cons_succ]
        refine wpList_store_row rfl 26 (.tmp 9) (.tmp 80) rfl g9 #[.int .i64 (y 0), .int .i64 (y 1), .int .i64 (y 2), .int .i64 (y 3), .int .i64 (y 4), .int .i64 (y 5), .int .i64 (y 6), .int .i64 (y 7), .int .i64 (y 8), .int .i64 (y 9), .int .i64 (y 10), .int .i64 (y 11), .int .i64 (y 12), .int .i64 (y 13), .int .i64 (y 14), .int .i64 (y 15), .int .i64 (y 16), .int .i64 (y 17), .int .i64 (y 18), .int .i64 (y 19), .int .i64 (y 20), .int .i64 (y 21), .int .i64 (y 22), .int .i64 (y 23), .int .i64 (y 24), .int .i64 (y 25), .int .i64 (y 26), .int .i64 (y 27), .int .i64 (y 28), .int .i64 (y 29), .int .i64 (y 30)] rfl rfl 26 _ hc9 (by kernel_rfl) rfl (by kernel_rfl) ?_
        have hgc := setRow_heap _ _ _ #[.int .i64 (y 0), .int .i64 (y 1), .int .i64 (y 2), .int .i64 (y 3), .int .i64 (y 4), .int .i64 (y 5), .int .i64 (y 6), .int .i64 (y 7), .int .i64 (y 8), .int .i64 (y 9), .int .i64 (y 10), .int .i64 (y 11), .int .i64 (y 12), .int .i64 (y 13), .int .i64 (y 14), .int .i64 (y 15), .int .i64 (y 16), .int .i64 (y 17), .int .i64 (y 18), .int .i64 (y 19), .int .i64 (y 20), .int .i64 (y 21), .int .i64 (y 22), .int .i64 (y 23), .int .i64 (y 24), .int .i64 (y 25), .int .i64 (y 26), .int .i64 (y 27), .int .i64 (y 28), .int .i64 (y 29), .int .i64 (y 30)] _ _ hc9
        have HR2 : (w'.setRow g9 #[.int .i64 (y 0), .int .i64 (y 1), .int .i64 (y 2), .int .i64 (y 3), .int .i64 (y 4), .int .i64 (y 5), .int .i64 (y 6), .int .i64 (y 7), .int .i64 (y 8), .int .i64 (y 9), .int .i64 (y 10), .int .i64 (y 11), .int .i64 (y 12), .int .i64 (y 13), .int .i64 (y 14), .int .i64 (y 15), .int .i64 (y 16), .int .i64 (y 17), .int .i64 (y 18), .int .i64 (y 19), .int .i64 (y 20), .int .i64 (y 21), .int .i64 (y 22), .int .i64 (y 23), .int .i64 (y 24), .int .i64 (y 25), .int .i64 (y 26), .int .i64 (y 27), .int .i64 (y 28), .int .i64 (y 29), .int .i64 (y 30)]).heap[w.heap.size]? = some (.cells #[.int .i64 0, .int .i64 0, .int .i64 0, .int .i64 0, .int .i64 0, .int .i64 0, .int .i64 0, .int .i64 0, .int .i64 0, .int .i64 0, .int .i64 0, .int .i64 0, .int .i64 0, .int .i64 0, .int .i64 0, .int .i64 0, .int .i64 0, .int .i64 0, .int .i64 0, .int .i64 0, .int .i64 0, .int .i64 0, .int .i64 0, .int .i64 0, .int .i64 0, .int .i64 0, .int .i64 0, .int .i64 0, .int .i64 0, .int .i64 0, .int .i64 0] 26 (0, 0)) := (setRow_other _ _ _ _ (by omega)).trans (block_keep hB HR.out)
        have E2 := row_below (b_trans E hB) (g := g9) (cs := #[.int .i64 (y 0), .int .i64 (y 1), .int .i64 (y 2), .int .i64 (y 3), .int .i64 (y 4), .int .i64 (y 5), .int .i64 (y 6), .int .i64 (y 7), .int .i64 (y 8), .int .i64 (y 9), .int .i64 (y 10), .int .i64 (y 11), .int .i64 (y 12), .int .i64 (y 13), .int .i64 (y 14), .int .i64 (y 15), .int .i64 (y 16), .int .i64 (y 17), .int .i64 (y 18), .int .i64 (y 19), .int .i64 (y 20), .int .i64 (y 21), .int .i64 (y 22), .int .i64 (y 23), .int .i64 (y 24), .int .i64 (y 25), .int .i64 (y 26), .int .i64 (y 27), .int .i64 (y 28), .int .i64 (y 29), .int .i64 (y 30)]) (by omega)
        generalize w'.setRow g9 #[.int .i64 (y 0), .int .i64 (y 1), .int .i64 (y 2), .int .i64 (y 3), .int .i64 (y 4), .int .i64 (y 5), .int .i64 (y 6), .int .i64 (y 7), .int .i64 (y 8), .int .i64 (y 9), .int .i64 (y 10), .int .i64 (y 11), .int .i64 (y 12), .int .i64 (y 13), .int .i64 (y 14), .int .i64 (y 15), .int .i64 (y 16), .int .i64 (y 17), .int .i64 (y 18), .int .i64 (y 19), .int .i64 (y 20), .int .i64 (y 21), .int .i64 (y 22), .int .i64 (y 23), .int .i64 (y 24), .int .i64 (y 25), .int .i64 (y 26), .int .i64 (y 27), .int .i64 (y 28), .int .i64 (y 29), .int .i64 (y 30)] = y1 at *
        clear hc9 hg9 hB K E HR
        go_wp2_with (with_reducible refine stop_at (some 81) rfl ?_)
        refine unstop ?_
        refine wpList_load_row rfl 26 (.tmp 9) rfl g9 rfl 26 _ (0, 0) _ hgc Tryz.underlying26 rfl (by kernel_rfl) ?_
        go_wp2_with fail
        refine (cp _).mono ?_
        rintro e y2 ⟨rfl, hb2⟩
        have HR3 := Lib.hid (block_keep hb2 HR2)
        have HC3 := Lib.hid (block_keep hb2 hgc)
        have E3 := Lib.hid (b_trans E2 hb2)
        clear hb2 HR2 hgc E2
        have f2 : (tb.toList == s.toList) = true := by rw [Lib.toList_data, Lib.toList_data, ← HTB.out, HT.out]; simp
        go_wp2_with (with_reducible refine stop_at (some 86) rfl ?_)
        refine unstop ?_
        refine wpList_load_row rfl 26 (.tmp 9) rfl g9 rfl 26 _ (0, 0) _ HC3.out Tryz.underlying26 rfl (by kernel_rfl) ?_
        go_wp2_with (with_reducible refine stop_at none rfl ?_)
        refine unstop ?_
        refine wpList_store_row rfl 26 (.tmp 2) (.tmp 86) rfl w.heap.size #[.int .i64 (y 0), .int .i64 (y 1), .int .i64 (y 2), .int .i64 (y 3), .int .i64 (y 4), .int .i64 (y 5), .int .i64 (y 6), .int .i64 (y 7), .int .i64 (y 8), .int .i64 (y 9), .int .i64 (y 10), .int .i64 (y 11), .int .i64 (y 12), .int .i64 (y 13), .int .i64 (y 14), .int .i64 (y 15), .int .i64 (y 16), .int .i64 (y 17), .int .i64 (y 18), .int .i64 (y 19), .int .i64 (y 20), .int .i64 (y 21), .int .i64 (y 22), .int .i64 (y 23), .int .i64 (y 24), .int .i64 (y 25), .int .i64 (y 26), .int .i64 (y 27), .int .i64 (y 28), .int .i64 (y 29), .int .i64 (y 30)] rfl rfl 26 _ HR3.out (by kernel_rfl) rfl (by kernel_rfl) ?_
        have hg2 := setRow_heap _ _ _ #[.int .i64 (y 0), .int .i64 (y 1), .int .i64 (y 2), .int .i64 (y 3), .int .i64 (y 4), .int .i64 (y 5), .int .i64 (y 6), .int .i64 (y 7), .int .i64 (y 8), .int .i64 (y 9), .int .i64 (y 10), .int .i64 (y 11), .int .i64 (y 12), .int .i64 (y 13), .int .i64 (y 14), .int .i64 (y 15), .int .i64 (y 16), .int .i64 (y 17), .int .i64 (y 18), .int .i64 (y 19), .int .i64 (y 20), .int .i64 (y 21), .int .i64 (y 22), .int .i64 (y 23), .int .i64 (y 24), .int .i64 (y 25), .int .i64 (y 26), .int .i64 (y 27), .int .i64 (y 28), .int .i64 (y 29), .int .i64 (y 30)] _ _ HR3.out
        have E4 := row_below E3.out (g := w.heap.size) (cs := #[.int .i64 (y 0), .int .i64 (y 1), .int .i64 (y 2), .int .i64 (y 3), .int .i64 (y 4), .int .i64 (y 5), .int .i64 (y 6), .int .i64 (y 7), .int .i64 (y 8), .int .i64 (y 9), .int .i64 (y 10), .int .i64 (y 11), .int .i64 (y 12), .int .i64 (y 13), .int .i64 (y 14), .int .i64 (y 15), .int .i64 (y 16), .int .i64 (y 17), .int .i64 (y 18), .int .i64 (y 19), .int .i64 (y 20), .int .i64 (y 21), .int .i64 (y 22), .int .i64 (y 23), .int .i64 (y 24), .int .i64 (y 25), .int .i64 (y 26), .int .i64 (y 27), .int .i64 (y 28), .int .i64 (y 29), .int .i64 (y 30)]) (Nat.le_refl _)
        generalize y2.setRow w.heap.size #[.int .i64 (y 0), .int .i64 (y 1), .int .i64 (y 2), .int .i64 (y 3), .int .i64 (y 4), .int .i64 (y 5), .int .i64 (y 6), .int .i64 (y 7), .int .i64 (y 8), .int .i64 (y 9), .int .i64 (y 10), .int .i64 (y 11), .int .i64 (y 12), .int .i64 (y 13), .int .i64 (y 14), .int .i64 (y 15), .int .i64 (y 16), .int .i64 (y 17), .int .i64 (y 18), .int .i64 (y 19), .int .i64 (y 20), .int .i64 (y 21), .int .i64 (y 22), .int .i64 (y 23), .int .i64 (y 24), .int .i64 (y 25), .int .i64 (y 26), .int .i64 (y 27), .int .i64 (y 28), .int .i64 (y 29), .int .i64 (y 30)] = y3 at *
        go_wp2
        exact bodyPost_ret (v := .tuple #[cv y, .int .i64 0]) (results_cell_tmp Tryz.results6 _ _ w.heap.size 26 _ (0, 0) _ rfl hg2 Tryz.underlying26 rfl (by kernel_rfl)) rfl ⟨rfl, E4⟩


set_option maxHeartbeats 4000000 in
set_option maxRecDepth 20000 in
theorem rget_not (s : ByteArray) (hs : s.size ≤ 3000) (y : Nat → Int) (hn : nml (wds [] s.data.toList) = (List.range 31).map y) (hy : C64 y) (h0 : 0 < (wds [] s.data.toList).length) (ht : txt y ≠ s.data.toList) (w : World) : Calls Tryz.prog 6 #[.string s] w (RetV (.tuple #[zv, .int .i64 6]) w) := by
  obtain ⟨i0, hi, hz0, hz1, hz2⟩ := info_parts info_i64
  obtain ⟨ws, hws⟩ : ∃ ws, wds [] s.data.toList = ws := ⟨_, rfl⟩
  have hwl : ws.length ≤ 3000 := by rw [← hws]; have := wds_le s.data.toList []; rw [← Lib.size_eq] at this; omega
  have cw := words_any s hs
  rw [hws] at cw hn h0
  have HWS := Lib.hid hws
  have HN := Lib.hid hn
  clear hws hn
  go_enter Tryz.func6, Tryz.ntmps6
  go_wp2_with fail
  refine (cw _).mono ?_
  rintro e w1 ⟨v, rfl, hown, hb⟩
  have hr0 := block_keep hb (block_alloc (q := Obj.cells #[] 2) (heap_alloc_last w (Obj.cells #[.int .i64 0, .int .i64 0, .int .i64 0, .int .i64 0, .int .i64 0, .int .i64 0, .int .i64 0, .int .i64 0, .int .i64 0, .int .i64 0, .int .i64 0, .int .i64 0, .int .i64 0, .int .i64 0, .int .i64 0, .int .i64 0, .int .i64 0, .int .i64 0, .int .i64 0, .int .i64 0, .int .i64 0, .int .i64 0, .int .i64 0, .int .i64 0, .int .i64 0, .int .i64 0, .int .i64 0, .int .i64 0, .int .i64 0, .int .i64 0, .int .i64 0] 26)))
  have ho0 := own_empty_at (w.alloc (Obj.cells #[.int .i64 0, .int .i64 0, .int .i64 0, .int .i64 0, .int .i64 0, .int .i64 0, .int .i64 0, .int .i64 0, .int .i64 0, .int .i64 0, .int .i64 0, .int .i64 0, .int .i64 0, .int .i64 0, .int .i64 0, .int .i64 0, .int .i64 0, .int .i64 0, .int .i64 0, .int .i64 0, .int .i64 0, .int .i64 0, .int .i64 0, .int .i64 0, .int .i64 0, .int .i64 0, .int .i64 0, .int .i64 0, .int .i64 0, .int .i64 0, .int .i64 0] 26)) 2 (w.heap.size + 1) (by simp)
  have ho1 : w1.ownsRow (w.heap.size + 1) 2 1 (.slice (some ⟨w.heap.size + 1, 0, none⟩) 0 0) 0 [] := own_below ho0 hb
  have E := b_trans (b_alloc (b_alloc (Below.refl w.heap.size w))) hb
  have hsz := hb.size
  simp at hsz
  clear ho0
  rw [sl_len] at hown
  obtain ⟨gw, capw, curw, rfl, hgB, hgw, hcn, hcu⟩ := own_row hown (by omega)
  have HCU := Lib.hid hcu
  clear hown hb hcu cw
  go_wp2
  go_loopw [4, 6] (fun nv iv wr => ∃ k : Nat, k ≤ ws.length ∧ iv = .int .i64 k ∧ wr.ownsRow (w.heap.size + 1) 2 1 nv (nml (ws.take k)).length (IL (nml (ws.take k))) ∧ wr.heap[gw]? = some (.cells curw 9 (0, 0)) ∧ wr.heap[w.heap.size]? = some (.cells #[.int .i64 0, .int .i64 0, .int .i64 0, .int .i64 0, .int .i64 0, .int .i64 0, .int .i64 0, .int .i64 0, .int .i64 0, .int .i64 0, .int .i64 0, .int .i64 0, .int .i64 0, .int .i64 0, .int .i64 0, .int .i64 0, .int .i64 0, .int .i64 0, .int .i64 0, .int .i64 0, .int .i64 0, .int .i64 0, .int .i64 0, .int .i64 0, .int .i64 0, .int .i64 0, .int .i64 0, .int .i64 0, .int .i64 0, .int .i64 0, .int .i64 0] 26 (0, 0)) ∧ w.heap.size + 1 ≤ wr.heap.size ∧ Below w.heap.size w wr) (fun _ iv _ => ws.length - (RowKit.intOf iv).toNat)
  case atStart => exact ⟨0, Nat.zero_le _, rfl, ho1, hgw, hr0, by omega, E⟩
  case round =>
    clear ho1 hgw hr0 E hsz
    obtain ⟨k, hk, rfl, ho, hgw, hr0, hsz, E⟩ := hrel
    by_cases hlt : k < ws.length
    · obtain ⟨l, hl⟩ : ∃ l, ws[k]? = some l := ⟨_, List.getElem?_eq_getElem hlt⟩
      have hc := row_at hgw (HCU.out k _ (sl_at hl))
      have hnt := nml_take hl
      have hkl := nml_len (ws.take k)
      have hkt : (ws.take k).length ≤ 3000 := by rw [List.length_take]; omega
      have hls : (⟨l.toArray⟩ : ByteArray).size ≤ 3000 := by
        have : l.length ≤ 3000 := by
          have := wds_word_le s.data.toList [] l (by rw [HWS.out]; exact List.mem_of_getElem? hl)
          rw [← Lib.size_eq] at this
          simp at this
          omega
        rw [Lib.size_eq, mk_list]; exact this
      have cn := rnumber_any ⟨l.toArray⟩ hls
      rw [mk_list] at cn
      obtain ⟨sl, hsl⟩ : ∃ sl : ByteArray, ⟨l.toArray⟩ = sl := ⟨_, rfl⟩
      rw [hsl] at cn hc
      have e5 : IntKind.i64.wrap ((k : Int) + 1) = (k : Int) + 1 := by rw [IntKind.wrap_i64]; omega
      have HNT := Lib.hid hnt
      have HO := Lib.hid ho
      have HG := Lib.hid hgw
      have HR := Lib.hid hr0
      have HE := Lib.hid E
      have HSL := Lib.hid hsl
      have HL := Lib.hid hl
      clear hnt ho hgw hr0 E hsl hls hl
      go_wp2_with fail
      refine (cn _).mono ?_
      rintro e w2 ⟨X, b, rfl, hw, ht, hf⟩
      rw [hw]
      clear hw
      cases b
      · have hq := numL_none (hf rfl)
        have HT : Hid (nml (ws.take (k + 1)) = nml (ws.take k)) := by have := HNT.out; rw [hq, Option.toList_none, List.append_nil] at this; exact this
        clear ht hf hq cn
        go_wp2
        go_roundw
        case rel => exact ⟨k + 1, by omega, by go_num, by rw [HT.out]; exact HO.out, HG.out, HR.out, hsz, HE.out⟩
        case measure => simp [RowKit.intOf]; omega
      · obtain ⟨hx, hq⟩ := ht rfl
        have HT : Hid (nml (ws.take (k + 1)) = nml (ws.take k) ++ [X]) := by have := HNT.out; rw [numL_some hx hq, Option.toList_some] at this; exact this
        clear ht hf hq hx cn
        go_wp2_with (at_builtin; refine wpList_append_own _ rfl _ _ 39 rfl (w.heap.size + 1) 2 i0 (.int .i64 0) 1 8 Tryz.underlying39 hi hz0 hz1 hz2 rfl (by decide) _ _ _ rfl (HO.out.alloc _) ⟨wr.heap.size, 0, none⟩ 1 1 [.int .i64 X] rfl rfl (cell_one_new _ _ _) (fun x hx => by simp at hx; subst hx; rfl) (by unfold maxLen; omega) (by omega) (by simp; omega) ?_; intro v' w3 hown' hgrow3 hnil3)
        have n1 := own_apart HO.out HG.out (by decide)
        have n2 := own_apart HO.out HR.out (by decide)
        have HB3 := Lib.hid (Below.grown (b_alloc HE.out) hgrow3 (by simp; omega) (fun q hq => Nat.le_of_succ_le (own_part HO.out q hq)))
        have HG3 := Lib.hid (grown_block hgrow3 (block_alloc HG.out) n1)
        have HR3 := Lib.hid (grown_block hgrow3 (block_alloc HR.out) n2)
        have hs3 : w.heap.size + 1 ≤ w3.heap.size := by have := hgrow3.size; simp at this; omega
        have HO3 := Lib.hid hown'
        clear hown' hgrow3 hnil3 n1 n2
        go_wp2
        go_roundw
        case rel => exact ⟨k + 1, by omega, by go_num, by rw [HT.out, il_snoc, List.length_append]; exact HO3.out, HG3.out, HR3.out, hs3, HB3.out⟩
        case measure => simp [RowKit.intOf]; omega
    · obtain rfl : k = ws.length := by omega
      rw [List.take_length] at ho
      have hnl : (nml ws).length = 31 := by rw [HN.out]; simp
      rw [hnl, HN.out] at ho
      obtain ⟨g, cap, cur, rfl, hgB2, hgn, hcn2, hcv⟩ := own_row ho (by decide)
      have K : ∀ j, j < 31 → wr.cell? ⟨g, j, none⟩ = some (.int .i64 (y j)) := fun j hj => row_at hgn (hcv j _ (by unfold IL; rw [List.getElem?_map, List.getElem?_map, List.getElem?_range hj]; rfl))
      have HR := Lib.hid hr0
      have HT := Lib.hid ht
      have cp := rput_any y hy
      obtain ⟨tb, htb⟩ : ∃ tb : ByteArray, ⟨(txt y).toArray⟩ = tb := ⟨_, rfl⟩
      rw [htb] at cp
      have HTB := Lib.hid htb
      have f1 : (((31 : Nat) : Int) != 31) = false := by decide
      clear ho hgw hr0 hcv hgn hnl ht htb hy hgB2 hcn2
      go_wp2
      refine region_each [36, 37, 38, 39, 40, 41, 42, 43, 44, 45, 46, 47, 48, 49, 50, 51, 52, 53, 54, 55, 56, 57, 58, 59, 60, 61, 62, 63, 64, 65, 66, 67, 68, 69, 70, 71, 72, 73, 74, 75, 76, 77, 78, 79, 80, 9] (fun i_ X_ U_ => match i_ with | 0 => X_ = .slice (some ⟨g, 0, none⟩) 31 cap | 1 => X_ = tv (y 0) (y 1) (y 2) | 2 => X_ = .slice (some ⟨g, 0, none⟩) 31 cap | 3 => X_ = tv (y 3) (y 4) (y 5) | 4 => X_ = .slice (some ⟨g, 0, none⟩) 31 cap | 5 => X_ = .pointer (some ⟨g, 6, none⟩) | 6 => X_ = .int .i64 (y 6) | 7 => X_ = .slice (some ⟨g, 0, none⟩) 31 cap | 8 => X_ = .pointer (some ⟨g, 7, none⟩) | 9 => X_ = .int .i64 (y 7) | 10 => X_ = .slice (some ⟨g, 0, none⟩) 31 cap | 11 => X_ = tv (y 8) (y 9) (y 10) | 12 => X_ = .slice (some ⟨g, 0, none⟩) 31 cap | 13 => X_ = tv (y 11) (y 12) (y 13) | 14 => X_ = .slice (some ⟨g, 0, none⟩) 31 cap | 15 => X_ = tv (y 14) (y 15) (y 16) | 16 => X_ = .slice (some ⟨g, 0, none⟩) 31 cap | 17 => X_ = tv (y 17) (y 18) (y 19) | 18 => X_ = .slice (some ⟨g, 0, none⟩) 31 cap | 19 => X_ = .pointer (some ⟨g, 20, none⟩) | 20 => X_ = .int .i64 (y 20) | 21 => X_ = .slice (some ⟨g, 0, none⟩) 31 cap | 22 => X_ = tv (y 21) (y 22) (y 23) | 23 => X_ = .slice (some ⟨g, 0, none⟩) 31 cap | 24 => X_ = .pointer (some ⟨g, 24, none⟩) | 25 => X_ = .int .i64 (y 24) | 26 => X_ = .slice (some ⟨g, 0, none⟩) 31 cap | 27 => X_ = .pointer (some ⟨g, 25, none⟩) | 28 => X_ = .int .i64 (y 25) | 29 => X_ = .slice (some ⟨g, 0, none⟩) 31 cap | 30 => X_ = .pointer (some ⟨g, 26, none⟩) | 31 => X_ = .int .i64 (y 26) | 32 => X_ = .slice (some ⟨g, 0, none⟩) 31 cap | 33 => X_ = .pointer (some ⟨g, 27, none⟩) | 34 => X_ = .int .i64 (y 27) | 35 => X_ = .slice (some ⟨g, 0, none⟩) 31 cap | 36 => X_ = .pointer (some ⟨g, 28, none⟩) | 37 => X_ = .int .i64 (y 28) | 38 => X_ = .slice (some ⟨g, 0, none⟩) 31 cap | 39 => X_ = .pointer (some ⟨g, 29, none⟩) | 40 => X_ = .int .i64 (y 29) | 41 => X_ = .slice (some ⟨g, 0, none⟩) 31 cap | 42 => X_ = .pointer (some ⟨g, 30, none⟩) | 43 => X_ = .int .i64 (y 30) | 44 => X_ = cv y | 45 => ∃ g, X_ = .pointer (some ⟨g, 0, none⟩) ∧ wr.heap.size ≤ g ∧ U_.heap[g]? = some (.cells #[.int .i64 0, .int .i64 0, .int .i64 0, .int .i64 0, .int .i64 0, .int .i64 0, .int .i64 0, .int .i64 0, .int .i64 0, .int .i64 0, .int .i64 0, .int .i64 0, .int .i64 0, .int .i64 0, .int .i64 0, .int .i64 0, .int .i64 0, .int .i64 0, .int .i64 0, .int .i64 0, .int .i64 0, .int .i64 0, .int .i64 0, .int .i64 0, .int .i64 0, .int .i64 0, .int .i64 0, .int .i64 0, .int .i64 0, .int .i64 0, .int .i64 0] 26 (0, 0)) ∧ True | _ => True) (fun i_ => i_ == 45) (by kernel_rfl) (by kernel_rfl) (by kernel_rfl) (by kernel_rfl) (by kernel_rfl) ?_ ?_ ?_ ?_
      · refine swp (upS (upS (upS (upS (upS (upS (upS (upS (upS (upS (upS (upS (upS (upS (upS (upS (upS (upS (upS (upS (upS (upS (upS (upS (upS (upS (upS (upS (upS (upS (upS (upS (upS (upS (upS (upS (upS (upS (upS (upS (upS (upS (upS (upS (upS (upS up0 ?_) ?_) ?_) ?_) ?_) ?_) ?_) ?_) ?_) ?_) ?_) ?_) ?_) ?_) ?_) ?_) ?_) ?_) ?_) ?_) ?_) ?_) ?_) ?_) ?_) ?_) ?_) ?_) ?_) ?_) ?_) ?_) ?_) ?_) ?_) ?_) ?_) ?_) ?_) ?_) ?_) ?_) ?_) ?_) ?_) ?_)
        · exact fun _ _ _ h _ => h
        · exact fun _ _ _ h _ => h
        · exact fun _ _ _ h _ => h
        · exact fun _ _ _ h _ => h
        · exact fun _ _ _ h _ => h
        · exact fun _ _ _ h _ => h
        · exact fun _ _ _ h _ => h
        · exact fun _ _ _ h _ => h
        · exact fun _ _ _ h _ => h
        · exact fun _ _ _ h _ => h
        · exact fun _ _ _ h _ => h
        · exact fun _ _ _ h _ => h
        · exact fun _ _ _ h _ => h
        · exact fun _ _ _ h _ => h
        · exact fun _ _ _ h _ => h
        · exact fun _ _ _ h _ => h
        · exact fun _ _ _ h _ => h
        · exact fun _ _ _ h _ => h
        · exact fun _ _ _ h _ => h
        · exact fun _ _ _ h _ => h
        · exact fun _ _ _ h _ => h
        · exact fun _ _ _ h _ => h
        · exact fun _ _ _ h _ => h
        · exact fun _ _ _ h _ => h
        · exact fun _ _ _ h _ => h
        · exact fun _ _ _ h _ => h
        · exact fun _ _ _ h _ => h
        · exact fun _ _ _ h _ => h
        · exact fun _ _ _ h _ => h
        · exact fun _ _ _ h _ => h
        · exact fun _ _ _ h _ => h
        · exact fun _ _ _ h _ => h
        · exact fun _ _ _ h _ => h
        · exact fun _ _ _ h _ => h
        · exact fun _ _ _ h _ => h
        · exact fun _ _ _ h _ => h
        · exact fun _ _ _ h _ => h
        · exact fun _ _ _ h _ => h
        · exact fun _ _ _ h _ => h
        · exact fun _ _ _ h _ => h
        · exact fun _ _ _ h _ => h
        · exact fun _ _ _ h _ => h
        · exact fun _ _ _ h _ => h
        · exact fun _ _ _ h _ => h
        · exact fun _ _ _ h _ => h
        · intro x w w' h hb; obtain ⟨g, e, hg, hc, _⟩ := h; exact ⟨g, e, hg, block_keep hb hc, trivial⟩
      · refine swa (upS (upS (upS (upS (upS (upS (upS (upS (upS (upS (upS (upS (upS (upS (upS (upS (upS (upS (upS (upS (upS (upS (upS (upS (upS (upS (upS (upS (upS (upS (upS (upS (upS (upS (upS (upS (upS (upS (upS (upS (upS (upS (upS (upS (upS (upS up0 ?_) ?_) ?_) ?_) ?_) ?_) ?_) ?_) ?_) ?_) ?_) ?_) ?_) ?_) ?_) ?_) ?_) ?_) ?_) ?_) ?_) ?_) ?_) ?_) ?_) ?_) ?_) ?_) ?_) ?_) ?_) ?_) ?_) ?_) ?_) ?_) ?_) ?_) ?_) ?_) ?_) ?_) ?_) ?_) ?_) ?_)
        · exact fun _ _ ha => absurd ha (by decide)
        · exact fun _ _ ha => absurd ha (by decide)
        · exact fun _ _ ha => absurd ha (by decide)
        · exact fun _ _ ha => absurd ha (by decide)
        · exact fun _ _ ha => absurd ha (by decide)
        · exact fun _ _ ha => absurd ha (by decide)
        · exact fun _ _ ha => absurd ha (by decide)
        · exact fun _ _ ha => absurd ha (by decide)
        · exact fun _ _ ha => absurd ha (by decide)
        · exact fun _ _ ha => absurd ha (by decide)
        · exact fun _ _ ha => absurd ha (by decide)
        · exact fun _ _ ha => absurd ha (by decide)
        · exact fun _ _ ha => absurd ha (by decide)
        · exact fun _ _ ha => absurd ha (by decide)
        · exact fun _ _ ha => absurd ha (by decide)
        · exact fun _ _ ha => absurd ha (by decide)
        · exact fun _ _ ha => absurd ha (by decide)
        · exact fun _ _ ha => absurd ha (by decide)
        · exact fun _ _ ha => absurd ha (by decide)
        · exact fun _ _ ha => absurd ha (by decide)
        · exact fun _ _ ha => absurd ha (by decide)
        · exact fun _ _ ha => absurd ha (by decide)
        · exact fun _ _ ha => absurd ha (by decide)
        · exact fun _ _ ha => absurd ha (by decide)
        · exact fun _ _ ha => absurd ha (by decide)
        · exact fun _ _ ha => absurd ha (by decide)
        · exact fun _ _ ha => absurd ha (by decide)
        · exact fun _ _ ha => absurd ha (by decide)
        · exact fun _ _ ha => absurd ha (by decide)
        · exact fun _ _ ha => absurd ha (by decide)
        · exact fun _ _ ha => absurd ha (by decide)
        · exact fun _ _ ha => absurd ha (by decide)
        · exact fun _ _ ha => absurd ha (by decide)
        · exact fun _ _ ha => absurd ha (by decide)
        · exact fun _ _ ha => absurd ha (by decide)
        · exact fun _ _ ha => absurd ha (by decide)
        · exact fun _ _ ha => absurd ha (by decide)
        · exact fun _ _ ha => absurd ha (by decide)
        · exact fun _ _ ha => absurd ha (by decide)
        · exact fun _ _ ha => absurd ha (by decide)
        · exact fun _ _ ha => absurd ha (by decide)
        · exact fun _ _ ha => absurd ha (by decide)
        · exact fun _ _ ha => absurd ha (by decide)
        · exact fun _ _ ha => absurd ha (by decide)
        · exact fun _ _ ha => absurd ha (by decide)
        · intro x w _ h; obtain ⟨g, rfl, _, hg, _⟩ := h; exact (Array.getElem?_eq_some_iff.1 hg).1
      · refine upS (upS (upS (upS (upS (upS (upS (upS (upS (upS (upS (upS (upS (upS (upS (upS (upS (upS (upS (upS (upS (upS (upS (upS (upS (upS (upS (upS (upS (upS (upS (upS (upS (upS (upS (upS (upS (upS (upS (upS (upS (upS (upS (upS (upS (upS up0 ?_) ?_) ?_) ?_) ?_) ?_) ?_) ?_) ?_) ?_) ?_) ?_) ?_) ?_) ?_) ?_) ?_) ?_) ?_) ?_) ?_) ?_) ?_) ?_) ?_) ?_) ?_) ?_) ?_) ?_) ?_) ?_) ?_) ?_) ?_) ?_) ?_) ?_) ?_) ?_) ?_) ?_) ?_) ?_) ?_) ?_
        all_goals intro v f w' hb hv hB hd
        · have b4 : f.tmps[4]? = some (.slice (some ⟨g, 0, none⟩) 31 cap) := (hb 4 (by decide)).trans rfl
          clear hb hv hd
          refine wpOp_step rfl fun K hK => ?_
          go_simp
          exact hK _ _ ⟨_, rfl, Below.refl _ _, rfl, fun h => absurd h (by decide)⟩
        · have d0 := got (hv 0 36 rfl) (hd 0 (by kernel_rfl))
          clear hb hv hd
          refine wpOp_call rfl Tryz.call16 (args2 (eval_tmp d0) rfl) (part_at g cap 0 0 1 2 y rfl rfl rfl (by decide) _ (fun j hj => cell_keep hB (K j hj))) ?_
          rintro e5 w5 ⟨rfl, hb5⟩
          exact ⟨_, rfl, _, rfl, hb5, rfl, fun h => absurd h (by decide)⟩
        · have b4 : f.tmps[4]? = some (.slice (some ⟨g, 0, none⟩) 31 cap) := (hb 4 (by decide)).trans rfl
          clear hb hv hd
          refine wpOp_step rfl fun K hK => ?_
          go_simp
          exact hK _ _ ⟨_, rfl, Below.refl _ _, rfl, fun h => absurd h (by decide)⟩
        · have d2 := got (hv 2 38 rfl) (hd 2 (by kernel_rfl))
          clear hb hv hd
          refine wpOp_call rfl Tryz.call16 (args2 (eval_tmp d2) rfl) (part_at g cap 3 3 4 5 y rfl rfl rfl (by decide) _ (fun j hj => cell_keep hB (K j hj))) ?_
          rintro e5 w5 ⟨rfl, hb5⟩
          exact ⟨_, rfl, _, rfl, hb5, rfl, fun h => absurd h (by decide)⟩
        · have b4 : f.tmps[4]? = some (.slice (some ⟨g, 0, none⟩) 31 cap) := (hb 4 (by decide)).trans rfl
          clear hb hv hd
          refine wpOp_step rfl fun K hK => ?_
          go_simp
          exact hK _ _ ⟨_, rfl, Below.refl _ _, rfl, fun h => absurd h (by decide)⟩
        · have d4 := got (hv 4 40 rfl) (hd 4 (by kernel_rfl))
          clear hb hv hd
          refine wpOp_step rfl fun K hK => ?_
          go_simp
          exact hK _ _ ⟨_, rfl, Below.refl _ _, rfl, fun h => absurd h (by decide)⟩
        · have d5 := got (hv 5 41 rfl) (hd 5 (by kernel_rfl))
          clear hb hv hd
          have c6 := cell_keep hB (K 6 (by decide))
          refine wpOp_step rfl fun K hK => ?_
          go_simp
          exact hK _ _ ⟨_, rfl, Below.refl _ _, rfl, fun h => absurd h (by decide)⟩
        · have b4 : f.tmps[4]? = some (.slice (some ⟨g, 0, none⟩) 31 cap) := (hb 4 (by decide)).trans rfl
          clear hb hv hd
          refine wpOp_step rfl fun K hK => ?_
          go_simp
          exact hK _ _ ⟨_, rfl, Below.refl _ _, rfl, fun h => absurd h (by decide)⟩
        · have d7 := got (hv 7 43 rfl) (hd 7 (by kernel_rfl))
          clear hb hv hd
          refine wpOp_step rfl fun K hK => ?_
          go_simp
          exact hK _ _ ⟨_, rfl, Below.refl _ _, rfl, fun h => absurd h (by decide)⟩
        · have d8 := got (hv 8 44 rfl) (hd 8 (by kernel_rfl))
          clear hb hv hd
          have c7 := cell_keep hB (K 7 (by decide))
          refine wpOp_step rfl fun K hK => ?_
          go_simp
          exact hK _ _ ⟨_, rfl, Below.refl _ _, rfl, fun h => absurd h (by decide)⟩
        · have b4 : f.tmps[4]? = some (.slice (some ⟨g, 0, none⟩) 31 cap) := (hb 4 (by decide)).trans rfl
          clear hb hv hd
          refine wpOp_step rfl fun K hK => ?_
          go_simp
          exact hK _ _ ⟨_, rfl, Below.refl _ _, rfl, fun h => absurd h (by decide)⟩
        · have d10 := got (hv 10 46 rfl) (hd 10 (by kernel_rfl))
          clear hb hv hd
          refine wpOp_call rfl Tryz.call16 (args2 (eval_tmp d10) rfl) (part_at g cap 8 8 9 10 y rfl rfl rfl (by decide) _ (fun j hj => cell_keep hB (K j hj))) ?_
          rintro e5 w5 ⟨rfl, hb5⟩
          exact ⟨_, rfl, _, rfl, hb5, rfl, fun h => absurd h (by decide)⟩
        · have b4 : f.tmps[4]? = some (.slice (some ⟨g, 0, none⟩) 31 cap) := (hb 4 (by decide)).trans rfl
          clear hb hv hd
          refine wpOp_step rfl fun K hK => ?_
          go_simp
          exact hK _ _ ⟨_, rfl, Below.refl _ _, rfl, fun h => absurd h (by decide)⟩
        · have d12 := got (hv 12 48 rfl) (hd 12 (by kernel_rfl))
          clear hb hv hd
          refine wpOp_call rfl Tryz.call16 (args2 (eval_tmp d12) rfl) (part_at g cap 11 11 12 13 y rfl rfl rfl (by decide) _ (fun j hj => cell_keep hB (K j hj))) ?_
          rintro e5 w5 ⟨rfl, hb5⟩
          exact ⟨_, rfl, _, rfl, hb5, rfl, fun h => absurd h (by decide)⟩
        · have b4 : f.tmps[4]? = some (.slice (some ⟨g, 0, none⟩) 31 cap) := (hb 4 (by decide)).trans rfl
          clear hb hv hd
          refine wpOp_step rfl fun K hK => ?_
          go_simp
          exact hK _ _ ⟨_, rfl, Below.refl _ _, rfl, fun h => absurd h (by decide)⟩
        · have d14 := got (hv 14 50 rfl) (hd 14 (by kernel_rfl))
          clear hb hv hd
          refine wpOp_call rfl Tryz.call16 (args2 (eval_tmp d14) rfl) (part_at g cap 14 14 15 16 y rfl rfl rfl (by decide) _ (fun j hj => cell_keep hB (K j hj))) ?_
          rintro e5 w5 ⟨rfl, hb5⟩
          exact ⟨_, rfl, _, rfl, hb5, rfl, fun h => absurd h (by decide)⟩
        · have b4 : f.tmps[4]? = some (.slice (some ⟨g, 0, none⟩) 31 cap) := (hb 4 (by decide)).trans rfl
          clear hb hv hd
          refine wpOp_step rfl fun K hK => ?_
          go_simp
          exact hK _ _ ⟨_, rfl, Below.refl _ _, rfl, fun h => absurd h (by decide)⟩
        · have d16 := got (hv 16 52 rfl) (hd 16 (by kernel_rfl))
          clear hb hv hd
          refine wpOp_call rfl Tryz.call16 (args2 (eval_tmp d16) rfl) (part_at g cap 17 17 18 19 y rfl rfl rfl (by decide) _ (fun j hj => cell_keep hB (K j hj))) ?_
          rintro e5 w5 ⟨rfl, hb5⟩
          exact ⟨_, rfl, _, rfl, hb5, rfl, fun h => absurd h (by decide)⟩
        · have b4 : f.tmps[4]? = some (.slice (some ⟨g, 0, none⟩) 31 cap) := (hb 4 (by decide)).trans rfl
          clear hb hv hd
          refine wpOp_step rfl fun K hK => ?_
          go_simp
          exact hK _ _ ⟨_, rfl, Below.refl _ _, rfl, fun h => absurd h (by decide)⟩
        · have d18 := got (hv 18 54 rfl) (hd 18 (by kernel_rfl))
          clear hb hv hd
          refine wpOp_step rfl fun K hK => ?_
          go_simp
          exact hK _ _ ⟨_, rfl, Below.refl _ _, rfl, fun h => absurd h (by decide)⟩
        · have d19 := got (hv 19 55 rfl) (hd 19 (by kernel_rfl))
          clear hb hv hd
          have c20 := cell_keep hB (K 20 (by decide))
          refine wpOp_step rfl fun K hK => ?_
          go_simp
          exact hK _ _ ⟨_, rfl, Below.refl _ _, rfl, fun h => absurd h (by decide)⟩
        · have b4 : f.tmps[4]? = some (.slice (some ⟨g, 0, none⟩) 31 cap) := (hb 4 (by decide)).trans rfl
          clear hb hv hd
          refine wpOp_step rfl fun K hK => ?_
          go_simp
          exact hK _ _ ⟨_, rfl, Below.refl _ _, rfl, fun h => absurd h (by decide)⟩
        · have d21 := got (hv 21 57 rfl) (hd 21 (by kernel_rfl))
          clear hb hv hd
          refine wpOp_call rfl Tryz.call16 (args2 (eval_tmp d21) rfl) (part_at g cap 21 21 22 23 y rfl rfl rfl (by decide) _ (fun j hj => cell_keep hB (K j hj))) ?_
          rintro e5 w5 ⟨rfl, hb5⟩
          exact ⟨_, rfl, _, rfl, hb5, rfl, fun h => absurd h (by decide)⟩
        · have b4 : f.tmps[4]? = some (.slice (some ⟨g, 0, none⟩) 31 cap) := (hb 4 (by decide)).trans rfl
          clear hb hv hd
          refine wpOp_step rfl fun K hK => ?_
          go_simp
          exact hK _ _ ⟨_, rfl, Below.refl _ _, rfl, fun h => absurd h (by decide)⟩
        · have d23 := got (hv 23 59 rfl) (hd 23 (by kernel_rfl))
          clear hb hv hd
          refine wpOp_step rfl fun K hK => ?_
          go_simp
          exact hK _ _ ⟨_, rfl, Below.refl _ _, rfl, fun h => absurd h (by decide)⟩
        · have d24 := got (hv 24 60 rfl) (hd 24 (by kernel_rfl))
          clear hb hv hd
          have c24 := cell_keep hB (K 24 (by decide))
          refine wpOp_step rfl fun K hK => ?_
          go_simp
          exact hK _ _ ⟨_, rfl, Below.refl _ _, rfl, fun h => absurd h (by decide)⟩
        · have b4 : f.tmps[4]? = some (.slice (some ⟨g, 0, none⟩) 31 cap) := (hb 4 (by decide)).trans rfl
          clear hb hv hd
          refine wpOp_step rfl fun K hK => ?_
          go_simp
          exact hK _ _ ⟨_, rfl, Below.refl _ _, rfl, fun h => absurd h (by decide)⟩
        · have d26 := got (hv 26 62 rfl) (hd 26 (by kernel_rfl))
          clear hb hv hd
          refine wpOp_step rfl fun K hK => ?_
          go_simp
          exact hK _ _ ⟨_, rfl, Below.refl _ _, rfl, fun h => absurd h (by decide)⟩
        · have d27 := got (hv 27 63 rfl) (hd 27 (by kernel_rfl))
          clear hb hv hd
          have c25 := cell_keep hB (K 25 (by decide))
          refine wpOp_step rfl fun K hK => ?_
          go_simp
          exact hK _ _ ⟨_, rfl, Below.refl _ _, rfl, fun h => absurd h (by decide)⟩
        · have b4 : f.tmps[4]? = some (.slice (some ⟨g, 0, none⟩) 31 cap) := (hb 4 (by decide)).trans rfl
          clear hb hv hd
          refine wpOp_step rfl fun K hK => ?_
          go_simp
          exact hK _ _ ⟨_, rfl, Below.refl _ _, rfl, fun h => absurd h (by decide)⟩
        · have d29 := got (hv 29 65 rfl) (hd 29 (by kernel_rfl))
          clear hb hv hd
          refine wpOp_step rfl fun K hK => ?_
          go_simp
          exact hK _ _ ⟨_, rfl, Below.refl _ _, rfl, fun h => absurd h (by decide)⟩
        · have d30 := got (hv 30 66 rfl) (hd 30 (by kernel_rfl))
          clear hb hv hd
          have c26 := cell_keep hB (K 26 (by decide))
          refine wpOp_step rfl fun K hK => ?_
          go_simp
          exact hK _ _ ⟨_, rfl, Below.refl _ _, rfl, fun h => absurd h (by decide)⟩
        · have b4 : f.tmps[4]? = some (.slice (some ⟨g, 0, none⟩) 31 cap) := (hb 4 (by decide)).trans rfl
          clear hb hv hd
          refine wpOp_step rfl fun K hK => ?_
          go_simp
          exact hK _ _ ⟨_, rfl, Below.refl _ _, rfl, fun h => absurd h (by decide)⟩
        · have d32 := got (hv 32 68 rfl) (hd 32 (by kernel_rfl))
          clear hb hv hd
          refine wpOp_step rfl fun K hK => ?_
          go_simp
          exact hK _ _ ⟨_, rfl, Below.refl _ _, rfl, fun h => absurd h (by decide)⟩
        · have d33 := got (hv 33 69 rfl) (hd 33 (by kernel_rfl))
          clear hb hv hd
          have c27 := cell_keep hB (K 27 (by decide))
          refine wpOp_step rfl fun K hK => ?_
          go_simp
          exact hK _ _ ⟨_, rfl, Below.refl _ _, rfl, fun h => absurd h (by decide)⟩
        · have b4 : f.tmps[4]? = some (.slice (some ⟨g, 0, none⟩) 31 cap) := (hb 4 (by decide)).trans rfl
          clear hb hv hd
          refine wpOp_step rfl fun K hK => ?_
          go_simp
          exact hK _ _ ⟨_, rfl, Below.refl _ _, rfl, fun h => absurd h (by decide)⟩
        · have d35 := got (hv 35 71 rfl) (hd 35 (by kernel_rfl))
          clear hb hv hd
          refine wpOp_step rfl fun K hK => ?_
          go_simp
          exact hK _ _ ⟨_, rfl, Below.refl _ _, rfl, fun h => absurd h (by decide)⟩
        · have d36 := got (hv 36 72 rfl) (hd 36 (by kernel_rfl))
          clear hb hv hd
          have c28 := cell_keep hB (K 28 (by decide))
          refine wpOp_step rfl fun K hK => ?_
          go_simp
          exact hK _ _ ⟨_, rfl, Below.refl _ _, rfl, fun h => absurd h (by decide)⟩
        · have b4 : f.tmps[4]? = some (.slice (some ⟨g, 0, none⟩) 31 cap) := (hb 4 (by decide)).trans rfl
          clear hb hv hd
          refine wpOp_step rfl fun K hK => ?_
          go_simp
          exact hK _ _ ⟨_, rfl, Below.refl _ _, rfl, fun h => absurd h (by decide)⟩
        · have d38 := got (hv 38 74 rfl) (hd 38 (by kernel_rfl))
          clear hb hv hd
          refine wpOp_step rfl fun K hK => ?_
          go_simp
          exact hK _ _ ⟨_, rfl, Below.refl _ _, rfl, fun h => absurd h (by decide)⟩
        · have d39 := got (hv 39 75 rfl) (hd 39 (by kernel_rfl))
          clear hb hv hd
          have c29 := cell_keep hB (K 29 (by decide))
          refine wpOp_step rfl fun K hK => ?_
          go_simp
          exact hK _ _ ⟨_, rfl, Below.refl _ _, rfl, fun h => absurd h (by decide)⟩
        · have b4 : f.tmps[4]? = some (.slice (some ⟨g, 0, none⟩) 31 cap) := (hb 4 (by decide)).trans rfl
          clear hb hv hd
          refine wpOp_step rfl fun K hK => ?_
          go_simp
          exact hK _ _ ⟨_, rfl, Below.refl _ _, rfl, fun h => absurd h (by decide)⟩
        · have d41 := got (hv 41 77 rfl) (hd 41 (by kernel_rfl))
          clear hb hv hd
          refine wpOp_step rfl fun K hK => ?_
          go_simp
          exact hK _ _ ⟨_, rfl, Below.refl _ _, rfl, fun h => absurd h (by decide)⟩
        · have d42 := got (hv 42 78 rfl) (hd 42 (by kernel_rfl))
          clear hb hv hd
          have c30 := cell_keep hB (K 30 (by decide))
          refine wpOp_step rfl fun K hK => ?_
          go_simp
          exact hK _ _ ⟨_, rfl, Below.refl _ _, rfl, fun h => absurd h (by decide)⟩
        · have d1 := got (hv 1 37 rfl) (hd 1 (by kernel_rfl))
          have d3 := got (hv 3 39 rfl) (hd 3 (by kernel_rfl))
          have d6 := got (hv 6 42 rfl) (hd 6 (by kernel_rfl))
          have d9 := got (hv 9 45 rfl) (hd 9 (by kernel_rfl))
          have d11 := got (hv 11 47 rfl) (hd 11 (by kernel_rfl))
          have d13 := got (hv 13 49 rfl) (hd 13 (by kernel_rfl))
          have d15 := got (hv 15 51 rfl) (hd 15 (by kernel_rfl))
          have d17 := got (hv 17 53 rfl) (hd 17 (by kernel_rfl))
          have d20 := got (hv 20 56 rfl) (hd 20 (by kernel_rfl))
          have d22 := got (hv 22 58 rfl) (hd 22 (by kernel_rfl))
          have d25 := got (hv 25 61 rfl) (hd 25 (by kernel_rfl))
          have d28 := got (hv 28 64 rfl) (hd 28 (by kernel_rfl))
          have d31 := got (hv 31 67 rfl) (hd 31 (by kernel_rfl))
          have d34 := got (hv 34 70 rfl) (hd 34 (by kernel_rfl))
          have d37 := got (hv 37 73 rfl) (hd 37 (by kernel_rfl))
          have d40 := got (hv 40 76 rfl) (hd 40 (by kernel_rfl))
          have d43 := got (hv 43 79 rfl) (hd 43 (by kernel_rfl))
          clear hb hv hd
          refine wpOp_step rfl fun K hK => ?_
          go_simp
          exact hK _ _ ⟨_, rfl, Below.refl _ _, rfl, fun h => absurd h (by decide)⟩
        · clear hb hv hd
          refine wpOp_step rfl fun K hK => ?_
          go_simp
          exact hK _ _ ⟨_, rfl, b_alloc (Below.refl _ _), ⟨_, rfl, hB.size, heap_alloc_last _ _, trivial⟩, fun _ => Nat.le_refl _⟩
      · intro v w' hB hF hD
        have F0 : v 0 = _ := hF 0 (by simp)
        have F1 : v 1 = _ := hF 1 (by simp)
        have F2 : v 2 = _ := hF 2 (by simp)
        have F3 : v 3 = _ := hF 3 (by simp)
        have F4 : v 4 = _ := hF 4 (by simp)
        have F5 : v 5 = _ := hF 5 (by simp)
        have F6 : v 6 = _ := hF 6 (by simp)
        have F7 : v 7 = _ := hF 7 (by simp)
        have F8 : v 8 = _ := hF 8 (by simp)
        have F9 : v 9 = _ := hF 9 (by simp)
        have F10 : v 10 = _ := hF 10 (by simp)
        have F11 : v 11 = _ := hF 11 (by simp)
        have F12 : v 12 = _ := hF 12 (by simp)
        have F13 : v 13 = _ := hF 13 (by simp)
        have F14 : v 14 = _ := hF 14 (by simp)
        have F15 : v 15 = _ := hF 15 (by simp)
        have F16 : v 16 = _ := hF 16 (by simp)
        have F17 : v 17 = _ := hF 17 (by simp)
        have F18 : v 18 = _ := hF 18 (by simp)
        have F19 : v 19 = _ := hF 19 (by simp)
        have F20 : v 20 = _ := hF 20 (by simp)
        have F21 : v 21 = _ := hF 21 (by simp)
        have F22 : v 22 = _ := hF 22 (by simp)
        have F23 : v 23 = _ := hF 23 (by simp)
        have F24 : v 24 = _ := hF 24 (by simp)
        have F25 : v 25 = _ := hF 25 (by simp)
        have F26 : v 26 = _ := hF 26 (by simp)
        have F27 : v 27 = _ := hF 27 (by simp)
        have F28 : v 28 = _ := hF 28 (by simp)
        have F29 : v 29 = _ := hF 29 (by simp)
        have F30 : v 30 = _ := hF 30 (by simp)
        have F31 : v 31 = _ := hF 31 (by simp)
        have F32 : v 32 = _ := hF 32 (by simp)
        have F33 : v 33 = _ := hF 33 (by simp)
        have F34 : v 34 = _ := hF 34 (by simp)
        have F35 : v 35 = _ := hF 35 (by simp)
        have F36 : v 36 = _ := hF 36 (by simp)
        have F37 : v 37 = _ := hF 37 (by simp)
        have F38 : v 38 = _ := hF 38 (by simp)
        have F39 : v 39 = _ := hF 39 (by simp)
        have F40 : v 40 = _ := hF 40 (by simp)
        have F41 : v 41 = _ := hF 41 (by simp)
        have F42 : v 42 = _ := hF 42 (by simp)
        have F43 : v 43 = _ := hF 43 (by simp)
        have F44 : v 44 = _ := hF 44 (by simp)
        have F45 : ∃ g, (v 45) = .pointer (some ⟨g, 0, none⟩) ∧ wr.heap.size ≤ g ∧ w'.heap[g]? = some (.cells #[.int .i64 0, .int .i64 0, .int .i64 0, .int .i64 0, .int .i64 0, .int .i64 0, .int .i64 0, .int .i64 0, .int .i64 0, .int .i64 0, .int .i64 0, .int .i64 0, .int .i64 0, .int .i64 0, .int .i64 0, .int .i64 0, .int .i64 0, .int .i64 0, .int .i64 0, .int .i64 0, .int .i64 0, .int .i64 0, .int .i64 0, .int .i64 0, .int .i64 0, .int .i64 0, .int .i64 0, .int .i64 0, .int .i64 0, .int .i64 0, .int .i64 0] 26 (0, 0)) ∧ True := hF 45 (by simp)
        clear hF
        obtain ⟨g9, e9, hg9, hc9, _⟩ := F45
        simp only [frOf, frGo, Nat.zero_add, Nat.reduceAdd, F0, F1, F2, F3, F4, F5, F6, F7, F8, F9, F10, F11, F12, F13, F14, F15, F16, F17, F18, F19, F20, F21, F22, F23, F24, F25, F26, F27, F28, F29, F30, F31, F32, F33, F34, F35, F36, F37, F38, F39, F40, F41, F42, F43, F44, e9]
        clear hD e9 F0 F1 F2 F3 F4 F5 F6 F7 F8 F9 F10 F11 F12 F13 F14 F15 F16 F17 F18 F19 F20 F21 F22 F23 F24 F25 F26 F27 F28 F29 F30 F31 F32 F33 F34 F35 F36 F37 F38 F39 F40 F41 F42 F43 F44
        simp only [List.length_cons, List.length_nil, Nat.zero_add, Nat.reduceAdd, List.drop_succ_cons, List.drop_zero]
        simp only [Act.put, List.setIfInBounds_toArray, List.set_cons_zero, List.set_cons_succ]
        refine wpList_store_row rfl 26 (.tmp 9) (.tmp 80) rfl g9 #[.int .i64 (y 0), .int .i64 (y 1), .int .i64 (y 2), .int .i64 (y 3), .int .i64 (y 4), .int .i64 (y 5), .int .i64 (y 6), .int .i64 (y 7), .int .i64 (y 8), .int .i64 (y 9), .int .i64 (y 10), .int .i64 (y 11), .int .i64 (y 12), .int .i64 (y 13), .int .i64 (y 14), .int .i64 (y 15), .int .i64 (y 16), .int .i64 (y 17), .int .i64 (y 18), .int .i64 (y 19), .int .i64 (y 20), .int .i64 (y 21), .int .i64 (y 22), .int .i64 (y 23), .int .i64 (y 24), .int .i64 (y 25), .int .i64 (y 26), .int .i64 (y 27), .int .i64 (y 28), .int .i64 (y 29), .int .i64 (y 30)] rfl rfl 26 _ hc9 (by kernel_rfl) rfl (by kernel_rfl) ?_
        have hgc := setRow_heap _ _ _ #[.int .i64 (y 0), .int .i64 (y 1), .int .i64 (y 2), .int .i64 (y 3), .int .i64 (y 4), .int .i64 (y 5), .int .i64 (y 6), .int .i64 (y 7), .int .i64 (y 8), .int .i64 (y 9), .int .i64 (y 10), .int .i64 (y 11), .int .i64 (y 12), .int .i64 (y 13), .int .i64 (y 14), .int .i64 (y 15), .int .i64 (y 16), .int .i64 (y 17), .int .i64 (y 18), .int .i64 (y 19), .int .i64 (y 20), .int .i64 (y 21), .int .i64 (y 22), .int .i64 (y 23), .int .i64 (y 24), .int .i64 (y 25), .int .i64 (y 26), .int .i64 (y 27), .int .i64 (y 28), .int .i64 (y 29), .int .i64 (y 30)] _ _ hc9
        have HR2 : (w'.setRow g9 #[.int .i64 (y 0), .int .i64 (y 1), .int .i64 (y 2), .int .i64 (y 3), .int .i64 (y 4), .int .i64 (y 5), .int .i64 (y 6), .int .i64 (y 7), .int .i64 (y 8), .int .i64 (y 9), .int .i64 (y 10), .int .i64 (y 11), .int .i64 (y 12), .int .i64 (y 13), .int .i64 (y 14), .int .i64 (y 15), .int .i64 (y 16), .int .i64 (y 17), .int .i64 (y 18), .int .i64 (y 19), .int .i64 (y 20), .int .i64 (y 21), .int .i64 (y 22), .int .i64 (y 23), .int .i64 (y 24), .int .i64 (y 25), .int .i64 (y 26), .int .i64 (y 27), .int .i64 (y 28), .int .i64 (y 29), .int .i64 (y 30)]).heap[w.heap.size]? = some (.cells #[.int .i64 0, .int .i64 0, .int .i64 0, .int .i64 0, .int .i64 0, .int .i64 0, .int .i64 0, .int .i64 0, .int .i64 0, .int .i64 0, .int .i64 0, .int .i64 0, .int .i64 0, .int .i64 0, .int .i64 0, .int .i64 0, .int .i64 0, .int .i64 0, .int .i64 0, .int .i64 0, .int .i64 0, .int .i64 0, .int .i64 0, .int .i64 0, .int .i64 0, .int .i64 0, .int .i64 0, .int .i64 0, .int .i64 0, .int .i64 0, .int .i64 0] 26 (0, 0)) := (setRow_other _ _ _ _ (by omega)).trans (block_keep hB HR.out)
        have E2 := row_below (b_trans E hB) (g := g9) (cs := #[.int .i64 (y 0), .int .i64 (y 1), .int .i64 (y 2), .int .i64 (y 3), .int .i64 (y 4), .int .i64 (y 5), .int .i64 (y 6), .int .i64 (y 7), .int .i64 (y 8), .int .i64 (y 9), .int .i64 (y 10), .int .i64 (y 11), .int .i64 (y 12), .int .i64 (y 13), .int .i64 (y 14), .int .i64 (y 15), .int .i64 (y 16), .int .i64 (y 17), .int .i64 (y 18), .int .i64 (y 19), .int .i64 (y 20), .int .i64 (y 21), .int .i64 (y 22), .int .i64 (y 23), .int .i64 (y 24), .int .i64 (y 25), .int .i64 (y 26), .int .i64 (y 27), .int .i64 (y 28), .int .i64 (y 29), .int .i64 (y 30)]) (by omega)
        generalize w'.setRow g9 #[.int .i64 (y 0), .int .i64 (y 1), .int .i64 (y 2), .int .i64 (y 3), .int .i64 (y 4), .int .i64 (y 5), .int .i64 (y 6), .int .i64 (y 7), .int .i64 (y 8), .int .i64 (y 9), .int .i64 (y 10), .int .i64 (y 11), .int .i64 (y 12), .int .i64 (y 13), .int .i64 (y 14), .int .i64 (y 15), .int .i64 (y 16), .int .i64 (y 17), .int .i64 (y 18), .int .i64 (y 19), .int .i64 (y 20), .int .i64 (y 21), .int .i64 (y 22), .int .i64 (y 23), .int .i64 (y 24), .int .i64 (y 25), .int .i64 (y 26), .int .i64 (y 27), .int .i64 (y 28), .int .i64 (y 29), .int .i64 (y 30)] = y1 at *
        clear hc9 hg9 hB K E HR
        go_wp2_with (with_reducible refine stop_at (some 81) rfl ?_)
        refine unstop ?_
        refine wpList_load_row rfl 26 (.tmp 9) rfl g9 rfl 26 _ (0, 0) _ hgc Tryz.underlying26 rfl (by kernel_rfl) ?_
        go_wp2_with fail
        refine (cp _).mono ?_
        rintro e y2 ⟨rfl, hb2⟩
        have HR3 := Lib.hid (block_keep hb2 HR2)
        have HC3 := Lib.hid (block_keep hb2 hgc)
        have E3 := Lib.hid (b_trans E2 hb2)
        clear hb2 HR2 hgc E2
        have f2 : (tb.toList == s.toList) = false := by rw [Lib.toList_data, Lib.toList_data, ← HTB.out]; simpa using HT.out
        go_wp2_with (with_reducible refine stop_at none rfl ?_)
        refine unstop ?_
        refine wpList_store_row rfl 26 (.tmp 2) (.tmp 85) rfl w.heap.size #[.int .i64 0, .int .i64 0, .int .i64 0, .int .i64 0, .int .i64 0, .int .i64 0, .int .i64 0, .int .i64 0, .int .i64 0, .int .i64 0, .int .i64 0, .int .i64 0, .int .i64 0, .int .i64 0, .int .i64 0, .int .i64 0, .int .i64 0, .int .i64 0, .int .i64 0, .int .i64 0, .int .i64 0, .int .i64 0, .int .i64 0, .int .i64 0, .int .i64 0, .int .i64 0, .int .i64 0, .int .i64 0, .int .i64 0, .int .i64 0, .int .i64 0] rfl rfl 26 _ HR3.out (by kernel_rfl) rfl (by kernel_rfl) ?_
        have hg2 := setRow_heap _ _ _ #[.int .i64 0, .int .i64 0, .int .i64 0, .int .i64 0, .int .i64 0, .int .i64 0, .int .i64 0, .int .i64 0, .int .i64 0, .int .i64 0, .int .i64 0, .int .i64 0, .int .i64 0, .int .i64 0, .int .i64 0, .int .i64 0, .int .i64 0, .int .i64 0, .int .i64 0, .int .i64 0, .int .i64 0, .int .i64 0, .int .i64 0, .int .i64 0, .int .i64 0, .int .i64 0, .int .i64 0, .int .i64 0, .int .i64 0, .int .i64 0, .int .i64 0] _ _ HR3.out
        have E4 := row_below E3.out (g := w.heap.size) (cs := #[.int .i64 0, .int .i64 0, .int .i64 0, .int .i64 0, .int .i64 0, .int .i64 0, .int .i64 0, .int .i64 0, .int .i64 0, .int .i64 0, .int .i64 0, .int .i64 0, .int .i64 0, .int .i64 0, .int .i64 0, .int .i64 0, .int .i64 0, .int .i64 0, .int .i64 0, .int .i64 0, .int .i64 0, .int .i64 0, .int .i64 0, .int .i64 0, .int .i64 0, .int .i64 0, .int .i64 0, .int .i64 0, .int .i64 0, .int .i64 0, .int .i64 0]) (Nat.le_refl _)
        generalize y2.setRow w.heap.size #[.int .i64 0, .int .i64 0, .int .i64 0, .int .i64 0, .int .i64 0, .int .i64 0, .int .i64 0, .int .i64 0, .int .i64 0, .int .i64 0, .int .i64 0, .int .i64 0, .int .i64 0, .int .i64 0, .int .i64 0, .int .i64 0, .int .i64 0, .int .i64 0, .int .i64 0, .int .i64 0, .int .i64 0, .int .i64 0, .int .i64 0, .int .i64 0, .int .i64 0, .int .i64 0, .int .i64 0, .int .i64 0, .int .i64 0, .int .i64 0, .int .i64 0] = y3 at *
        go_wp2
        exact bodyPost_ret (v := .tuple #[zv, .int .i64 6]) (results_cell_tmp Tryz.results6 _ _ w.heap.size 26 _ (0, 0) _ rfl hg2 Tryz.underlying26 rfl (by kernel_rfl)) rfl ⟨rfl, E4⟩


end Go.Proofs.YtjaccedpkkcjnaaGreatDoor
