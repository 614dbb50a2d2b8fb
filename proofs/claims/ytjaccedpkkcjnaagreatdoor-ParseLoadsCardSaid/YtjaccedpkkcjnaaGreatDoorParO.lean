/- Layer 14: the chapter's example; a configuration there and back; the laws of Put and Get. -/
import Derived.Test.YtjaccedpkkcjnaaGreatDoorParN
import Derived.Test.YtjaccedpkkcjnaaGreatDoorParJ
import Derived.DeepKeys
import Derived.Lib.QuietBelow
namespace Go.Proofs.YtjaccedpkkcjnaaGreatDoor
open Go.RowKit Go.Shelf Go.Lib Go.Maps

theorem w64 {n : Int} (h : R64 n) : (Lit.int .i64 n).wf = true := by
  have h1 := h.1
  have h2 := h.2
  simp [Lit.wf]
  exact ⟨h1, h2⟩
theorem kl_int (d : Nat) (n : Int) (h : R64 n) : Tryz.prog.keyLits (d + 1) 2 [.int .i64 n] = some [.int .i64 n] := by
  simp only [Program.keyLits, Tryz.underlying2]
  rw [if_pos ⟨trivial, w64 h⟩]
theorem kl_vec (d : Nat) (a b c : Int) (ha : R64 a) (hb : R64 b) (hc : R64 c) : Tryz.prog.keyLits (d + 2) 24 [.int .i64 a, .int .i64 b, .int .i64 c] = some [.int .i64 a, .int .i64 b, .int .i64 c] := by
  have h1 : Tryz.prog.cellsOf 2 = 1 := by kernel_rfl
  have h3 : Tryz.prog.cellsOf 24 = 3 := by kernel_rfl
  simp only [Program.keyLits, Tryz.underlying24]
  rw [if_pos (by rw [h3]; rfl), h1]
  simp [List.range, List.range.loop, w64 ha, w64 hb, w64 hc]
set_option maxRecDepth 20000 in
theorem kl_conf (x : Nat → Int) (hx : C64 x) : ∃ la, Tryz.prog.keyLits 5 26 (cv x).cells.toList = some la := by
  have h1 : Tryz.prog.cellsOf 2 = 1 := by kernel_rfl
  have h3 : Tryz.prog.cellsOf 24 = 3 := by kernel_rfl
  have h31 : Tryz.prog.cellsOf 26 = 31 := by kernel_rfl
  have K := fun i hi => kl_int 3 (x i) (hx i hi)
  have V := fun i j k hi hj hk => kl_vec 2 (x i) (x j) (x k) (hx i hi) (hx j hj) (hx k hk)
  refine ⟨[.int .i64 (x 0), .int .i64 (x 1), .int .i64 (x 2), .int .i64 (x 3), .int .i64 (x 4), .int .i64 (x 5), .int .i64 (x 6), .int .i64 (x 7), .int .i64 (x 8), .int .i64 (x 9), .int .i64 (x 10), .int .i64 (x 11), .int .i64 (x 12), .int .i64 (x 13), .int .i64 (x 14), .int .i64 (x 15), .int .i64 (x 16), .int .i64 (x 17), .int .i64 (x 18), .int .i64 (x 19), .int .i64 (x 20), .int .i64 (x 21), .int .i64 (x 22), .int .i64 (x 23), .int .i64 (x 24), .int .i64 (x 25), .int .i64 (x 26), .int .i64 (x 27), .int .i64 (x 28), .int .i64 (x 29), .int .i64 (x 30)], ?_⟩
  unfold Program.keyLits
  rw [Tryz.underlying26]
  simp only
  rw [if_pos ⟨by rw [h31]; rfl, by kernel_rfl⟩]
  simp [Value.cells, h1, h3, V 0 1 2 (by decide) (by decide) (by decide), V 3 4 5 (by decide) (by decide) (by decide), K 6 (by decide), K 7 (by decide), V 8 9 10 (by decide) (by decide) (by decide), V 11 12 13 (by decide) (by decide) (by decide), V 14 15 16 (by decide) (by decide) (by decide), V 17 18 19 (by decide) (by decide) (by decide), K 20 (by decide), V 21 22 23 (by decide) (by decide) (by decide), K 24 (by decide), K 25 (by decide), K 26 (by decide), K 27 (by decide), K 28 (by decide), K 29 (by decide), K 30 (by decide)]
set_option maxRecDepth 20000 in
/-- A configuration held against itself. -/
theorem conf_eq_self (x : Nat → Int) (hx : C64 x) (w : World) : (Op.equalIn 10000 26 (cv x) (cv x)).run Tryz.prog w = .ok true w := by
  have hk : Tryz.prog.keyTypeAt 5 26 = true := by kernel_rfl
  have hf : (cv x).formed Tryz.prog 26 = true := by kernel_rfl
  obtain ⟨la, hla⟩ := kl_conf x hx
  obtain ⟨r, hr, hiff⟩ := run_equalIn_deep (P := Tryz.prog) 9995 5 26 hk w 5 5 _ _ la la hf hf hla hla
  rw [hiff.2 rfl] at hr
  exact hr
theorem zv_eq_self (w : World) : (Op.equalIn 10000 26 zv zv).run Tryz.prog w = .ok true w := conf_eq_self (fun _ => 0) (fun _ _ => show R64 0 from ⟨by decide, by decide⟩) w

/-- The same where the variables are wanted. -/
theorem retVe_regrown {f : FuncId} {args : Array Value} {v : Value} {w : World} (h : ∀ w, EV w → Calls Tryz.prog f args w (RetV v w)) (ev : EV w) : ∀ d os, Calls Tryz.prog f args (Sort.grow (redrawn w d) os) fun e w'' => e = .returned v ∧ ∃ p : Regrown, w'' = Sort.grow (redrawn w p.d) p.os := by
  intro d os
  have h1 := h (Sort.grow (redrawn w d) os) (ev_keep (below_regrown w d os) ev)
  exact Calls.regrown_of h1
/-- A row's load in a quiet region. -/
theorem quiet_row {P : Program} {ops : Array Oper} {C : World → Prop} {Q : Act → Prop} {rest : List Oper} {o : Oper} {a : Act} (hw : Region.wanted o (yielded ops a.tmps) = true) (ty : TypeId) (x : Operand) (ho : o.op = .load ty x)
    (g : Nat) (hx : a.eval x = .pointer (some ⟨g, 0, none⟩)) (t : TypeId) (cs : Array Value) (fr : Nat × Nat) (d : TypeDesc) (hg : ∀ w, C w → w.heap[g]? = some (.cells cs t fr))
    (hu : P.underlying ty = some d) (hd : (match d with | .struct _ | .array _ _ => true | _ => false) = true) (hi : (P.info? ty).map (·.size) = some cs.size)
    (h : wpQuiet P ops C Q rest (a.put o.dst (.agg cs))) : wpQuiet P ops C Q (o :: rest) a :=
  wpQuiet_step fun K hK => by
    rw [if_pos hw]
    refine ⟨.agg cs, fun w hC => ?_, hK _ h⟩
    unfold Oper.quietAt execOp
    simp only [ho, hx, Instr.loadAt, Instr.sureAddr, Sem.run_bind, Sem.run_pure, Result.andThen_ok, run_loadVar_row w g t ty cs fr d (hg w hC) hu hd hi]
    exact ⟨rfl, rfl⟩
theorem index_in (sub b : List UInt8) : ∀ a : List UInt8, 0 ≤ Lib.index (a ++ (sub ++ b)) sub
  | [] => by
    cases sub with
    | nil => cases b <;> simp [Lib.index]
    | cons c s =>
      rw [List.nil_append, List.cons_append, Lib.index, if_pos]
      · exact Int.le_refl _
      · rw [List.isPrefixOf_iff_prefix]
        exact ⟨b, rfl⟩
  | c :: a => by
    have ih := index_in sub b a
    rw [List.cons_append, Lib.index]
    split
    · exact Int.le_refl _
    · split
      · rename_i h
        rw [beq_iff_eq] at h
        omega
      · omega
theorem contains_in (a sub b : List UInt8) : Lib.contains (a ++ (sub ++ b)) sub = true := decide_eq_true (index_in sub b a)
theorem suffix_in (a sub : List UInt8) : Lib.hasSuffix (a ++ sub) sub = true := by
  unfold Lib.hasSuffix
  rw [List.isSuffixOf_iff_suffix]
  exact ⟨a, rfl⟩
theorem suf_split (x : Nat → Int) : ∀ (n i m : Nat), suf i (n + m) x = suf i n x ++ suf (i + n) m x
  | 0, i, m => by simp [suf]
  | n + 1, i, m => by
    rw [show n + 1 + m = (n + m) + 1 by omega, suf, suf, suf_split x n (i + 1) m, List.append_assoc, show i + 1 + n = i + (n + 1) by omega]
theorem itoa_9 : itoa 9 = [57] := by
  unfold itoa
  rw [if_neg (by decide), show (9 : Int).toNat = 9 from rfl, decDigits, dif_pos (by decide)]
  rfl
/-- The line of Gate 9. -/
theorem txt_gate (x : Nat → Int) (h : x 20 = 9) : Lib.contains (txt x) [10, 103, 97, 116, 101, 32, 57, 10] = true := by
  have e : txt x = (suf 0 7 x ++ (nmL 7 ++ nums (offL 7) (cntL 7) x)) ++ ([10, 103, 97, 116, 101, 32, 57, 10] ++ suf 9 9 x) := by
    rw [txt, suf_split x 7 0 11, show suf (0 + 7) 11 x = lnL 7 x ++ (lnL 8 x ++ suf 9 9 x) from rfl, lnL, lnL]
    rw [show nums (offL 8) (cntL 8) x = [32, 57] from by
      simp only [offL, cntL, nums, h, itoa_9]
      rfl]
    simp [nmL]
  rw [e]
  exact contains_in _ _ _
/-- The last line. -/
theorem txt_end (x : Nat → Int) : Lib.hasSuffix (txt x) [10, 101, 110, 100, 10] = true := by
  have e : txt x = (suf 0 16 x ++ (nmL 16 ++ nums (offL 16) (cntL 16) x)) ++ [10, 101, 110, 100, 10] := by
    rw [txt, suf_split x 16 0 2, show suf (0 + 16) 2 x = lnL 16 x ++ (lnL 17 x ++ []) from rfl, lnL, lnL]
    simp [nmL, nums, cntL, offL]
  rw [e]
  exact suffix_in _ _

theorem reads_txt (x : Nat → Int) (hx : C64 x) : Reads (txt x) x := ⟨hx, rfl⟩
theorem row_congr {x y : Nat → Int} (h : ∀ j, j < 31 → x j = y j) : rowOf x = rowOf y := by
  unfold rowOf
  congr 1
  exact List.map_congr_left fun j hj => by rw [h j (List.mem_range.1 hj)]
theorem reads_one {l : List UInt8} {x y : Nat → Int} (hx : Reads l x) (hy : Reads l y) : rowOf x = rowOf y := row_congr (txt_inj hx.1 hy.1 (hx.2.trans hy.2.symm))
/-- The program's Get at a configuration's text. -/
theorem get_yes (s : ByteArray) (hs : s.size ≤ 3000) (x : Nat → Int) (h : Reads s.data.toList x) (w : World) (ev : EV w) : Calls Tryz.prog 11 #[.string s] w (RetV (.tuple #[cv x, .int .i64 0]) w) :=
  (get_any s hs w ev).mono fun e w' hg => by
    rcases hg with ⟨y, hy, he, hb⟩ | ⟨hn, _, _⟩
    · exact ⟨by rw [he, reads_one hy h]; rfl, hb⟩
    · exact absurd h.2 (hn x h.1)
/-- The program's Get at a text that is none's. -/
theorem get_no (s : ByteArray) (hs : s.size ≤ 3000) (h : NoConf s.data.toList) (w : World) (ev : EV w) : Calls Tryz.prog 11 #[.string s] w (RetV (.tuple #[zv, .int .i64 6]) w) :=
  (get_any s hs w ev).mono fun e w' hg => by
    rcases hg with ⟨y, hy, _, _⟩ | ⟨_, he, hb⟩
    · exact absurd hy.2 (h y hy.1)
    · exact ⟨he, hb⟩
theorem txt_size (x : Nat → Int) (hx : C64 x) : (⟨(txt x).toArray⟩ : ByteArray).size ≤ 3000 := by
  rw [Lib.size_eq, mk_list]
  have := txt_len x hx
  omega
/-- A configuration's text is read as it. -/
theorem get_txt (x : Nat → Int) (hx : C64 x) (w : World) (ev : EV w) : Calls Tryz.prog 11 #[.string ⟨(txt x).toArray⟩] w (RetV (.tuple #[cv x, .int .i64 0]) w) :=
  get_yes _ (txt_size x hx) x (by rw [mk_list]; exact reads_txt x hx) w ev
theorem reads_or (l : List UInt8) : (∃ x, Reads l x) ∨ NoConf l := by
  by_cases h : ∃ x, Reads l x
  · exact Or.inl h
  · exact Or.inr fun y hy e => h ⟨y, hy, e⟩

set_option maxHeartbeats 8000000 in
set_option maxRecDepth 20000 in
/-- The chapter's example. -/
theorem fixed_par (w : World) (ev : EV w) : Calls Tryz.prog 4 #[] w (RetV (.bool true) w) := by
  have cp := fun w ev => put_any dflt dflt64 w ev
  have cg := fun w ev => get_txt dflt dflt64 w ev
  have hsz := txt_size dflt dflt64
  obtain ⟨tb, htb⟩ : ∃ tb : ByteArray, ⟨(txt dflt).toArray⟩ = tb := ⟨_, rfl⟩
  rw [htb] at cp cg hsz
  have htl : tb.data.toList = txt dflt := by rw [← htb]
  have cc := fun w ev => contains_any tb ⟨#[10, 103, 97, 116, 101, 32, 57, 10]⟩ w ev hsz
  rw [show Lib.contains tb.data.toList (⟨#[10, 103, 97, 116, 101, 32, 57, 10]⟩ : ByteArray).data.toList = true from by rw [htl]; exact txt_gate dflt rfl] at cc
  have cs := fun w => suffix_any tb ⟨#[10, 101, 110, 100, 10]⟩ w hsz
  rw [show Lib.hasSuffix tb.data.toList (⟨#[10, 101, 110, 100, 10]⟩ : ByteArray).data.toList = true from by rw [htl]; exact txt_end dflt] at cs
  rw [dv_eq] at cp cg
  have HTL := Lib.hid htl
  have HTB := Lib.hid htb
  have HEV := Lib.hid ev
  clear htb htl ev
  go_enter Tryz.func4, Tryz.ntmps4
  go_wp2_with fail
  refine (default_any _).mono ?_
  rintro e y1 ⟨rfl, hb⟩
  have E := hb
  clear hb
  go_wp2_with fail
  refine (cp _ (ev_keep E HEV.out)).mono ?_
  rintro e y2 ⟨rfl, hb⟩
  replace E := b_trans E hb
  clear hb
  go_wp2_with fail
  refine (cg _ (ev_keep E HEV.out)).mono ?_
  rintro e y3 ⟨rfl, hb⟩
  replace E := b_trans E hb
  clear hb
  go_wp2_with (with_reducible refine stop_at none rfl ?_)
  refine unstop ?_
  refine wpList_store_row rfl 26 (.tmp 2) (.tmp 9) rfl y3.heap.size #[.int .i64 1024, .int .i64 65536, .int .i64 256, .int .i64 16384, .int .i64 4194304, .int .i64 4096, .int .i64 274877906944, .int .i64 4398046511104, .int .i64 4398046511104, .int .i64 1099511627776, .int .i64 68719476736, .int .i64 256, .int .i64 256, .int .i64 256, .int .i64 1125899906842624, .int .i64 281474976710656, .int .i64 17592186044416, .int .i64 18014398509481984, .int .i64 562949953421312, .int .i64 8796093022208, .int .i64 9, .int .i64 34359738368, .int .i64 17179869184, .int .i64 (-1073741824), .int .i64 536870912, .int .i64 2048, .int .i64 32768, .int .i64 32, .int .i64 64, .int .i64 1280, .int .i64 240] rfl rfl 26 _ (heap_alloc_last y3 _) (by kernel_rfl) rfl (by kernel_rfl) ?_
  rw [World.setRow_alloc_new]
  replace E := b_alloc (o := Obj.cells #[.int .i64 1024, .int .i64 65536, .int .i64 256, .int .i64 16384, .int .i64 4194304, .int .i64 4096, .int .i64 274877906944, .int .i64 4398046511104, .int .i64 4398046511104, .int .i64 1099511627776, .int .i64 68719476736, .int .i64 256, .int .i64 256, .int .i64 256, .int .i64 1125899906842624, .int .i64 281474976710656, .int .i64 17592186044416, .int .i64 18014398509481984, .int .i64 562949953421312, .int .i64 8796093022208, .int .i64 9, .int .i64 34359738368, .int .i64 17179869184, .int .i64 (-1073741824), .int .i64 536870912, .int .i64 2048, .int .i64 32768, .int .i64 32, .int .i64 64, .int .i64 1280, .int .i64 240] 26) E
  have hg := heap_alloc_last y3 (Obj.cells #[.int .i64 1024, .int .i64 65536, .int .i64 256, .int .i64 16384, .int .i64 4194304, .int .i64 4096, .int .i64 274877906944, .int .i64 4398046511104, .int .i64 4398046511104, .int .i64 1099511627776, .int .i64 68719476736, .int .i64 256, .int .i64 256, .int .i64 256, .int .i64 1125899906842624, .int .i64 281474976710656, .int .i64 17592186044416, .int .i64 18014398509481984, .int .i64 562949953421312, .int .i64 8796093022208, .int .i64 9, .int .i64 34359738368, .int .i64 17179869184, .int .i64 (-1073741824), .int .i64 536870912, .int .i64 2048, .int .i64 32768, .int .i64 32, .int .i64 64, .int .i64 1280, .int .i64 240] 26)
  generalize y3.alloc (Obj.cells #[.int .i64 1024, .int .i64 65536, .int .i64 256, .int .i64 16384, .int .i64 4194304, .int .i64 4096, .int .i64 274877906944, .int .i64 4398046511104, .int .i64 4398046511104, .int .i64 1099511627776, .int .i64 68719476736, .int .i64 256, .int .i64 256, .int .i64 256, .int .i64 1125899906842624, .int .i64 281474976710656, .int .i64 17592186044416, .int .i64 18014398509481984, .int .i64 562949953421312, .int .i64 8796093022208, .int .i64 9, .int .i64 34359738368, .int .i64 17179869184, .int .i64 (-1073741824), .int .i64 536870912, .int .i64 2048, .int .i64 32768, .int .i64 32, .int .i64 64, .int .i64 1280, .int .i64 240] 26) = y4 at *
  generalize y3.heap.size = n at *
  have c0 := retV_regrown (w := y4) default_any
  have c1 := retVe_regrown (w := y4) cc (ev_keep E HEV.out)
  have c2 := retV_regrown (w := y4) cs
  have hC : ∀ w', (∃ p : Regrown, w' = Sort.grow (redrawn y4 p.d) p.os) → w'.heap[n]? = some (.cells #[.int .i64 1024, .int .i64 65536, .int .i64 256, .int .i64 16384, .int .i64 4194304, .int .i64 4096, .int .i64 274877906944, .int .i64 4398046511104, .int .i64 4398046511104, .int .i64 1099511627776, .int .i64 68719476736, .int .i64 256, .int .i64 256, .int .i64 256, .int .i64 1125899906842624, .int .i64 281474976710656, .int .i64 17592186044416, .int .i64 18014398509481984, .int .i64 562949953421312, .int .i64 8796093022208, .int .i64 9, .int .i64 34359738368, .int .i64 17179869184, .int .i64 (-1073741824), .int .i64 536870912, .int .i64 2048, .int .i64 32768, .int .i64 32, .int .i64 64, .int .i64 1280, .int .i64 240] 26 (0, 0)) := by
    rintro _ ⟨p, rfl⟩
    exact block_keep (below_regrown _ p.d p.os) hg
  have ceq := conf_eq_self dflt dflt64
  rw [dv_eq] at ceq
  clear cc cs cp cg hg
  go_wp2
  refine wp_region_quiet_below (by kernel_rfl) (by kernel_rfl) ?_
  iterate 11 (with_reducible refine wpQuiet_step (fun KQ hKQ => ?_); go_simp; first | (with_reducible refine hKQ _ ?_; clear hKQ KQ) | (apply Exists.intro; with_reducible refine ⟨fun _ => ?_, hKQ _ ?_⟩; (with_reducible first | exact c0 _ _ | exact c1 _ _ | exact c2 _ _); clear hKQ KQ))
  with_reducible refine quiet_row ?hw 26 (.tmp 2) ?ho n ?hx 26 _ (0, 0) _ hC Tryz.underlying26 ?hd ?hi ?_
  case hw => rfl
  case ho => rfl
  case hx => rfl
  case hd => rfl
  case hi => kernel_rfl
  repeat (with_reducible refine wpQuiet_step (fun KQ hKQ => ?_); go_simp; first | (with_reducible refine hKQ _ ?_; clear hKQ KQ) | (apply Exists.intro; with_reducible refine ⟨fun _ => ?_, hKQ _ ?_⟩; (with_reducible first | exact c0 _ _ | exact c1 _ _ | exact c2 _ _); clear hKQ KQ))
  refine wpQuiet_nil ?_
  intro _ hw'
  obtain ⟨⟨dq, osq⟩, hw''⟩ := hw'
  subst hw''
  replace E := b_trans E (below_regrown _ dq osq)
  generalize Sort.grow (redrawn y4 dq) osq = y5 at *
  go_wp2
  go_ret
  exact ⟨rfl, E⟩
end Go.Proofs.YtjaccedpkkcjnaaGreatDoor
