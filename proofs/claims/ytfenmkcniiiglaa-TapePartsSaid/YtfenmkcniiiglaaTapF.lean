/- Layer 21: the document's bytes of a number, its Put. -/
import Derived.Test.YtfenmkcniiiglaaTapE
import Derived.Test.YtfenmkcniiiglaaRegion
namespace Go.Proofs.Ytfenmkcniiiglaa
open Go.RowKit Go.Shelf Go.Joins

set_option maxHeartbeats 4000000 in
set_option maxRecDepth 10000 in
theorem bit_any (n : Int) (h : Bool) (w : World) : Calls Try.prog 19 #[.int .u8 n, .bool h] w (RetV (.int .u8 (if h then n else 0)) w) := by
  cases h
  · go_enter Try.func19, Try.ntmps19
    go_wp2
    go_ret
    exact ⟨rfl, Below.refl _ _⟩
  · go_enter Try.func19, Try.ntmps19
    go_wp2
    go_ret
    exact ⟨rfl, Below.refl _ _⟩
theorem cv_row {w : World} {b n cap : Nat} {l : List Int} {a : Array Value} (hw : w.heap[b]? = some (Obj.cells a 5)) (ha : a.toList = us l) (hn : l.length = n) :
    (convert 24 9 (.slice (some ⟨b, 0, none⟩) n cap)).run Try.prog w = .ok (.string (bs l)) w := by
  subst hn
  refine cv_any (B := 0) cap _ _ 5 Try.underlying24 Try.underlying5 Try.underlying9 (fun k x hk => ⟨b, 0, rfl, Nat.zero_le _, ?_⟩)
  rw [Nat.zero_add, cell_of_row _ _ k _ _ _ hw, ← Array.getElem?_toList, ha, us, List.getElem?_map, hk]
  rfl
theorem cv_new (w : World) (x : Int) : (convert 24 9 (.slice (some ⟨w.heap.size, 0, none⟩) 1 1)).run Try.prog (w.alloc (Obj.cells #[.int .u8 x] 5)) = .ok (.string (bs [x])) (w.alloc (Obj.cells #[.int .u8 x] 5)) :=
  cv_row (heap_alloc_last _ _) rfl rfl

set_option maxHeartbeats 4000000 in
set_option maxRecDepth 10000 in
/-- The document's bytes of a number. -/
theorem number_any (x : Int) (w : World) : Calls Try.prog 20 #[.int .i64 x] w (RetV (.string (bs (num x))) w) := by
  have wx : IntKind.u64.wrap x = x % 18446744073709551616 := IntKind.wrap_u64 x
  go_enter Try.func20, Try.ntmps20
  go_wp2
  go_loopw [3, 4, 5] (fun nv sv iv wr => ∃ j : Nat, j ≤ 8 ∧ iv = .int .i64 j ∧ nv = .int .u64 (x % 18446744073709551616 / 256 ^ j) ∧ sv = .string (bs ((num x).take j)) ∧ Below w.heap.size w wr) (fun _ _ iv _ => 8 - (intOf iv).toNat)
  case atStart => exact ⟨0, Nat.zero_le _, rfl, by simp, rfl, Below.refl _ _⟩
  case round =>
    clear wx
    obtain ⟨j, hj, rfl, rfl, rfl, E⟩ := hrel
    by_cases hlt : j < 8
    · have hlj : (j : Int) < 8 := by omega
      have hj0 : (0 : Int) ≤ j := by omega
      have w1 : IntKind.i64.wrap ((j : Int) + 1) = (j : Int) + 1 := by rw [IntKind.wrap_i64]; omega
      have e1 := Lib.hid (num_take x hlt)
      have e2 : Hid (x % 18446744073709551616 / 256 ^ (j + 1) = x % 18446744073709551616 / 256 ^ j / 256) := Lib.hid (by rw [Int.pow_succ, Int.ediv_ediv_of_nonneg (Int.le_of_lt (Int.pow_pos (by decide)))])
      have e3 := b8_mod x hlt
      have nt : ((num x).take j).length ≤ 8 := by rw [List.length_take]; omega
      have n0 : 0 ≤ x % 18446744073709551616 / 256 ^ j := Int.ediv_nonneg (by omega) (Int.le_of_lt (Int.pow_pos (by decide)))
      have n1 : x % 18446744073709551616 / 256 ^ j ≤ x % 18446744073709551616 := Int.ediv_le_self _ (by omega)
      have n2 : x % 18446744073709551616 < 18446744073709551616 := by omega
      have cx := b8_in x j
      have E1 : Below w.heap.size w (wr.alloc (Obj.cells #[.int .u8 (b8 x j)] 5)) := b_alloc E
      have hcv := cv_new wr (b8 x j)
      have hct := fun w => cat_ok (P := Try.prog) ((num x).take j) [b8 x j] (by simp at nt ⊢; omega) w
      rw [← e1.out] at hct
      rw [b8] at e3
      clear hlt
      generalize x % 18446744073709551616 / 256 ^ j = y at *
      generalize b8 x j = c at *
      have d1 : y.tmod 256 = c := by rw [Int.tmod_eq_emod_of_nonneg n0]; exact e3
      have d2 : c % 256 = c := by omega
      have d3 : y.tdiv 256 = y / 256 := Int.tdiv_eq_ediv_of_nonneg n0
      have d4 : IntKind.u64.wrap (y / 256) = y / 256 := by rw [IntKind.wrap_u64]; omega
      have d5 : IntKind.u64.wrap c = c := by rw [IntKind.wrap_u64]; omega
      have d6 : IntKind.u8.wrap c = c := by rw [IntKind.wrap_u8]; omega
      have hE := Lib.hid E1
      clear E E1
      generalize hS0 : bs ((num x).take j) = S0 at *
      generalize hS1 : bs [c] = S1 at *
      generalize hS2 : bs ((num x).take (j + 1)) = S2 at *
      have HS := Lib.hid hS2
      clear hS0 hS1 hS2 e1 nt
      go_wp2
      refine ⟨⟨j + 1, by omega, rfl, by rw [e2.out], by rw [HS.out], hE.out⟩, ?_⟩
      simp only [intOf]
      omega
    · have hlj : ¬ (j : Int) < 8 := by omega
      have e : j = 8 := by omega
      subst e
      rw [num_all]
      clear hlt hj
      go_wp2
      exact bodyPost_ret (v := .string (bs (num x))) (by simp [results, Try.results20, go_sem]) rfl ⟨rfl, E⟩

set_option maxHeartbeats 4000000 in
set_option maxRecDepth 10000 in
theorem rput_any (l : List Tk) (hl : l.length ≤ 10000) (sa : Option Addr) (cap : Nat) (w : World) (hc : TS w sa l) :
    Calls Try.prog 9 #[.slice sa l.length cap] w (RetV (.tuple #[.string (bs (px l)), .int .i64 (pe l)]) w) := by
  generalize hn : l.length = n at *
  go_enter Try.func9, Try.ntmps9
  go_wp2
  go_loopw [4, 5] (fun sv iv wr => ∃ k : Nat, k ≤ n ∧ iv = .int .i64 k ∧ sv = .string (bs (pb (l.take k))) ∧ (l.take k).all may = true ∧ Below w.heap.size w wr) (fun _ iv _ => n - (intOf iv).toNat)
  case atStart => exact ⟨0, Nat.zero_le _, rfl, rfl, rfl, Below.refl _ _⟩
  case round =>
    obtain ⟨k, hk, rfl, rfl, ha, E⟩ := hrel
    by_cases hlt : k < n
    · obtain ⟨t, ht⟩ : ∃ t, l[k]? = some t := ⟨l[k]'(by omega), List.getElem?_eq_getElem _⟩
      obtain ⟨gb, off, rfl, tw⟩ := hc k t ht
      have HT := Lib.hid (tw_keep E tw)
      have hlk : (k : Int) < n := by omega
      have hk0 : (0 : Int) ≤ k := by omega
      have ws : IntKind.i64.wrap ((k : Int) + 1) = (k : Int) + 1 := by rw [IntKind.wrap_i64]; omega
      have te := take_one ht
      have pl := pb_len (l.take k)
      rw [List.length_take] at pl
      clear tw
      by_cases hm : may t = true
      · have e0 : Hid (pb (l.take (k + 1)) = pb (l.take k) ++ tb t) := Lib.hid (by rw [te, pb_snoc])
        have e1 : Hid ((l.take (k + 1)).all may = true) := Lib.hid (by rw [te, List.all_append, ha]; simp [hm])
        clear hc te ha ht
        generalize pb (l.take k) = ys at *
        obtain ⟨a, h, p, s⟩ := t
        simp only at HT
        obtain ⟨t0, t1, t2, t3⟩ := HT.out
        cases h
        · have hp : p = 0 := by simpa [may] using hm
          subst hp
          clear hm
          have c1 := fun w => bit_any 1 false w
          have c2 := fun w => bit_any 2 s w
          have c3 := fun w => number_any a w
          have wf : IntKind.u8.wrap ((if false = true then (1 : Int) else 0) + (if s = true then 2 else 0)) = fb ⟨a, false, 0, s⟩ := by cases s <;> rfl
          have hct1 := fun w => cat_ok (P := Try.prog) ys [fb ⟨a, false, 0, s⟩] (by simp; omega) w
          have hct2 := fun w => cat_ok (P := Try.prog) (ys ++ [fb ⟨a, false, 0, s⟩]) (num a) (by simp [num_len]; omega) w
          have HS : Hid (bs (ys ++ tb ⟨a, false, 0, s⟩) = bs (ys ++ [fb ⟨a, false, 0, s⟩] ++ num a)) := Lib.hid (by simp [tb])
          generalize bs (ys ++ [fb ⟨a, false, 0, s⟩] ++ num a) = S3 at *
          generalize bs (ys ++ [fb ⟨a, false, 0, s⟩]) = S2 at *
          generalize hS1 : bs [fb ⟨a, false, 0, s⟩] = S1 at *
          generalize bs (num a) = SN at *
          generalize bs ys = S0 at *
          generalize fb ⟨a, false, 0, s⟩ = f0 at *
          generalize (if false = true then (1 : Int) else 0) = f1 at *
          generalize (if s = true then (2 : Int) else 0) = f2 at *
          go_wp2
          refine region_each [26, 27, 28, 29, 30, 31, 32, 33, 34, 35, 36, 37, 38, 39, 40, 41, 42, 43, 44, 45, 46, 47, 48, 49] (fun i_ X_ U_ => match i_ with | 0 => X_ = .string S0 | 1 => X_ = .slice (some ⟨gb, off, none⟩) n cap | 2 => X_ = .int .i64 k | 3 => X_ = .pointer (some ⟨gb, off + k * 4, none⟩) | 4 => X_ = .pointer (some ⟨gb, off + k * 4 + 1, none⟩) | 5 => X_ = .bool false | 6 => X_ = .int .u8 f1 | 7 => X_ = .slice (some ⟨gb, off, none⟩) n cap | 8 => X_ = .int .i64 k | 9 => X_ = .pointer (some ⟨gb, off + k * 4, none⟩) | 10 => X_ = .pointer (some ⟨gb, off + k * 4 + 3, none⟩) | 11 => X_ = .bool s | 12 => X_ = .int .u8 f2 | 13 => X_ = .int .u8 f0 | 14 => ∃ g, X_ = .slice (some ⟨g, 0, none⟩) 1 1 ∧ U_.heap[g]? = some (Obj.cells #[.int .u8 f0] 5) | 15 => X_ = .string S1 | 16 => X_ = .string S2 | 17 => X_ = .slice (some ⟨gb, off, none⟩) n cap | 18 => X_ = .int .i64 k | 19 => X_ = .pointer (some ⟨gb, off + k * 4, none⟩) | 20 => X_ = .pointer (some ⟨gb, off + k * 4, none⟩) | 21 => X_ = .int .i64 a | 22 => X_ = .string SN | 23 => X_ = .string S3 | _ => True) (fun i_ => false) (by kernel_rfl) (by kernel_rfl) (by kernel_rfl) (by kernel_rfl) (by kernel_rfl) ?_ (fun i x w hi ha h => by cases ha) ?_ ?_
          · refine swp (upS (upS (upS (upS (upS (upS (upS (upS (upS (upS (upS (upS (upS (upS (upS (upS (upS (upS (upS (upS (upS (upS (upS (upS up0 ?_) ?_) ?_) ?_) ?_) ?_) ?_) ?_) ?_) ?_) ?_) ?_) ?_) ?_) ?_) ?_) ?_) ?_) ?_) ?_) ?_) ?_) ?_) ?_)
            · exact fun _ _ _ h _ => h
            · exact fun _ _ _ h _ => h
            · exact fun _ _ _ h _ => h
            · exact fun _ _ _ h _ => h
            · exact fun _ _ _ h _ => h
            · exact fun _ _ _ h _ => h
            · exact fun _ _ _ h _ => h
            · exact fun _ _ _ h _ => h
            · exact fun _ _ _ h _ => h
            · exact fun _ _ _ h _ => h
            · exact fun _ _ _ h _ => h
            · exact fun _ _ _ h _ => h
            · exact fun _ _ _ h _ => h
            · exact fun _ _ _ h _ => h
            · intro x w w' h hb; obtain ⟨g, rfl, c⟩ := h; exact ⟨g, rfl, row_keep hb c⟩
            · exact fun _ _ _ h _ => h
            · exact fun _ _ _ h _ => h
            · exact fun _ _ _ h _ => h
            · exact fun _ _ _ h _ => h
            · exact fun _ _ _ h _ => h
            · exact fun _ _ _ h _ => h
            · exact fun _ _ _ h _ => h
            · exact fun _ _ _ h _ => h
            · exact fun _ _ _ h _ => h
          · refine upS (upS (upS (upS (upS (upS (upS (upS (upS (upS (upS (upS (upS (upS (upS (upS (upS (upS (upS (upS (upS (upS (upS (upS up0 ?_) ?_) ?_) ?_) ?_) ?_) ?_) ?_) ?_) ?_) ?_) ?_) ?_) ?_) ?_) ?_) ?_) ?_) ?_) ?_) ?_) ?_) ?_) ?_
            all_goals intro v f w' hb hv hB hd
            · have b4 : f.tmps[4]? = some (.string S0) := (hb 4 (by decide)).trans rfl
              clear hb hv hd
              refine wpOp_step rfl fun K hK => ?_
              go_simp
              exact hK _ _ ⟨_, rfl, Below.refl _ _, rfl, fun h => absurd h (by decide)⟩
            · have b0 : f.tmps[0]? = some (.slice (some ⟨gb, off, none⟩) n cap) := (hb 0 (by decide)).trans rfl
              clear hb hv hd
              refine wpOp_step rfl fun K hK => ?_
              go_simp
              exact hK _ _ ⟨_, rfl, Below.refl _ _, rfl, fun h => absurd h (by decide)⟩
            · have b5 : f.tmps[5]? = some (.int .i64 k) := (hb 5 (by decide)).trans rfl
              clear hb hv hd
              refine wpOp_step rfl fun K hK => ?_
              go_simp
              exact hK _ _ ⟨_, rfl, Below.refl _ _, rfl, fun h => absurd h (by decide)⟩
            · have d1 := got (hv 1 27 rfl) (hd 1 (by kernel_rfl))
              have d2 := got (hv 2 28 rfl) (hd 2 (by kernel_rfl))
              clear hb hv hd
              refine wpOp_step rfl fun K hK => ?_
              go_simp
              exact hK _ _ ⟨_, rfl, Below.refl _ _, rfl, fun h => absurd h (by decide)⟩
            · have d3 := got (hv 3 29 rfl) (hd 3 (by kernel_rfl))
              clear hb hv hd
              refine wpOp_step rfl fun K hK => ?_
              go_simp
              exact hK _ _ ⟨_, rfl, Below.refl _ _, rfl, fun h => absurd h (by decide)⟩
            · have d4 := got (hv 4 30 rfl) (hd 4 (by kernel_rfl))
              clear hb hv hd
              obtain ⟨q0, q1, q2, q3⟩ := tw_keep hB HT.out
              refine wpOp_step rfl fun K hK => ?_
              go_simp
              exact hK _ _ ⟨_, rfl, Below.refl _ _, rfl, fun h => absurd h (by decide)⟩
            · have d5 := got (hv 5 31 rfl) (hd 5 (by kernel_rfl))
              clear hb hv hd
              refine wpOp_call rfl Try.call19 (args2 rfl (eval_tmp d5)) (c1 _) ?_
              rintro e w5 ⟨rfl, hb5⟩
              exact ⟨_, rfl, _, rfl, hb5, rfl, fun h => absurd h (by decide)⟩
            · have b0 : f.tmps[0]? = some (.slice (some ⟨gb, off, none⟩) n cap) := (hb 0 (by decide)).trans rfl
              clear hb hv hd
              refine wpOp_step rfl fun K hK => ?_
              go_simp
              exact hK _ _ ⟨_, rfl, Below.refl _ _, rfl, fun h => absurd h (by decide)⟩
            · have b5 : f.tmps[5]? = some (.int .i64 k) := (hb 5 (by decide)).trans rfl
              clear hb hv hd
              refine wpOp_step rfl fun K hK => ?_
              go_simp
              exact hK _ _ ⟨_, rfl, Below.refl _ _, rfl, fun h => absurd h (by decide)⟩
            · have d7 := got (hv 7 33 rfl) (hd 7 (by kernel_rfl))
              have d8 := got (hv 8 34 rfl) (hd 8 (by kernel_rfl))
              clear hb hv hd
              refine wpOp_step rfl fun K hK => ?_
              go_simp
              exact hK _ _ ⟨_, rfl, Below.refl _ _, rfl, fun h => absurd h (by decide)⟩
            · have d9 := got (hv 9 35 rfl) (hd 9 (by kernel_rfl))
              clear hb hv hd
              refine wpOp_step rfl fun K hK => ?_
              go_simp
              exact hK _ _ ⟨_, rfl, Below.refl _ _, rfl, fun h => absurd h (by decide)⟩
            · have d10 := got (hv 10 36 rfl) (hd 10 (by kernel_rfl))
              clear hb hv hd
              obtain ⟨q0, q1, q2, q3⟩ := tw_keep hB HT.out
              refine wpOp_step rfl fun K hK => ?_
              go_simp
              exact hK _ _ ⟨_, rfl, Below.refl _ _, rfl, fun h => absurd h (by decide)⟩
            · have d11 := got (hv 11 37 rfl) (hd 11 (by kernel_rfl))
              clear hb hv hd
              refine wpOp_call rfl Try.call19 (args2 rfl (eval_tmp d11)) (c2 _) ?_
              rintro e w5 ⟨rfl, hb5⟩
              exact ⟨_, rfl, _, rfl, hb5, rfl, fun h => absurd h (by decide)⟩
            · have d6 := got (hv 6 32 rfl) (hd 6 (by kernel_rfl))
              have d12 := got (hv 12 38 rfl) (hd 12 (by kernel_rfl))
              clear hb hv hd
              refine wpOp_step rfl fun K hK => ?_
              go_simp
              exact hK _ _ ⟨_, rfl, Below.refl _ _, rfl, fun h => absurd h (by decide)⟩
            · have d13 := got (hv 13 39 rfl) (hd 13 (by kernel_rfl))
              clear hb hv hd
              refine wpOp_step rfl fun K hK => ?_
              go_simp
              skip
              exact hK _ _ ⟨_, rfl, b_alloc (Below.refl _ _), ⟨_, rfl, heap_alloc_last _ _⟩, fun h => absurd h (by decide)⟩
            · have h14 : ∃ g, (v 14) = .slice (some ⟨g, 0, none⟩) 1 1 ∧ w'.heap[g]? = some (Obj.cells #[.int .u8 f0] 5) := hd 14 (by kernel_rfl)
              have d14 : f.tmps[40]? = some (v 14) := hv 14 40 rfl
              clear hb hv hd
              obtain ⟨g, e40, c40⟩ := h14
              rw [e40] at d14
              have hcv : (convert 24 9 (.slice (some ⟨g, 0, none⟩) 1 1)).run Try.prog w' = .ok (.string S1) w' := hS1 ▸ cv_row (l := [f0]) c40 rfl rfl
              refine wpOp_step rfl fun K hK => ?_
              go_simp
              exact hK _ _ ⟨_, rfl, Below.refl _ _, rfl, fun h => absurd h (by decide)⟩
            · have d0 := got (hv 0 26 rfl) (hd 0 (by kernel_rfl))
              have d15 := got (hv 15 41 rfl) (hd 15 (by kernel_rfl))
              clear hb hv hd
              refine wpOp_step rfl fun K hK => ?_
              go_simp
              exact hK _ _ ⟨_, rfl, Below.refl _ _, rfl, fun h => absurd h (by decide)⟩
            · have b0 : f.tmps[0]? = some (.slice (some ⟨gb, off, none⟩) n cap) := (hb 0 (by decide)).trans rfl
              clear hb hv hd
              refine wpOp_step rfl fun K hK => ?_
              go_simp
              exact hK _ _ ⟨_, rfl, Below.refl _ _, rfl, fun h => absurd h (by decide)⟩
            · have b5 : f.tmps[5]? = some (.int .i64 k) := (hb 5 (by decide)).trans rfl
              clear hb hv hd
              refine wpOp_step rfl fun K hK => ?_
              go_simp
              exact hK _ _ ⟨_, rfl, Below.refl _ _, rfl, fun h => absurd h (by decide)⟩
            · have d17 := got (hv 17 43 rfl) (hd 17 (by kernel_rfl))
              have d18 := got (hv 18 44 rfl) (hd 18 (by kernel_rfl))
              clear hb hv hd
              refine wpOp_step rfl fun K hK => ?_
              go_simp
              exact hK _ _ ⟨_, rfl, Below.refl _ _, rfl, fun h => absurd h (by decide)⟩
            · have d19 := got (hv 19 45 rfl) (hd 19 (by kernel_rfl))
              clear hb hv hd
              refine wpOp_step rfl fun K hK => ?_
              go_simp
              exact hK _ _ ⟨_, rfl, Below.refl _ _, rfl, fun h => absurd h (by decide)⟩
            · have d20 := got (hv 20 46 rfl) (hd 20 (by kernel_rfl))
              clear hb hv hd
              obtain ⟨q0, q1, q2, q3⟩ := tw_keep hB HT.out
              refine wpOp_step rfl fun K hK => ?_
              go_simp
              exact hK _ _ ⟨_, rfl, Below.refl _ _, rfl, fun h => absurd h (by decide)⟩
            · have d21 := got (hv 21 47 rfl) (hd 21 (by kernel_rfl))
              clear hb hv hd
              refine wpOp_call rfl Try.call20 (args1 (eval_tmp d21)) (c3 _) ?_
              rintro e w5 ⟨rfl, hb5⟩
              exact ⟨_, rfl, _, rfl, hb5, rfl, fun h => absurd h (by decide)⟩
            · have d16 := got (hv 16 42 rfl) (hd 16 (by kernel_rfl))
              have d22 := got (hv 22 48 rfl) (hd 22 (by kernel_rfl))
              clear hb hv hd
              refine wpOp_step rfl fun K hK => ?_
              go_simp
              exact hK _ _ ⟨_, rfl, Below.refl _ _, rfl, fun h => absurd h (by decide)⟩
          · intro v w' hB hF hD
            have F0 : v 0 = _ := hF 0 (by simp)
            have F1 : v 1 = _ := hF 1 (by simp)
            have F2 : v 2 = _ := hF 2 (by simp)
            have F3 : v 3 = _ := hF 3 (by simp)
            have F4 : v 4 = _ := hF 4 (by simp)
            have F5 : v 5 = _ := hF 5 (by simp)
            have F6 : v 6 = _ := hF 6 (by simp)
            have F7 : v 7 = _ := hF 7 (by simp)
            have F8 : v 8 = _ := hF 8 (by simp)
            have F9 : v 9 = _ := hF 9 (by simp)
            have F10 : v 10 = _ := hF 10 (by simp)
            have F11 : v 11 = _ := hF 11 (by simp)
            have F12 : v 12 = _ := hF 12 (by simp)
            have F13 : v 13 = _ := hF 13 (by simp)
            have F14 : ∃ g, (v 14) = .slice (some ⟨g, 0, none⟩) 1 1 ∧ w'.heap[g]? = some (Obj.cells #[.int .u8 f0] 5) := hF 14 (by simp)
            have F15 : v 15 = _ := hF 15 (by simp)
            have F16 : v 16 = _ := hF 16 (by simp)
            have F17 : v 17 = _ := hF 17 (by simp)
            have F18 : v 18 = _ := hF 18 (by simp)
            have F19 : v 19 = _ := hF 19 (by simp)
            have F20 : v 20 = _ := hF 20 (by simp)
            have F21 : v 21 = _ := hF 21 (by simp)
            have F22 : v 22 = _ := hF 22 (by simp)
            have F23 : v 23 = _ := hF 23 (by simp)
            clear hF
            obtain ⟨g40, F14, -⟩ := F14
            simp only [frOf, frGo, Nat.zero_add, Nat.reduceAdd, F0, F1, F2, F3, F4, F5, F6, F7, F8, F9, F10, F11, F12, F13, F14, F15, F16, F17, F18, F19, F20, F21, F22, F23]
            clear F0 F1 F2 F3 F4 F5 F6 F7 F8 F9 F10 F11 F12 F13 F14 F15 F16 F17 F18 F19 F20 F21 F22 F23 hD c1 c2 c3 hct1 hct2 wf
            replace HT := Lib.hid (tw_keep hB HT.out)
            have HE := Lib.hid (b_trans E hB)
            clear hB E
            obtain ⟨q0, q1, q2, q3⟩ := HT.out
            go_wp2
            refine ⟨⟨k + 1, by omega, rfl, by rw [e0.out, HS.out], e1.out, HE.out⟩, ?_⟩
            simp only [intOf]
            omega
        · clear hm
          have c1 := fun w => bit_any 1 true w
          have c2 := fun w => bit_any 2 s w
          have c3 := fun w => number_any a w
          have wf : IntKind.u8.wrap ((if true = true then (1 : Int) else 0) + (if s = true then 2 else 0)) = fb ⟨a, true, p, s⟩ := by cases s <;> rfl
          have hct1 := fun w => cat_ok (P := Try.prog) ys [fb ⟨a, true, p, s⟩] (by simp; omega) w
          have hct2 := fun w => cat_ok (P := Try.prog) (ys ++ [fb ⟨a, true, p, s⟩]) (num a) (by simp [num_len]; omega) w
          have c4 := fun w => number_any p w
          have hct3 := fun w => cat_ok (P := Try.prog) (ys ++ [fb ⟨a, true, p, s⟩] ++ num a) (num p) (by simp [num_len]; omega) w
          have HS : Hid (bs (ys ++ tb ⟨a, true, p, s⟩) = bs (ys ++ [fb ⟨a, true, p, s⟩] ++ num a ++ num p)) := Lib.hid (by simp [tb])
          generalize bs (ys ++ [fb ⟨a, true, p, s⟩] ++ num a ++ num p) = S4 at *
          generalize bs (num p) = SP at *
          generalize bs (ys ++ [fb ⟨a, true, p, s⟩] ++ num a) = S3 at *
          generalize bs (ys ++ [fb ⟨a, true, p, s⟩]) = S2 at *
          generalize hS1 : bs [fb ⟨a, true, p, s⟩] = S1 at *
          generalize bs (num a) = SN at *
          generalize bs ys = S0 at *
          generalize fb ⟨a, true, p, s⟩ = f0 at *
          generalize (if true = true then (1 : Int) else 0) = f1 at *
          generalize (if s = true then (2 : Int) else 0) = f2 at *
          go_wp2
          refine region_each [26, 27, 28, 29, 30, 31, 32, 33, 34, 35, 36, 37, 38, 39, 40, 41, 42, 43, 44, 45, 46, 47, 48, 49] (fun i_ X_ U_ => match i_ with | 0 => X_ = .string S0 | 1 => X_ = .slice (some ⟨gb, off, none⟩) n cap | 2 => X_ = .int .i64 k | 3 => X_ = .pointer (some ⟨gb, off + k * 4, none⟩) | 4 => X_ = .pointer (some ⟨gb, off + k * 4 + 1, none⟩) | 5 => X_ = .bool true | 6 => X_ = .int .u8 f1 | 7 => X_ = .slice (some ⟨gb, off, none⟩) n cap | 8 => X_ = .int .i64 k | 9 => X_ = .pointer (some ⟨gb, off + k * 4, none⟩) | 10 => X_ = .pointer (some ⟨gb, off + k * 4 + 3, none⟩) | 11 => X_ = .bool s | 12 => X_ = .int .u8 f2 | 13 => X_ = .int .u8 f0 | 14 => ∃ g, X_ = .slice (some ⟨g, 0, none⟩) 1 1 ∧ U_.heap[g]? = some (Obj.cells #[.int .u8 f0] 5) | 15 => X_ = .string S1 | 16 => X_ = .string S2 | 17 => X_ = .slice (some ⟨gb, off, none⟩) n cap | 18 => X_ = .int .i64 k | 19 => X_ = .pointer (some ⟨gb, off + k * 4, none⟩) | 20 => X_ = .pointer (some ⟨gb, off + k * 4, none⟩) | 21 => X_ = .int .i64 a | 22 => X_ = .string SN | 23 => X_ = .string S3 | _ => True) (fun i_ => false) (by kernel_rfl) (by kernel_rfl) (by kernel_rfl) (by kernel_rfl) (by kernel_rfl) ?_ (fun i x w hi ha h => by cases ha) ?_ ?_
          · refine swp (upS (upS (upS (upS (upS (upS (upS (upS (upS (upS (upS (upS (upS (upS (upS (upS (upS (upS (upS (upS (upS (upS (upS (upS up0 ?_) ?_) ?_) ?_) ?_) ?_) ?_) ?_) ?_) ?_) ?_) ?_) ?_) ?_) ?_) ?_) ?_) ?_) ?_) ?_) ?_) ?_) ?_) ?_)
            · exact fun _ _ _ h _ => h
            · exact fun _ _ _ h _ => h
            · exact fun _ _ _ h _ => h
            · exact fun _ _ _ h _ => h
            · exact fun _ _ _ h _ => h
            · exact fun _ _ _ h _ => h
            · exact fun _ _ _ h _ => h
            · exact fun _ _ _ h _ => h
            · exact fun _ _ _ h _ => h
            · exact fun _ _ _ h _ => h
            · exact fun _ _ _ h _ => h
            · exact fun _ _ _ h _ => h
            · exact fun _ _ _ h _ => h
            · exact fun _ _ _ h _ => h
            · intro x w w' h hb; obtain ⟨g, rfl, c⟩ := h; exact ⟨g, rfl, row_keep hb c⟩
            · exact fun _ _ _ h _ => h
            · exact fun _ _ _ h _ => h
            · exact fun _ _ _ h _ => h
            · exact fun _ _ _ h _ => h
            · exact fun _ _ _ h _ => h
            · exact fun _ _ _ h _ => h
            · exact fun _ _ _ h _ => h
            · exact fun _ _ _ h _ => h
            · exact fun _ _ _ h _ => h
          · refine upS (upS (upS (upS (upS (upS (upS (upS (upS (upS (upS (upS (upS (upS (upS (upS (upS (upS (upS (upS (upS (upS (upS (upS up0 ?_) ?_) ?_) ?_) ?_) ?_) ?_) ?_) ?_) ?_) ?_) ?_) ?_) ?_) ?_) ?_) ?_) ?_) ?_) ?_) ?_) ?_) ?_) ?_
            all_goals intro v f w' hb hv hB hd
            · have b4 : f.tmps[4]? = some (.string S0) := (hb 4 (by decide)).trans rfl
              clear hb hv hd
              refine wpOp_step rfl fun K hK => ?_
              go_simp
              exact hK _ _ ⟨_, rfl, Below.refl _ _, rfl, fun h => absurd h (by decide)⟩
            · have b0 : f.tmps[0]? = some (.slice (some ⟨gb, off, none⟩) n cap) := (hb 0 (by decide)).trans rfl
              clear hb hv hd
              refine wpOp_step rfl fun K hK => ?_
              go_simp
              exact hK _ _ ⟨_, rfl, Below.refl _ _, rfl, fun h => absurd h (by decide)⟩
            · have b5 : f.tmps[5]? = some (.int .i64 k) := (hb 5 (by decide)).trans rfl
              clear hb hv hd
              refine wpOp_step rfl fun K hK => ?_
              go_simp
              exact hK _ _ ⟨_, rfl, Below.refl _ _, rfl, fun h => absurd h (by decide)⟩
            · have d1 := got (hv 1 27 rfl) (hd 1 (by kernel_rfl))
              have d2 := got (hv 2 28 rfl) (hd 2 (by kernel_rfl))
              clear hb hv hd
              refine wpOp_step rfl fun K hK => ?_
              go_simp
              exact hK _ _ ⟨_, rfl, Below.refl _ _, rfl, fun h => absurd h (by decide)⟩
            · have d3 := got (hv 3 29 rfl) (hd 3 (by kernel_rfl))
              clear hb hv hd
              refine wpOp_step rfl fun K hK => ?_
              go_simp
              exact hK _ _ ⟨_, rfl, Below.refl _ _, rfl, fun h => absurd h (by decide)⟩
            · have d4 := got (hv 4 30 rfl) (hd 4 (by kernel_rfl))
              clear hb hv hd
              obtain ⟨q0, q1, q2, q3⟩ := tw_keep hB HT.out
              refine wpOp_step rfl fun K hK => ?_
              go_simp
              exact hK _ _ ⟨_, rfl, Below.refl _ _, rfl, fun h => absurd h (by decide)⟩
            · have d5 := got (hv 5 31 rfl) (hd 5 (by kernel_rfl))
              clear hb hv hd
              refine wpOp_call rfl Try.call19 (args2 rfl (eval_tmp d5)) (c1 _) ?_
              rintro e w5 ⟨rfl, hb5⟩
              exact ⟨_, rfl, _, rfl, hb5, rfl, fun h => absurd h (by decide)⟩
            · have b0 : f.tmps[0]? = some (.slice (some ⟨gb, off, none⟩) n cap) := (hb 0 (by decide)).trans rfl
              clear hb hv hd
              refine wpOp_step rfl fun K hK => ?_
              go_simp
              exact hK _ _ ⟨_, rfl, Below.refl _ _, rfl, fun h => absurd h (by decide)⟩
            · have b5 : f.tmps[5]? = some (.int .i64 k) := (hb 5 (by decide)).trans rfl
              clear hb hv hd
              refine wpOp_step rfl fun K hK => ?_
              go_simp
              exact hK _ _ ⟨_, rfl, Below.refl _ _, rfl, fun h => absurd h (by decide)⟩
            · have d7 := got (hv 7 33 rfl) (hd 7 (by kernel_rfl))
              have d8 := got (hv 8 34 rfl) (hd 8 (by kernel_rfl))
              clear hb hv hd
              refine wpOp_step rfl fun K hK => ?_
              go_simp
              exact hK _ _ ⟨_, rfl, Below.refl _ _, rfl, fun h => absurd h (by decide)⟩
            · have d9 := got (hv 9 35 rfl) (hd 9 (by kernel_rfl))
              clear hb hv hd
              refine wpOp_step rfl fun K hK => ?_
              go_simp
              exact hK _ _ ⟨_, rfl, Below.refl _ _, rfl, fun h => absurd h (by decide)⟩
            · have d10 := got (hv 10 36 rfl) (hd 10 (by kernel_rfl))
              clear hb hv hd
              obtain ⟨q0, q1, q2, q3⟩ := tw_keep hB HT.out
              refine wpOp_step rfl fun K hK => ?_
              go_simp
              exact hK _ _ ⟨_, rfl, Below.refl _ _, rfl, fun h => absurd h (by decide)⟩
            · have d11 := got (hv 11 37 rfl) (hd 11 (by kernel_rfl))
              clear hb hv hd
              refine wpOp_call rfl Try.call19 (args2 rfl (eval_tmp d11)) (c2 _) ?_
              rintro e w5 ⟨rfl, hb5⟩
              exact ⟨_, rfl, _, rfl, hb5, rfl, fun h => absurd h (by decide)⟩
            · have d6 := got (hv 6 32 rfl) (hd 6 (by kernel_rfl))
              have d12 := got (hv 12 38 rfl) (hd 12 (by kernel_rfl))
              clear hb hv hd
              refine wpOp_step rfl fun K hK => ?_
              go_simp
              exact hK _ _ ⟨_, rfl, Below.refl _ _, rfl, fun h => absurd h (by decide)⟩
            · have d13 := got (hv 13 39 rfl) (hd 13 (by kernel_rfl))
              clear hb hv hd
              refine wpOp_step rfl fun K hK => ?_
              go_simp
              skip
              exact hK _ _ ⟨_, rfl, b_alloc (Below.refl _ _), ⟨_, rfl, heap_alloc_last _ _⟩, fun h => absurd h (by decide)⟩
            · have h14 : ∃ g, (v 14) = .slice (some ⟨g, 0, none⟩) 1 1 ∧ w'.heap[g]? = some (Obj.cells #[.int .u8 f0] 5) := hd 14 (by kernel_rfl)
              have d14 : f.tmps[40]? = some (v 14) := hv 14 40 rfl
              clear hb hv hd
              obtain ⟨g, e40, c40⟩ := h14
              rw [e40] at d14
              have hcv : (convert 24 9 (.slice (some ⟨g, 0, none⟩) 1 1)).run Try.prog w' = .ok (.string S1) w' := hS1 ▸ cv_row (l := [f0]) c40 rfl rfl
              refine wpOp_step rfl fun K hK => ?_
              go_simp
              exact hK _ _ ⟨_, rfl, Below.refl _ _, rfl, fun h => absurd h (by decide)⟩
            · have d0 := got (hv 0 26 rfl) (hd 0 (by kernel_rfl))
              have d15 := got (hv 15 41 rfl) (hd 15 (by kernel_rfl))
              clear hb hv hd
              refine wpOp_step rfl fun K hK => ?_
              go_simp
              exact hK _ _ ⟨_, rfl, Below.refl _ _, rfl, fun h => absurd h (by decide)⟩
            · have b0 : f.tmps[0]? = some (.slice (some ⟨gb, off, none⟩) n cap) := (hb 0 (by decide)).trans rfl
              clear hb hv hd
              refine wpOp_step rfl fun K hK => ?_
              go_simp
              exact hK _ _ ⟨_, rfl, Below.refl _ _, rfl, fun h => absurd h (by decide)⟩
            · have b5 : f.tmps[5]? = some (.int .i64 k) := (hb 5 (by decide)).trans rfl
              clear hb hv hd
              refine wpOp_step rfl fun K hK => ?_
              go_simp
              exact hK _ _ ⟨_, rfl, Below.refl _ _, rfl, fun h => absurd h (by decide)⟩
            · have d17 := got (hv 17 43 rfl) (hd 17 (by kernel_rfl))
              have d18 := got (hv 18 44 rfl) (hd 18 (by kernel_rfl))
              clear hb hv hd
              refine wpOp_step rfl fun K hK => ?_
              go_simp
              exact hK _ _ ⟨_, rfl, Below.refl _ _, rfl, fun h => absurd h (by decide)⟩
            · have d19 := got (hv 19 45 rfl) (hd 19 (by kernel_rfl))
              clear hb hv hd
              refine wpOp_step rfl fun K hK => ?_
              go_simp
              exact hK _ _ ⟨_, rfl, Below.refl _ _, rfl, fun h => absurd h (by decide)⟩
            · have d20 := got (hv 20 46 rfl) (hd 20 (by kernel_rfl))
              clear hb hv hd
              obtain ⟨q0, q1, q2, q3⟩ := tw_keep hB HT.out
              refine wpOp_step rfl fun K hK => ?_
              go_simp
              exact hK _ _ ⟨_, rfl, Below.refl _ _, rfl, fun h => absurd h (by decide)⟩
            · have d21 := got (hv 21 47 rfl) (hd 21 (by kernel_rfl))
              clear hb hv hd
              refine wpOp_call rfl Try.call20 (args1 (eval_tmp d21)) (c3 _) ?_
              rintro e w5 ⟨rfl, hb5⟩
              exact ⟨_, rfl, _, rfl, hb5, rfl, fun h => absurd h (by decide)⟩
            · have d16 := got (hv 16 42 rfl) (hd 16 (by kernel_rfl))
              have d22 := got (hv 22 48 rfl) (hd 22 (by kernel_rfl))
              clear hb hv hd
              refine wpOp_step rfl fun K hK => ?_
              go_simp
              exact hK _ _ ⟨_, rfl, Below.refl _ _, rfl, fun h => absurd h (by decide)⟩
          · intro v w' hB hF hD
            have F0 : v 0 = _ := hF 0 (by simp)
            have F1 : v 1 = _ := hF 1 (by simp)
            have F2 : v 2 = _ := hF 2 (by simp)
            have F3 : v 3 = _ := hF 3 (by simp)
            have F4 : v 4 = _ := hF 4 (by simp)
            have F5 : v 5 = _ := hF 5 (by simp)
            have F6 : v 6 = _ := hF 6 (by simp)
            have F7 : v 7 = _ := hF 7 (by simp)
            have F8 : v 8 = _ := hF 8 (by simp)
            have F9 : v 9 = _ := hF 9 (by simp)
            have F10 : v 10 = _ := hF 10 (by simp)
            have F11 : v 11 = _ := hF 11 (by simp)
            have F12 : v 12 = _ := hF 12 (by simp)
            have F13 : v 13 = _ := hF 13 (by simp)
            have F14 : ∃ g, (v 14) = .slice (some ⟨g, 0, none⟩) 1 1 ∧ w'.heap[g]? = some (Obj.cells #[.int .u8 f0] 5) := hF 14 (by simp)
            have F15 : v 15 = _ := hF 15 (by simp)
            have F16 : v 16 = _ := hF 16 (by simp)
            have F17 : v 17 = _ := hF 17 (by simp)
            have F18 : v 18 = _ := hF 18 (by simp)
            have F19 : v 19 = _ := hF 19 (by simp)
            have F20 : v 20 = _ := hF 20 (by simp)
            have F21 : v 21 = _ := hF 21 (by simp)
            have F22 : v 22 = _ := hF 22 (by simp)
            have F23 : v 23 = _ := hF 23 (by simp)
            clear hF
            obtain ⟨g40, F14, -⟩ := F14
            simp only [frOf, frGo, Nat.zero_add, Nat.reduceAdd, F0, F1, F2, F3, F4, F5, F6, F7, F8, F9, F10, F11, F12, F13, F14, F15, F16, F17, F18, F19, F20, F21, F22, F23]
            clear F0 F1 F2 F3 F4 F5 F6 F7 F8 F9 F10 F11 F12 F13 F14 F15 F16 F17 F18 F19 F20 F21 F22 F23 hD c1 c2 c3 hct1 hct2 wf
            replace HT := Lib.hid (tw_keep hB HT.out)
            have HE := Lib.hid (b_trans E hB)
            clear hB E
            obtain ⟨q0, q1, q2, q3⟩ := HT.out
            go_wp2_with fail
            refine (c4 _).mono ?_
            rintro e y1 ⟨rfl, hb⟩
            replace HE := Lib.hid (b_trans HE.out hb)
            clear hb c4 q0 q1 q2 q3
            go_wp2
            refine ⟨⟨k + 1, by omega, rfl, by rw [e0.out, HS.out], e1.out, HE.out⟩, ?_⟩
            simp only [intOf]
            omega
      · have HX : Hid (px l = [] ∧ pe l = 1) := Lib.hid (by
          have hn : ¬ l.all may = true := fun h => hm (List.all_eq_true.1 h t (List.mem_of_getElem? ht))
          exact ⟨by rw [px, if_neg hn], by rw [pe, if_neg hn]⟩)
        clear hc te ha pl ht
        obtain ⟨a, h, p, s⟩ := t
        simp only at HT
        obtain ⟨t0, t1, t2, t3⟩ := HT.out
        cases h
        · have hp : ¬ p = 0 := by simpa [may] using hm
          clear hm
          go_wp2
          refine bodyPost_ret (v := .tuple #[.string ⟨#[]⟩, .int .i64 1]) (by simp [results, Try.results9, go_sem]) rfl ⟨by rw [HX.out.1, HX.out.2]; rfl, E⟩
        · exact absurd rfl hm
    · have hlk : ¬ (k : Int) < n := by omega
      have e : k = n := by omega
      subst e
      rw [List.take_of_length_le (by omega)] at ha ⊢
      have HX : Hid (px l = pb l ∧ pe l = 0) := Lib.hid ⟨by rw [px, if_pos ha], by rw [pe, if_pos ha]⟩
      clear hlt hk hc ha
      go_wp2
      exact bodyPost_ret (v := .tuple #[.string (bs (pb l)), .int .i64 0]) (by simp [results, Try.results9, go_sem]) rfl ⟨by rw [HX.out.1, HX.out.2], E⟩
end Go.Proofs.Ytfenmkcniiiglaa
