/- Layer 17: the laws: whatever counts are put in and taken out; the mean of any counts; it is between. -/
import Derived.Test.YtfipfhghbihebaaMeaB
import Derived.Test.YtfipfhghbihebaaMeaC
import Derived.BigQuiet
namespace Go.Proofs.Ytfipfhghbihebaa
open Go.RowKit Go.Shelf Go.Joins

theorem b_drewN {a w : World} {n : Nat} (h : Below a.heap.size a w) : Below a.heap.size a (w.drewN n) := ⟨h.os, h.tape, h.output, h.size, h.block⟩
theorem is_lit {w : World} {t : TypeId} {cs : Array Value} {n : Nat} {z : Nat → Int} (h : ∀ k, k < n → cs[k]? = some (.int .i64 (z k))) : IS (w.alloc (Obj.cells cs t)) w.heap.size (some ⟨w.heap.size, 0, none⟩) n z := fun k hk =>
  ⟨_, 0, rfl, Nat.le_refl _, by rw [Nat.zero_add, cell_of_row _ _ k _ _ _ (heap_alloc_last w _)]; exact h k hk⟩

set_option maxHeartbeats 4000000 in
set_option maxRecDepth 10000 in
/-- The chapter's example: the mean of 100000 and 100001 is 100000. -/
theorem fixed_mea (w : World) : Calls Try.prog 6 #[] w (RetV (.bool true) w) := by
  have hc : IS (w.alloc (Obj.cells #[.int .i64 100000, .int .i64 100001] 2)) w.heap.size (some ⟨w.heap.size, 0, none⟩) 2 (fun k => if k = 0 then 100000 else 100001) := is_lit (fun k hk => by
    have : k = 0 ∨ k = 1 := by omega
    rcases this with rfl | rfl <;> rfl)
  have E : Below w.heap.size w (w.alloc (Obj.cells #[.int .i64 100000, .int .i64 100001] 2)) := b_alloc (Below.refl _ _)
  have c1 := of_any _ _ _ 2 2 (by decide) _ hc
  rw [show mv (fun k => if k = 0 then 100000 else 100001) 2 = 100000 from by decide, show me (fun k => if k = 0 then 100000 else 100001) 2 = 0 from by decide] at c1
  go_enter Try.func6, Try.ntmps6
  go_wp2_with fail
  refine c1.mono ?_
  rintro e y0 ⟨rfl, hb⟩
  replace E := b_trans E hb
  clear hb c1 hc
  go_wp2
  go_ret
  exact ⟨rfl, E⟩

set_option maxHeartbeats 4000000 in
set_option maxRecDepth 10000 in
/-- The mean of any counts, or why there is none, is the document's; what was handed in stays. -/
theorem meanOf_any (z : Nat → Int) (sa : Option Addr) (len cap : Nat) (w : World) (hc : IS w 0 sa len z) : Calls Try.prog 4 #[.slice sa len cap] w (RetV (.bool true) w) := by
  by_cases hl : len ≤ 200
  · have h2 : ¬ (200 : Int) < (len : Int) := by omega
    obtain ⟨i0, hi, hz0, hz1, hz2⟩ := info_whole
    go_enter Try.func4, Try.ntmps4
    have hr := Lib.hid (is_keep (b_alloc (o := Obj.cells #[] 2) (Below.refl _ _)) hc)
    have HE := Lib.hid (b_alloc (o := Obj.cells #[] 2) (Below.refl w.heap.size w))
    have HC := Lib.hid hc
    clear hc
    go_wp2_with (with_reducible refine stop_at (some 15) rfl ?_)
    refine unstop ?_
    refine wpList_append_ints rfl (.tmp 13) (.tmp 14) 22 rfl w.heap.size 2 i0 (.int .i64 0) 8 Try.underlying22 hi hz0 hz1 hz2 rfl _ 0 [] rfl (oi_empty w _) 0 sa len cap z rfl hr.out (by unfold maxLen; omega) (by omega) (by simp) ?_
    intro v1 w1 ho hg
    rw [List.nil_append, Nat.zero_add] at ho
    obtain ⟨sb, cap2, rfl, h1⟩ := is_own ho
    have HW := Lib.hid h1
    have HB := Lib.hid (below_grown HE.out hg (fun q hq => by have := oi_part (oi_empty w 2) q hq; omega))
    clear ho hg h1 hr HE
    have c1 := fun u hu => of_any 0 z sa len cap (by omega) u hu
    have c2 := fun u hu => rmean_any w.heap.size z sb len cap2 (by omega) u hu
    generalize mv z len = mm at *
    generalize me z len = ee at *
    go_wp2_with fail
    refine (c1 _ (is_keep HB.out HC.out)).mono ?_
    rintro e y0 ⟨rfl, hb⟩
    replace HB := Lib.hid (b_trans HB.out hb)
    replace HW := Lib.hid (is_keep hb HW.out)
    clear hb c1
    go_wp2_with fail
    refine (c2 _ HW.out).mono ?_
    rintro e y1 ⟨rfl, hb⟩
    replace HB := Lib.hid (b_trans HB.out hb)
    replace HW := Lib.hid (is_keep hb HW.out)
    clear hb c2
    go_wp2
    go_loopw [28] (fun iv wr => ∃ k : Nat, k ≤ len ∧ iv = .int .i64 k ∧ IS wr w.heap.size sb len z ∧ Below w.heap.size w wr) (fun iv _ => len - (intOf iv).toNat)
    case atStart => exact ⟨0, Nat.zero_le _, rfl, HW.out, HB.out⟩
    case round =>
      clear HW HB
      obtain ⟨k, hk, rfl, hw, E⟩ := hrel
      by_cases hlt : k < len
      · obtain ⟨gb, off, rfl, -, c1⟩ := HC.out k hlt
        obtain ⟨gc, off2, rfl, -, c2⟩ := hw k hlt
        replace c1 := cell_keep E c1
        have hlk : (k : Int) < len := by omega
        have hk0 : (0 : Int) ≤ k := by omega
        have ws : IntKind.i64.wrap ((k : Int) + 1) = (k : Int) + 1 := by rw [IntKind.wrap_i64]; omega
        have HW := Lib.hid hw
        have HE := Lib.hid E
        clear hw E
        generalize z k = v at *
        go_wp2
        go_quiet (fail)
        go_wp2
        refine ⟨⟨k + 1, by omega, rfl, is_keep (b_drewN (Below.refl _ _)) HW.out, b_trans HE.out (b_drewN (Below.refl _ _))⟩, ?_⟩
        simp only [intOf]
        omega
      · have hlk : ¬ (k : Int) < len := by omega
        clear hlt hk hw
        go_wp2_with fail
        refine (fixed_mea _).mono ?_
        rintro e y2 ⟨rfl, hb⟩
        replace E := b_trans E hb
        go_wp2
        go_ret
        exact ⟨rfl, E⟩
  · have h2 : (200 : Int) < (len : Int) := by omega
    clear hc
    go_enter Try.func4, Try.ntmps4
    go_wp2_with fail
    refine (fixed_mea _).mono ?_
    rintro e y0 ⟨rfl, E⟩
    go_wp2
    go_ret
    exact ⟨rfl, E⟩

/-- A heap of n with one more: how many; whether it is full; the error's number. -/
def aN (n : Nat) (c : Int) : Nat := if gd c = true ∧ n ≤ 15 then n + 1 else n
def aF (n : Nat) (c : Int) : Bool := gd c && decide (n = 15)
def aE (n : Nat) (c : Int) : Int := if gd c then (if n ≤ 15 then 0 else 7) else 2
theorem a_three (n : Nat) (c : Int) (hn : n ≤ 16) : (gd c = false ∧ aN n c = n ∧ aF n c = false ∧ aE n c = 2) ∨ (gd c = true ∧ n = 16 ∧ aN n c = n ∧ aF n c = false ∧ aE n c = 7) ∨ (gd c = true ∧ n ≤ 15 ∧ aN n c = n + 1 ∧ aF n c = decide (n = 15) ∧ aE n c = 0) := by
  cases g : gd c
  · exact Or.inl ⟨rfl, by simp [aN, g], by simp [aF, g], by simp [aE, g]⟩
  · by_cases h : n ≤ 15
    · exact Or.inr (Or.inr ⟨rfl, h, by simp [aN, g, h], by simp [aF, g], by simp [aE, g, h]⟩)
    · have e : n = 16 := by omega
      subst e
      exact Or.inr (Or.inl ⟨rfl, rfl, by simp [aN], by simp [aF], by simp [aE, g]⟩)
theorem a_le (n : Nat) (c : Int) (hn : n ≤ 16) : aN n c ≤ 16 := by
  unfold aN
  split <;> omega
theorem ag_more {z : Nat → Int} {n : Nat} (c : Int) (h : ag z n = true) : ag (more z n c) (aN n c) = true := by
  have h1 : ag (more z n c) n = true := by rw [ag_same (fun k hk => more_old hk)]; exact h
  unfold aN
  split
  · next h2 => exact ag_yes h1 (by rw [more_new]; exact h2.1)
  · exact h1
theorem hadd_all (b : Nat) (z : Nat → Int) (n : Nat) (c : Int) (ha : ag z n = true) (hn : n ≤ 16) (w : World) (h : HR w b (sm z n) n) :
    Calls Try.prog 9 #[.pointer (some ⟨b, 0, none⟩), .int .i64 c] w fun e w' => e = .returned (.tuple #[.bool (aF n c), .int .i64 (aE n c)]) ∧ HR w' b (sm (more z n c) (aN n c)) (aN n c : Nat) ∧ But b w w' := by
  have hs : sm (more z n c) n = sm z n := sm_same (fun k hk => more_old hk)
  have r := sm_range ha
  rcases a_three n c hn with ⟨g, e1, e2, e3⟩ | ⟨g, rfl, e1, e2, e3⟩ | ⟨g, h1, e1, e2, e3⟩
  · rw [e1, e2, e3, hs]
    exact hadd_bad b _ _ c g w h
  · rw [e1, e2, e3, hs]
    exact hadd_full b _ c g w h
  · rw [e1, e2, e3, sm, hs, more_new]
    have hd : decide ((n : Int) = 15) = decide (n = 15) := by
      by_cases c : n = 15
      · subst c; rfl
      · rw [decide_eq_false c, decide_eq_false (by omega)]
    have := hadd_ok b (sm z n) n c g (by omega) (by omega) (by omega) (by omega) w h
    rw [hd] at this
    exact this
theorem radd_all (B : Nat) (z : Nat → Int) (sa : Option Addr) (n cap : Nat) (c : Int) (hn : n ≤ 16) (w : World) (hB : B ≤ w.heap.size) (hc : IS w B sa n z) :
    Calls Try.prog 10 #[.slice sa n cap, .int .i64 c] w fun e w' => ∃ sb cap2, e = .returned (.tuple #[.slice sb (aN n c) cap2, .bool (aF n c), .int .i64 (aE n c)]) ∧ IS w' B sb (aN n c) (more z n c) ∧ Below w.heap.size w w' := by
  have hs := is_same (fun k hk => (more_old (c := c) hk).symm) hc
  rcases a_three n c hn with ⟨g, e1, e2, e3⟩ | ⟨g, h1, e1, e2, e3⟩ | ⟨g, h1, e1, e2, e3⟩
  · rw [e1, e2, e3]
    refine (radd_bad sa n cap c g w).mono ?_
    rintro e w' ⟨rfl, hb⟩
    exact ⟨_, _, rfl, is_keep hb hs, hb⟩
  · rw [e1, e2, e3]
    refine (radd_full sa n cap c g (by omega) w).mono ?_
    rintro e w' ⟨rfl, hb⟩
    exact ⟨_, _, rfl, is_keep hb hs, hb⟩
  · rw [e1, e2, e3]
    exact radd_ok B z sa n cap c g h1 w hB hc

set_option maxHeartbeats 4000000 in
set_option maxRecDepth 10000 in
/-- Whatever counts are put in, and taken out, what each call answers is the document's. -/
theorem meanPlays_any (z : Nat → Int) (sa : Option Addr) (len cap : Nat) (w : World) (hc : IS w 0 sa len z) : Calls Try.prog 3 #[.slice sa len cap] w (RetV (.bool true) w) := by
  by_cases hl : len ≤ 100
  · have h2 : ¬ (100 : Int) < (len : Int) := by omega
    have HC := Lib.hid hc
    clear hc
    go_enter Try.func3, Try.ntmps3
    go_wp2_with fail
    refine (newheap_any _).mono ?_
    rintro e y0 ⟨b, rfl, gb, r, E⟩
    have HB := Lib.hid gb
    have HR0 := Lib.hid (row_keep (b_alloc (o := Obj.cells #[] 2) (Below.refl _ _)) r)
    have HE0 := Lib.hid (b_alloc (o := Obj.cells #[] 2) E)
    clear gb r E
    go_wp2
    go_loopw [4, 26] (fun xv iv wr => ∃ (k n : Nat) (sb : Option Addr) (cap2 : Nat) (zz : Nat → Int), k ≤ len ∧ iv = .int .i64 k ∧ xv = .slice sb n cap2 ∧ n ≤ 16 ∧ ag zz n = true ∧ HR wr b (sm zz n) n ∧ IS wr (b + 1) sb n zz ∧ Below w.heap.size w wr) (fun _ iv _ => len - (intOf iv).toNat)
    case atStart => exact ⟨0, 0, _, _, z, Nat.zero_le _, rfl, rfl, Nat.zero_le _, rfl, HR0.out, is_none, HE0.out⟩
    case round =>
      clear HR0 HE0
      obtain ⟨k, n, sb, cap2, zz, hk, rfl, rfl, hn, za, h, hx, E⟩ := hrel
      have HH := Lib.hid h
      have HX := Lib.hid hx
      by_cases hlt : k < len
      · obtain ⟨gs, off, rfl, -, cv⟩ := HC.out k hlt
        replace cv := cell_keep E cv
        have HE := Lib.hid E
        have hlk : (k : Int) < len := by omega
        have hk0 : (0 : Int) ≤ k := by omega
        have ws : IntKind.i64.wrap ((k : Int) + 1) = (k : Int) + 1 := by rw [IntKind.wrap_i64]; omega
        clear hx h E
        generalize z k = v at *
        by_cases neg : v < 0
        · clear HX za hn
          have ZA : ag zz 0 = true := rfl
          have NL : (0 : Nat) ≤ 16 := by decide
          go_wp2_with fail
          refine (hclear_any b _ _ _ HH.out).mono ?_
          rintro e y9 ⟨rfl, h, hb⟩
          replace HE := Lib.hid (b_alloc (o := Obj.cells #[] 2) (below_but HE.out HB.out hb))
          replace HH : Hid (HR (y9.alloc (Obj.cells #[] 2)) b (sm zz 0) ((0 : Nat) : Int)) := Lib.hid (row_keep (b_alloc (o := Obj.cells #[] 2) (Below.refl _ _)) h)
          have HX : Hid (IS (y9.alloc (Obj.cells #[] 2)) (b + 1) (some ⟨y9.heap.size, 0, none⟩) 0 zz) := Lib.hid is_none
          have hsb : ∃ a, a = (some ⟨y9.heap.size, 0, none⟩ : Option Addr) := ⟨_, rfl⟩
          clear h hb cv
          go_wp2_with fail
          have c1 := fun u hu => hadd_all b zz 0 v ZA NL u hu
          have c2 := fun u hB hu => radd_all (b + 1) zz (some ⟨y9.heap.size, 0, none⟩) 0 0 v NL u hB hu
          have ga := ag_more v ZA
          have gn := a_le 0 v NL
          generalize aN 0 v = n2 at *
          generalize aF 0 v = ff at *
          generalize aE 0 v = ee at *
          generalize more zz 0 v = z2 at *
          have c3 := fun u hu => hmean_any b z2 n2 ga (by omega) u hu
          have c4 := fun u sc cap3 hu => rmean_any (b + 1) z2 sc n2 cap3 (by omega) u hu
          have GA := Lib.hid ga
          clear ga
          generalize mv z2 n2 = mm at *
          generalize me z2 n2 = qq at *
          refine (c1 _ HH.out).mono ?_
          rintro e y1 ⟨rfl, h1, hb⟩
          have HH2 := Lib.hid h1
          replace HX := Lib.hid (is_but hb (Nat.lt_succ_self b) HX.out)
          replace HE := Lib.hid (below_but HE.out HB.out hb)
          have hs1 : b + 1 ≤ y1.heap.size := (Array.getElem?_eq_some_iff.1 h1).1
          clear h1 hb HH c1
          go_wp2_with fail
          refine (c2 _ hs1 HX.out).mono ?_
          rintro e y2 ⟨sc, cap3, rfl, h1, hb⟩
          have HX2 := Lib.hid h1
          replace HH2 := Lib.hid (row_keep hb HH2.out)
          replace HE := Lib.hid (b_trans HE.out hb)
          clear h1 hb c2 HX hs1
          go_wp2_with fail
          refine (c3 _ HH2.out).mono ?_
          rintro e y3 ⟨rfl, hb⟩
          replace HX2 := Lib.hid (is_keep hb HX2.out)
          replace HH2 := Lib.hid (row_keep hb HH2.out)
          replace HE := Lib.hid (b_trans HE.out hb)
          clear hb c3
          go_wp2_with fail
          refine (c4 _ _ _ HX2.out).mono ?_
          rintro e y4 ⟨rfl, hb⟩
          replace HX2 := Lib.hid (is_keep hb HX2.out)
          replace HH2 := Lib.hid (row_keep hb HH2.out)
          replace HE := Lib.hid (b_trans HE.out hb)
          clear hb c4
          go_wp2_with fail
          refine (hlen_any _ _ _ _ HH2.out).mono ?_
          rintro e y5 ⟨rfl, hb⟩
          replace HX2 := Lib.hid (is_keep hb HX2.out)
          replace HH2 := Lib.hid (row_keep hb HH2.out)
          replace HE := Lib.hid (b_trans HE.out hb)
          clear hb
          go_wp2
          refine ⟨⟨k + 1, n2, sc, cap3, z2, by omega, rfl, rfl, gn, GA.out, HH2.out, HX2.out, HE.out⟩, ?_⟩
          simp only [intOf]
          omega
        · have ZA := za
          have NL := hn
          clear za hn
          have c1 := fun u hu => hadd_all b zz n v ZA NL u hu
          have c2 := fun u hB hu => radd_all (b + 1) zz sb n cap2 v NL u hB hu
          have ga := ag_more v ZA
          have gn := a_le n v NL
          generalize aN n v = n2 at *
          generalize aF n v = ff at *
          generalize aE n v = ee at *
          generalize more zz n v = z2 at *
          have c3 := fun u hu => hmean_any b z2 n2 ga (by omega) u hu
          have c4 := fun u sc cap3 hu => rmean_any (b + 1) z2 sc n2 cap3 (by omega) u hu
          have GA := Lib.hid ga
          clear ga
          generalize mv z2 n2 = mm at *
          generalize me z2 n2 = qq at *
          go_wp2_with fail
          refine (c1 _ HH.out).mono ?_
          rintro e y1 ⟨rfl, h1, hb⟩
          have HH2 := Lib.hid h1
          replace HX := Lib.hid (is_but hb (Nat.lt_succ_self b) HX.out)
          replace HE := Lib.hid (below_but HE.out HB.out hb)
          have hs1 : b + 1 ≤ y1.heap.size := (Array.getElem?_eq_some_iff.1 h1).1
          clear h1 hb HH c1
          go_wp2_with fail
          refine (c2 _ hs1 HX.out).mono ?_
          rintro e y2 ⟨sc, cap3, rfl, h1, hb⟩
          have HX2 := Lib.hid h1
          replace HH2 := Lib.hid (row_keep hb HH2.out)
          replace HE := Lib.hid (b_trans HE.out hb)
          clear h1 hb c2 HX hs1
          go_wp2_with fail
          refine (c3 _ HH2.out).mono ?_
          rintro e y3 ⟨rfl, hb⟩
          replace HX2 := Lib.hid (is_keep hb HX2.out)
          replace HH2 := Lib.hid (row_keep hb HH2.out)
          replace HE := Lib.hid (b_trans HE.out hb)
          clear hb c3
          go_wp2_with fail
          refine (c4 _ _ _ HX2.out).mono ?_
          rintro e y4 ⟨rfl, hb⟩
          replace HX2 := Lib.hid (is_keep hb HX2.out)
          replace HH2 := Lib.hid (row_keep hb HH2.out)
          replace HE := Lib.hid (b_trans HE.out hb)
          clear hb c4
          go_wp2_with fail
          refine (hlen_any _ _ _ _ HH2.out).mono ?_
          rintro e y5 ⟨rfl, hb⟩
          replace HX2 := Lib.hid (is_keep hb HX2.out)
          replace HH2 := Lib.hid (row_keep hb HH2.out)
          replace HE := Lib.hid (b_trans HE.out hb)
          clear hb
          go_wp2
          refine ⟨⟨k + 1, n2, sc, cap3, z2, by omega, rfl, rfl, gn, GA.out, HH2.out, HX2.out, HE.out⟩, ?_⟩
          simp only [intOf]
          omega
      · have hlk : ¬ (k : Int) < len := by omega
        clear hlt hk hx h HH HX
        go_wp2_with fail
        refine (fixed_mea _).mono ?_
        rintro e y2 ⟨rfl, hb⟩
        replace E := b_trans E hb
        go_wp2
        go_ret
        exact ⟨rfl, E⟩
  · have h2 : (100 : Int) < (len : Int) := by omega
    clear hc
    go_enter Try.func3, Try.ntmps3
    go_wp2_with fail
    refine (fixed_mea _).mono ?_
    rintro e y0 ⟨rfl, E⟩
    go_wp2
    go_ret
    exact ⟨rfl, E⟩
end Go.Proofs.Ytfipfhghbihebaa
