/- Layer 22: the law: the middle of any tellings is the document's; what was handed in stays. -/
import Derived.Test.YtobmjlnficdmlaaMidD
namespace Go.Proofs.Ytobmjlnficdmlaa
open Go.RowKit Go.Shelf Go.Joins Go.Maps

theorem od_empty {w : World} {B g : Nat} (hg : w.heap.size = g) (hB : B ≤ g) : (w.alloc (Obj.cells #[] 29)).ownsRow B 29 9 (.slice (some ⟨g, 0, none⟩) 0 0) 0 [] := by
  subst hg
  exact ⟨rfl, Or.inr ⟨w.heap.size, 0, #[], rfl, hB, heap_alloc_last w _, Nat.le_refl _, Nat.zero_le _, rfl, rfl⟩⟩
set_option maxHeartbeats 4000000 in
set_option maxRecDepth 10000 in
theorem bankMiddle_any (l : List Td) (n : Nat) (hn : l.length = n) (hw : ∀ t ∈ l, Wfd t) (sa : Option Addr) (ca : Nat) (w : World) (hd : DS w sa l) :
    Calls Try.prog 3 #[.slice sa n ca] w (RetV (.bool true) w) := by
  by_cases h1 : n ≤ 60
  · have g1 : ¬ (60 : Int) < (n : Int) := by omega
    obtain ⟨i0, z, hi, hz0, hz1, hz2, hz3⟩ := info_told
    have cm := fun u hu => middle_any l (by omega) n hn sa ca u hu
    have cr := fun sb cp u hu => rmiddle_any l (by omega) n hn sb cp u hu
    have cs := fun sb cp u h1 h2 => same_told l (by omega) n hn hw sa sb ca cp u h1 h2
    have HD := Lib.hid hd
    generalize mdl (alts l) = M at *
    generalize decide (0 < (alts l).length) = q at *
    clear hd hw
    go_enter Try.func3, Try.ntmps3
    go_wp2_with (with_reducible refine stop_at (some 14) rfl ?_)
    refine unstop ?_
    refine wpList_append_any (by rfl) (.tmp 12) (.tmp 13) 22 rfl w.heap.size 29 i0 z 9 40 Try.underlying22 hi hz0 hz1 hz2 hz3 (by decide) _ _ _ rfl (od_empty (w := w) rfl (Nat.le_refl _)) sa n ca (dl l) rfl (by rw [dl_len, hn]) (ds_news (ds_keep (b_alloc (Below.refl _ _)) HD.out)) (dl_cell _) (by unfold maxLen; omega) (by omega) (by simp) ?_
    intro v3 w5 ho3 hg3 _
    have HO3 := Lib.hid (od_ds hn (by simpa using ho3))
    have HB3 := Lib.hid (below_grown (b_alloc (Below.refl _ _)) hg3 (fun k hk => ((od_empty (w := w) rfl (Nat.le_refl _)).lt k hk).1))
    clear ho3 hg3
    obtain ⟨sb, cp, rfl, hs⟩ := HO3.out
    have HS := Lib.hid hs
    clear HO3 hs hi
    go_wp2_with fail
    refine (cm _ (ds_keep HB3.out HD.out)).mono ?_
    rintro e y1 ⟨rfl, b1⟩
    have H1 := Lib.hid (b_trans HB3.out b1)
    replace HS := Lib.hid (ds_keep b1 HS.out)
    clear cm b1 HB3
    go_wp2_with fail
    refine (cr _ _ _ HS.out).mono ?_
    rintro e y2 ⟨rfl, b2⟩
    have H2 := Lib.hid (b_trans H1.out b2)
    replace HS := Lib.hid (ds_keep b2 HS.out)
    clear cr b2 H1
    go_wp2_with fail
    refine (fixed_mid _).mono ?_
    rintro e y3 ⟨rfl, b3⟩
    have H3 := Lib.hid (b_trans H2.out b3)
    replace HS := Lib.hid (ds_keep b3 HS.out)
    clear b3 H2
    have qq : (q == q) = true := by simp
    go_wp2_with fail
    refine (cs _ _ _ (ds_keep H3.out HD.out) HS.out).mono ?_
    rintro e y4 ⟨rfl, b4⟩
    have H4 := Lib.hid (b_trans H3.out b4)
    clear b4 H3 cs
    go_wp2
    go_ret
    exact ⟨rfl, H4.out⟩
  · have g1 : (60 : Int) < (n : Int) := by omega
    go_enter Try.func3, Try.ntmps3
    go_wp2_with fail
    refine (fixed_mid _).mono ?_
    rintro e y0 ⟨rfl, E⟩
    go_wp2
    go_ret
    exact ⟨rfl, E⟩
end Go.Proofs.Ytobmjlnficdmlaa
