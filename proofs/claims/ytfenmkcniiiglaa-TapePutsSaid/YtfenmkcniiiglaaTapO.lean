/- Layer 21: the laws: any ticks' bytes are the document's, and are read as these; the ticks of any bytes are the document's, and have these bytes. -/
import Derived.Test.YtfenmkcniiiglaaTapN
namespace Go.Proofs.Ytfenmkcniiiglaa
open Go.RowKit Go.Shelf Go.Joins

set_option maxHeartbeats 4000000 in
set_option maxRecDepth 10000 in
theorem tapePuts_any (l : List Tk) (hi : ∀ t ∈ l, In t) (n : Nat) (hn : l.length = n) (sa : Option Addr) (cap : Nat) (w : World) (hc : TS w sa l) :
    Calls Try.prog 3 #[.slice sa n cap] w (RetV (.bool true) w) := by
  by_cases hl : n ≤ 100
  · have h2 : ¬ (100 : Int) < (n : Int) := by omega
    have c1 := put_at l (by omega) n hn sa cap w hc
    have c2 := fun u hu => rput_any l (by omega) sa cap u hu
    rw [hn] at c2
    have zl := px_len l
    obtain ⟨z, hz⟩ : ∃ z, px l = z := ⟨_, rfl⟩
    have hzb : By z := hz ▸ by_px l
    rw [hz] at zl
    obtain ⟨m, hm⟩ : ∃ m, z.length = m := ⟨_, rfl⟩
    have c3 := fun sb cp hcp u hu => get_at z hzb (by omega) m hm sb cp hcp u hu
    have hgz : pe l = 0 → gx z = l ∧ ge z = 0 := fun h => by
      have := gt_px hi h
      rw [hz] at this
      unfold gx ge
      rw [this]
      exact ⟨rfl, rfl⟩
    have hpe : pe l = 0 ∨ pe l = 1 := by unfold pe; split <;> simp
    rw [hz] at c1 c2
    rw [hm] at c1
    have HG := Lib.hid hgz
    have HC := Lib.hid hc
    clear hgz hc hz hi
    generalize pe l = e1 at *
    go_enter Try.func3, Try.ntmps3
    go_wp2_with fail
    refine c1.mono ?_
    rintro e y0 ⟨sb, cp, rfl, h3, h4, hu, E⟩
    clear c1
    have HU := Lib.hid hu
    clear hu
    go_wp2_with fail
    refine (c2 _ (ts_keep E HC.out)).mono ?_
    rintro e y1 ⟨rfl, hb⟩
    replace E := b_trans E hb
    have hu := us_keep hb HU.out
    have hcv := cv_at cp m hm hu
    have c3 := c3 sb cp h3 y1 hu
    clear c2 hb HU
    have hE := Lib.hid E
    clear E hu
    generalize bs z = S at *
    go_wp2_with fail
    refine c3.mono ?_
    rintro e y2 ⟨sc, cq, rfl, h5, ht, hb⟩
    replace hE := Lib.hid (b_trans hE.out hb)
    clear c3 hb hcv
    have HT := Lib.hid ht
    clear ht
    go_wp2_with fail
    refine (fixed_tap _).mono ?_
    rintro e y3 ⟨rfl, hb⟩
    replace hE := Lib.hid (b_trans hE.out hb)
    have ht := ts_keep hb HT.out
    clear hb HT
    rcases hpe with rfl | rfl
    · obtain ⟨hx, hy⟩ := HG.out rfl
      rw [hx] at ht ⊢
      rw [hy]
      have cs := same_at l (by omega) n n hn hn sc sa cq cap y3 ht (ts_keep hE.out HC.out)
      clear ht hx hy HG HC
      go_wp2_with fail
      refine cs.mono ?_
      rintro e y4 ⟨rfl, hb⟩
      replace hE := Lib.hid (b_trans hE.out hb)
      clear cs hb
      go_wp2
      go_ret
      exact ⟨rfl, hE.out⟩
    · clear ht
      go_wp2
      go_ret
      exact ⟨rfl, hE.out⟩
  · have h2 : (100 : Int) < (n : Int) := by omega
    go_enter Try.func3, Try.ntmps3
    go_wp2_with fail
    refine (fixed_tap _).mono ?_
    rintro e y0 ⟨rfl, E⟩
    go_wp2
    go_ret
    exact ⟨rfl, E⟩
end Go.Proofs.Ytfenmkcniiiglaa
