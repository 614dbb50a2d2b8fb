/- Layer 21: the law: the ticks of any bytes are the document's, and have these bytes. -/
import Derived.Test.YtfenmkcniiiglaaTapN
namespace Go.Proofs.Ytfenmkcniiiglaa
open Go.RowKit Go.Shelf Go.Joins

set_option maxHeartbeats 4000000 in
set_option maxRecDepth 10000 in
theorem tapeGets_any (z : List Int) (hz : By z) (n : Nat) (hn : z.length = n) (sa : Option Addr) (cap : Nat) (hcap : n ≤ cap) (w : World) (hc : US w 0 sa z) :
    Calls Try.prog 4 #[.slice sa n cap] w (RetV (.bool true) w) := by
  by_cases hl : n ≤ 2000
  · have h2 : ¬ (2000 : Int) < (n : Int) := by omega
    have c1 := get_at z hz (by omega) n hn sa cap hcap w hc
    obtain ⟨S, hS⟩ : ∃ S, bs z = S := ⟨_, rfl⟩
    have c2 := fun u => rget_at z hz (by omega) S hS u
    have gl := gx_len z
    have hb := fun h => px_gx hz h
    obtain ⟨l, hx⟩ : ∃ l, gx z = l := ⟨_, rfl⟩
    obtain ⟨m, hm⟩ : ∃ m, l.length = m := ⟨_, rfl⟩
    rw [hx] at c1 c2 gl hb
    rw [hm] at c1 c2 gl
    have c3 := fun sb cp u hu => put_at l (by omega) m hm sb cp u hu
    have HB := Lib.hid hb
    have HC := Lib.hid hc
    have HS := Lib.hid hS
    clear hc hb hS hx
    generalize ge z = g1 at *
    go_enter Try.func4, Try.ntmps4
    go_wp2_with fail
    refine c1.mono ?_
    rintro e y0 ⟨sb, cp, rfl, h3, ht, E⟩
    have hcv := cv_at cap n hn (us_keep E HC.out)
    rw [HS.out] at hcv
    have HT := Lib.hid ht
    clear c1 ht
    go_wp2_with fail
    refine (c2 _).mono ?_
    rintro e y1 ⟨sc, cq, rfl, h4, ht, hb⟩
    replace E := b_trans E hb
    have c4 := same_at l (by omega) m m hm hm sb sc cp cq y1 (ts_keep hb HT.out) ht
    replace HT := Lib.hid (ts_keep hb HT.out)
    clear c2 ht hb hcv
    go_wp2_with fail
    refine c4.mono ?_
    rintro e y2 ⟨rfl, hb⟩
    replace E := b_trans E hb
    have c3 := c3 sb cp y2 (ts_keep hb HT.out)
    clear c4 hb HT
    go_wp2_with fail
    refine c3.mono ?_
    rintro e y3 ⟨sd, cr, rfl, h5, h6, hu, hb⟩
    replace E := b_trans E hb
    have HU := Lib.hid hu
    clear hb hu c3
    go_wp2_with fail
    refine (fixed_tap _).mono ?_
    rintro e y4 ⟨rfl, hb⟩
    replace E := b_trans E hb
    have hu := us_keep hb HU.out
    clear hb HU
    by_cases hg : g1 = 0
    · subst hg
      obtain ⟨hx, hy⟩ := HB.out rfl
      have hcv := cv_at cr (px l).length rfl hu
      rw [hx, HS.out] at hcv
      rw [hx, hy]
      have hcw := cv_at cap n hn (us_keep E HC.out)
      rw [HS.out] at hcw
      rw [hn] at hcv ⊢
      have hE := Lib.hid E
      clear hx hy HB HC hu E HS
      go_wp2
      go_ret
      exact ⟨rfl, hE.out⟩
    · have hE := Lib.hid E
      clear hu HB HC HS E
      go_wp2
      go_ret
      exact ⟨rfl, hE.out⟩
  · have h2 : (2000 : Int) < (n : Int) := by omega
    go_enter Try.func4, Try.ntmps4
    go_wp2_with fail
    refine (fixed_tap _).mono ?_
    rintro e y0 ⟨rfl, E⟩
    go_wp2
    go_ret
    exact ⟨rfl, E⟩
end Go.Proofs.Ytfenmkcniiiglaa
