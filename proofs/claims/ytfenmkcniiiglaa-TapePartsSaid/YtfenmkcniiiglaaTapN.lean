/- Layer 21: the laws: any ticks' bytes; the ticks of any bytes. -/
import Derived.Test.YtfenmkcniiiglaaTapF
import Derived.Test.YtfenmkcniiiglaaTapM
namespace Go.Proofs.Ytfenmkcniiiglaa
open Go.RowKit Go.Shelf Go.Joins

theorem ts_one {w : World} {g : Nat} {a : Int} {h : Bool} {p : Int} {s : Bool} (hg : w.heap.size = g) : TS (w.alloc (Obj.cells #[.int .i64 a, .bool h, .int .i64 p, .bool s] 48)) (some ⟨g, 0, none⟩) [⟨a, h, p, s⟩] := fun k t hk => by
  subst hg
  cases k with
  | zero =>
    simp at hk
    subst hk
    exact ⟨_, 0, rfl, tw_new⟩
  | succ k => simp at hk
theorem put_at (l : List Tk) (hl : l.length ≤ 10000) (n : Nat) (hn : l.length = n) (sa : Option Addr) (cap : Nat) (w : World) (hc : TS w sa l) :
    Calls Try.prog 8 #[.slice sa n cap] w fun e w' => ∃ sb cp, e = .returned (.tuple #[.slice sb (px l).length cp, .int .i64 (pe l)]) ∧ (px l).length ≤ cp ∧ cp ≤ maxLen ∧ US w' 0 sb (px l) ∧ Below w.heap.size w w' := by
  subst hn
  refine (put_any l hl sa cap w hc).mono ?_
  rintro e w' ⟨v, rfl, h, hb⟩
  obtain ⟨sb, cp, rfl, h1, h2, h3⟩ := ob_us h
  exact ⟨sb, cp, rfl, h1, h2, us_low (Nat.zero_le _) h3, hb⟩
theorem cv_at {w : World} {sa : Option Addr} {l : List Int} (cap n : Nat) (hn : l.length = n) (h : US w 0 sa l) : (convert 24 9 (.slice sa n cap)).run Try.prog w = .ok (.string (bs l)) w := by
  subst hn
  exact cv_any cap _ _ 5 Try.underlying24 Try.underlying5 Try.underlying9 h
theorem get_at (z : List Int) (hz : By z) (hl : z.length ≤ 100000) (n : Nat) (hn : z.length = n) (sa : Option Addr) (cap : Nat) (hcap : n ≤ cap) (w : World) (hc : US w 0 sa z) :
    Calls Try.prog 10 #[.slice sa n cap] w fun e w' => ∃ sb cp, e = .returned (.tuple #[.slice sb (gx z).length cp, .int .i64 (ge z)]) ∧ (gx z).length ≤ cp ∧ TS w' sb (gx z) ∧ Below w.heap.size w w' := by
  subst hn
  refine (get_any z hz hl sa cap hcap w hc).mono ?_
  rintro e w' ⟨v, rfl, h, hb⟩
  obtain ⟨sb, cp, rfl, h1, h2, h3⟩ := ot_ts h
  exact ⟨sb, cp, rfl, h1, h3, hb⟩
theorem rget_at (z : List Int) (hz : By z) (hl : z.length ≤ 100000) (S : ByteArray) (hS : bs z = S) (w : World) :
    Calls Try.prog 12 #[.string S] w fun e w' => ∃ sb cp, e = .returned (.tuple #[.slice sb (gx z).length cp, .int .i64 (ge z)]) ∧ (gx z).length ≤ cp ∧ TS w' sb (gx z) ∧ Below w.heap.size w w' := by
  subst hS
  refine (rget_any z hz hl _ (sb_bs hz) w).mono ?_
  rintro e w' ⟨v, rfl, h, hb⟩
  obtain ⟨sb, cp, rfl, h1, h2, h3⟩ := ot_ts h
  exact ⟨sb, cp, rfl, h1, h3, hb⟩
theorem same_at (l : List Tk) (hl : l.length ≤ 100000) (n m : Nat) (hn : l.length = n) (hm : l.length = m) (sa sb : Option Addr) (ca cb : Nat) (w : World) (ha : TS w sa l) (hb : TS w sb l) :
    Calls Try.prog 11 #[.slice sa n ca, .slice sb m cb] w (RetV (.bool true) w) := by
  subst hn
  subst hm
  exact same_any l hl sa sb ca cb w ha hb

set_option maxHeartbeats 4000000 in
set_option maxRecDepth 10000 in
/-- The chapter's example: a tick of Accel 1 without a count has the bytes 0, 1, and seven of 0. -/
theorem fixed_tap (w : World) : Calls Try.prog 7 #[] w (RetV (.bool true) w) := by
  have E : Below w.heap.size w (w.alloc (Obj.cells #[.int .i64 1, .bool false, .int .i64 0, .bool false] 48)) := b_alloc (Below.refl _ _)
  have c1 := put_at [⟨1, false, 0, false⟩] (by decide) 1 rfl _ 1 _ (ts_one (w := w) rfl)
  rw [show px [⟨1, false, 0, false⟩] = [0, 1, 0, 0, 0, 0, 0, 0, 0] from by decide, show pe [⟨1, false, 0, false⟩] = 0 from by decide] at c1
  go_enter Try.func7, Try.ntmps7
  go_wp2_with fail
  refine c1.mono ?_
  rintro e y0 ⟨sb, cp, rfl, h1, h2, hu, hb⟩
  have hcv := cv_at cp 9 rfl hu
  rw [show bs [0, 1, 0, 0, 0, 0, 0, 0, 0] = ⟨#[0, 1, 0, 0, 0, 0, 0, 0, 0]⟩ from by decide] at hcv
  replace E := b_trans E hb
  clear hb c1 hu h1 h2
  go_wp2
  go_ret
  exact ⟨rfl, E⟩
end Go.Proofs.Ytfenmkcniiiglaa
