/- Layer 21: the law: the bytes of whatever was told, and the sum of any bytes, are the document's. -/
import Derived.Test.YtfenmkcniiiglaaTapR
import Derived.Test.YtfenmkcniiiglaaTapN
namespace Go.Proofs.Ytfenmkcniiiglaa
open Go.RowKit Go.Shelf Go.Joins

theorem told_at (l : List Td) (hl : l.length ≤ 10000) (n : Nat) (hn : l.length = n) (y : List Int) (hy : dbs l = y) (q : Nat) (hq : y.length = q) (sa : Option Addr) (cap : Nat) (w : World) (hc : DS w sa l) :
    Calls Try.prog 13 #[.slice sa n cap] w fun e w' => ∃ sb cp, e = .returned (.slice sb q cp) ∧ US w' 0 sb y ∧ Below w.heap.size w w' := by
  subst hy
  subst hq
  refine (told_any l hl n hn sa cap w hc).mono ?_
  rintro e w' ⟨v, rfl, h, hb⟩
  obtain ⟨sb, cp, rfl, h1, h2, h3⟩ := ob_us h
  exact ⟨sb, cp, rfl, us_low (Nat.zero_le _) h3, hb⟩
theorem sum_at (l : List Int) (hz : By l) (hl : l.length ≤ 100000) (n : Nat) (hn : l.length = n) (s : Nat) (hs : sb s0 l = s) (sa : Option Addr) (cap : Nat) (w : World) (hc : US w 0 sa l) :
    Calls Try.prog 15 #[.slice sa n cap] w (RetV (.int .u64 s) w) := by
  subst hn
  subst hs
  exact sum_any l hz hl sa cap w hc
theorem rsum_at (l : List Int) (hz : By l) (hl : l.length ≤ 100000) (s : Nat) (hs : sb s0 l = s) (S : ByteArray) (hS : bs l = S) (w : World) :
    Calls Try.prog 16 #[.string S] w (RetV (.int .u64 s) w) := by
  subst hS
  subst hs
  exact rsum_any l hz hl _ (sb_bs hz) w

set_option maxHeartbeats 4000000 in
set_option maxRecDepth 10000 in
theorem tapeTold_any (l : List Td) (n : Nat) (hn : l.length = n) (sa : Option Addr) (ca : Nat) (z : List Int) (hz : By z) (m : Nat) (hm : z.length = m) (sc : Option Addr) (cb : Nat) (w : World) (hd : DS w sa l) (hu : US w 0 sc z) :
    Calls Try.prog 5 #[.slice sa n ca, .slice sc m cb] w (RetV (.bool true) w) := by
  by_cases h1 : n ≤ 60
  · have g1 : decide ((60 : Int) < (n : Int)) = false := by simp; omega
    have g1' : ¬ (60 : Int) < (n : Int) := by omega
    by_cases h2 : m ≤ 2000
    · have g2 : ¬ (2000 : Int) < (m : Int) := by omega
      obtain ⟨y, hy⟩ : ∃ y, dbs l = y := ⟨_, rfl⟩
      obtain ⟨q, hq⟩ : ∃ q, y.length = q := ⟨_, rfl⟩
      obtain ⟨S1, hS1⟩ : ∃ S, bs y = S := ⟨_, rfl⟩
      obtain ⟨S2, hS2⟩ : ∃ S, bs z = S := ⟨_, rfl⟩
      obtain ⟨s, hs⟩ : ∃ s, sb s0 z = s := ⟨_, rfl⟩
      have ct := fun u hu => told_at l (by omega) n hn y hy q hq sa ca u hu
      have cr := fun u hu => rtold_any l (by omega) n hn sa ca u hu
      rw [hy, hS1] at cr
      have cs := fun u hu => sum_at z hz (by omega) m hm s hs sc cb u hu
      have cz := fun u => rsum_at z hz (by omega) s hs S2 hS2 u
      have HS1 := Lib.hid hS1
      have HS2 := Lib.hid hS2
      have HD := Lib.hid hd
      have HU := Lib.hid hu
      clear hS1 hS2 hd hu hy hs hz
      go_enter Try.func5, Try.ntmps5
      go_wp2
      refine region_each [14, 15, 16, 17, 18, 19, 20, 21, 22, 23, 24, 25, 26, 27, 28, 29, 30] (fun i_ X_ U_ => match i_ with | 0 => X_ = .bool true | 1 => X_ = .bool true | 2 => X_ = .slice sa n ca | 3 => ∃ sb cp, X_ = .slice sb q cp ∧ US U_ 0 sb y | 4 => X_ = .string S1 | 5 => X_ = .slice sa n ca | 6 => X_ = .string S1 | 7 => X_ = .bool true | 8 => X_ = .bool true | 9 => X_ = .bool true | 10 => X_ = .slice sc m cb | 11 => X_ = .int .u64 s | 12 => X_ = .slice sc m cb | 13 => X_ = .string S2 | 14 => X_ = .int .u64 s | 15 => X_ = .bool true | 16 => X_ = .bool true | _ => True) (fun i_ => false) (by kernel_rfl) (by kernel_rfl) (by kernel_rfl) (by kernel_rfl) (by kernel_rfl) ?_ (fun i x w hi ha h => by cases ha) ?_ ?_
      · refine swp (upS (upS (upS (upS (upS (upS (upS (upS (upS (upS (upS (upS (upS (upS (upS (upS (upS up0 ?_) ?_) ?_) ?_) ?_) ?_) ?_) ?_) ?_) ?_) ?_) ?_) ?_) ?_) ?_) ?_) ?_)
        · exact fun _ _ _ h _ => h
        · exact fun _ _ _ h _ => h
        · exact fun _ _ _ h _ => h
        · intro x w w' h hb; obtain ⟨sb, cp, rfl, hu⟩ := h; exact ⟨sb, cp, rfl, us_keep hb hu⟩
        · exact fun _ _ _ h _ => h
        · exact fun _ _ _ h _ => h
        · exact fun _ _ _ h _ => h
        · exact fun _ _ _ h _ => h
        · exact fun _ _ _ h _ => h
        · exact fun _ _ _ h _ => h
        · exact fun _ _ _ h _ => h
        · exact fun _ _ _ h _ => h
        · exact fun _ _ _ h _ => h
        · exact fun _ _ _ h _ => h
        · exact fun _ _ _ h _ => h
        · exact fun _ _ _ h _ => h
        · exact fun _ _ _ h _ => h
      · refine upS (upS (upS (upS (upS (upS (upS (upS (upS (upS (upS (upS (upS (upS (upS (upS (upS up0 ?_) ?_) ?_) ?_) ?_) ?_) ?_) ?_) ?_) ?_) ?_) ?_) ?_) ?_) ?_) ?_) ?_
        all_goals intro v f w' hb hv hB hd
        · clear hb hv hd
          refine wpOp_call rfl Try.call7 args0 (fixed_tap _) ?_
          rintro e w5 ⟨rfl, hb5⟩
          exact ⟨_, rfl, _, rfl, hb5, rfl, fun h => absurd h (by decide)⟩
        · have d0 := got (hv 0 14 rfl) (hd 0 (by kernel_rfl))
          clear hb hv hd
          refine wpOp_step rfl fun K hK => ?_
          go_simp
          exact hK _ _ ⟨_, rfl, Below.refl _ _, rfl, fun h => absurd h (by decide)⟩
        · have b0 : f.tmps[0]? = some (.slice sa n ca) := (hb 0 (by decide)).trans rfl
          have d1 := got (hv 1 15 rfl) (hd 1 (by kernel_rfl))
          clear hb hv hd
          refine wpOp_step rfl fun K hK => ?_
          go_simp
          exact hK _ _ ⟨_, rfl, Below.refl _ _, rfl, fun h => absurd h (by decide)⟩
        · have d2 := got (hv 2 16 rfl) (hd 2 (by kernel_rfl))
          have d1 := got (hv 1 15 rfl) (hd 1 (by kernel_rfl))
          clear hb hv hd
          refine wpOp_callg rfl (yields rfl rfl d1) Try.call13 (args1 (eval_tmp d2)) (ct _ (ds_keep hB HD.out)) ?_
          rintro e w5 ⟨sb, cp, rfl, hu, hb5⟩
          exact ⟨_, rfl, _, rfl, hb5, ⟨sb, cp, rfl, hu⟩, fun h => absurd h (by decide)⟩
        · have h3 : ∃ sb cp, (v 3) = .slice sb q cp ∧ US w' 0 sb y := hd 3 (by kernel_rfl)
          have d3 : f.tmps[17]? = some (v 3) := hv 3 17 rfl
          have d1 := got (hv 1 15 rfl) (hd 1 (by kernel_rfl))
          clear hb hv hd
          obtain ⟨sb, cp, e17, hu⟩ := h3
          rw [e17] at d3
          have hcv := cv_at cp q hq hu
          rw [HS1.out] at hcv
          refine wpOp_step rfl fun K hK => ?_
          go_simp
          exact hK _ _ ⟨_, rfl, Below.refl _ _, rfl, fun h => absurd h (by decide)⟩
        · have b0 : f.tmps[0]? = some (.slice sa n ca) := (hb 0 (by decide)).trans rfl
          have d1 := got (hv 1 15 rfl) (hd 1 (by kernel_rfl))
          clear hb hv hd
          refine wpOp_step rfl fun K hK => ?_
          go_simp
          exact hK _ _ ⟨_, rfl, Below.refl _ _, rfl, fun h => absurd h (by decide)⟩
        · have d5 := got (hv 5 19 rfl) (hd 5 (by kernel_rfl))
          have d1 := got (hv 1 15 rfl) (hd 1 (by kernel_rfl))
          clear hb hv hd
          refine wpOp_callg rfl (yields rfl rfl d1) Try.call14 (args1 (eval_tmp d5)) (cr _ (ds_keep hB HD.out)) ?_
          rintro e w5 ⟨rfl, hb5⟩
          exact ⟨_, rfl, _, rfl, hb5, rfl, fun h => absurd h (by decide)⟩
        · have d4 := got (hv 4 18 rfl) (hd 4 (by kernel_rfl))
          have d6 := got (hv 6 20 rfl) (hd 6 (by kernel_rfl))
          have d1 := got (hv 1 15 rfl) (hd 1 (by kernel_rfl))
          clear hb hv hd
          refine wpOp_step rfl fun K hK => ?_
          go_simp
          exact hK _ _ ⟨_, rfl, Below.refl _ _, rfl, fun h => absurd h (by decide)⟩
        · have d1 := got (hv 1 15 rfl) (hd 1 (by kernel_rfl))
          have d7 := got (hv 7 21 rfl) (hd 7 (by kernel_rfl))
          clear hb hv hd
          refine wpOp_step rfl fun K hK => ?_
          go_simp
          exact hK _ _ ⟨_, rfl, Below.refl _ _, rfl, fun h => absurd h (by decide)⟩
        · have d8 := got (hv 8 22 rfl) (hd 8 (by kernel_rfl))
          clear hb hv hd
          refine wpOp_step rfl fun K hK => ?_
          go_simp
          exact hK _ _ ⟨_, rfl, Below.refl _ _, rfl, fun h => absurd h (by decide)⟩
        · have b1 : f.tmps[1]? = some (.slice sc m cb) := (hb 1 (by decide)).trans rfl
          have d9 := got (hv 9 23 rfl) (hd 9 (by kernel_rfl))
          clear hb hv hd
          refine wpOp_step rfl fun K hK => ?_
          go_simp
          exact hK _ _ ⟨_, rfl, Below.refl _ _, rfl, fun h => absurd h (by decide)⟩
        · have d10 := got (hv 10 24 rfl) (hd 10 (by kernel_rfl))
          have d9 := got (hv 9 23 rfl) (hd 9 (by kernel_rfl))
          clear hb hv hd
          refine wpOp_callg rfl (yields rfl rfl d9) Try.call15 (args1 (eval_tmp d10)) (cs _ (us_keep hB HU.out)) ?_
          rintro e w5 ⟨rfl, hb5⟩
          exact ⟨_, rfl, _, rfl, hb5, rfl, fun h => absurd h (by decide)⟩
        · have b1 : f.tmps[1]? = some (.slice sc m cb) := (hb 1 (by decide)).trans rfl
          have d9 := got (hv 9 23 rfl) (hd 9 (by kernel_rfl))
          clear hb hv hd
          refine wpOp_step rfl fun K hK => ?_
          go_simp
          exact hK _ _ ⟨_, rfl, Below.refl _ _, rfl, fun h => absurd h (by decide)⟩
        · have d12 := got (hv 12 26 rfl) (hd 12 (by kernel_rfl))
          have d9 := got (hv 9 23 rfl) (hd 9 (by kernel_rfl))
          clear hb hv hd
          have hcv := cv_at cb m hm (us_keep hB HU.out)
          rw [HS2.out] at hcv
          refine wpOp_step rfl fun K hK => ?_
          go_simp
          exact hK _ _ ⟨_, rfl, Below.refl _ _, rfl, fun h => absurd h (by decide)⟩
        · have d13 := got (hv 13 27 rfl) (hd 13 (by kernel_rfl))
          have d9 := got (hv 9 23 rfl) (hd 9 (by kernel_rfl))
          clear hb hv hd
          refine wpOp_callg rfl (yields rfl rfl d9) Try.call16 (args1 (eval_tmp d13)) (cz _) ?_
          rintro e w5 ⟨rfl, hb5⟩
          exact ⟨_, rfl, _, rfl, hb5, rfl, fun h => absurd h (by decide)⟩
        · have d11 := got (hv 11 25 rfl) (hd 11 (by kernel_rfl))
          have d14 := got (hv 14 28 rfl) (hd 14 (by kernel_rfl))
          have d9 := got (hv 9 23 rfl) (hd 9 (by kernel_rfl))
          clear hb hv hd
          refine wpOp_step rfl fun K hK => ?_
          go_simp
          exact hK _ _ ⟨_, rfl, Below.refl _ _, rfl, fun h => absurd h (by decide)⟩
        · have d9 := got (hv 9 23 rfl) (hd 9 (by kernel_rfl))
          have d15 := got (hv 15 29 rfl) (hd 15 (by kernel_rfl))
          clear hb hv hd
          refine wpOp_step rfl fun K hK => ?_
          go_simp
          exact hK _ _ ⟨_, rfl, Below.refl _ _, rfl, fun h => absurd h (by decide)⟩
      · intro v w' hB hF hD
        have F0 : v 0 = _ := hF 0 (by simp)
        have F1 : v 1 = _ := hF 1 (by simp)
        have F2 : v 2 = _ := hF 2 (by simp)
        have F3 : ∃ sb cp, (v 3) = .slice sb q cp ∧ US w' 0 sb y := hF 3 (by simp)
        have F4 : v 4 = _ := hF 4 (by simp)
        have F5 : v 5 = _ := hF 5 (by simp)
        have F6 : v 6 = _ := hF 6 (by simp)
        have F7 : v 7 = _ := hF 7 (by simp)
        have F8 : v 8 = _ := hF 8 (by simp)
        have F9 : v 9 = _ := hF 9 (by simp)
        have F10 : v 10 = _ := hF 10 (by simp)
        have F11 : v 11 = _ := hF 11 (by simp)
        have F12 : v 12 = _ := hF 12 (by simp)
        have F13 : v 13 = _ := hF 13 (by simp)
        have F14 : v 14 = _ := hF 14 (by simp)
        have F15 : v 15 = _ := hF 15 (by simp)
        have F16 : v 16 = _ := hF 16 (by simp)
        clear hF
        obtain ⟨sb, cp, e17, -⟩ := F3
        simp only [frOf, frGo, Nat.zero_add, Nat.reduceAdd, e17, F0, F1, F2, F4, F5, F6, F7, F8, F9, F10, F11, F12, F13, F14, F15, F16]
        clear e17 F0 F1 F2 F4 F5 F6 F7 F8 F9 F10 F11 F12 F13 F14 F15 F16 hD ct cr cs cz
        have hE := Lib.hid hB
        clear hB
        go_wp2
        go_ret
        exact ⟨rfl, hE.out⟩
    · have g2 : (2000 : Int) < (m : Int) := by omega
      go_enter Try.func5, Try.ntmps5
      go_wp2_with fail
      refine (fixed_tap _).mono ?_
      rintro e y0 ⟨rfl, E⟩
      go_wp2
      go_ret
      exact ⟨rfl, E⟩
  · have g1 : (60 : Int) < (n : Int) := by omega
    go_enter Try.func5, Try.ntmps5
    go_wp2_with fail
    refine (fixed_tap _).mono ?_
    rintro e y0 ⟨rfl, E⟩
    go_wp2
    go_ret
    exact ⟨rfl, E⟩
end Go.Proofs.Ytfenmkcniiiglaa
