/- Package gate: Pass, Least: what each call answers, for every argument; what sort.Search makes of Least's closure. -/
import Derived.Test.YtidaegmancgpnaaDoorWideE
import Derived.Test.YtidaegmancgpnaaDoorFixA
import Derived.Deep.LoopGhost
namespace Go.Proofs.YtidaegmancgpnaaDoor
open Go.RowKit Go.Shelf

abbrev J64 (x : Int) : Prop := -9223372036854775808 ≤ x ∧ x ≤ 9223372036854775807
/-- A surprise and a spread as a sample may have them. -/
abbrev MayP (y s : Int) : Prop := FitP y ∧ FitP s ∧ 1 ≤ s
def mayg (y s : Int) : Bool := decide (MayP y s)
theorem mayg_yes {y s : Int} (h : MayP y s) : mayg y s = true := decide_eq_true h
theorem mayg_no {y s : Int} (h : ¬ MayP y s) : mayg y s = false := decide_eq_false h
/-- It passes. -/
abbrev PassP (y s g : Int) : Prop := MayP y s ∧ 0 ≤ g ∧ g ≤ 1000 ∧ y * y ≤ g * s * 1099511627776
def pas (y s g : Int) : Bool := decide (PassP y s g)
theorem pas_yes {y s g : Int} (h : PassP y s g) : pas y s g = true := decide_eq_true h
theorem pas_no {y s g : Int} (h : ¬ PassP y s g) : pas y s g = false := decide_eq_false h
/-- The least gate that there is, however great. -/
def cg (y s : Int) : Int := -(-(y * y) / (s * 1099511627776))
theorem sq_pos (y : Int) : 0 ≤ y * y := by rw [← Int.natAbs_mul_self]; exact Int.natCast_nonneg _
theorem cg_le {y s : Int} (s1 : 1 ≤ s) (g : Int) : cg y s ≤ g ↔ y * y ≤ g * s * 1099511627776 := by
  have h := Int.le_ediv_iff_mul_le (a := -g) (b := -(y * y)) (c := s * 1099511627776) (by omega)
  rw [Int.neg_mul, ← Int.mul_assoc] at h
  unfold cg
  constructor
  · intro k
    have := h.1 (by omega)
    omega
  · intro k
    have := h.2 (by omega)
    omega
theorem cg_pos {y s : Int} (s1 : 1 ≤ s) : 0 ≤ cg y s := by
  have h := (cg_le (y := y) s1 (-1))
  have q := sq_pos y
  by_cases c : 0 ≤ cg y s
  · exact c
  · have := h.1 (by omega)
    omega
/-- The least gate, and the error's number. -/
def lsn (y s : Int) : Int := if MayP y s then (if cg y s ≤ 1000 then cg y s else 0) else 0
def lse (y s : Int) : Int := if MayP y s then (if cg y s ≤ 1000 then 0 else 2) else 1
theorem ls_bad {y s : Int} (h : ¬ MayP y s) : lsn y s = 0 ∧ lse y s = 1 := ⟨if_neg h, if_neg h⟩
theorem ls_ok {y s : Int} (h : MayP y s) (c : cg y s ≤ 1000) : lsn y s = cg y s ∧ lse y s = 0 := by
  unfold lsn lse
  rw [if_pos h, if_pos c, if_pos h, if_pos c]
  exact ⟨rfl, rfl⟩
theorem ls_no {y s : Int} (h : MayP y s) (c : ¬ cg y s ≤ 1000) : lsn y s = 0 ∧ lse y s = 2 := by
  unfold lsn lse
  rw [if_pos h, if_neg c, if_pos h, if_neg c]
  exact ⟨rfl, rfl⟩
theorem wed {z c h l : Int} (x : IsW h l z) {w : World} {e : Ending} {w' : World} (r : RetWE z c w e w') : RetV (.tuple #[wv h l, .int .i64 c]) w e w' := by
  obtain ⟨h', l', he, y, hb⟩ := r
  obtain ⟨rfl, rfl⟩ := (x.inj y).2 rfl
  exact ⟨he, hb⟩

set_option maxHeartbeats 1000000 in
set_option maxRecDepth 10000 in
theorem may_gate (y s : Int) (hy : J64 y) (hs : J64 s) (w : World) :
    Calls Tryd.prog 30 #[.int .i64 y, .int .i64 s] w fun e w' => e = .returned (.bool (mayg y s)) ∧ w = w' := by
  have cy := fits_any y hy.1 hy.2
  have cs := fits_any s hs.1 hs.2
  clear hy hs
  by_cases d : FitP y
  · have ed := Lib.hid (fitb_yes d)
    by_cases f : FitP s
    · have ef := Lib.hid (fitb_yes f)
      by_cases o : 1 ≤ s
      · have R := Lib.hid (mayg_yes ⟨d, f, o⟩)
        clear d f
        go_enter Tryd.func30, Tryd.ntmps30
        go_wp2_with fail
        refine (cy _).mono ?_
        rintro e w9 ⟨rfl, rfl⟩
        rw [ed.out]
        go_wp2_with fail
        refine (cs _).mono ?_
        rintro e w9 ⟨rfl, rfl⟩
        rw [ef.out]
        go_wp2
        go_ret
        exact ⟨by rw [R.out]; rfl, rfl⟩
      · have R := Lib.hid (mayg_no (y := y) (s := s) (fun h => o h.2.2))
        clear d f
        go_enter Tryd.func30, Tryd.ntmps30
        go_wp2_with fail
        refine (cy _).mono ?_
        rintro e w9 ⟨rfl, rfl⟩
        rw [ed.out]
        go_wp2_with fail
        refine (cs _).mono ?_
        rintro e w9 ⟨rfl, rfl⟩
        rw [ef.out]
        go_wp2
        go_ret
        exact ⟨by rw [R.out]; show Ending.returned (.bool (decide (1 ≤ s))) = _; rw [decide_eq_false (show ¬ 1 ≤ s by omega)], rfl⟩
    · have ef := Lib.hid (fitb_no f)
      have R := Lib.hid (mayg_no (y := y) (s := s) (fun h => f h.2.1))
      clear d f
      go_enter Tryd.func30, Tryd.ntmps30
      go_wp2_with fail
      refine (cy _).mono ?_
      rintro e w9 ⟨rfl, rfl⟩
      rw [ed.out]
      go_wp2_with fail
      refine (cs _).mono ?_
      rintro e w9 ⟨rfl, rfl⟩
      rw [ef.out]
      go_wp2
      go_ret
      exact ⟨by rw [R.out]; rfl, rfl⟩
  · have ed := Lib.hid (fitb_no d)
    have R := Lib.hid (mayg_no (y := y) (s := s) (fun h => d h.1))
    clear d
    go_enter Tryd.func30, Tryd.ntmps30
    go_wp2_with fail
    refine (cy _).mono ?_
    rintro e w9 ⟨rfl, rfl⟩
    rw [ed.out]
    go_wp2
    go_ret
    exact ⟨by rw [R.out]; rfl, rfl⟩

set_option maxHeartbeats 2000000 in
set_option maxRecDepth 10000 in
theorem pass_go (y s g ph pl bh bl sh sl c : Int) (g0 : ¬ g < 0) (g1 : ¬ 1000 < g)
    (hm : ∀ w, Calls Tryd.prog 30 #[.int .i64 y, .int .i64 s] w fun e w' => e = .returned (.bool true) ∧ w = w')
    (cM : ∀ w, Calls Tryd.prog 34 #[.int .i64 g, .int .i64 s] w (RetV (wv ph pl) w))
    (cU : ∀ w, Calls Tryd.prog 33 #[wv ph pl, .int .i64 40] w (RetV (.tuple #[wv bh bl, .int .i64 0]) w))
    (cS : ∀ w, Calls Tryd.prog 34 #[.int .i64 y, .int .i64 y] w (RetV (wv sh sl) w))
    (cC : ∀ w, Calls Tryd.prog 35 #[wv sh sl, wv bh bl] w (RetV (.int .i64 c) w)) (w : World) :
    Calls Tryd.prog 19 #[.int .i64 y, .int .i64 s, .int .i64 g] w (RetV (.bool (decide (c ≤ 0))) w) := by
  have ym := hm
  clear hm
  go_enter Tryd.func19, Tryd.ntmps19
  go_wp2_with fail
  refine (ym _).mono ?_
  rintro e w1 ⟨rfl, rfl⟩
  clear ym
  go_wp2_with fail
  refine (cM _).mono ?_
  rintro e w2 ⟨rfl, hb2⟩
  clear cM
  go_wp2_with fail
  refine (cU _).mono ?_
  rintro e w3 ⟨rfl, hb3⟩
  clear cU
  have B4 : Below w.heap.size w (w3.alloc (Obj.cells #[.int .i64 bh, .int .u64 bl] 59)) := b_alloc (b_trans hb2 hb3)
  have kb : WC (w3.alloc (Obj.cells #[.int .i64 bh, .int .u64 bl] 59)) w3.heap.size bh bl := by simp [WC, go_sem]
  clear hb2 hb3
  go_wp2
  refine region_each [28, 29, 30, 31, 32, 33] (fun i_ X_ U_ => match i_ with | 0 => X_ = .int .i64 y | 1 => X_ = .int .i64 y | 2 => X_ = wv sh sl | 3 => X_ = wv bh bl | 4 => X_ = .int .i64 c | 5 => X_ = .bool (decide (c ≤ 0)) | _ => True) (fun i_ => false) (by kernel_rfl) (by kernel_rfl) (by kernel_rfl) (by kernel_rfl) (by kernel_rfl) ?_ (fun i x w hi ha h => by cases ha) ?_ ?_
  · refine swp (upS (upS (upS (upS (upS (upS up0 ?_) ?_) ?_) ?_) ?_) ?_)
    all_goals exact fun _ _ _ h _ => h
  · refine upS (upS (upS (upS (upS (upS up0 ?_) ?_) ?_) ?_) ?_) ?_
    all_goals intro v f w' hb hv hB hd
    · have b0 : f.tmps[0]? = some (.int .i64 y) := (hb 0 (by decide)).trans rfl
      clear hb hv hd
      refine wpOp_step rfl fun K hK => ?_
      go_simp
      exact hK _ _ ⟨_, rfl, Below.refl _ _, rfl, fun h => absurd h (by decide)⟩
    · have b0 : f.tmps[0]? = some (.int .i64 y) := (hb 0 (by decide)).trans rfl
      clear hb hv hd
      refine wpOp_step rfl fun K hK => ?_
      go_simp
      exact hK _ _ ⟨_, rfl, Below.refl _ _, rfl, fun h => absurd h (by decide)⟩
    · have d0 := got (hv 0 28 rfl) (hd 0 (by kernel_rfl))
      have d1 := got (hv 1 29 rfl) (hd 1 (by kernel_rfl))
      clear hb hv hd
      refine wpOp_call rfl Tryd.call34 (args2 (eval_tmp d0) (eval_tmp d1)) (cS _) ?_
      rintro e5 w5 ⟨rfl, hb5⟩
      exact ⟨_, rfl, _, rfl, hb5, rfl, fun h => absurd h (by decide)⟩
    · have b7 : f.tmps[7]? = some (.pointer (some ⟨w3.heap.size, 0, none⟩)) := (hb 7 (by decide)).trans rfl
      clear hb hv hd
      have c_ : WC w' w3.heap.size bh bl := wc_keep hB kb
      refine wpOp_step rfl fun K hK => ?_
      go_simp
      exact hK _ _ ⟨_, rfl, Below.refl _ _, rfl, fun h => absurd h (by decide)⟩
    · have d2 := got (hv 2 30 rfl) (hd 2 (by kernel_rfl))
      have d3 := got (hv 3 31 rfl) (hd 3 (by kernel_rfl))
      clear hb hv hd
      refine wpOp_call rfl Tryd.call35 (args2 (eval_tmp d2) (eval_tmp d3)) (cC _) ?_
      rintro e5 w5 ⟨rfl, hb5⟩
      exact ⟨_, rfl, _, rfl, hb5, rfl, fun h => absurd h (by decide)⟩
    · have d4 := got (hv 4 32 rfl) (hd 4 (by kernel_rfl))
      clear hb hv hd
      refine wpOp_step rfl fun K hK => ?_
      go_simp
      exact hK _ _ ⟨_, rfl, Below.refl _ _, rfl, fun h => absurd h (by decide)⟩
  · intro v w' hB hF hD
    have F0 : v 0 = _ := hF 0 (by simp)
    have F1 : v 1 = _ := hF 1 (by simp)
    have F2 : v 2 = _ := hF 2 (by simp)
    have F3 : v 3 = _ := hF 3 (by simp)
    have F4 : v 4 = _ := hF 4 (by simp)
    have F5 : v 5 = _ := hF 5 (by simp)
    clear hF
    simp only [frOf, frGo, Nat.zero_add, Nat.reduceAdd, F0, F1, F2, F3, F4, F5]
    have B5 := b_trans B4 hB
    clear hB hD cS cC F0 F1 F2 F3 F4 F5
    go_wp2
    go_ret
    exact ⟨rfl, B5⟩

set_option maxHeartbeats 1000000 in
set_option maxRecDepth 10000 in
theorem pass_bad (y s g : Int) (b : Bool) (h : b = true → g < 0 ∨ 1000 < g)
    (hm : ∀ w, Calls Tryd.prog 30 #[.int .i64 y, .int .i64 s] w fun e w' => e = .returned (.bool b) ∧ w = w') (w : World) :
    Calls Tryd.prog 19 #[.int .i64 y, .int .i64 s, .int .i64 g] w (RetV (.bool false) w) := by
  cases b
  · clear h
    go_enter Tryd.func19, Tryd.ntmps19
    go_wp2_with fail
    refine (hm _).mono ?_
    rintro e w1 ⟨rfl, rfl⟩
    go_wp2
    go_ret
    exact ⟨rfl, Below.refl _ _⟩
  · replace h := h rfl
    by_cases g0 : g < 0
    · clear h
      go_enter Tryd.func19, Tryd.ntmps19
      go_wp2_with fail
      refine (hm _).mono ?_
      rintro e w1 ⟨rfl, rfl⟩
      go_wp2
      go_ret
      exact ⟨rfl, Below.refl _ _⟩
    · have g1 : 1000 < g := by omega
      clear h
      go_enter Tryd.func19, Tryd.ntmps19
      go_wp2_with fail
      refine (hm _).mono ?_
      rintro e w1 ⟨rfl, rfl⟩
      go_wp2
      go_ret
      exact ⟨rfl, Below.refl _ _⟩
theorem cmp3_le (a b : Int) : decide (cmp3 a b ≤ 0) = decide (a ≤ b) := by
  by_cases e : a = b
  · subst e; rw [cmp3_eq]; simp
  · by_cases l : a < b
    · rw [cmp3_lt l]; simp; omega
    · rw [cmp3_gt (by omega)]; simp; omega
theorem room_fits {s g : Int} (s1 : 1 ≤ s) (f : FitP s) (g0 : 0 ≤ g) (g1 : g ≤ 1000) : J64 s ∧ J64 g ∧ 0 ≤ g * s ∧ g * s ≤ 288230376151711744000 := by
  have a : 0 ≤ g * s := Int.mul_nonneg g0 (by omega)
  have b : g * s ≤ 1000 * 288230376151711744 := Int.mul_le_mul g1 f.2 (by omega) (by omega)
  exact ⟨⟨by omega, by omega⟩, ⟨by omega, by omega⟩, a, by omega⟩
theorem pass_any (y s g : Int) (hy : J64 y) (hs : J64 s) (w : World) :
    Calls Tryd.prog 19 #[.int .i64 y, .int .i64 s, .int .i64 g] w (RetV (.bool (pas y s g)) w) := by
  have hm := may_gate y s hy hs
  by_cases d : MayP y s
  · rw [mayg_yes d] at hm
    by_cases e : 0 ≤ g ∧ g ≤ 1000
    · obtain ⟨js, jg, q0, q1⟩ := room_fits d.2.2 d.2.1 e.1 e.2
      obtain ⟨ph, pl, hp⟩ : ∃ ph pl, IsW ph pl (g * s) := ⟨_, _, IsW.mk' ⟨by omega, by omega⟩⟩
      have fB : Fits (g * s * 1099511627776) := ⟨by omega, by omega⟩
      obtain ⟨bh, bl, hbb⟩ : ∃ bh bl, IsW bh bl (g * s * 1099511627776) := ⟨_, _, IsW.mk' fB⟩
      obtain ⟨sh, sl, hq⟩ : ∃ sh sl, IsW sh sl (y * y) := ⟨_, _, IsW.mk' (mul_fits hy.1 hy.2 hy.1 hy.2)⟩
      have cU := fun w => up_all ph pl (g * s) 40 hp (by omega) (by omega) w
      rw [show (2 : Int) ^ (40 : Int).toNat = 1099511627776 from rfl, fz_of fB, fe_of fB] at cU
      have r := pass_go y s g ph pl bh bl sh sl (cmp3 (y * y) (g * s * 1099511627776)) (by omega) (by omega) hm
        (fun w => (mul_any g s jg.1 jg.2 js.1 js.2 w).mono fun _ _ => retW_det hp) (fun w => (cU w).mono fun _ _ => wed hbb)
        (fun w => (mul_any y y hy.1 hy.2 hy.1 hy.2 w).mono fun _ _ => retW_det hq) (fun w => cmp_any _ _ _ _ _ _ hq hbb w) w
      rw [cmp3_le] at r
      have E : decide (y * y ≤ g * s * 1099511627776) = pas y s g := by
        unfold pas
        by_cases k : y * y ≤ g * s * 1099511627776
        · rw [decide_eq_true k, decide_eq_true (show PassP y s g from ⟨d, e.1, e.2, k⟩)]
        · rw [decide_eq_false k, decide_eq_false (show ¬ PassP y s g from fun h => k h.2.2.2)]
      rw [E] at r
      exact r
    · rw [pas_no (fun h => e ⟨h.2.1, h.2.2.1⟩)]
      exact pass_bad y s g true (fun _ => by omega) hm w
  · rw [mayg_no d] at hm
    rw [pas_no (fun h => d h.1)]
    exact pass_bad y s g false (fun h => by cases h) hm w

set_option maxHeartbeats 1000000 in
set_option maxRecDepth 10000 in
/-- Least's function that is handed on. -/
theorem clo_least (A B : Nat) (y s g : Int) (r : Bool) (w : World) (kA : w.cell? ⟨A, 0, none⟩ = some (.int .i64 y)) (kB : w.cell? ⟨B, 0, none⟩ = some (.int .i64 s))
    (cP : ∀ w, Calls Tryd.prog 19 #[.int .i64 y, .int .i64 s, .int .i64 g] w (RetV (.bool r) w)) :
    Calls Tryd.prog 32 #[.int .i64 g, .pointer (some ⟨A, 0, none⟩), .pointer (some ⟨B, 0, none⟩)] w (RetV (.bool r) w) := by
  go_enter Tryd.func32, Tryd.ntmps32
  go_wp2_with fail
  refine (cP _).mono ?_
  rintro e w1 ⟨rfl, hb⟩
  go_wp2
  go_ret
  exact ⟨rfl, hb⟩

set_option maxHeartbeats 2000000 in
set_option maxRecDepth 10000 in
/-- The search. -/
theorem search_any (A B : Nat) (t : Int) (t0 : 0 ≤ t) (t1 : t ≤ 1001) (w : World)
    (cf : ∀ g, 0 ≤ g → g ≤ 1000 → ∀ w', Below w.heap.size w w' → Calls Tryd.prog 32 #[.int .i64 g, .pointer (some ⟨A, 0, none⟩), .pointer (some ⟨B, 0, none⟩)] w' (RetV (.bool (decide (t ≤ g))) w')) :
    Calls Tryd.prog 31 #[.int .i64 1001, .func (.func 32) #[] #[.pointer (some ⟨A, 0, none⟩), .pointer (some ⟨B, 0, none⟩)]] w (RetV (.int .i64 t) w) := by
  have CF := Lib.hid cf
  clear cf
  have Bw := Below.refl w.heap.size w
  go_enter Tryd.func31, Tryd.ntmps31
  go_wp2
  go_loopw [5, 6] (fun lv hv wr => ∃ lo hi : Int, lv = .int .i64 lo ∧ hv = .int .i64 hi ∧ 0 ≤ lo ∧ lo ≤ t ∧ t ≤ hi ∧ hi ≤ 1001 ∧ Below w.heap.size w wr) (fun lv hv _ => (intOf hv - intOf lv).toNat)
  case atStart => exact ⟨0, 1001, rfl, rfl, by omega, t0, t1, by omega, Bw⟩
  case round =>
    obtain ⟨lo, hi, rfl, rfl, l0, lt, th, h1, B1⟩ := hrel
    by_cases c : lo < hi
    · have m0 : 0 ≤ (lo + hi) / 2 := by omega
      have m1 : (lo + hi) / 2 ≤ 1000 := by omega
      have m2 : lo ≤ (lo + hi) / 2 := by omega
      have m3 : (lo + hi) / 2 < hi := by omega
      have cc := CF.out ((lo + hi) / 2) m0 m1
      clear m0
      go_wp2_with fail
      refine (cc _ B1).mono ?_
      rintro e w2 ⟨rfl, hb2⟩
      replace B1 := b_trans B1 hb2
      clear hb2 cc
      by_cases k : t ≤ (lo + hi) / 2
      · rw [decide_eq_true k]
        go_wp2
        exact ⟨⟨lo, (lo + hi) / 2, rfl, rfl, l0, lt, k, by omega, B1⟩, by simp [intOf]; omega⟩
      · rw [decide_eq_false k]
        go_wp2
        exact ⟨⟨(lo + hi) / 2 + 1, hi, rfl, rfl, by omega, by omega, th, h1, B1⟩, by simp [intOf]; omega⟩
    · obtain rfl : lo = t := by omega
      go_wp2
      try rw [Exit.noGoto_ret]
      go_ret
      exact ⟨rfl, B1⟩

set_option maxHeartbeats 2000000 in
set_option maxRecDepth 10000 in
theorem least_bad (y s : Int)
    (hm : ∀ w, Calls Tryd.prog 30 #[.int .i64 y, .int .i64 s] w fun e w' => e = .returned (.bool false) ∧ w = w') (w : World) :
    Calls Tryd.prog 18 #[.int .i64 y, .int .i64 s] w (RetV (.tuple #[.int .i64 0, .int .i64 1]) w) := by
  have B0 : Below w.heap.size w ((w.alloc (Obj.cells #[.int .i64 y] 2)).alloc (Obj.cells #[.int .i64 s] 2)) := b_alloc (b_alloc (Below.refl _ _))
  go_enter Tryd.func18, Tryd.ntmps18
  go_wp2_with fail
  refine (hm _).mono ?_
  rintro e w1 ⟨rfl, rfl⟩
  clear hm
  go_wp2
  go_ret2
  exact ⟨rfl, B0⟩

set_option maxHeartbeats 2000000 in
set_option maxRecDepth 10000 in
theorem least_go (y s t : Int)
    (hm : ∀ w, Calls Tryd.prog 30 #[.int .i64 y, .int .i64 s] w fun e w' => e = .returned (.bool true) ∧ w = w')
    (cS : ∀ A B w, w.cell? ⟨A, 0, none⟩ = some (.int .i64 y) → w.cell? ⟨B, 0, none⟩ = some (.int .i64 s) →
      Calls Tryd.prog 31 #[.int .i64 1001, .func (.func 32) #[] #[.pointer (some ⟨A, 0, none⟩), .pointer (some ⟨B, 0, none⟩)]] w (RetV (.int .i64 t) w)) (w : World) :
    Calls Tryd.prog 18 #[.int .i64 y, .int .i64 s] w (RetV (.tuple #[.int .i64 (if t ≤ 1000 then t else 0), .int .i64 (if t ≤ 1000 then 0 else 2)]) w) := by
  have B0 : Below w.heap.size w ((w.alloc (Obj.cells #[.int .i64 y] 2)).alloc (Obj.cells #[.int .i64 s] 2)) := b_alloc (b_alloc (Below.refl _ _))
  have hmf : ∀ (fn : Fn) (first cap : Array Value) (w : World), (Instr.makeFunc fn first cap).run Tryd.prog w = .ok (.func fn first cap) w := fun _ _ _ _ => rfl
  have cs := cS w.heap.size (w.heap.size + 1) ((w.alloc (Obj.cells #[.int .i64 y] 2)).alloc (Obj.cells #[.int .i64 s] 2)) (cell_keep (b_alloc (Below.refl _ _)) (by simp [go_sem])) (by simp [go_sem])
  clear cS
  by_cases k : t ≤ 1000
  · rw [if_pos k, if_pos k]
    go_enter Tryd.func18, Tryd.ntmps18
    go_wp2_with fail
    refine (hm _).mono ?_
    rintro e w1 ⟨rfl, rfl⟩
    clear hm
    go_wp2_with fail
    refine cs.mono ?_
    rintro e w2 ⟨rfl, hb⟩
    replace B0 := b_trans B0 hb
    clear hb cs
    go_wp2
    go_ret2
    exact ⟨rfl, B0⟩
  · rw [if_neg k, if_neg k]
    go_enter Tryd.func18, Tryd.ntmps18
    go_wp2_with fail
    refine (hm _).mono ?_
    rintro e w1 ⟨rfl, rfl⟩
    clear hm
    go_wp2_with fail
    refine cs.mono ?_
    rintro e w2 ⟨rfl, hb⟩
    replace B0 := b_trans B0 hb
    clear hb cs
    go_wp2
    go_ret2
    exact ⟨rfl, B0⟩
theorem least_any (y s : Int) (hy : J64 y) (hs : J64 s) (w : World) :
    Calls Tryd.prog 18 #[.int .i64 y, .int .i64 s] w (RetV (.tuple #[.int .i64 (lsn y s), .int .i64 (lse y s)]) w) := by
  have hm := may_gate y s hy hs
  by_cases d : MayP y s
  · rw [mayg_yes d] at hm
    have p0 := cg_pos (y := y) d.2.2
    obtain ⟨t, ht, t0, t1⟩ : ∃ t, t = (if cg y s ≤ 1000 then cg y s else 1001) ∧ 0 ≤ t ∧ t ≤ 1001 := by
      refine ⟨_, rfl, ?_, ?_⟩ <;> split <;> omega
    have hp : ∀ g, 0 ≤ g → g ≤ 1000 → pas y s g = decide (t ≤ g) := by
      intro g g0 g1
      have q := cg_le (y := y) d.2.2 g
      by_cases k : t ≤ g
      · rw [decide_eq_true k]
        refine pas_yes ⟨d, g0, g1, q.1 ?_⟩
        by_cases c : cg y s ≤ 1000
        · rw [if_pos c] at ht; omega
        · rw [if_neg c] at ht; omega
      · rw [decide_eq_false k]
        refine pas_no fun h => k ?_
        have := q.2 h.2.2.2
        rw [if_pos (by omega)] at ht
        omega
    have r := least_go y s t hm (fun A B w kA kB => search_any A B t t0 t1 w fun g g0 g1 w' hb => clo_least A B y s g _ w' (cell_keep hb kA) (cell_keep hb kB) (by rw [← hp g g0 g1]; exact pass_any y s g hy hs)) w
    by_cases c : cg y s ≤ 1000
    · rw [if_pos c] at ht
      rw [(ls_ok d c).1, (ls_ok d c).2]
      subst ht
      rw [if_pos c, if_pos c] at r
      exact r
    · rw [if_neg c] at ht
      rw [(ls_no d c).1, (ls_no d c).2]
      subst ht
      exact r
  · rw [mayg_no d] at hm
    rw [(ls_bad d).1, (ls_bad d).2]
    exact least_bad y s hm w

set_option maxHeartbeats 2000000 in
set_option maxRecDepth 10000 in
theorem fixed_gate (w : World) : Calls Tryd.prog 6 #[] w (RetV (.bool true) w) := by
  have c1 := least_any 3298534883328 1099511627776 (by decide) (by decide)
  have c2 := pass_any 3298534883328 1099511627776 9 (by decide) (by decide)
  have c3 := pass_any 3298534883328 1099511627776 8 (by decide) (by decide)
  rw [show lsn 3298534883328 1099511627776 = 9 by decide, show lse 3298534883328 1099511627776 = 0 by decide] at c1
  rw [show pas 3298534883328 1099511627776 9 = true by decide] at c2
  rw [show pas 3298534883328 1099511627776 8 = false by decide] at c3
  go_enter Tryd.func6, Tryd.ntmps6
  go_wp2_with fail
  refine (c1 _).mono ?_
  rintro e w1 ⟨rfl, h1⟩
  clear c1
  go_wp2_with fail
  refine (c2 _).mono ?_
  rintro e w2 ⟨rfl, h2⟩
  replace h1 := b_trans h1 h2
  clear c2 h2
  go_wp2_with fail
  refine (c3 _).mono ?_
  rintro e w3 ⟨rfl, h3⟩
  replace h1 := b_trans h1 h3
  clear c3 h3
  go_wp2
  go_ret
  exact ⟨rfl, h1⟩

end Go.Proofs.YtidaegmancgpnaaDoor
