import Derived.Test.YtplhienacfiiaaaDoorJosP
import Derived.Test.YtplhienacfiiaaaDoorJosR
import Derived.Test.YtplhienacfiiaaaDoorJosG
/- What entry and State answer, in the program and in the document. -/
namespace Go.Proofs.YtplhienacfiiaaaDoor
open Go.RowKit Go.Shelf

theorem fx_sub {a b : Int} (ha : FitP a) (hb : FitP b) (w : World) : Calls Tryd.prog 41 #[.int .i64 a, .int .i64 b] w (RetV (.tuple #[.int .i64 (nz (a - b)), .int .i64 (ne (a - b))]) w) := by
  have h := sub_fix a b (by omega) (by omega) (by omega) (by omega) w
  rwa [(gz_of ⟨ha, hb⟩ _).1, (gz_of ⟨ha, hb⟩ _).2] at h
theorem fx_add {a b : Int} (ha : FitP a) (hb : FitP b) (w : World) : Calls Tryd.prog 34 #[.int .i64 a, .int .i64 b] w (RetV (.tuple #[.int .i64 (nz (a + b)), .int .i64 (ne (a + b))]) w) := by
  have h := add_fix a b (by omega) (by omega) (by omega) (by omega) w
  rwa [(gz_of ⟨ha, hb⟩ _).1, (gz_of ⟨ha, hb⟩ _).2] at h
theorem fx_mul {a b : Int} (ha : FitP a) (hb : FitP b) (w : World) : Calls Tryd.prog 32 #[.int .i64 a, .int .i64 b] w (RetV (.tuple #[.int .i64 (nz (evn (a * b) 1099511627776)), .int .i64 (ne (evn (a * b) 1099511627776))]) w) := by
  have h := mul_fix a b (by omega) (by omega) (by omega) (by omega) w
  rwa [(gz_of ⟨ha, hb⟩ _).1, (gz_of ⟨ha, hb⟩ _).2] at h
theorem rx_sub {a b : Int} (ha : FitP a) (hb : FitP b) (w : World) : Calls Tryd.prog 52 #[.int .i64 a, .int .i64 b] w (RetV (.tuple #[.int .i64 (nz (a - b)), .int .i64 (ne (a - b))]) w) := by
  have h := sub_ref a b (by omega) (by omega) (by omega) (by omega) w
  rwa [(gz_of ⟨ha, hb⟩ _).1, (gz_of ⟨ha, hb⟩ _).2] at h
theorem rx_add {a b : Int} (ha : FitP a) (hb : FitP b) (w : World) : Calls Tryd.prog 36 #[.int .i64 a, .int .i64 b] w (RetV (.tuple #[.int .i64 (nz (a + b)), .int .i64 (ne (a + b))]) w) := by
  have h := add_ref a b (by omega) (by omega) (by omega) (by omega) w
  rwa [(gz_of ⟨ha, hb⟩ _).1, (gz_of ⟨ha, hb⟩ _).2] at h
theorem rx_mul {a b : Int} (ha : FitP a) (hb : FitP b) (w : World) : Calls Tryd.prog 35 #[.int .i64 a, .int .i64 b] w (RetV (.tuple #[.int .i64 (nz (evn (a * b) 1099511627776)), .int .i64 (ne (evn (a * b) 1099511627776))]) w) := by
  have h := mul_ref a b (by omega) (by omega) (by omega) (by omega) w
  rwa [(gz_of ⟨ha, hb⟩ _).1, (gz_of ⟨ha, hb⟩ _).2] at h

/-- What an entry is made of, each number as it is if it fits, else 0. -/
def jt (m k : Nat → Int) (i j : Nat) : Int := nz (jT m k i j)
def jl (m k : Nat → Int) (i j g : Nat) : Int := nz (m g - jt m k i j)
def jq (k : Nat → Int) (i j : Nat) : Int := nz (evn (k i * k j) 1099511627776)
def ju (k : Nat → Int) (s : Int) (i j : Nat) : Int := nz (evn (jq k i j * s) 1099511627776)
def jx (m k : Nat → Int) (s : Int) (i j g : Nat) : Int := nz (jl m k i j g + ju k s i j)
/-- All of them fit. -/
def JA (m k : Nat → Int) (s : Int) (i j g : Nat) : Prop := ne (jT m k i j) = 0 ∧ ne (m g - jt m k i j) = 0 ∧ ne (evn (k i * k j) 1099511627776) = 0 ∧ ne (evn (jq k i j * s) 1099511627776) = 0 ∧ ne (jl m k i j g + ju k s i j) = 0
instance (m k : Nat → Int) (s : Int) (i j g : Nat) : Decidable (JA m k s i j g) := by unfold JA; exact inferInstance
/-- What becomes of an entry, and the error. -/
def jy (m k : Nat → Int) (s : Int) (i j g : Nat) : Int := if JA m k s i j g then jx m k s i j g else 0
def jf (m k : Nat → Int) (s : Int) (i j g : Nat) : Int := if JA m k s i j g then 0 else 3
theorem j_yes {m k : Nat → Int} {s : Int} {i j g : Nat} (h : JA m k s i j g) : jy m k s i j g = jx m k s i j g ∧ jf m k s i j g = 0 := ⟨if_pos h, if_pos h⟩
theorem j_no {m k : Nat → Int} {s : Int} {i j g : Nat} (h : ¬ JA m k s i j g) : jy m k s i j g = 0 ∧ jf m k s i j g = 3 := ⟨if_neg h, if_neg h⟩
theorem jf_two (m k : Nat → Int) (s : Int) (i j g : Nat) : jf m k s i j g = 0 ∨ jf m k s i j g = 3 := by
  unfold jf
  split
  · exact Or.inl rfl
  · exact Or.inr rfl
theorem jT_comm (m k : Nat → Int) (i j : Nat) : jT m k i j = jT m k j i := by unfold jT; rw [Int.add_comm]
theorem j_comm (m k : Nat → Int) (s : Int) (i j g : Nat) : jy m k s i j g = jy m k s j i g ∧ jf m k s i j g = jf m k s j i g := by
  have e1 := jT_comm m k i j
  have e2 : jt m k i j = jt m k j i := by unfold jt; rw [e1]
  have e3 : jq k i j = jq k j i := by unfold jq; rw [Int.mul_comm]
  have e4 : JA m k s i j g = JA m k s j i g := by unfold JA jl ju; rw [e1, e2, e3, Int.mul_comm (k i)]
  have e5 : jx m k s i j g = jx m k s j i g := by unfold jx jl ju; rw [e2, e3]
  refine ⟨?_, ?_⟩
  · by_cases h : JA m k s i j g
    · rw [(j_yes h).1, (j_yes (e4 ▸ h)).1, e5]
    · rw [(j_no h).1, (j_no (e4 ▸ h)).1]
  · by_cases h : JA m k s i j g
    · rw [(j_yes h).2, (j_yes (e4 ▸ h)).2]
    · rw [(j_no h).2, (j_no (e4 ▸ h)).2]
theorem j_hid (m k : Nat → Int) (s : Int) (i j g : Nat) : Hid ((ne (jT m k i j) = 0 ∧ ne (m g - jt m k i j) = 0 ∧ ne (evn (k i * k j) 1099511627776) = 0 ∧ ne (evn (jq k i j * s) 1099511627776) = 0 ∧ ne (jl m k i j g + ju k s i j) = 0 → jy m k s i j g = jx m k s i j g ∧ jf m k s i j g = 0) ∧
    (¬ (ne (jT m k i j) = 0 ∧ ne (m g - jt m k i j) = 0 ∧ ne (evn (k i * k j) 1099511627776) = 0 ∧ ne (evn (jq k i j * s) 1099511627776) = 0 ∧ ne (jl m k i j g + ju k s i j) = 0) → jy m k s i j g = 0 ∧ jf m k s i j g = 3)) :=
  Lib.hid ⟨fun h => j_yes h, fun h => j_no h⟩
theorem at9_row {j : Nat} (h : j < 3) : At9 0 (j : Int) j := by
  rcases (show j = 0 ∨ j = 1 ∨ j = 2 by omega) with rfl | rfl | rfl <;> simp [At9]
theorem at9_lt {i j : Int} {g : Nat} (h : At9 i j g) : g < 6 := by
  rcases h with h | h | h | h | h | h | h | h | h <;> omega
theorem entry_any (m k : Nat → Int) (s : Int) (i j g : Nat) (hi : i < 3) (hj : j < 3) (hg : At9 (i : Int) (j : Int) g) (hm : F6 m) (hk : ∀ i, i < 3 → FitP (k i)) (hs : FitP s) (w : World) (hp : PL w) :
    Calls Tryd.prog 25 #[sv m, tv (k 0) (k 1) (k 2), .int .i64 s, .int .i64 ((i : Nat) : Int), .int .i64 ((j : Nat) : Int)] w (RetV (.tuple #[.int .i64 (jy m k s i j g), .int .i64 (jf m k s i j g)]) w) :=
  entry_go m k s i j g hi hj (jt m k i j) (jl m k i j g) (jq k i j) (ju k s i j) (jx m k s i j g) (ne (jT m k i j)) (ne (m g - jt m k i j)) (ne (evn (k i * k j) 1099511627776)) (ne (evn (jq k i j * s) 1099511627776)) (ne (jl m k i j g + ju k s i j)) (jy m k s i j g) (jf m k s i j g)
    (fun w hp => at_ok m i j g hg w hp) (fun w hp => crossed_any m k i j hi hj hm hk w hp) (fx_sub (hm g (at9_lt hg)) (nz_fit _)) (fx_mul (hk i hi) (hk j hj)) (fx_mul (nz_fit _) hs) (fx_add (nz_fit _) (nz_fit _))
    (ne_two _) (ne_two _) (ne_two _) (ne_two _) (ne_two _) ne_nz (j_hid m k s i j g) w hp
theorem fit_small {x : Int} (h : FitP x) : Small x := small_of (by omega) (by omega)
theorem rentry_any (m k : Nat → Int) (s : Int) (i j g : Nat) (hi : i < 3) (hj : j < 3) (hg : At9 (i : Int) (j : Int) g) (hm : F6 m) (hk : ∀ i, i < 3 → FitP (k i)) (hs : FitP s) (w : World) :
    Calls Tryd.prog 27 #[sv m, tv (k 0) (k 1) (k 2), .int .i64 s, .int .i64 ((i : Nat) : Int), .int .i64 ((j : Nat) : Int)] w (RetV (.tuple #[.int .i64 (jy m k s i j g), .int .i64 (jf m k s i j g)]) w) := by
  have a0 := hk i hi
  have a1 := hk j hj
  have a2 := hm i (by omega)
  have a3 := hm j (by omega)
  obtain ⟨b0, b1⟩ := two_bd a0 a3 a1 a2
  have f3 : Fits (jT m k i j) := evn40_bd (by omega)
  have O : ∀ {x : Int}, FitP x → ∀ w, Calls Tryd.prog 47 #[.int .i64 x] w (RetB x w) := fun {x} h w => of_big x (by omega) (by omega) w
  exact rentry_go m k s i j g hi hj (at9_lt hg) (jT m k i j) (jt m k i j) (jl m k i j g) (jq k i j) (ju k s i j) (jx m k s i j g) (ne (jT m k i j)) (ne (m g - jt m k i j)) (ne (evn (k i * k j) 1099511627776)) (ne (evn (jq k i j * s) 1099511627776)) (ne (jl m k i j g + ju k s i j)) (jy m k s i j g) (jf m k s i j g)
    (O a0) (O a1) (O a3) (O a2) (place_ok 0 j j (at9_row hj)) (place_ok 0 i i (at9_row hi)) (place_ok i j g hg)
    (Lib.hid ⟨fit_small a0, fit_small a1, fit_small a3, fit_small a2, small_of (by omega) (by omega), small_of (by omega) (by omega), ⟨by omega, by omega⟩⟩) (Lib.hid (ef_pos _ (by decide)))
    (fun v w h => to_ref v _ w h ⟨by have := f3.lo; omega, by have := f3.hi; omega⟩)
    (rx_sub (hm g (at9_lt hg)) (nz_fit _)) (rx_mul (hk i hi) (hk j hj)) (rx_mul (nz_fit _) hs) (rx_add (nz_fit _) (nz_fit _))
    (ne_two _) (ne_two _) (ne_two _) (ne_two _) (ne_two _) ne_nz (j_hid m k s i j g) w

theorem tz_fit {x : Int} (h : FitP x) (a b c : Int) : FitP (tz x a b c) := by
  unfold tz
  split
  · exact h
  · decide
theorem te_two (a b c : Int) : te (ne a) (ne b) (ne c) = 0 ∨ te (ne a) (ne b) (ne c) = 3 := by
  unfold te
  rcases ne_two a with h | h <;> rcases ne_two b with k | k <;> rcases ne_two c with l | l <;> simp [h, k, l]
theorem t3_all {a b c : Int} (h : F3 a b c) : tz (nz a) (ne a) (ne b) (ne c) = a ∧ tz (nz b) (ne a) (ne b) (ne c) = b ∧ tz (nz c) (ne a) (ne b) (ne c) = c ∧ te (ne a) (ne b) (ne c) = 0 := by
  rw [(nz_of h.1).1, (nz_of h.1).2, (nz_of h.2.1).1, (nz_of h.2.1).2, (nz_of h.2.2).1, (nz_of h.2.2).2]
  exact ⟨(tz_3 a).1, (tz_3 b).1, (tz_3 c).1, (tz_3 a).2⟩
theorem f3_i64 {a b c : Int} (h : F3 a b c) : I64 a ∧ I64 b ∧ I64 c := ⟨⟨by omega, by omega⟩, ⟨by omega, by omega⟩, ⟨by omega, by omega⟩⟩
theorem scale_j (k0 k1 k2 y : Int) (ck : F3 k0 k1 k2) (cy : FitP y) : ∃ d0 d1 d2 e : Int,
    (∀ w, Calls Tryd.prog 16 #[tv k0 k1 k2, .int .i64 y] w (RetV (.tuple #[tv d0 d1 d2, .int .i64 e]) w)) ∧
    (∀ w, Calls Tryd.prog 21 #[tv k0 k1 k2, .int .i64 y] w (RetV (.tuple #[tv d0 d1 d2, .int .i64 e]) w)) ∧ F3 d0 d1 d2 ∧ (e = 0 ∨ e = 3) ∧
    (F3 (evn (k0 * y) 1099511627776) (evn (k1 * y) 1099511627776) (evn (k2 * y) 1099511627776) → d0 = evn (k0 * y) 1099511627776 ∧ d1 = evn (k1 * y) 1099511627776 ∧ d2 = evn (k2 * y) 1099511627776 ∧ e = 0) := by
  obtain ⟨i0, i1, i2⟩ := f3_i64 ck
  have iy : I64 y := ⟨by omega, by omega⟩
  exact ⟨_, _, _, _, fun w => scale3_vec_ok k0 k1 k2 y _ _ _ _ _ _ i0 i1 i2 iy ck cy (fx_mul ck.1 cy) (fx_mul ck.2.1 cy) (fx_mul ck.2.2 cy) w,
    fun w => scale3_ref_ok k0 k1 k2 y _ _ _ _ _ _ i0 i1 i2 iy ck cy (rx_mul ck.1 cy) (rx_mul ck.2.1 cy) (rx_mul ck.2.2 cy) w,
    ⟨tz_fit (nz_fit _) _ _ _, tz_fit (nz_fit _) _ _ _, tz_fit (nz_fit _) _ _ _⟩, te_two _ _ _, fun h => t3_all h⟩
theorem add_j (x0 x1 x2 d0 d1 d2 : Int) (cx : F3 x0 x1 x2) (cd : F3 d0 d1 d2) : ∃ n0 n1 n2 e : Int,
    (∀ w, Calls Tryd.prog 18 #[tv x0 x1 x2, tv d0 d1 d2] w (RetV (.tuple #[tv n0 n1 n2, .int .i64 e]) w)) ∧
    (∀ w, Calls Tryd.prog 22 #[tv x0 x1 x2, tv d0 d1 d2] w (RetV (.tuple #[tv n0 n1 n2, .int .i64 e]) w)) ∧
    (F3 (x0 + d0) (x1 + d1) (x2 + d2) → n0 = x0 + d0 ∧ n1 = x1 + d1 ∧ n2 = x2 + d2 ∧ e = 0) := by
  obtain ⟨i0, i1, i2⟩ := f3_i64 cx
  obtain ⟨j0, j1, j2⟩ := f3_i64 cd
  exact ⟨_, _, _, _, fun w => add3_vec_ok x0 x1 x2 d0 d1 d2 _ _ _ _ _ _ i0 i1 i2 j0 j1 j2 cx cd (fx_add cx.1 cd.1) (fx_add cx.2.1 cd.2.1) (fx_add cx.2.2 cd.2.2) w,
    fun w => add3_ref_ok x0 x1 x2 d0 d1 d2 _ _ _ _ _ _ i0 i1 i2 j0 j1 j2 cx cd (rx_add cx.1 cd.1) (rx_add cx.2.1 cd.2.1) (rx_add cx.2.2 cd.2.2) w, fun h => t3_all h⟩
theorem state_all (x0 x1 x2 k0 k1 k2 y : Int) (hx0 : I64 x0) (hx1 : I64 x1) (hx2 : I64 x2) (hk0 : I64 k0) (hk1 : I64 k1) (hk2 : I64 k2) (hy : I64 y) : ∃ z0 z1 z2 f : Int,
    (∀ w, Calls Tryd.prog 7 #[tv x0 x1 x2, tv k0 k1 k2, .int .i64 y] w (RetV (.tuple #[tv z0 z1 z2, .int .i64 f]) w)) ∧
    (∀ w, Calls Tryd.prog 8 #[tv x0 x1 x2, tv k0 k1 k2, .int .i64 y] w (RetV (.tuple #[tv z0 z1 z2, .int .i64 f]) w)) ∧
    (F3 x0 x1 x2 → F3 k0 k1 k2 → FitP y → F3 (evn (k0 * y) 1099511627776) (evn (k1 * y) 1099511627776) (evn (k2 * y) 1099511627776) →
      F3 (x0 + evn (k0 * y) 1099511627776) (x1 + evn (k1 * y) 1099511627776) (x2 + evn (k2 * y) 1099511627776) →
      z0 = x0 + evn (k0 * y) 1099511627776 ∧ z1 = x1 + evn (k1 * y) 1099511627776 ∧ z2 = x2 + evn (k2 * y) 1099511627776 ∧ f = 0) ∧
    (¬ (F3 x0 x1 x2 ∧ F3 k0 k1 k2 ∧ FitP y) → f = 1) := by
  have vx := fits3_vec x0 x1 x2 hx0 hx1 hx2
  have rx := fits3_ref x0 x1 x2 hx0 hx1 hx2
  have rk := fits3_ref k0 k1 k2 hk0 hk1 hk2
  have ry := fits_ref y hy.1 hy.2
  by_cases cx : F3 x0 x1 x2
  rotate_left
  · rw [f3b_no cx] at vx rx
    exact ⟨0, 0, 0, 1, fun w => state_no x0 x1 x2 k0 k1 k2 y vx w, fun w => sref_0 x0 x1 x2 k0 k1 k2 y rx w, fun h => absurd h cx, fun _ => rfl⟩
  rw [f3b_yes cx] at vx rx
  by_cases ck : F3 k0 k1 k2 ∧ FitP y
  rotate_left
  · have cS := scale3_vec_bad k0 k1 k2 y hk0 hk1 hk2 hy ck
    refine ⟨0, 0, 0, 1, fun w => state_go x0 x1 x2 k0 k1 k2 y 0 0 0 1 0 0 0 0 0 0 0 1 vx cS (fun h => absurd h (by decide)) (Lib.hid ⟨fun _ => ⟨rfl, rfl, rfl, rfl⟩, fun h => absurd h (by decide)⟩) w, fun w => ?_, fun _ a b => absurd ⟨a, b⟩ ck, fun _ => rfl⟩
    by_cases c : F3 k0 k1 k2
    · rw [f3b_yes c] at rk
      rw [fitb_no (fun h => ck ⟨c, h⟩)] at ry
      exact sref_2 x0 x1 x2 k0 k1 k2 y rx rk ry w
    · rw [f3b_no c] at rk
      exact sref_1 x0 x1 x2 k0 k1 k2 y rx rk w
  obtain ⟨ck, cy⟩ := ck
  rw [f3b_yes ck] at rk
  rw [fitb_yes cy] at ry
  obtain ⟨d0, d1, d2, e, pS, rS, fd, he, hd⟩ := scale_j k0 k1 k2 y ck cy
  obtain ⟨n0, n1, n2, f, pA, rA, hn⟩ := add_j x0 x1 x2 d0 d1 d2 cx fd
  rcases he with rfl | rfl
  · refine ⟨n0, n1, n2, f, fun w => state_go x0 x1 x2 k0 k1 k2 y d0 d1 d2 0 n0 n1 n2 f n0 n1 n2 f vx pS (fun _ => pA) (Lib.hid ⟨fun h => absurd rfl h, fun _ => ⟨rfl, rfl, rfl, rfl⟩⟩) w,
      fun w => sref_3 x0 x1 x2 k0 k1 k2 y d0 d1 d2 0 n0 n1 n2 f n0 n1 n2 f rx rk ry rS (fun _ => rA) (Lib.hid ⟨fun h => absurd rfl h, fun _ => ⟨rfl, rfl, rfl, rfl⟩⟩) w, fun _ _ _ hp hs => ?_, fun h => absurd ⟨cx, ck, cy⟩ h⟩
    obtain ⟨rfl, rfl, rfl, _⟩ := hd hp
    exact hn hs
  · exact ⟨0, 0, 0, 3, fun w => state_go x0 x1 x2 k0 k1 k2 y d0 d1 d2 3 n0 n1 n2 f 0 0 0 3 vx pS (fun h => absurd h (by decide)) (Lib.hid ⟨fun _ => ⟨rfl, rfl, rfl, rfl⟩, fun h => absurd h (by decide)⟩) w,
      fun w => sref_3 x0 x1 x2 k0 k1 k2 y d0 d1 d2 3 n0 n1 n2 f 0 0 0 3 rx rk ry rS (fun h => absurd h (by decide)) (Lib.hid ⟨fun _ => ⟨rfl, rfl, rfl, rfl⟩, fun h => absurd h (by decide)⟩) w, fun _ _ _ hp _ => absurd (hd hp).2.2.2 (by decide), fun h => absurd ⟨cx, ck, cy⟩ h⟩

end Go.Proofs.YtplhienacfiiaaaDoor

/- Doubt by one contract, in the program and in the document; the example; JosephState and JosephDoubt: each law's call answers true. -/
namespace Go.Proofs.YtplhienacfiiaaaDoor
open Go.RowKit Go.Shelf

theorem jsym_eq_self (x0 x1 x2 x3 x4 x5 : Int) (w : World) : (Op.equalIn 10000 32 (.agg #[.int .i64 x0, .int .i64 x1, .int .i64 x2, .int .i64 x3, .int .i64 x4, .int .i64 x5]) (.agg #[.int .i64 x0, .int .i64 x1, .int .i64 x2, .int .i64 x3, .int .i64 x4, .int .i64 x5])).run Tryd.prog w = .ok true w := by
  have hs : (Tryd.prog.info? 2).isSome = true := by kernel_rfl
  obtain ⟨i, hi⟩ := Option.isSome_iff_exists.1 hs
  have hc : Tryd.prog.cellsOf 2 = 1 := by kernel_rfl
  have hp : Tryd.prog.plainKey 2 = true := by kernel_rfl
  rw [run_equalIn_array w 9999 _ _ Tryd.underlying32 hi]
  rw [hc]
  have P := fun (k : Nat) (v : Value) (h : (#[Value.int IntKind.i64 x0, Value.int IntKind.i64 x1, Value.int IntKind.i64 x2, Value.int IntKind.i64 x3, Value.int IntKind.i64 x4, Value.int IntKind.i64 x5] : Array Value)[k * 1]? = some v) (w : World) => run_part_plain w hp h
  have E := fun (a : Int) (w : World) => run_equalIn_int w 9998 2 .i64 .i64 a a Tryd.underlying2
  simp only [List.range, List.range.loop, Op.eqItems, Sem.run_bind, P 0 _ rfl, Result.andThen_ok]
  simp [P 1 _ rfl, P 2 _ rfl, P 3 _ rfl, P 4 _ rfl, P 5 _ rfl, E]
/-- All that is handed in fits; all that comes does. -/
def DK (m k : Nat → Int) (s : Int) : Prop := F6 m ∧ F3 (k 0) (k 1) (k 2) ∧ FitP s
def DA (m k : Nat → Int) (s : Int) : Prop := jf m k s 0 0 0 = 0 ∧ jf m k s 1 0 1 = 0 ∧ jf m k s 2 0 2 = 0 ∧ jf m k s 1 1 3 = 0 ∧ jf m k s 2 1 4 = 0 ∧ jf m k s 2 2 5 = 0
/-- An entry that comes. -/
def dby (m k : Nat → Int) (s : Int) (g : Nat) : Int := match g with | 0 => jy m k s 0 0 0 | 1 => jy m k s 1 0 1 | 2 => jy m k s 2 0 2 | 3 => jy m k s 1 1 3 | 4 => jy m k s 2 1 4 | _ => jy m k s 2 2 5
open Classical in
/-- What Doubt answers. -/
noncomputable def dbv (m k : Nat → Int) (s : Int) (g : Nat) : Int := if DK m k s ∧ DA m k s then dby m k s g else 0
open Classical in
noncomputable def dbe (m k : Nat → Int) (s : Int) : Int := if DK m k s then (if DA m k s then 0 else 3) else 1
theorem d_wrong {m k : Nat → Int} {s : Int} (h : ¬ DK m k s) : dbv m k s = (fun _ => 0) ∧ dbe m k s = 1 := ⟨funext fun _ => if_neg (fun c => h c.1), if_neg h⟩
theorem d_far {m k : Nat → Int} {s : Int} (h : DK m k s) (n : ¬ DA m k s) : dbv m k s = (fun _ => 0) ∧ dbe m k s = 3 := ⟨funext fun _ => if_neg (fun c => n c.2), (if_pos h).trans (if_neg n)⟩
theorem d_ok {m k : Nat → Int} {s : Int} (h : DK m k s) (a : DA m k s) : dbv m k s = dby m k s ∧ dbe m k s = 0 := ⟨funext fun _ => if_pos ⟨h, a⟩, (if_pos h).trans (if_pos a)⟩
theorem d_hid {m k : Nat → Int} {s : Int} (h : DK m k s) : Hid ((jf m k s 0 0 0 = 0 ∧ jf m k s 1 0 1 = 0 ∧ jf m k s 2 0 2 = 0 ∧ jf m k s 1 1 3 = 0 ∧ jf m k s 2 1 4 = 0 ∧ jf m k s 2 2 5 = 0 → dbv m k s 0 = jy m k s 0 0 0 ∧ dbv m k s 1 = jy m k s 1 0 1 ∧ dbv m k s 2 = jy m k s 2 0 2 ∧ dbv m k s 3 = jy m k s 1 1 3 ∧ dbv m k s 4 = jy m k s 2 1 4 ∧ dbv m k s 5 = jy m k s 2 2 5 ∧ dbe m k s = 0) ∧ (¬ (jf m k s 0 0 0 = 0 ∧ jf m k s 1 0 1 = 0 ∧ jf m k s 2 0 2 = 0 ∧ jf m k s 1 1 3 = 0 ∧ jf m k s 2 1 4 = 0 ∧ jf m k s 2 2 5 = 0) → dbv m k s 0 = 0 ∧ dbv m k s 1 = 0 ∧ dbv m k s 2 = 0 ∧ dbv m k s 3 = 0 ∧ dbv m k s 4 = 0 ∧ dbv m k s 5 = 0 ∧ dbe m k s = 3)) := by
  refine Lib.hid ⟨fun a => ?_, fun n => ?_⟩
  · obtain ⟨e, e'⟩ := d_ok h a
    rw [e, e']
    exact ⟨rfl, rfl, rfl, rfl, rfl, rfl, rfl⟩
  · obtain ⟨e, e'⟩ := d_far h n
    rw [e, e']
    exact ⟨rfl, rfl, rfl, rfl, rfl, rfl, rfl⟩
theorem k_three {k : Nat → Int} (h : F3 (k 0) (k 1) (k 2)) : ∀ i, i < 3 → FitP (k i) := fun i hi => by
  rcases (show i = 0 ∨ i = 1 ∨ i = 2 by omega) with rfl | rfl | rfl
  · exact h.1
  · exact h.2.1
  · exact h.2.2
set_option maxHeartbeats 2000000 in
theorem doubt_any (m k : Nat → Int) (s : Int) (hm : I6 m) (hk0 : I64 (k 0)) (hk1 : I64 (k 1)) (hk2 : I64 (k 2)) (hs : I64 s) (w : World) (hp : PL w) :
    Calls Tryd.prog 10 #[sv m, tv (k 0) (k 1) (k 2), .int .i64 s] w (RetV (.tuple #[sv (dbv m k s), .int .i64 (dbe m k s)]) w) := by
  have vm := fits_jos m hm
  have vk := fits3_vec (k 0) (k 1) (k 2) hk0 hk1 hk2
  have vs := fits_any s hs.1 hs.2
  by_cases cm : F6 m
  rotate_left
  · rw [(d_wrong (k := k) (s := s) (fun h : DK m k s => cm h.1)).1, (d_wrong (k := k) (s := s) (fun h : DK m k s => cm h.1)).2]
    rw [f6b_no cm] at vm
    exact doubt_0 m k s vm w hp
  rw [f6b_yes cm] at vm
  by_cases ck : F3 (k 0) (k 1) (k 2)
  rotate_left
  · rw [(d_wrong (m := m) (s := s) (fun h : DK m k s => ck h.2.1)).1, (d_wrong (m := m) (s := s) (fun h : DK m k s => ck h.2.1)).2]
    rw [f3b_no ck] at vk
    exact doubt_1 m k s vm vk w hp
  rw [f3b_yes ck] at vk
  by_cases cs : FitP s
  rotate_left
  · rw [(d_wrong (m := m) (k := k) (fun h : DK m k s => cs h.2.2)).1, (d_wrong (m := m) (k := k) (fun h : DK m k s => cs h.2.2)).2]
    rw [fitb_no cs] at vs
    exact doubt_2 m k s vm vk vs w hp
  rw [fitb_yes cs] at vs
  have hk := k_three ck
  have c0 := fun w hp => entry_any m k s 0 0 0 (by decide) (by decide) (by simp [At9]) cm hk cs w hp
  have c1 := fun w hp => entry_any m k s 1 0 1 (by decide) (by decide) (by simp [At9]) cm hk cs w hp
  have c3 := fun w hp => entry_any m k s 1 1 3 (by decide) (by decide) (by simp [At9]) cm hk cs w hp
  have c2 := fun w hp => entry_any m k s 2 0 2 (by decide) (by decide) (by simp [At9]) cm hk cs w hp
  have c4 := fun w hp => entry_any m k s 2 1 4 (by decide) (by decide) (by simp [At9]) cm hk cs w hp
  have c5 := fun w hp => entry_any m k s 2 2 5 (by decide) (by decide) (by simp [At9]) cm hk cs w hp
  exact doubt_go m k s (jy m k s 0 0 0) (jy m k s 1 0 1) (jy m k s 2 0 2) (jy m k s 1 1 3) (jy m k s 2 1 4) (jy m k s 2 2 5) (jf m k s 0 0 0) (jf m k s 1 0 1) (jf m k s 2 0 2) (jf m k s 1 1 3) (jf m k s 2 1 4) (jf m k s 2 2 5) (dbv m k s 0) (dbv m k s 1) (dbv m k s 2) (dbv m k s 3) (dbv m k s 4) (dbv m k s 5) (dbe m k s) vm vk vs c0 (jf_two _ _ _ _ _ _) c1 (jf_two _ _ _ _ _ _) c3 (jf_two _ _ _ _ _ _) c2 (jf_two _ _ _ _ _ _) c4 (jf_two _ _ _ _ _ _) c5 (jf_two _ _ _ _ _ _) (d_hid ⟨cm, ck, cs⟩) w hp
set_option maxHeartbeats 2000000 in
theorem rdoubt_any (m k : Nat → Int) (s : Int) (hm : I6 m) (hk0 : I64 (k 0)) (hk1 : I64 (k 1)) (hk2 : I64 (k 2)) (hs : I64 s) (w : World) :
    Calls Tryd.prog 11 #[sv m, tv (k 0) (k 1) (k 2), .int .i64 s] w (RetV (.tuple #[sv (dbv m k s), .int .i64 (dbe m k s)]) w) := by
  have vm := fits_sref m hm
  have vk := fits3_ref (k 0) (k 1) (k 2) hk0 hk1 hk2
  have vs := fits_ref s hs.1 hs.2
  by_cases cm : F6 m
  rotate_left
  · rw [(d_wrong (k := k) (s := s) (fun h : DK m k s => cm h.1)).1, (d_wrong (k := k) (s := s) (fun h : DK m k s => cm h.1)).2]
    rw [f6b_no cm] at vm
    exact rdoubt_0 m k s vm w
  rw [f6b_yes cm] at vm
  by_cases ck : F3 (k 0) (k 1) (k 2)
  rotate_left
  · rw [(d_wrong (m := m) (s := s) (fun h : DK m k s => ck h.2.1)).1, (d_wrong (m := m) (s := s) (fun h : DK m k s => ck h.2.1)).2]
    rw [f3b_no ck] at vk
    exact rdoubt_1 m k s vm vk w
  rw [f3b_yes ck] at vk
  by_cases cs : FitP s
  rotate_left
  · rw [(d_wrong (m := m) (k := k) (fun h : DK m k s => cs h.2.2)).1, (d_wrong (m := m) (k := k) (fun h : DK m k s => cs h.2.2)).2]
    rw [fitb_no cs] at vs
    exact rdoubt_2 m k s vm vk vs w
  rw [fitb_yes cs] at vs
  have hk := k_three ck
  have c0 := fun w => rentry_any m k s 0 0 0 (by decide) (by decide) (by simp [At9]) cm hk cs w
  have c1 := fun w => rentry_any m k s 0 1 1 (by decide) (by decide) (by simp [At9]) cm hk cs w
  rw [(j_comm m k s 0 1 1).1, (j_comm m k s 0 1 1).2] at c1
  have c2 := fun w => rentry_any m k s 0 2 2 (by decide) (by decide) (by simp [At9]) cm hk cs w
  rw [(j_comm m k s 0 2 2).1, (j_comm m k s 0 2 2).2] at c2
  have c3 := fun w => rentry_any m k s 1 1 3 (by decide) (by decide) (by simp [At9]) cm hk cs w
  have c4 := fun w => rentry_any m k s 1 2 4 (by decide) (by decide) (by simp [At9]) cm hk cs w
  rw [(j_comm m k s 1 2 4).1, (j_comm m k s 1 2 4).2] at c4
  have c5 := fun w => rentry_any m k s 2 2 5 (by decide) (by decide) (by simp [At9]) cm hk cs w
  exact rdoubt_go m k s (jy m k s 0 0 0) (jy m k s 1 0 1) (jy m k s 2 0 2) (jy m k s 1 1 3) (jy m k s 2 1 4) (jy m k s 2 2 5) (jf m k s 0 0 0) (jf m k s 1 0 1) (jf m k s 2 0 2) (jf m k s 1 1 3) (jf m k s 2 1 4) (jf m k s 2 2 5) (dbv m k s 0) (dbv m k s 1) (dbv m k s 2) (dbv m k s 3) (dbv m k s 4) (dbv m k s 5) (dbe m k s) vm vk vs c0 (jf_two _ _ _ _ _ _) c1 (jf_two _ _ _ _ _ _) c2 (jf_two _ _ _ _ _ _) c3 (jf_two _ _ _ _ _ _) c4 (jf_two _ _ _ _ _ _) c5 (jf_two _ _ _ _ _ _) (d_hid ⟨cm, ck, cs⟩) w

/-- The example's doubt and gain. -/
def exm : Nat → Int := fun i => if i = 0 then 1099511627776 else 0
def exk : Nat → Int := fun i => if i = 0 then 549755813888 else 0
set_option maxRecDepth 10000 in
theorem ex_doubt (w : World) (hp : PL w) : Calls Tryd.prog 10 #[.agg #[.int .i64 1099511627776, .int .i64 0, .int .i64 0, .int .i64 0, .int .i64 0, .int .i64 0], tv 549755813888 0 0, .int .i64 2199023255552] w (RetV (.tuple #[.agg #[.int .i64 549755813888, .int .i64 0, .int .i64 0, .int .i64 0, .int .i64 0, .int .i64 0], .int .i64 0]) w) := by
  have h := doubt_any exm exk 2199023255552 (Go.Proofs.YtplhienacfiiaaaDoor.six (P := fun i => I64 (exm i)) (by decide) (by decide) (by decide) (by decide) (by decide) (by decide)) (by decide) (by decide) (by decide) (by decide) w hp
  have k : DK exm exk 2199023255552 := ⟨Go.Proofs.YtplhienacfiiaaaDoor.six (P := fun i => FitP (exm i)) (by decide) (by decide) (by decide) (by decide) (by decide) (by decide), by decide, by decide⟩
  have a : DA exm exk 2199023255552 := ⟨by decide +kernel, by decide +kernel, by decide +kernel, by decide +kernel, by decide +kernel, by decide +kernel⟩
  have e : sv (dby exm exk 2199023255552) = .agg #[.int .i64 549755813888, .int .i64 0, .int .i64 0, .int .i64 0, .int .i64 0, .int .i64 0] := by
    rw [show sv (dby exm exk 2199023255552) = .agg #[.int .i64 (dby exm exk 2199023255552 0), .int .i64 (dby exm exk 2199023255552 1), .int .i64 (dby exm exk 2199023255552 2), .int .i64 (dby exm exk 2199023255552 3), .int .i64 (dby exm exk 2199023255552 4), .int .i64 (dby exm exk 2199023255552 5)] from rfl,
      show dby exm exk 2199023255552 0 = 549755813888 by decide +kernel, show dby exm exk 2199023255552 1 = 0 by decide +kernel, show dby exm exk 2199023255552 2 = 0 by decide +kernel, show dby exm exk 2199023255552 3 = 0 by decide +kernel, show dby exm exk 2199023255552 4 = 0 by decide +kernel, show dby exm exk 2199023255552 5 = 0 by decide +kernel]
  rw [(d_ok k a).1, (d_ok k a).2, e] at h
  exact h
set_option maxHeartbeats 1000000 in
set_option maxRecDepth 10000 in
theorem fixed_jos (w : World) (hp : PL w) : Calls Tryd.prog 9 #[] w (RetV (.bool true) w) := by
  have cD := ex_doubt
  go_enter Tryd.func9, Tryd.ntmps9
  go_wp2_with fail
  refine (cD _ hp).mono ?_
  rintro e w1 ⟨rfl, hb⟩
  have hse := fun w => jsym_eq_self 549755813888 0 0 0 0 0 w
  go_wp2
  go_ret
  exact ⟨rfl, b_alloc hb⟩

set_option maxHeartbeats 4000000 in
set_option maxRecDepth 10000 in
theorem josephState_go (x0 x1 x2 k0 k1 k2 y z0 z1 z2 f : Int)
    (cA : ∀ w, Calls Tryd.prog 7 #[tv x0 x1 x2, tv k0 k1 k2, .int .i64 y] w (RetV (.tuple #[tv z0 z1 z2, .int .i64 f]) w))
    (cB : ∀ w, Calls Tryd.prog 8 #[tv x0 x1 x2, tv k0 k1 k2, .int .i64 y] w (RetV (.tuple #[tv z0 z1 z2, .int .i64 f]) w)) (w : World) (hp : PL w) :
    Calls Tryd.prog 3 #[tv x0 x1 x2, tv k0 k1 k2, .int .i64 y] w (RetV (.bool true) w) := by
  have B : Below w.heap.size w ((w.alloc (Obj.cells #[.int .i64 x0, .int .i64 x1, .int .i64 x2] 23)).alloc (Obj.cells #[.int .i64 k0, .int .i64 k1, .int .i64 k2] 23)) := b_alloc (b_alloc (Below.refl _ _))
  have P := pl_keep B hp
  clear hp
  have X : TC ((w.alloc (Obj.cells #[.int .i64 x0, .int .i64 x1, .int .i64 x2] 23)).alloc (Obj.cells #[.int .i64 k0, .int .i64 k1, .int .i64 k2] 23)) w.heap.size x0 x1 x2 := tc_alloc (tc_new rfl)
  have K : TC ((w.alloc (Obj.cells #[.int .i64 x0, .int .i64 x1, .int .i64 x2] 23)).alloc (Obj.cells #[.int .i64 k0, .int .i64 k1, .int .i64 k2] 23)) (w.heap.size + 1) k0 k1 k2 := tc_new (by simp)
  have hve := vec_eq_self z0 z1 z2
  go_enter Tryd.func3, Tryd.ntmps3
  go_wp2_with fail
  refine (cA _).mono ?_
  rintro e1 w1 ⟨rfl, hb⟩
  replace X := tc_keep hb X
  replace K := tc_keep hb K
  replace P := pl_keep hb P
  replace B := b_trans B hb
  clear hb
  have Z : TC (w1.alloc (Obj.cells #[.int .i64 z0, .int .i64 z1, .int .i64 z2] 23)) w1.heap.size z0 z1 z2 := tc_new rfl
  have hb : Below w1.heap.size w1 (w1.alloc (Obj.cells #[.int .i64 z0, .int .i64 z1, .int .i64 z2] 23)) := b_alloc (Below.refl _ _)
  replace X := tc_keep hb X
  replace K := tc_keep hb K
  replace P := pl_keep hb P
  replace B := b_trans B hb
  clear hb
  go_wp2_with fail
  refine (cB _).mono ?_
  rintro e2 w2 ⟨rfl, hb⟩
  replace X := tc_keep hb X
  replace K := tc_keep hb K
  replace Z := tc_keep hb Z
  replace P := pl_keep hb P
  replace B := b_trans B hb
  clear hb
  have Y : TC (w2.alloc (Obj.cells #[.int .i64 z0, .int .i64 z1, .int .i64 z2] 23)) w2.heap.size z0 z1 z2 := tc_new rfl
  have hb : Below w2.heap.size w2 (w2.alloc (Obj.cells #[.int .i64 z0, .int .i64 z1, .int .i64 z2] 23)) := b_alloc (Below.refl _ _)
  replace X := tc_keep hb X
  replace K := tc_keep hb K
  replace Z := tc_keep hb Z
  replace P := pl_keep hb P
  replace B := b_trans B hb
  clear hb
  clear X K cA cB
  go_wp2_with fail
  refine (fixed_jos _ P).mono ?_
  rintro e3 w3 ⟨rfl, hb⟩
  replace Z := tc_keep hb Z
  replace Y := tc_keep hb Y
  replace P := pl_keep hb P
  replace B := b_trans B hb
  clear hb
  go_wp2
  go_ret
  exact ⟨rfl, B⟩
theorem josephState_any (x0 x1 x2 k0 k1 k2 y : Int) (hx0 : I64 x0) (hx1 : I64 x1) (hx2 : I64 x2) (hk0 : I64 k0) (hk1 : I64 k1) (hk2 : I64 k2) (hy : I64 y) (w : World) (hp : PL w) :
    Calls Tryd.prog 3 #[tv x0 x1 x2, tv k0 k1 k2, .int .i64 y] w (RetV (.bool true) w) := by
  obtain ⟨z0, z1, z2, f, a, b, _⟩ := state_all x0 x1 x2 k0 k1 k2 y hx0 hx1 hx2 hk0 hk1 hk2 hy
  exact josephState_go x0 x1 x2 k0 k1 k2 y z0 z1 z2 f a b w hp

set_option maxHeartbeats 4000000 in
set_option maxRecDepth 10000 in
theorem josephDoubt_go (m k M : Nat → Int) (s f : Int)
    (cA : ∀ w, PL w → Calls Tryd.prog 10 #[sv m, tv (k 0) (k 1) (k 2), .int .i64 s] w (RetV (.tuple #[sv M, .int .i64 f]) w))
    (cB : ∀ w, Calls Tryd.prog 11 #[sv m, tv (k 0) (k 1) (k 2), .int .i64 s] w (RetV (.tuple #[sv M, .int .i64 f]) w)) (w : World) (hp : PL w) :
    Calls Tryd.prog 4 #[sv m, tv (k 0) (k 1) (k 2), .int .i64 s] w (RetV (.bool true) w) := by
  have B : Below w.heap.size w ((w.alloc (Obj.cells #[.int .i64 (m 0), .int .i64 (m 1), .int .i64 (m 2), .int .i64 (m 3), .int .i64 (m 4), .int .i64 (m 5)] 32)).alloc (Obj.cells #[.int .i64 (k 0), .int .i64 (k 1), .int .i64 (k 2)] 23)) := b_alloc (b_alloc (Below.refl _ _))
  have P := pl_keep B hp
  clear hp
  have S : SC6 ((w.alloc (Obj.cells #[.int .i64 (m 0), .int .i64 (m 1), .int .i64 (m 2), .int .i64 (m 3), .int .i64 (m 4), .int .i64 (m 5)] 32)).alloc (Obj.cells #[.int .i64 (k 0), .int .i64 (k 1), .int .i64 (k 2)] 23)) w.heap.size m := sc_six (sc_alloc (sc_new rfl))
  have K : TC ((w.alloc (Obj.cells #[.int .i64 (m 0), .int .i64 (m 1), .int .i64 (m 2), .int .i64 (m 3), .int .i64 (m 4), .int .i64 (m 5)] 32)).alloc (Obj.cells #[.int .i64 (k 0), .int .i64 (k 1), .int .i64 (k 2)] 23)) (w.heap.size + 1) (k 0) (k 1) (k 2) := tc_new (by simp)
  have hse := jsym_eq_self (M 0) (M 1) (M 2) (M 3) (M 4) (M 5)
  go_enter Tryd.func4, Tryd.ntmps4
  go_wp2_with fail
  refine (cA _ P).mono ?_
  rintro e1 w1 ⟨rfl, hb⟩
  replace K := tc_keep hb K
  replace S := sc_six (sc_keep hb (six_sc S))
  replace P := pl_keep hb P
  replace B := b_trans B hb
  clear hb
  have Z : SC6 (w1.alloc (Obj.cells #[.int .i64 (M 0), .int .i64 (M 1), .int .i64 (M 2), .int .i64 (M 3), .int .i64 (M 4), .int .i64 (M 5)] 32)) w1.heap.size M := sc_six (sc_new rfl)
  have hb : Below w1.heap.size w1 (w1.alloc (Obj.cells #[.int .i64 (M 0), .int .i64 (M 1), .int .i64 (M 2), .int .i64 (M 3), .int .i64 (M 4), .int .i64 (M 5)] 32)) := b_alloc (Below.refl _ _)
  replace K := tc_keep hb K
  replace S := sc_six (sc_keep hb (six_sc S))
  replace P := pl_keep hb P
  replace B := b_trans B hb
  clear hb
  go_wp2_with fail
  refine (cB _).mono ?_
  rintro e2 w2 ⟨rfl, hb⟩
  replace K := tc_keep hb K
  replace S := sc_six (sc_keep hb (six_sc S))
  replace Z := sc_six (sc_keep hb (six_sc Z))
  replace P := pl_keep hb P
  replace B := b_trans B hb
  clear hb
  have Y : SC6 (w2.alloc (Obj.cells #[.int .i64 (M 0), .int .i64 (M 1), .int .i64 (M 2), .int .i64 (M 3), .int .i64 (M 4), .int .i64 (M 5)] 32)) w2.heap.size M := sc_six (sc_new rfl)
  have hb : Below w2.heap.size w2 (w2.alloc (Obj.cells #[.int .i64 (M 0), .int .i64 (M 1), .int .i64 (M 2), .int .i64 (M 3), .int .i64 (M 4), .int .i64 (M 5)] 32)) := b_alloc (Below.refl _ _)
  replace K := tc_keep hb K
  replace S := sc_six (sc_keep hb (six_sc S))
  replace Z := sc_six (sc_keep hb (six_sc Z))
  replace P := pl_keep hb P
  replace B := b_trans B hb
  clear hb
  clear S K cA cB
  go_wp2_with fail
  refine (fixed_jos _ P).mono ?_
  rintro e3 w3 ⟨rfl, hb⟩
  replace Z := sc_six (sc_keep hb (six_sc Z))
  replace Y := sc_six (sc_keep hb (six_sc Y))
  replace P := pl_keep hb P
  replace B := b_trans B hb
  clear hb
  go_wp2
  go_ret
  exact ⟨rfl, B⟩

/-- A row out of its numbers. -/
def jof (x y z : Int) : Nat → Int := fun i => if i = 0 then x else if i = 1 then y else z
theorem josephDoubt_any (m : Nat → Int) (k0 k1 k2 s : Int) (hm : I6 m) (hk0 : I64 k0) (hk1 : I64 k1) (hk2 : I64 k2) (hs : I64 s) (w : World) (hp : PL w) :
    Calls Tryd.prog 4 #[sv m, tv k0 k1 k2, .int .i64 s] w (RetV (.bool true) w) :=
  josephDoubt_go m (jof k0 k1 k2) _ s _ (doubt_any m (jof k0 k1 k2) s hm hk0 hk1 hk2 hs) (rdoubt_any m (jof k0 k1 k2) s hm hk0 hk1 hk2 hs) w hp

end Go.Proofs.YtplhienacfiiaaaDoor
