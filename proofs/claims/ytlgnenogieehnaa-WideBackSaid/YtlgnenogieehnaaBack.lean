/- The law WideBack: its walk, out of the contracts of package wide. -/
import Derived.Test.YtlgnenogieehnaaFixed
import Derived.Test.YtlgnenogieehnaaWideB
import Derived.Test.YtlgnenogieehnaaWideC
namespace Go.Proofs.Ytlgnenogieehnaa
open Go.RowKit Go.Shelf

theorem qf_mul {x y : Int} (y0 : y ≠ 0) : qf (x * y) y = x ∧ rf (x * y) y = 0 := by
  have e : sg y (x * y) = x * (y.natAbs : Int) := by
    unfold sg
    split
    · rw [show (y.natAbs : Int) = -y by omega, Int.mul_neg]
    · rw [show (y.natAbs : Int) = y by omega]
  unfold qf rf
  rw [e]
  exact ⟨Int.mul_ediv_cancel _ (by omega), Int.mul_emod_left _ _⟩

theorem ef_mul {x y : Int} (y0 : y ≠ 0) : ef (x * y) y = x := by
  obtain ⟨h1, h2⟩ := qf_mul (x := x) y0
  unfold ef near
  rw [h1, h2, if_neg (by omega)]

theorem fits_i64 {x : Int} (h0 : -9223372036854775808 ≤ x) (h1 : x ≤ 9223372036854775807) : Fits x := ⟨by omega, by omega⟩

set_option maxHeartbeats 8000000 in
set_option maxRecDepth 10000 in
theorem back_walk (x y : Int) (x0 : -9223372036854775808 ≤ x) (x1 : x ≤ 9223372036854775807) (y0 : -9223372036854775808 ≤ y) (y1 : y ≤ 9223372036854775807)
    (ah al bh bl ch cl e dh dl f : Int)
    (cA : ∀ w, Calls Try.prog 13 #[wv ah al, wv bh bl] w (RetV (.tuple #[wv ch cl, .int .i64 e]) w))
    (cS : ∀ w, Calls Try.prog 14 #[wv ch cl, wv bh bl] w (RetV (.tuple #[wv dh dl, .int .i64 f]) w))
    (h : (e == 0) = false ∨ ((e == 0) = true ∧ (dh == ah) = true ∧ (dl == al) = true ∧ (f != 0) = false)) (w : World) :
    Calls Try.prog 7 #[.agg #[.int .i64 x, .int .i64 y], wv ah al, wv bh bl] w (RetV (.bool true) w) := by
  rcases h with h | ⟨h, h2, h3, h4⟩
  all_goals
    by_cases yz : y = 0
    · subst yz
      have cM : ∀ w, Calls Try.prog 24 #[.int .i64 x, .int .i64 0] w (RetV (wv 0 0) w) := fun w => (mul_any x 0 x0 x1 y0 y1 w).mono fun _ _ hh => retW_det isW_zero (by rwa [Int.mul_zero] at hh)
      go_enter Try.func7, Try.ntmps7
      go_wp2_with fail
      go_region
      go_wp2_with fail
      refine (cA _).mono ?_
      rintro e w1 ⟨rfl, hb1⟩
      have k1 : WC w1 (w.heap.size + 1 + 1) bh bl := wc_keep hb1 (by simp [WC, go_sem])
      have k2 : WC w1 (w.heap.size + 1) ah al := wc_keep hb1 (by simp [WC, go_sem, World.cell?_alloc_past])
      have B1 : Below w.heap.size w w1 := b_trans (b_drew (b_alloc (b_alloc (b_alloc (Below.refl _ _))))) hb1
      have k1 := wc_alloc (o := Obj.cells #[.int .i64 ch, .int .u64 cl] 24) k1
      have k2 := wc_alloc (o := Obj.cells #[.int .i64 ch, .int .u64 cl] 24) k2
      clear hb1
      go_wp2_with fail
      refine (cS _).mono ?_
      rintro e w2 ⟨rfl, hb2⟩
      have B2 := b_alloc (o := Obj.cells #[.int .i64 dh, .int .u64 dl] 24) (b_trans (b_alloc B1) hb2)
      have k2 := wc_alloc (o := Obj.cells #[.int .i64 dh, .int .u64 dl] 24) (wc_keep hb2 k2)
      clear hb2 k1 B1
      go_wp2_with fail
      refine (fixed_any _).mono ?_
      rintro e w3 ⟨rfl, hb3⟩
      have B3 := b_trans B2 hb3
      clear hb3 k2 B2
      go_wp2_with fail
      refine (cM _).mono ?_
      rintro e w4 ⟨rfl, hb4⟩
      have B4 := b_trans B3 hb4
      clear hb4 B3
      go_wp2
      go_ret
      exact ⟨rfl, B4⟩
    · have y2 : (y == 0) = false := by rw [beq_eq_false_iff_ne]; exact yz
      have fx := mul_fits x0 x1 y0 y1
      obtain ⟨ph, pl, hp⟩ : ∃ ph pl, IsW ph pl (x * y) := ⟨_, _, IsW.mk' fx⟩
      obtain ⟨xh, xl, hx⟩ : ∃ xh xl, IsW xh xl x := ⟨_, _, IsW.mk' (fits_i64 x0 x1)⟩
      have cM := fun w => (mul_any x y x0 x1 y0 y1 w).mono fun _ _ => retW_det hp
      have cO := fun w => (of_any x x0 x1 w).mono fun _ _ => retW_det hx
      have cD : ∀ w, Calls Try.prog 31 #[wv ph pl, .int .i64 y] w (RetV (.tuple #[wv xh xl, .int .i64 0]) w) := fun w => (div_any ph pl _ y hp yz y0 y1 w).mono fun _ _ hh => retWE_det hx (by rwa [(qf_mul yz).1, fz_of (fits_i64 x0 x1), fe_of (fits_i64 x0 x1)] at hh)
      have cE : ∀ w, Calls Try.prog 32 #[wv ph pl, .int .i64 y] w (RetV (.tuple #[wv xh xl, .int .i64 0]) w) := fun w => (even_any ph pl _ y hp yz y0 y1 w).mono fun _ _ hh => retWE_det hx (by rwa [ef_mul yz, fz_of (fits_i64 x0 x1), fe_of (fits_i64 x0 x1)] at hh)
      clear fx hp hx
      go_enter Try.func7, Try.ntmps7
      go_wp2_with fail
      go_region
      go_wp2_with fail
      refine (cA _).mono ?_
      rintro e w1 ⟨rfl, hb1⟩
      have k1 : WC w1 (w.heap.size + 1 + 1) bh bl := wc_keep hb1 (by simp [WC, go_sem])
      have k2 : WC w1 (w.heap.size + 1) ah al := wc_keep hb1 (by simp [WC, go_sem, World.cell?_alloc_past])
      have B1 : Below w.heap.size w w1 := b_trans (b_drew (b_alloc (b_alloc (b_alloc (Below.refl _ _))))) hb1
      have k1 := wc_alloc (o := Obj.cells #[.int .i64 ch, .int .u64 cl] 24) k1
      have k2 := wc_alloc (o := Obj.cells #[.int .i64 ch, .int .u64 cl] 24) k2
      clear hb1
      go_wp2_with fail
      refine (cS _).mono ?_
      rintro e w2 ⟨rfl, hb2⟩
      have B2 := b_alloc (o := Obj.cells #[.int .i64 dh, .int .u64 dl] 24) (b_trans (b_alloc B1) hb2)
      have k2 := wc_alloc (o := Obj.cells #[.int .i64 dh, .int .u64 dl] 24) (wc_keep hb2 k2)
      clear hb2 k1 B1
      go_wp2_with fail
      refine (cM _).mono ?_
      rintro e w3 ⟨rfl, hb3⟩
      have B3 := b_trans B2 hb3
      clear hb3 k2 B2
      go_wp2_with fail
      refine (cD _).mono ?_
      rintro e w4 ⟨rfl, hb4⟩
      have k3 : WC w4 w3.heap.size ph pl := wc_keep hb4 (by simp [WC, go_sem])
      have k3 := wc_alloc (o := Obj.cells #[.int .i64 xh, .int .u64 xl] 24) k3
      have B4 := b_alloc (o := Obj.cells #[.int .i64 xh, .int .u64 xl] 24) (b_trans (b_alloc B3) hb4)
      clear hb4 B3
      go_wp2_with fail
      refine (cE _).mono ?_
      rintro e w5 ⟨rfl, hb5⟩
      have k4 : WC w5 w4.heap.size xh xl := wc_keep hb5 (by simp [WC, go_sem])
      have k4 := wc_alloc (o := Obj.cells #[.int .i64 xh, .int .u64 xl] 24) k4
      have k5 : WC (w5.alloc (Obj.cells #[.int .i64 xh, .int .u64 xl] 24)) w5.heap.size xh xl := by simp [WC, go_sem]
      have B5 := b_alloc (o := Obj.cells #[.int .i64 xh, .int .u64 xl] 24) (b_trans B4 hb5)
      clear hb5 B4 k3
      go_wp2
      refine region_each [70, 71, 72, 73, 74, 75, 76, 77, 78, 79, 80, 81, 82, 83, 84, 85, 86, 87, 88, 89] (fun i X_ U_ => match i with | 0 => X_ = .bool true | 1 => X_ = .bool true | 2 => X_ = wv xh xl | 3 => X_ = .int .i64 x | 4 => X_ = wv xh xl | 5 => X_ = .bool true | 6 => X_ = .bool true | 7 => X_ = .bool true | 8 => X_ = wv xh xl | 9 => X_ = wv xh xl | 10 => X_ = .bool true | 11 => X_ = .bool true | 12 => X_ = .bool true | 13 => X_ = .int .i64 0 | 14 => X_ = .bool true | 15 => X_ = .bool true | 16 => X_ = .bool true | 17 => X_ = .int .i64 0 | 18 => X_ = .bool true | 19 => X_ = .bool true | _ => True) (fun i => false) (by kernel_rfl) (by kernel_rfl) (by kernel_rfl) (by kernel_rfl) (by kernel_rfl) ?_ ?_ ?_ ?_
      · intro i x w w' hi h hb
        match i, hi with
        | 0, _ => exact h
        | 1, _ => exact h
        | 2, _ => exact h
        | 3, _ => exact h
        | 4, _ => exact h
        | 5, _ => exact h
        | 6, _ => exact h
        | 7, _ => exact h
        | 8, _ => exact h
        | 9, _ => exact h
        | 10, _ => exact h
        | 11, _ => exact h
        | 12, _ => exact h
        | 13, _ => exact h
        | 14, _ => exact h
        | 15, _ => exact h
        | 16, _ => exact h
        | 17, _ => exact h
        | 18, _ => exact h
        | 19, _ => exact h
        | k + 20, hk => exact absurd hk (by simp)
      · intro i x w hi ha h
        cases ha
      · intro i hi v f w' hb hv hB hd
        match i, hi with
        | 0, _ =>
          clear hb hv hd
          refine wpOp_step rfl (fun K hK => ?_)
          go_simp
          refine (fixed_any _).mono ?_
          rintro e w6 ⟨rfl, hb6⟩
          exact hK _ _ ⟨_, rfl, hb6, rfl, fun h => absurd h (by decide)⟩
        | 1, _ =>
          have h0 : v 0 = .bool true := hd 0 (by kernel_rfl)
          have d0 : f.tmps[70]? = some (.bool true) := (hv 0 70 rfl).trans (congrArg some h0)
          clear h0
          clear hb hv hd
          refine wpOp_step rfl (fun K hK => ?_)
          go_simp
          exact hK _ _ ⟨_, rfl, Below.refl _ _, rfl, fun h => absurd h (by decide)⟩
        | 2, _ =>
          have b14 : f.tmps[14]? = some (.pointer (some ⟨w4.heap.size, 0, none⟩)) := (hb 14 (by decide)).trans rfl
          have h1 : v 1 = .bool true := hd 1 (by kernel_rfl)
          have d1 : f.tmps[71]? = some (.bool true) := (hv 1 71 rfl).trans (congrArg some h1)
          clear h1
          clear hb hv hd
          have c := wc_keep hB k4
          refine wpOp_step rfl (fun K hK => ?_)
          go_simp
          exact hK _ _ ⟨_, rfl, Below.refl _ _, rfl, fun h => absurd h (by decide)⟩
        | 3, _ =>
          have b7 : f.tmps[7]? = some (.int .i64 x) := (hb 7 (by decide)).trans rfl
          have h1 : v 1 = .bool true := hd 1 (by kernel_rfl)
          have d1 : f.tmps[71]? = some (.bool true) := (hv 1 71 rfl).trans (congrArg some h1)
          clear h1
          clear hb hv hd
          refine wpOp_step rfl (fun K hK => ?_)
          go_simp
          exact hK _ _ ⟨_, rfl, Below.refl _ _, rfl, fun h => absurd h (by decide)⟩
        | 4, _ =>
          have h3 : v 3 = .int .i64 x := hd 3 (by kernel_rfl)
          have d3 : f.tmps[73]? = some (.int .i64 x) := (hv 3 73 rfl).trans (congrArg some h3)
          clear h3
          have h1 : v 1 = .bool true := hd 1 (by kernel_rfl)
          have d1 : f.tmps[71]? = some (.bool true) := (hv 1 71 rfl).trans (congrArg some h1)
          clear h1
          clear hb hv hd
          refine wpOp_step rfl (fun K hK => ?_)
          go_simp
          refine (cO _).mono ?_
          rintro e w6 ⟨rfl, hb6⟩
          exact hK _ _ ⟨_, rfl, hb6, rfl, fun h => absurd h (by decide)⟩
        | 5, _ =>
          have h2 : v 2 = wv xh xl := hd 2 (by kernel_rfl)
          have d2 : f.tmps[72]? = some (wv xh xl) := (hv 2 72 rfl).trans (congrArg some h2)
          clear h2
          have h4 : v 4 = wv xh xl := hd 4 (by kernel_rfl)
          have d4 : f.tmps[74]? = some (wv xh xl) := (hv 4 74 rfl).trans (congrArg some h4)
          clear h4
          have h1 : v 1 = .bool true := hd 1 (by kernel_rfl)
          have d1 : f.tmps[71]? = some (.bool true) := (hv 1 71 rfl).trans (congrArg some h1)
          clear h1
          clear hb hv hd
          refine wpOp_step rfl (fun K hK => ?_)
          go_simp
          exact hK _ _ ⟨_, rfl, Below.refl _ _, rfl, fun h => absurd h (by decide)⟩
        | 6, _ =>
          have h1 : v 1 = .bool true := hd 1 (by kernel_rfl)
          have d1 : f.tmps[71]? = some (.bool true) := (hv 1 71 rfl).trans (congrArg some h1)
          clear h1
          have h5 : v 5 = .bool true := hd 5 (by kernel_rfl)
          have d5 : f.tmps[75]? = some (.bool true) := (hv 5 75 rfl).trans (congrArg some h5)
          clear h5
          clear hb hv hd
          refine wpOp_step rfl (fun K hK => ?_)
          go_simp
          exact hK _ _ ⟨_, rfl, Below.refl _ _, rfl, fun h => absurd h (by decide)⟩
        | 7, _ =>
          have h6 : v 6 = .bool true := hd 6 (by kernel_rfl)
          have d6 : f.tmps[76]? = some (.bool true) := (hv 6 76 rfl).trans (congrArg some h6)
          clear h6
          clear hb hv hd
          refine wpOp_step rfl (fun K hK => ?_)
          go_simp
          exact hK _ _ ⟨_, rfl, Below.refl _ _, rfl, fun h => absurd h (by decide)⟩
        | 8, _ =>
          have b16 : f.tmps[16]? = some (.pointer (some ⟨w5.heap.size, 0, none⟩)) := (hb 16 (by decide)).trans rfl
          have h7 : v 7 = .bool true := hd 7 (by kernel_rfl)
          have d7 : f.tmps[77]? = some (.bool true) := (hv 7 77 rfl).trans (congrArg some h7)
          clear h7
          clear hb hv hd
          have c := wc_keep hB k5
          refine wpOp_step rfl (fun K hK => ?_)
          go_simp
          exact hK _ _ ⟨_, rfl, Below.refl _ _, rfl, fun h => absurd h (by decide)⟩
        | 9, _ =>
          have b14 : f.tmps[14]? = some (.pointer (some ⟨w4.heap.size, 0, none⟩)) := (hb 14 (by decide)).trans rfl
          have h7 : v 7 = .bool true := hd 7 (by kernel_rfl)
          have d7 : f.tmps[77]? = some (.bool true) := (hv 7 77 rfl).trans (congrArg some h7)
          clear h7
          clear hb hv hd
          have c := wc_keep hB k4
          refine wpOp_step rfl (fun K hK => ?_)
          go_simp
          exact hK _ _ ⟨_, rfl, Below.refl _ _, rfl, fun h => absurd h (by decide)⟩
        | 10, _ =>
          have h8 : v 8 = wv xh xl := hd 8 (by kernel_rfl)
          have d8 : f.tmps[78]? = some (wv xh xl) := (hv 8 78 rfl).trans (congrArg some h8)
          clear h8
          have h9 : v 9 = wv xh xl := hd 9 (by kernel_rfl)
          have d9 : f.tmps[79]? = some (wv xh xl) := (hv 9 79 rfl).trans (congrArg some h9)
          clear h9
          have h7 : v 7 = .bool true := hd 7 (by kernel_rfl)
          have d7 : f.tmps[77]? = some (.bool true) := (hv 7 77 rfl).trans (congrArg some h7)
          clear h7
          clear hb hv hd
          refine wpOp_step rfl (fun K hK => ?_)
          go_simp
          exact hK _ _ ⟨_, rfl, Below.refl _ _, rfl, fun h => absurd h (by decide)⟩
        | 11, _ =>
          have h7 : v 7 = .bool true := hd 7 (by kernel_rfl)
          have d7 : f.tmps[77]? = some (.bool true) := (hv 7 77 rfl).trans (congrArg some h7)
          clear h7
          have h10 : v 10 = .bool true := hd 10 (by kernel_rfl)
          have d10 : f.tmps[80]? = some (.bool true) := (hv 10 80 rfl).trans (congrArg some h10)
          clear h10
          clear hb hv hd
          refine wpOp_step rfl (fun K hK => ?_)
          go_simp
          exact hK _ _ ⟨_, rfl, Below.refl _ _, rfl, fun h => absurd h (by decide)⟩
        | 12, _ =>
          have h11 : v 11 = .bool true := hd 11 (by kernel_rfl)
          have d11 : f.tmps[81]? = some (.bool true) := (hv 11 81 rfl).trans (congrArg some h11)
          clear h11
          clear hb hv hd
          refine wpOp_step rfl (fun K hK => ?_)
          go_simp
          exact hK _ _ ⟨_, rfl, Below.refl _ _, rfl, fun h => absurd h (by decide)⟩
        | 13, _ =>
          have b15 : f.tmps[15]? = some (.int .i64 0) := (hb 15 (by decide)).trans rfl
          have h12 : v 12 = .bool true := hd 12 (by kernel_rfl)
          have d12 : f.tmps[82]? = some (.bool true) := (hv 12 82 rfl).trans (congrArg some h12)
          clear h12
          clear hb hv hd
          refine wpOp_step rfl (fun K hK => ?_)
          go_simp
          exact hK _ _ ⟨_, rfl, Below.refl _ _, rfl, fun h => absurd h (by decide)⟩
        | 14, _ =>
          have h13 : v 13 = .int .i64 0 := hd 13 (by kernel_rfl)
          have d13 : f.tmps[83]? = some (.int .i64 0) := (hv 13 83 rfl).trans (congrArg some h13)
          clear h13
          have h12 : v 12 = .bool true := hd 12 (by kernel_rfl)
          have d12 : f.tmps[82]? = some (.bool true) := (hv 12 82 rfl).trans (congrArg some h12)
          clear h12
          clear hb hv hd
          refine wpOp_step rfl (fun K hK => ?_)
          go_simp
          exact hK _ _ ⟨_, rfl, Below.refl _ _, rfl, fun h => absurd h (by decide)⟩
        | 15, _ =>
          have h12 : v 12 = .bool true := hd 12 (by kernel_rfl)
          have d12 : f.tmps[82]? = some (.bool true) := (hv 12 82 rfl).trans (congrArg some h12)
          clear h12
          have h14 : v 14 = .bool true := hd 14 (by kernel_rfl)
          have d14 : f.tmps[84]? = some (.bool true) := (hv 14 84 rfl).trans (congrArg some h14)
          clear h14
          clear hb hv hd
          refine wpOp_step rfl (fun K hK => ?_)
          go_simp
          exact hK _ _ ⟨_, rfl, Below.refl _ _, rfl, fun h => absurd h (by decide)⟩
        | 16, _ =>
          have h15 : v 15 = .bool true := hd 15 (by kernel_rfl)
          have d15 : f.tmps[85]? = some (.bool true) := (hv 15 85 rfl).trans (congrArg some h15)
          clear h15
          clear hb hv hd
          refine wpOp_step rfl (fun K hK => ?_)
          go_simp
          exact hK _ _ ⟨_, rfl, Below.refl _ _, rfl, fun h => absurd h (by decide)⟩
        | 17, _ =>
          have b17 : f.tmps[17]? = some (.int .i64 0) := (hb 17 (by decide)).trans rfl
          have h16 : v 16 = .bool true := hd 16 (by kernel_rfl)
          have d16 : f.tmps[86]? = some (.bool true) := (hv 16 86 rfl).trans (congrArg some h16)
          clear h16
          clear hb hv hd
          refine wpOp_step rfl (fun K hK => ?_)
          go_simp
          exact hK _ _ ⟨_, rfl, Below.refl _ _, rfl, fun h => absurd h (by decide)⟩
        | 18, _ =>
          have h17 : v 17 = .int .i64 0 := hd 17 (by kernel_rfl)
          have d17 : f.tmps[87]? = some (.int .i64 0) := (hv 17 87 rfl).trans (congrArg some h17)
          clear h17
          have h16 : v 16 = .bool true := hd 16 (by kernel_rfl)
          have d16 : f.tmps[86]? = some (.bool true) := (hv 16 86 rfl).trans (congrArg some h16)
          clear h16
          clear hb hv hd
          refine wpOp_step rfl (fun K hK => ?_)
          go_simp
          exact hK _ _ ⟨_, rfl, Below.refl _ _, rfl, fun h => absurd h (by decide)⟩
        | 19, _ =>
          have h16 : v 16 = .bool true := hd 16 (by kernel_rfl)
          have d16 : f.tmps[86]? = some (.bool true) := (hv 16 86 rfl).trans (congrArg some h16)
          clear h16
          have h18 : v 18 = .bool true := hd 18 (by kernel_rfl)
          have d18 : f.tmps[88]? = some (.bool true) := (hv 18 88 rfl).trans (congrArg some h18)
          clear h18
          clear hb hv hd
          refine wpOp_step rfl (fun K hK => ?_)
          go_simp
          exact hK _ _ ⟨_, rfl, Below.refl _ _, rfl, fun h => absurd h (by decide)⟩
        | k + 20, hk => exact absurd hk (by simp)
      · intro v w' hB hF hD
        have F0 : v 0 = .bool true := hF 0 (by simp)
        have F1 : v 1 = .bool true := hF 1 (by simp)
        have F2 : v 2 = wv xh xl := hF 2 (by simp)
        have F3 : v 3 = .int .i64 x := hF 3 (by simp)
        have F4 : v 4 = wv xh xl := hF 4 (by simp)
        have F5 : v 5 = .bool true := hF 5 (by simp)
        have F6 : v 6 = .bool true := hF 6 (by simp)
        have F7 : v 7 = .bool true := hF 7 (by simp)
        have F8 : v 8 = wv xh xl := hF 8 (by simp)
        have F9 : v 9 = wv xh xl := hF 9 (by simp)
        have F10 : v 10 = .bool true := hF 10 (by simp)
        have F11 : v 11 = .bool true := hF 11 (by simp)
        have F12 : v 12 = .bool true := hF 12 (by simp)
        have F13 : v 13 = .int .i64 0 := hF 13 (by simp)
        have F14 : v 14 = .bool true := hF 14 (by simp)
        have F15 : v 15 = .bool true := hF 15 (by simp)
        have F16 : v 16 = .bool true := hF 16 (by simp)
        have F17 : v 17 = .int .i64 0 := hF 17 (by simp)
        have F18 : v 18 = .bool true := hF 18 (by simp)
        have F19 : v 19 = .bool true := hF 19 (by simp)
        clear hF
        simp only [frOf, frGo, Nat.zero_add, Nat.reduceAdd, F0, F1, F2, F3, F4, F5, F6, F7, F8, F9, F10, F11, F12, F13, F14, F15, F16, F17, F18, F19]
        have B6 := b_trans B5 hB
        clear hB hD k4 k5 B5
        go_wp2
        go_ret
        exact ⟨rfl, B6⟩

theorem back_any (x y : Int) (x0 : -9223372036854775808 ≤ x) (x1 : x ≤ 9223372036854775807) (y0 : -9223372036854775808 ≤ y) (y1 : y ≤ 9223372036854775807)
    (ah al a bh bl b : Int) (X : IsW ah al a) (Y : IsW bh bl b) (w : World) :
    Calls Try.prog 7 #[.agg #[.int .i64 x, .int .i64 y], wv ah al, wv bh bl] w (RetV (.bool true) w) := by
  have fz_fits : ∀ z, Fits (fz z) := by
    intro z; unfold fz; split
    · rename_i h; exact ⟨h.1, h.2⟩
    · exact ⟨by decide, by decide⟩
  obtain ⟨ch, cl, hc⟩ : ∃ ch cl, IsW ch cl (fz (a + b)) := ⟨_, _, IsW.mk' (fz_fits _)⟩
  obtain ⟨dh, dl, hd⟩ : ∃ dh dl, IsW dh dl (fz (fz (a + b) - b)) := ⟨_, _, IsW.mk' (fz_fits _)⟩
  refine back_walk x y x0 x1 y0 y1 ah al bh bl ch cl (fe (a + b)) dh dl (fe (fz (a + b) - b)) (fun w => (add_any _ _ _ _ _ _ X Y w).mono fun _ _ => retWE_det hc) (fun w => (sub_any _ _ _ _ _ _ hc Y w).mono fun _ _ => retWE_det hd) ?_ w
  by_cases f : Fits (a + b)
  · refine Or.inr ⟨by rw [fe_of f]; rfl, ?_⟩
    rw [fz_of f, show a + b - b = a by omega, fz_of X.fits] at hd
    rw [fz_of f, show a + b - b = a by omega, fe_of X.fits]
    obtain ⟨rfl, rfl⟩ := (hd.inj X).2 rfl
    exact ⟨by simp, by simp, by rfl⟩
  · have nf : ¬ (-170141183460469231731687303715884105728 ≤ a + b ∧ a + b ≤ 170141183460469231731687303715884105727) := fun h => f ⟨h.1, h.2⟩
    exact Or.inl (by rw [fe_no nf]; rfl)

end Go.Proofs.Ytlgnenogieehnaa
