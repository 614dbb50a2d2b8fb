/- The leaves of package wide: Of, negative, size, plus, minus, Cmp, shiftUp, shiftDown: each call's answer, for every argument. -/
import Derived.Test.YtplhienacfiiaaaDoorBase
namespace Go.Proofs.YtplhienacfiiaaaDoor
open Go.RowKit Go.Shelf

theorem wrapu (x : Int) : IntKind.u64.wrap x = x % 18446744073709551616 := IntKind.wrap_u64 x

theorem of_num (x : Int) (h0 : -9223372036854775808 ≤ x) (h1 : x ≤ 9223372036854775807) : IsW (x / 9223372036854775808) (IntKind.u64.wrap x) x := by
  rw [wrapu]
  exact ⟨by omega, by omega, by omega, by omega, by omega⟩

theorem of_any (x : Int) (h0 : -9223372036854775808 ≤ x) (h1 : x ≤ 9223372036854775807) (w : World) :
    Calls Tryd.prog 85 #[.int .i64 x] w (RetW x w) := by
  go_enter Tryd.func85, Tryd.ntmps85
  go_wp2
  refine bodyPost_ret (v := wv (x / 9223372036854775808) (IntKind.u64.wrap x)) (by simp [results, Tryd.results85, go_sem]) rfl ⟨_, _, rfl, of_num x h0 h1, ?_⟩
  exact (Below.refl _ _).alloc (Nat.le_refl _) _

theorem neg_any (h l z : Int) (x : IsW h l z) (w : World) :
    Calls Tryd.prog 78 #[wv h l] w (RetV (.bool (decide (z < 0))) w) := by
  have hd := Lib.hid (show decide (z < 0) = decide (h < 0) by simp [x.neg])
  go_enter Tryd.func78, Tryd.ntmps78
  go_wp2
  go_ret
  exact ⟨by rw [hd.out]; rfl, (Below.refl _ _).alloc (Nat.le_refl _) _⟩

theorem size_num {x : Int} (h0 : -9223372036854775808 ≤ x) (h : x < 0) : IntKind.u64.wrap (-IntKind.u64.wrap x) = (x.natAbs : Int) := by
  rw [wrapu, wrapu]; omega

theorem wrapi (x : Int) : wrap64 x = s64 x := by unfold wrap64 s64; rfl

theorem plus_num {ah al a bh bl b : Int} (x : IsW ah al a) (y : IsW bh bl b) :
    IsW (wrap64 ((IntKind.u64.wrap ah + IntKind.u64.wrap bh + (al + bl) / 18446744073709551616) % 18446744073709551616)) ((al + bl) % 18446744073709551616) (w128 (a + b)) := by
  have h := isW_mk (ah + bh) (al + bl) (a + b) (by rw [← x.e, ← y.e]; omega)
  rw [wrapi, wrapu, wrapu, s64_mod _ (ah + bh + (al + bl) / 18446744073709551616) (by omega)]
  exact h

theorem plus_any (ah al a bh bl b : Int) (x : IsW ah al a) (y : IsW bh bl b) (w : World) :
    Calls Tryd.prog 77 #[wv ah al, wv bh bl] w (RetW (w128 (a + b)) w) := by
  have x2 := x.l0; have x3 := x.l1
  have y2 := y.l0; have y3 := y.l1
  have k0 : 0 ≤ (al + bl) / 18446744073709551616 := by omega
  have k1 : (al + bl) / 18446744073709551616 ≤ 1 := by omega
  have k2 : 0 ≤ IntKind.u64.wrap ah := by rw [wrapu]; omega
  have k3 : 0 ≤ IntKind.u64.wrap bh := by rw [wrapu]; omega
  go_enter Tryd.func77, Tryd.ntmps77
  go_wp2_with (first | simp only [add64_0 al bl x2 y2] | simp only [add64 _ _ _ k2 k3 k0 k1])
  refine bodyPost_ret (v := wv (wrap64 ((IntKind.u64.wrap ah + IntKind.u64.wrap bh + (al + bl) / 18446744073709551616) % 18446744073709551616)) ((al + bl) % 18446744073709551616)) (by simp [results, Tryd.results77, go_sem]) rfl ⟨_, _, rfl, plus_num x y, ?_⟩
  exact b_alloc (b_alloc (b_alloc (Below.refl _ _)))

theorem minus_num {ah al a bh bl b : Int} (x : IsW ah al a) (y : IsW bh bl b) :
    IsW (wrap64 ((IntKind.u64.wrap ah - IntKind.u64.wrap bh - bor al bl) % 18446744073709551616)) ((al - bl) % 18446744073709551616) (w128 (a - b)) := by
  have h := isW_mk (ah - bh) (al - bl) (a - b) (by rw [← x.e, ← y.e]; omega)
  have hb : bor al bl = -((al - bl) / 18446744073709551616) := by
    obtain ⟨_, _, x2, x3, _⟩ := x; obtain ⟨_, _, y2, y3, _⟩ := y
    unfold bor; split <;> omega
  rw [wrapi, wrapu, wrapu, hb, s64_mod _ (ah - bh + (al - bl) / 18446744073709551616) (by omega)]
  exact h

theorem minus_any (ah al a bh bl b : Int) (x : IsW ah al a) (y : IsW bh bl b) (w : World) :
    Calls Tryd.prog 81 #[wv ah al, wv bh bl] w (RetW (w128 (a - b)) w) := by
  have x2 := x.l0; have x3 := x.l1
  have y2 := y.l0; have y3 := y.l1
  obtain ⟨k0, k1⟩ := bor_01 al bl
  have k2 : 0 ≤ IntKind.u64.wrap ah := by rw [wrapu]; omega
  have k3 : 0 ≤ IntKind.u64.wrap bh := by rw [wrapu]; omega
  have k4 : IntKind.u64.wrap bh ≤ 18446744073709551615 := by rw [wrapu]; omega
  go_enter Tryd.func81, Tryd.ntmps81
  go_wp2_with (first | simp only [sub64_0 al bl x2 y2 y3] | simp only [sub64_b _ _ _ k2 k3 k4 k0 k1])
  refine bodyPost_ret (v := wv (wrap64 ((IntKind.u64.wrap ah - IntKind.u64.wrap bh - bor al bl) % 18446744073709551616)) ((al - bl) % 18446744073709551616)) (by simp [results, Tryd.results81, go_sem]) rfl ⟨_, _, rfl, minus_num x y, ?_⟩
  exact b_alloc (b_alloc (b_alloc (Below.refl _ _)))

/-- How two numbers stand. -/
def cmp3 (a b : Int) : Int := if a = b then 0 else if a < b then -1 else 1
theorem cmp3_eq (a : Int) : cmp3 a a = 0 := by simp [cmp3]
theorem cmp3_lt {a b : Int} (h : a < b) : cmp3 a b = -1 := by unfold cmp3; rw [if_neg (by omega), if_pos h]
theorem cmp3_gt {a b : Int} (h : b < a) : cmp3 a b = 1 := by unfold cmp3; rw [if_neg (by omega), if_neg (by omega)]

theorem cmp_any (ah al a bh bl b : Int) (x : IsW ah al a) (y : IsW bh bl b) (w : World) :
    Calls Tryd.prog 84 #[wv ah al, wv bh bl] w (RetV (.int .i64 (cmp3 a b)) w) := by
  by_cases e : a = b
  · obtain ⟨rfl, rfl⟩ := (x.inj y).2 e
    subst e
    rw [cmp3_eq]
    clear x y
    go_enter Tryd.func84, Tryd.ntmps84
    go_wp2
    go_ret
    exact ⟨rfl, ((Below.refl _ _).alloc (Nat.le_refl _) _).alloc (by simp) _⟩
  · by_cases g : ah = bh
    · subst g
      by_cases k : al < bl
      · rw [cmp3_lt ((x.ltw y).1 (Or.inr ⟨rfl, k⟩))]
        clear x y e
        have k' : (al == bl) = false := by rw [beq_eq_false_iff_ne]; omega
        go_enter Tryd.func84, Tryd.ntmps84
        go_wp2
        go_ret
        exact ⟨rfl, ((Below.refl _ _).alloc (Nat.le_refl _) _).alloc (by simp) _⟩
      · have k2 : bl < al := by
          have := (x.inj y).1
          by_cases z : al = bl
          · exact absurd (this ⟨rfl, z⟩) e
          · omega
        rw [cmp3_gt ((y.ltw x).1 (Or.inr ⟨rfl, k2⟩))]
        clear x y e k
        have k' : (al == bl) = false := by rw [beq_eq_false_iff_ne]; omega
        go_enter Tryd.func84, Tryd.ntmps84
        go_wp2
        go_ret
        exact ⟨rfl, ((Below.refl _ _).alloc (Nat.le_refl _) _).alloc (by simp) _⟩
    · by_cases k : ah < bh
      · rw [cmp3_lt ((x.ltw y).1 (Or.inl k))]
        clear x y e
        have k' : (ah == bh) = false := by rw [beq_eq_false_iff_ne]; omega
        go_enter Tryd.func84, Tryd.ntmps84
        go_wp2
        go_ret
        exact ⟨rfl, ((Below.refl _ _).alloc (Nat.le_refl _) _).alloc (by simp) _⟩
      · have k2 : bh < ah := by omega
        rw [cmp3_gt ((y.ltw x).1 (Or.inl k2))]
        clear x y e k
        have k' : (ah == bh) = false := by rw [beq_eq_false_iff_ne]; omega
        go_enter Tryd.func84, Tryd.ntmps84
        go_wp2
        go_ret
        exact ⟨rfl, ((Below.refl _ _).alloc (Nat.le_refl _) _).alloc (by simp) _⟩

theorem or_i64 (x y : Int) (n : Nat) (hn : n ≤ 64) (k : Int) (hx : x % 18446744073709551616 = k * 2 ^ n % 18446744073709551616) (y0 : 0 ≤ y) (y1 : y < 2 ^ n) :
    bits .or .i64 x y = s64 (k * 2 ^ n + y) := by
  have e0 : (18446744073709551616 : Int) = 2 ^ n * 2 ^ (64 - n) := by rw [← Int.pow_add, show n + (64 - n) = 64 by omega]; rfl
  obtain ⟨y, rfl⟩ := Int.eq_ofNat_of_zero_le y0
  have yl : y < 2 ^ n := by have : ((2 : Int) ^ n) = ((2 ^ n : Nat) : Int) := by norm_cast
                            omega
  have p64 : 2 ^ n ≤ 2 ^ 64 := Nat.pow_le_pow_right (by decide) hn
  have h2 : (BitVec.ofInt 64 (y : Int)).toNat = y := by
    rw [BitVec.ofInt_natCast, BitVec.toNat_ofNat]; exact Nat.mod_eq_of_lt (by omega)
  have h1 : (BitVec.ofInt 64 x).toNat = (x % 18446744073709551616).toNat := by
    rw [BitVec.toNat_ofInt]; rfl
  have h3 : ∃ m : Nat, (x % 18446744073709551616).toNat = m <<< n := by
    have : x % 18446744073709551616 = (k % 2 ^ (64 - n)) * 2 ^ n := by
      rw [hx, e0, Int.mul_comm k, Int.mul_emod_mul_of_pos _ _ (Int.pow_pos (by decide)), Int.mul_comm]
    have k0 : 0 ≤ k % 2 ^ (64 - n) := Int.emod_nonneg _ (by have : (0 : Int) < 2 ^ (64 - n) := Int.pow_pos (by decide); omega)
    obtain ⟨m, hm⟩ := Int.eq_ofNat_of_zero_le k0
    refine ⟨m, ?_⟩
    rw [this, hm, Nat.shiftLeft_eq]
    norm_cast
  obtain ⟨m, hm⟩ := h3
  show IntKind.i64.wrap ((BitVec.ofInt 64 x ||| BitVec.ofInt 64 (y : Int)).toNat : Int) = _
  rw [BitVec.toNat_or, h1, h2, hm, ← Nat.shiftLeft_add_eq_or_of_lt yl, ← hm]
  rw [show ∀ z, IntKind.i64.wrap z = s64 z from fun z => IntKind.wrap_i64 z]
  apply s64_mod
  omega

theorem or_u64 (x y : Int) (n : Nat) (hn : n ≤ 64) (k : Int) (hx : x = k * 2 ^ n % 18446744073709551616) (y0 : 0 ≤ y) (y1 : y < 2 ^ n) :
    bits .or .u64 y x = y + x := by
  have e0 : (18446744073709551616 : Int) = 2 ^ n * 2 ^ (64 - n) := by rw [← Int.pow_add, show n + (64 - n) = 64 by omega]; rfl
  obtain ⟨y, rfl⟩ := Int.eq_ofNat_of_zero_le y0
  have yl : y < 2 ^ n := by have : ((2 : Int) ^ n) = ((2 ^ n : Nat) : Int) := by norm_cast
                            omega
  have p64 : 2 ^ n ≤ 2 ^ 64 := Nat.pow_le_pow_right (by decide) hn
  have x0 : 0 ≤ x := by omega
  have x1 : x < 18446744073709551616 := by omega
  have h3 : ∃ m : Nat, x = ((m <<< n : Nat) : Int) := by
    have : x = (k % 2 ^ (64 - n)) * 2 ^ n := by
      rw [hx, e0, Int.mul_comm k, Int.mul_emod_mul_of_pos _ _ (Int.pow_pos (by decide)), Int.mul_comm]
    have k0 : 0 ≤ k % 2 ^ (64 - n) := Int.emod_nonneg _ (by have : (0 : Int) < 2 ^ (64 - n) := Int.pow_pos (by decide); omega)
    obtain ⟨m, hm⟩ := Int.eq_ofNat_of_zero_le k0
    refine ⟨m, ?_⟩
    rw [this, hm, Nat.shiftLeft_eq]
    norm_cast
  obtain ⟨m, hm⟩ := h3
  rw [hm, bits_or_u64_nat y (m <<< n) (by omega) (by omega), Nat.or_comm, ← Nat.shiftLeft_add_eq_or_of_lt yl]
  omega

theorem pow_nat (n : Int) : (2 : Int) ^ n.toNat = ((2 ^ n.toNat : Nat) : Int) := by norm_cast

/-- What shiftUp reckons below 64. -/
theorem up_num {ah al a n : Int} (x : IsW ah al a) (n0 : 0 ≤ n) (n1 : n ≤ 63) :
    IsW (bits .or .i64 (wrap64 (ah * 2 ^ n.toNat)) (wrap64 (al / 2 ^ (64 - n).toNat))) (IntKind.u64.wrap (al * 2 ^ n.toNat)) (w128 (a * 2 ^ n.toNat)) := by
  have h := pq_of n n0 (by omega)
  have u := h.isW_up x
  have l1 := h.up_lt al x.l1
  have l0 := (h.up al x.l0).2
  have p63 : (2 : Int) ^ n.toNat ≤ 9223372036854775808 := by
    rw [pow_nat]
    have : 2 ^ n.toNat ≤ 2 ^ 63 := Nat.pow_le_pow_right (by decide) (by omega)
    omega
  rw [wrapi, wrapi, wrapu]
  rw [show s64 (al / 2 ^ (64 - n).toNat) = al / 2 ^ (64 - n).toNat by unfold s64; omega]
  rw [or_i64 (s64 (ah * 2 ^ n.toNat)) (al / 2 ^ (64 - n).toNat) n.toNat (by omega) ah (by unfold s64; omega) l0 l1]
  exact u

theorem up_low (ah al a n : Int) (x : IsW ah al a) (n0 : 0 ≤ n) (n1 : n ≤ 63) (w : World) :
    Calls Tryd.prog 82 #[wv ah al, .int .i64 n] w (RetW (w128 (a * 2 ^ n.toNat)) w) := by
  have hn := Lib.hid (up_num x n0 n1)
  have x0 := x.l0; have x1 := x.l1
  clear x
  go_enter Tryd.func82, Tryd.ntmps82
  go_wp2
  go_region
  go_wp2
  refine bodyPost_ret (v := wv (bits BinOp.or IntKind.i64 (wrap64 (ah * 2 ^ n.toNat)) (wrap64 (al / 2 ^ (64 - n).toNat))) (IntKind.u64.wrap (al * 2 ^ n.toNat))) (by simp [results, Tryd.results82, go_sem]) rfl ⟨_, _, rfl, hn.out, ?_⟩
  exact b_drew (b_alloc (b_alloc (Below.refl _ _)))

theorem up_high (ah al a n : Int) (x : IsW ah al a) (n0 : 64 ≤ n) (n1 : n ≤ 127) (w : World) :
    Calls Tryd.prog 82 #[wv ah al, .int .i64 n] w (RetW (w128 (a * 2 ^ n.toNat)) w) := by
  have hn := isW_upHigh x (2 ^ (n - 64).toNat)
  rw [← pow_high n n0, s64_mod _ (al * 2 ^ (n - 64).toNat % 18446744073709551616) (by omega), ← wrapu, ← wrapi] at hn
  go_enter Tryd.func82, Tryd.ntmps82
  go_wp2
  refine bodyPost_ret (v := wv (wrap64 (IntKind.u64.wrap (al * 2 ^ (n - 64).toNat))) 0) (by simp [results, Tryd.results82, go_sem]) rfl ⟨_, _, rfl, hn, ?_⟩
  exact b_alloc (b_alloc (Below.refl _ _))

theorem down_num {ah al a n : Int} (x : IsW ah al a) (n0 : 0 ≤ n) (n1 : n ≤ 63) :
    IsW (ah / 2 ^ n.toNat) (bits .or .u64 (al / 2 ^ n.toNat) (IntKind.u64.wrap (IntKind.u64.wrap ah * 2 ^ (64 - n).toNat))) (a / 2 ^ n.toNat) := by
  have h := pq_of n n0 (by omega)
  have u := h.down x
  have h' : Pq (2 ^ (64 - n).toNat) (2 ^ n.toNat) := ⟨h.q0, h.p0, by rw [Int.mul_comm]; exact h.e⟩
  have l0 := (h'.up al x.l0).2
  have l1 := h'.up_lt al x.l1
  have e : IntKind.u64.wrap (IntKind.u64.wrap ah * 2 ^ (64 - n).toNat) = ah * 2 ^ (64 - n).toNat % 18446744073709551616 := by
    rw [wrapu, wrapu, Int.mul_emod, Int.emod_emod, ← Int.mul_emod]
  rw [e, or_u64 _ (al / 2 ^ n.toNat) (64 - n).toNat (by omega) ah rfl l0 l1]
  exact u

theorem down_low (ah al a n : Int) (x : IsW ah al a) (n0 : 0 ≤ n) (n1 : n ≤ 63) (w : World) :
    Calls Tryd.prog 80 #[wv ah al, .int .i64 n] w (RetW (a / 2 ^ n.toNat) w) := by
  have hn := Lib.hid (down_num x n0 n1)
  have x0 := x.l0; have x1 := x.l1
  clear x
  go_enter Tryd.func80, Tryd.ntmps80
  go_wp2
  go_region
  go_wp2
  refine bodyPost_ret (v := wv (ah / 2 ^ n.toNat) (bits BinOp.or IntKind.u64 (al / 2 ^ n.toNat) (IntKind.u64.wrap (IntKind.u64.wrap ah * 2 ^ (64 - n).toNat)))) (by simp [results, Tryd.results80, go_sem]) rfl ⟨_, _, rfl, hn.out, ?_⟩
  exact b_drew (b_alloc (b_alloc (Below.refl _ _)))

theorem down_high (ah al a n : Int) (x : IsW ah al a) (n0 : 64 ≤ n) (n1 : n ≤ 127) (w : World) :
    Calls Tryd.prog 80 #[wv ah al, .int .i64 n] w (RetW (a / 2 ^ n.toNat) w) := by
  obtain ⟨e, e0, e1⟩ := downHigh x (2 ^ (n - 64).toNat) (by have : (0 : Int) < 2 ^ (n - 64).toNat := Int.pow_pos (by decide); omega)
  rw [← pow_high n n0] at e
  have E := Lib.hid e; clear e
  go_enter Tryd.func80, Tryd.ntmps80
  go_wp2_with (go_at_call 85; refine (of_any _ e0 e1 _).mono ?_; rintro e w' ⟨rh, rl, rfl, hr, hb⟩; obtain ⟨hc, hf⟩ := bcell hb)
  refine bodyPost_ret (v := wv rh rl) (by simp [results, Tryd.results80, go_sem, hc]) rfl ⟨_, _, rfl, by rw [E.out]; exact hr, ?_⟩
  exact b_set (b_set (b_trans (b_alloc (b_alloc (Below.refl _ _))) hb) (Nat.le_add_right _ _)) (Nat.le_add_right _ _)

theorem up_any (ah al a n : Int) (x : IsW ah al a) (n0 : 0 ≤ n) (n1 : n ≤ 127) (w : World) :
    Calls Tryd.prog 82 #[wv ah al, .int .i64 n] w (RetW (w128 (a * 2 ^ n.toNat)) w) := by
  by_cases h : n ≤ 63
  · exact up_low ah al a n x n0 h w
  · exact up_high ah al a n x (by omega) n1 w

theorem down_any (ah al a n : Int) (x : IsW ah al a) (n0 : 0 ≤ n) (n1 : n ≤ 127) (w : World) :
    Calls Tryd.prog 80 #[wv ah al, .int .i64 n] w (RetW (a / 2 ^ n.toNat) w) := by
  by_cases h : n ≤ 63
  · exact down_low ah al a n x n0 h w
  · exact down_high ah al a n x (by omega) n1 w

end Go.Proofs.YtplhienacfiiaaaDoor
