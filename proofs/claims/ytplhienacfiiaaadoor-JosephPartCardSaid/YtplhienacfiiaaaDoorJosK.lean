/- JosephPart: the law's call answers true. -/
import Derived.Test.YtplhienacfiiaaaDoorJosS
namespace Go.Proofs.YtplhienacfiiaaaDoor
open Go.RowKit Go.Shelf

/-- An entry of nothing. -/
theorem j_void {m k : Nat → Int} {s : Int} {i j g : Nat} (h : k i * m j + k j * m i = 0) (n : k i * k j = 0) (z : m g = 0) : jy m k s i j g = 0 ∧ jf m k s i j g = 0 := by
  have ez : evn 0 1099511627776 = 0 := by decide +kernel
  have nn : nz 0 = 0 ∧ ne 0 = 0 := nz_of (by decide)
  have e1 : jT m k i j = 0 := by unfold jT; rw [h]; exact ez
  have e2 : jt m k i j = 0 := by unfold jt; rw [e1]; exact nn.1
  have e3 : jl m k i j g = 0 := by unfold jl; rw [e2, z]; exact nn.1
  have e4 : jq k i j = 0 := by unfold jq; rw [n, ez]; exact nn.1
  have e5 : ju k s i j = 0 := by unfold ju; rw [e4, Int.zero_mul, ez]; exact nn.1
  have a : JA m k s i j g := ⟨by rw [e1]; exact nn.2, by rw [e2, z]; exact nn.2, by rw [n, ez]; exact nn.2, by rw [e4, Int.zero_mul, ez]; exact nn.2, by rw [e3, e5]; exact nn.2⟩
  refine ⟨?_, (j_yes a).2⟩
  rw [(j_yes a).1]
  unfold jx
  rw [e3, e5]
  exact nn.1
/-- What Doubt answers for a doubt that is its entry 00 alone. -/
theorem doubt_part (a n k : Int) (a0 : 0 ≤ a) (a1 : a ≤ 36028797018963968) (n0 : 0 ≤ n) (n1 : n ≤ 36028797018963968) (k0 : 0 ≤ k) (k1 : k ≤ 1099511627776) : ∃ p : Int,
    (∀ w, PL w → Calls Tryd.prog 10 #[.agg #[.int .i64 a, .int .i64 0, .int .i64 0, .int .i64 0, .int .i64 0, .int .i64 0], tv k 0 0, .int .i64 (a + n)] w (RetV (.tuple #[.agg #[.int .i64 p, .int .i64 0, .int .i64 0, .int .i64 0, .int .i64 0, .int .i64 0], .int .i64 0]) w)) ∧
    -((a + n) / 1099511627776 + 3) ≤ p ∧ (∀ M, a ≤ M → n ≤ M → p ≤ M + ((a + n) / 1099511627776 + 3)) := by
  have hb := part_bd (q := evn (k * k) 1099511627776) (t := evn (k * a + k * a) 1099511627776) (u := evn (evn (k * k) 1099511627776 * (a + n)) 1099511627776) a0 n0 k0 k1 rfl rfl rfl
  have B : (0 : Int) < 1099511627776 := by decide
  have et := evn_err (k * a + k * a) B
  have eq := evn_err (k * k) B
  have ka0 := Int.mul_nonneg k0 a0
  have kk0 := Int.mul_nonneg k0 k0
  have ka1 : k * a ≤ 1099511627776 * 36028797018963968 := Int.mul_le_mul k1 a1 a0 (by decide)
  have kk1 : k * k ≤ 1099511627776 * 1099511627776 := Int.mul_le_mul k1 k1 k0 (by decide)
  have q0 : 0 ≤ evn (k * k) 1099511627776 := by omega
  have q1 : evn (k * k) 1099511627776 ≤ 1099511627776 := by omega
  have eu := evn_err (evn (k * k) 1099511627776 * (a + n)) B
  have qs0 := Int.mul_nonneg q0 (show 0 ≤ a + n by omega)
  have qs1 : evn (k * k) 1099511627776 * (a + n) ≤ 1099511627776 * 72057594037927936 := Int.mul_le_mul q1 (by omega) (by omega) (by decide)
  have ft : FitP (evn (k * a + k * a) 1099511627776) := ⟨by omega, by omega⟩
  have fl : FitP (a - evn (k * a + k * a) 1099511627776) := ⟨by omega, by omega⟩
  have fq : FitP (evn (k * k) 1099511627776) := ⟨by omega, by omega⟩
  have fu : FitP (evn (evn (k * k) 1099511627776 * (a + n)) 1099511627776) := ⟨by omega, by omega⟩
  have fx : FitP (a - evn (k * a + k * a) 1099511627776 + evn (evn (k * k) 1099511627776 * (a + n)) 1099511627776) := ⟨by omega, by omega⟩
  have m0 : jof a 0 0 0 = a ∧ jof k 0 0 0 = k := ⟨rfl, rfl⟩
  have e1 : jT (jof a 0 0) (jof k 0 0) 0 0 = evn (k * a + k * a) 1099511627776 := rfl
  have e2 : jt (jof a 0 0) (jof k 0 0) 0 0 = evn (k * a + k * a) 1099511627776 := (nz_of ft).1
  have e3 : jl (jof a 0 0) (jof k 0 0) 0 0 0 = a - evn (k * a + k * a) 1099511627776 := by unfold jl; rw [e2, m0.1]; exact (nz_of fl).1
  have e4 : jq (jof k 0 0) 0 0 = evn (k * k) 1099511627776 := (nz_of fq).1
  have e5 : ju (jof k 0 0) (a + n) 0 0 = evn (evn (k * k) 1099511627776 * (a + n)) 1099511627776 := by unfold ju; rw [e4]; exact (nz_of fu).1
  have ja : JA (jof a 0 0) (jof k 0 0) (a + n) 0 0 0 := ⟨(nz_of ft).2, by rw [e2, m0.1]; exact (nz_of fl).2, (nz_of fq).2, by rw [e4]; exact (nz_of fu).2, by rw [e3, e5]; exact (nz_of fx).2⟩
  have ey : jy (jof a 0 0) (jof k 0 0) (a + n) 0 0 0 = a - evn (k * a + k * a) 1099511627776 + evn (evn (k * k) 1099511627776 * (a + n)) 1099511627776 := by
    rw [(j_yes ja).1]; unfold jx; rw [e3, e5]; exact (nz_of fx).1
  have V : ∀ i j g : Nat, i ≠ 0 → g ≠ 0 → jy (jof a 0 0) (jof k 0 0) (a + n) i j g = 0 ∧ jf (jof a 0 0) (jof k 0 0) (a + n) i j g = 0 := fun i j g hi hg => by
    have z : ∀ (x : Int) (r : Nat), r ≠ 0 → jof x 0 0 r = 0 := fun x r hr => by unfold jof; rw [if_neg hr]; split <;> rfl
    exact j_void (by rw [z k i hi, z a i hi, Int.zero_mul, Int.mul_zero]; rfl) (by rw [z k i hi, Int.zero_mul]) (z a g hg)
  have da : DA (jof a 0 0) (jof k 0 0) (a + n) := ⟨(j_yes ja).2, (V 1 0 1 (by decide) (by decide)).2, (V 2 0 2 (by decide) (by decide)).2, (V 1 1 3 (by decide) (by decide)).2, (V 2 1 4 (by decide) (by decide)).2, (V 2 2 5 (by decide) (by decide)).2⟩
  have fz : ∀ (x : Int), FitP x → ∀ r : Nat, FitP (jof x 0 0 r) := fun x hx r => by
    unfold jof
    split
    · exact hx
    · split <;> decide
  have fa : FitP a := ⟨by omega, by omega⟩
  have fk : FitP k := ⟨by omega, by omega⟩
  have fs : FitP (a + n) := ⟨by omega, by omega⟩
  have dk : DK (jof a 0 0) (jof k 0 0) (a + n) := ⟨fun i _ => fz a fa i, ⟨fk, fz k fk 1, fz k fk 2⟩, fs⟩
  have h := doubt_any (jof a 0 0) (jof k 0 0) (a + n) (fun i _ => by have := fz a fa i; exact ⟨by omega, by omega⟩) ⟨by show _ ≤ k; omega, by show k ≤ _; omega⟩ (by show I64 0; decide) (by show I64 0; decide) ⟨by omega, by omega⟩
  rw [(d_ok dk da).1, (d_ok dk da).2] at h
  refine ⟨_, fun w hp => ?_, hb⟩
  have E : sv (dby (jof a 0 0) (jof k 0 0) (a + n)) = .agg #[.int .i64 (a - evn (k * a + k * a) 1099511627776 + evn (evn (k * k) 1099511627776 * (a + n)) 1099511627776), .int .i64 0, .int .i64 0, .int .i64 0, .int .i64 0, .int .i64 0] := by
    rw [show sv (dby (jof a 0 0) (jof k 0 0) (a + n)) = .agg #[.int .i64 (jy (jof a 0 0) (jof k 0 0) (a + n) 0 0 0), .int .i64 (jy (jof a 0 0) (jof k 0 0) (a + n) 1 0 1), .int .i64 (jy (jof a 0 0) (jof k 0 0) (a + n) 2 0 2), .int .i64 (jy (jof a 0 0) (jof k 0 0) (a + n) 1 1 3), .int .i64 (jy (jof a 0 0) (jof k 0 0) (a + n) 2 1 4), .int .i64 (jy (jof a 0 0) (jof k 0 0) (a + n) 2 2 5)] from rfl,
      ey, (V 1 0 1 (by decide) (by decide)).1, (V 2 0 2 (by decide) (by decide)).1, (V 1 1 3 (by decide) (by decide)).1, (V 2 1 4 (by decide) (by decide)).1, (V 2 2 5 (by decide) (by decide)).1]
  rw [E] at h
  exact h w hp

set_option maxHeartbeats 4000000 in
set_option maxRecDepth 10000 in
theorem part_go (a' n' k' c0 a d0 n h0 k s p sl ns mx up : Int) (J0 : jof p 0 0 0 = p) (J1 : jof p 0 0 1 = 0) (J5 : jof p 0 0 5 = 0)
    (E0 : (if 36028797018963968 < a' then 36028797018963968 else a') = c0) (E1 : (if c0 < 0 then 0 else c0) = a) (E2 : (if 36028797018963968 < n' then 36028797018963968 else n') = d0) (E3 : (if d0 < 0 then 0 else d0) = n)
    (E4 : (if 1099511627776 < k' then 1099511627776 else k') = h0) (E5 : (if h0 < 0 then 0 else h0) = k) (E6 : IntKind.i64.wrap (a + n) = s) (E7 : wrap64 (s / 1099511627776 + 3) = sl) (E8 : IntKind.i64.wrap (-sl) = ns) (E10 : (if a < n then n else a) = mx) (E11 : IntKind.i64.wrap (mx + sl) = up) (G1 : ns ≤ p) (G2 : p ≤ up)
    (cD : ∀ w, PL w → Calls Tryd.prog 10 #[.agg #[.int .i64 a, .int .i64 0, .int .i64 0, .int .i64 0, .int .i64 0, .int .i64 0], tv k 0 0, .int .i64 s] w (RetV (.tuple #[.agg #[.int .i64 p, .int .i64 0, .int .i64 0, .int .i64 0, .int .i64 0, .int .i64 0], .int .i64 0]) w)) (w : World) (hp : PL w) :
    Calls Tryd.prog 6 #[.int .i64 a', .int .i64 n', .int .i64 k'] w (RetV (.bool true) w) := by
  go_enter Tryd.func6, Tryd.ntmps6
  go_wp2_with fail
  refine (cD _ hp).mono ?_
  rintro e1 w1 ⟨rfl, hb⟩
  have P := pl_keep hb hp
  have D : SC6 (w1.alloc (Obj.cells #[.int .i64 p, .int .i64 0, .int .i64 0, .int .i64 0, .int .i64 0, .int .i64 0] 32)) w1.heap.size (jof p 0 0) := sc_six (sc_new (m := jof p 0 0) rfl)
  have B := b_alloc (o := (Obj.cells #[.int .i64 p, .int .i64 0, .int .i64 0, .int .i64 0, .int .i64 0, .int .i64 0] 32)) hb
  replace P := pl_keep (b_alloc (o := (Obj.cells #[.int .i64 p, .int .i64 0, .int .i64 0, .int .i64 0, .int .i64 0, .int .i64 0] 32)) (Below.refl _ _)) P
  clear hb cD hp
  go_wp2_with fail
  refine (fixed_jos _ P).mono ?_
  rintro e2 w2 ⟨rfl, hb⟩
  replace D := sc_six (sc_keep hb (six_sc D))
  replace B := b_trans B hb
  clear hb P
  obtain ⟨D0, D1, D2, D3, D4, D5⟩ := D
  rw [J0] at D0
  rw [J1] at D1
  rw [J5] at D5
  clear D2 D3 D4 J0 J1 J5
  go_wp2
  go_ret
  exact ⟨rfl, B⟩

theorem josephPart_any (a' n' k' : Int) (w : World) (hp : PL w) :
    Calls Tryd.prog 6 #[.int .i64 a', .int .i64 n', .int .i64 k'] w (RetV (.bool true) w) := by
  have clamp : ∀ {x M c u : Int}, 0 ≤ M → (if M < x then M else x) = c → (if c < 0 then 0 else c) = u → 0 ≤ u ∧ u ≤ M := fun {x M c u} hM h1 h2 => by
    subst h1
    subst h2
    split <;> split <;> omega
  generalize E0 : (if 36028797018963968 < a' then 36028797018963968 else a') = c0
  generalize E1 : (if c0 < 0 then 0 else c0) = a
  generalize E2 : (if 36028797018963968 < n' then 36028797018963968 else n') = d0
  generalize E3 : (if d0 < 0 then 0 else d0) = n
  generalize E4 : (if 1099511627776 < k' then 1099511627776 else k') = h0
  generalize E5 : (if h0 < 0 then 0 else h0) = k
  obtain ⟨a0, a1⟩ := clamp (by decide) E0 E1
  obtain ⟨n0, n1⟩ := clamp (by decide) E2 E3
  obtain ⟨k0, k1⟩ := clamp (by decide) E4 E5
  obtain ⟨p, cD, lo, hi⟩ := doubt_part a n k a0 a1 n0 n1 k0 k1
  generalize hsl : (a + n) / 1099511627776 + 3 = sl at *
  have s0 : 3 ≤ sl ∧ sl ≤ 65539 := by omega
  generalize hmx : (if a < n then n else a) = mx
  have hm : a ≤ mx ∧ n ≤ mx ∧ mx ≤ 36028797018963968 := by
    subst hmx
    split <;> omega
  have top := hi mx hm.1 hm.2.1
  clear hi
  exact part_go a' n' k' c0 a d0 n h0 k (a + n) p sl (-sl) mx (mx + sl) rfl rfl rfl E0 E1 E2 E3 E4 E5 (by rw [IntKind.wrap_i64]; omega) (by rw [hsl]; unfold wrap64; omega) (by rw [IntKind.wrap_i64]; omega) hmx (by rw [IntKind.wrap_i64]; omega) lo top cD w hp

end Go.Proofs.YtplhienacfiiaaaDoor
