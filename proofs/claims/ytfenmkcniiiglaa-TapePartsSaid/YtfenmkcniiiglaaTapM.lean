/- Layer 21: two slices of the same ticks; the sum of bytes, the program's and the document's. -/
import Derived.Test.YtfenmkcniiiglaaTapL
namespace Go.Proofs.Ytfenmkcniiiglaa
open Go.RowKit Go.Shelf Go.Joins

set_option maxHeartbeats 4000000 in
set_option maxRecDepth 10000 in
theorem same_any (l : List Tk) (hl : l.length ≤ 100000) (sa sb : Option Addr) (ca cb : Nat) (w : World) (ha : TS w sa l) (hb : TS w sb l) :
    Calls Try.prog 11 #[.slice sa l.length ca, .slice sb l.length cb] w (RetV (.bool true) w) := by
  generalize hn : l.length = n at *
  go_enter Try.func11, Try.ntmps11
  go_wp2
  go_loopw [5] (fun iv wr => ∃ k : Nat, k ≤ n ∧ iv = .int .i64 k ∧ Below w.heap.size w wr) (fun iv _ => n - (intOf iv).toNat)
  case atStart => exact ⟨0, Nat.zero_le _, rfl, Below.refl _ _⟩
  case round =>
    obtain ⟨k, hk, rfl, E⟩ := hrel
    by_cases hlt : k < n
    · obtain ⟨t, ht⟩ : ∃ t, l[k]? = some t := ⟨l[k]'(by omega), List.getElem?_eq_getElem _⟩
      obtain ⟨g1, o1, rfl, t1⟩ := ha k t ht
      obtain ⟨g2, o2, rfl, t2⟩ := hb k t ht
      replace t1 := tw_keep E t1
      replace t2 := tw_keep E t2
      obtain ⟨a, h, p, s⟩ := t
      simp only at t1 t2
      obtain ⟨p0, p1, p2, p3⟩ := t1
      obtain ⟨q0, q1, q2, q3⟩ := t2
      have hlk : (k : Int) < n := by omega
      have hk0 : (0 : Int) ≤ k := by omega
      have ws : IntKind.i64.wrap ((k : Int) + 1) = (k : Int) + 1 := by rw [IntKind.wrap_i64]; omega
      clear ha hb ht
      go_wp2
      go_quiet (fail)
      have E1 : Below w.heap.size w (wr.drewN nq) := b_drewN E
      generalize wr.drewN nq = y0 at *
      clear p0 p1 p2 p3 q0 q1 q2 q3
      go_wp2
      refine ⟨⟨k + 1, by omega, rfl, E1⟩, ?_⟩
      simp only [intOf]
      omega
    · have hlk : ¬ (k : Int) < n := by omega
      have e : k = n := by omega
      subst e
      clear hlt hk
      go_wp2
      exact bodyPost_ret (v := .bool true) (by simp [results, Try.results11, go_sem]) rfl ⟨rfl, E⟩

/-- The sum's start. -/
abbrev s0 : Nat := 14695981039346656037
theorem sb_take {l : List Int} {k : Nat} {c : Int} (h : l[k]? = some c) (s : Nat) : sb s (l.take (k + 1)) = stp (sb s (l.take k)) c.toNat := by
  rw [List.take_add_one, h]
  exact sb_snoc c _ s
theorem sum_step {s c : Nat} (hs : s < 18446744073709551616) (hc : c < 256) : IntKind.u64.wrap (bits .xor .u64 (s : Int) (c : Int) * 1099511628211) = (stp s c : Int) := by
  rw [u64_xor_nat s c hs (by omega), IntKind.wrap_u64, stp]
  omega
set_option maxHeartbeats 4000000 in
set_option maxRecDepth 10000 in
theorem sum_any (l : List Int) (hz : By l) (hl : l.length ≤ 100000) (sa : Option Addr) (cap : Nat) (w : World) (hc : US w 0 sa l) :
    Calls Try.prog 15 #[.slice sa l.length cap] w (RetV (.int .u64 (sb s0 l : Nat)) w) := by
  generalize hn : l.length = n at *
  go_enter Try.func15, Try.ntmps15
  go_wp2
  go_loopw [3, 8] (fun sv iv wr => ∃ k : Nat, k ≤ n ∧ iv = .int .i64 k ∧ sv = .int .u64 (sb s0 (l.take k) : Nat) ∧ Below w.heap.size w wr) (fun _ iv _ => n - (intOf iv).toNat)
  case atStart => exact ⟨0, Nat.zero_le _, rfl, rfl, Below.refl _ _⟩
  case round =>
    obtain ⟨k, hk, rfl, rfl, E⟩ := hrel
    by_cases hlt : k < n
    · obtain ⟨c, ht⟩ : ∃ c, l[k]? = some c := ⟨l[k]'(by omega), List.getElem?_eq_getElem _⟩
      obtain ⟨gb, off, rfl, -, c0⟩ := hc k c ht
      replace c0 := cell_keep E c0
      obtain ⟨b0, b1⟩ := hz c (List.mem_of_getElem? ht)
      have hlk : (k : Int) < n := by omega
      have hk0 : (0 : Int) ≤ k := by omega
      have ws : IntKind.i64.wrap ((k : Int) + 1) = (k : Int) + 1 := by rw [IntKind.wrap_i64]; omega
      have st := sb_take ht s0
      have lt := sb_lt (l.take k) s0 (by decide)
      obtain ⟨d, rfl⟩ := Int.eq_ofNat_of_zero_le b0
      have HS := Lib.hid st
      have s1 := sum_step lt (show d < 256 by omega)
      have wd : IntKind.u64.wrap (d : Int) = d := by rw [IntKind.wrap_u64]; omega
      clear hc ht st hz
      generalize sb s0 (l.take k) = s at *
      rw [Int.toNat_natCast] at HS
      have S1 := Lib.hid s1
      clear s1
      go_wp2
      refine ⟨⟨k + 1, by omega, rfl, by rw [HS.out, S1.out], E⟩, ?_⟩
      simp only [intOf]
      omega
    · have hlk : ¬ (k : Int) < n := by omega
      have e : k = n := by omega
      subst e
      rw [List.take_of_length_le (by omega)]
      clear hlt hk hc
      generalize sb s0 l = s at *
      go_wp2
      exact bodyPost_ret (v := .int .u64 s) (by simp [results, Try.results15, go_sem]) rfl ⟨rfl, E⟩

theorem xb_step {a b k : Nat} : xb a b (k + 1) = xb a b k + (if a / 2 ^ k % 2 = b / 2 ^ k % 2 then 0 else 2 ^ k) := rfl
theorem xb_lt (a b : Nat) (k : Nat) : xb a b k < 2 ^ k := by
  rw [xb_xor]
  exact Nat.mod_lt _ (Nat.two_pow_pos k)
set_option maxHeartbeats 4000000 in
set_option maxRecDepth 10000 in
theorem rsum_any (l : List Int) (hz : By l) (hl : l.length ≤ 100000) (S : ByteArray) (hS : SB S l) (w : World) :
    Calls Try.prog 16 #[.string S] w (RetV (.int .u64 (sb s0 l : Nat)) w) := by
  have hsz := hS.size
  obtain ⟨n, hn⟩ : ∃ n, l.length = n := ⟨_, rfl⟩
  go_enter Try.func16, Try.ntmps16
  go_wp2
  go_loopw [3, 4] (fun sv iv wr => ∃ k : Nat, k ≤ n ∧ iv = .int .i64 k ∧ sv = .int .u64 (sb s0 (l.take k) : Nat) ∧ Below w.heap.size w wr) (fun _ iv _ => n - (intOf iv).toNat)
  case atStart => exact ⟨0, Nat.zero_le _, rfl, rfl, Below.refl _ _⟩
  case round =>
    obtain ⟨k, hk, rfl, rfl, E⟩ := hrel
    have hss : S.size = n := by omega
    by_cases hlt : k < n
    · obtain ⟨c, ht⟩ : ∃ c, l[k]? = some c := ⟨l[k]'(by omega), List.getElem?_eq_getElem _⟩
      obtain ⟨b0, b1⟩ := hz c (List.mem_of_getElem? ht)
      have hks : k < S.size := by omega
      have hv := hS.at' k hks
      rw [show at0 l k = c from by rw [at0, List.getD_eq_getElem?_getD, ht]; rfl] at hv
      have hlk : (k : Int) < n := by omega
      have hk0 : (0 : Int) ≤ k := by omega
      have ws : IntKind.i64.wrap ((k : Int) + 1) = (k : Int) + 1 := by rw [IntKind.wrap_i64]; omega
      have st := sb_take ht s0
      have lt := sb_lt (l.take k) s0 (by decide)
      obtain ⟨d, rfl⟩ := Int.eq_ofNat_of_zero_le b0
      have HS := Lib.hid st
      rw [Int.toNat_natCast] at HS
      have wd : IntKind.u64.wrap (d : Int) = d := by rw [IntKind.wrap_u64]; omega
      have hd : d < 256 := by omega
      clear ht st hz b0 b1
      generalize sb s0 (l.take k) = s at *
      have hx := Lib.hid (xb_byte (n := s) hd)
      obtain ⟨a, ha⟩ : ∃ a, s % 256 = a := ⟨_, rfl⟩
      rw [ha] at hx
      have hal : a < 256 := by omega
      have d1 : (s : Int).tmod 256 = (a : Int) := by rw [Int.tmod_eq_emod_of_nonneg (by omega)]; omega
      have d2 : (s : Int) % 256 = (a : Int) := by omega
      have d3 : IntKind.u64.wrap (a : Int) = a := by rw [IntKind.wrap_u64]; omega
      go_wp2
      go_quiet (fail)
      have E1 : Below w.heap.size w (wr.drewN nq) := b_drewN E
      generalize wr.drewN nq = y0 at *
      clear E d1 d2 d3 hv hsz
      go_wp2
      go_loopw [7, 8, 9] (fun xv uv jv wr => ∃ j : Nat, j ≤ 8 ∧ jv = .int .i64 j ∧ xv = .int .u64 (xb a d j : Nat) ∧ uv = .int .u64 ((2 ^ j : Nat) : Int) ∧ Below w.heap.size w wr) (fun _ _ jv _ => 8 - (intOf jv).toNat)
      case atStart => exact ⟨0, Nat.zero_le _, rfl, rfl, rfl, E1⟩
      case round =>
        clear E1
        obtain ⟨j, hj, rfl, rfl, rfl, E⟩ := hrel
        by_cases hjl : j < 8
        · have hj8 : (j : Int) < 8 := by omega
          have hj0 : (0 : Int) ≤ j := by omega
          have wj : IntKind.i64.wrap ((j : Int) + 1) = (j : Int) + 1 := by rw [IntKind.wrap_i64]; omega
          have e1 : Hid (xb a d (j + 1) = xb a d j + (if a / 2 ^ j % 2 = d / 2 ^ j % 2 then 0 else 2 ^ j)) := Lib.hid rfl
          have xl := xb_lt a d j
          have p0 : 0 < 2 ^ j := Nat.two_pow_pos j
          have p1 : 2 ^ j ≤ 128 := Nat.le_trans (Nat.pow_le_pow_right (by decide) (show j ≤ 7 by omega)) (by decide)
          have e2 : Hid (2 ^ (j + 1) = 2 * 2 ^ j) := Lib.hid (by rw [Nat.pow_succ, Nat.mul_comm])
          generalize xb a d j = x at *
          generalize 2 ^ j = u at *
          have u0 : ¬ (u : Int) = 0 := by omega
          have q1 : (a : Int).tdiv u = ((a / u : Nat) : Int) := by rw [Int.tdiv_eq_ediv_of_nonneg (by omega)]; rfl
          have q2 : (d : Int).tdiv u = ((d / u : Nat) : Int) := by rw [Int.tdiv_eq_ediv_of_nonneg (by omega)]; rfl
          have l1 : a / u ≤ a := Nat.div_le_self _ _
          have l2 : d / u ≤ d := Nat.div_le_self _ _
          generalize a / u = f at *
          generalize d / u = g at *
          have r1 : (f : Int).tmod 2 = ((f % 2 : Nat) : Int) := by rw [Int.tmod_eq_emod_of_nonneg (by omega)]; rfl
          have r2 : (g : Int).tmod 2 = ((g % 2 : Nat) : Int) := by rw [Int.tmod_eq_emod_of_nonneg (by omega)]; rfl
          have m1 : IntKind.u64.wrap (f : Int) = f := by rw [IntKind.wrap_u64]; omega
          have m2 : IntKind.u64.wrap (g : Int) = g := by rw [IntKind.wrap_u64]; omega
          obtain ⟨f2, hf2⟩ : ∃ y, f % 2 = y := ⟨_, rfl⟩
          obtain ⟨g2, hg2⟩ : ∃ y, g % 2 = y := ⟨_, rfl⟩
          have m3 : IntKind.u64.wrap (f2 : Int) = f2 := by rw [IntKind.wrap_u64]; omega
          have m4 : IntKind.u64.wrap (g2 : Int) = g2 := by rw [IntKind.wrap_u64]; omega
          have m5 : IntKind.u64.wrap (2 * (u : Int)) = ((2 * u : Nat) : Int) := by rw [IntKind.wrap_u64]; omega
          have m6 : IntKind.u64.wrap ((x : Int) + u) = ((x + u : Nat) : Int) := by rw [IntKind.wrap_u64]; omega
          rw [hf2] at r1
          rw [hg2] at r2
          rw [hf2, hg2] at e1
          clear hf2 hg2 xl l1 l2
          go_wp2
          go_quiet (fail)
          have E2 : Below w.heap.size w (wr.drewN nq) := b_drewN E
          generalize wr.drewN nq = y1 at *
          have E3 := Lib.hid E2
          clear E E2 q1 q2 r1 r2 m1 m2 m3 m4
          by_cases hfg : f2 = g2
          · subst hfg
            have hb : ((f2 : Int) != (f2 : Int)) = false := by simp
            go_wp2
            refine ⟨⟨j + 1, by omega, rfl, by rw [e1.out, if_pos rfl]; rfl, by rw [e2.out]; simp, E3.out⟩, ?_⟩
            simp only [intOf]
            omega
          · have hb : ((f2 : Int) != (g2 : Int)) = true := by simp; omega
            go_wp2
            refine ⟨⟨j + 1, by omega, rfl, by rw [e1.out, if_neg hfg]; simp, by rw [e2.out]; simp, E3.out⟩, ?_⟩
            simp only [intOf]
            omega
        · have e : j = 8 := by omega
          subst e
          clear hjl hj
          have h1 := hx.out
          have h2 : s ^^^ d < 18446744073709551616 := Nat.xor_lt_two_pow (n := 64) lt (by omega)
          have h3 : a ≤ s := by omega
          obtain ⟨t, ht⟩ : ∃ t, xb a d 8 = t := ⟨_, rfl⟩
          rw [ht] at h1 ⊢
          have S1 : Hid (stp s d = (s ^^^ d) * 1099511628211 % 18446744073709551616) := Lib.hid rfl
          generalize s ^^^ d = y at *
          have m1 : IntKind.u64.wrap ((s : Int) - a) = ((s - a : Nat) : Int) := by rw [IntKind.wrap_u64]; omega
          have m2 : IntKind.u64.wrap (((s - a : Nat) : Int) + t) = (y : Int) := by rw [IntKind.wrap_u64]; omega
          have m3 : IntKind.u64.wrap ((y : Int) * 1099511628211) = ((y * 1099511628211 % 18446744073709551616 : Nat) : Int) := by rw [IntKind.wrap_u64]; omega
          generalize s - a = v at *
          generalize y * 1099511628211 % 18446744073709551616 = z at *
          have hE := Lib.hid E
          clear h1 h2 h3 ht hx E
          go_wp2
          refine ⟨⟨k + 1, by omega, rfl, by rw [HS.out, S1.out], hE.out⟩, ?_⟩
          simp only [intOf]
          omega
    · have hlk : ¬ (k : Int) < n := by omega
      have e : k = n := by omega
      subst e
      rw [List.take_of_length_le (by omega)]
      clear hlt hk
      generalize sb s0 l = s at *
      go_wp2
      exact bodyPost_ret (v := .int .u64 s) (by simp [results, Try.results16, go_sem]) rfl ⟨rfl, E⟩
end Go.Proofs.Ytfenmkcniiiglaa
