/- Layer 16: how many ticks of each kind, the last count that was brought: the document's. -/
import Derived.Test.YtmkdpnfhpnfmnaaBarA
namespace Go.Proofs.Ytmkdpnfhpnfmnaa
open Go.RowKit Go.Shelf Go.Joins

/-- How many of the first n ticks are of kind j. -/
def nk (h : Nat → Bool) (p : Nat → Int) (j : Int) : Nat → Int
  | 0 => 0
  | n + 1 => nk h p j n + (if kd (h n) (p n) = j then 1 else 0)
/-- The last count that one of the first n ticks brought. -/
def nl (h : Nat → Bool) (p : Nat → Int) : Nat → Int
  | 0 => 0
  | n + 1 => if br (h n) (p n) then p n else nl h p n
theorem nk_range (h : Nat → Bool) (p : Nat → Int) (j : Int) : ∀ n : Nat, 0 ≤ nk h p j n ∧ nk h p j n ≤ n
  | 0 => ⟨Int.le_refl _, Int.le_refl _⟩
  | n + 1 => by
    have := nk_range h p j n
    unfold nk
    split <;> omega
theorem nk_yes {h : Nat → Bool} {p : Nat → Int} {j : Int} {n : Nat} (c : kd (h n) (p n) = j) : nk h p j (n + 1) = nk h p j n + 1 := by rw [nk, if_pos c]
theorem nk_no {h : Nat → Bool} {p : Nat → Int} {i j : Int} {n : Nat} (c : kd (h n) (p n) = i) (d : ¬ i = j) : nk h p j (n + 1) = nk h p j n := by rw [nk, c, if_neg d, Int.add_zero]
theorem nl_yes {h : Nat → Bool} {p : Nat → Int} {n : Nat} (c : br (h n) (p n) = true) : nl h p (n + 1) = p n := by rw [nl, if_pos c]
theorem nl_no {h : Nat → Bool} {p : Nat → Int} {n : Nat} (c : br (h n) (p n) = false) : nl h p (n + 1) = nl h p n := by rw [nl, c]; rfl

set_option maxHeartbeats 4000000 in
set_option maxRecDepth 10000 in
theorem rcounts_any (a p : Nat → Int) (h s : Nat → Bool) (sa : Option Addr) (len cap : Nat) (hm : len ≤ 1000000) (w : World)
    (hc : ∀ k, k < len → ∃ gb off, sa = some ⟨gb, off, none⟩ ∧ TW w gb (off + k * 4) (a k) (h k) (p k) (s k)) :
    Calls Try.prog 11 #[.slice sa len cap] w (RetV (.tuple #[.int .i64 (nk h p 0 len), .int .i64 (nk h p 1 len), .int .i64 (nk h p 2 len), .int .i64 (nl h p len)]) w) := by
  go_enter Try.func11, Try.ntmps11
  go_wp2
  go_loopw [10, 6, 7, 8, 9] (fun iv gv bv nv lv wr => ∃ k : Nat, k ≤ len ∧ iv = .int .i64 k ∧ gv = .int .i64 (nk h p 0 k) ∧ bv = .int .i64 (nk h p 1 k) ∧ nv = .int .i64 (nk h p 2 k) ∧ lv = .int .i64 (nl h p k) ∧ Below w.heap.size w wr) (fun iv _ _ _ _ _ => len - (intOf iv).toNat)
  case atStart => exact ⟨0, Nat.zero_le _, rfl, rfl, rfl, rfl, rfl, Below.refl _ _⟩
  case round =>
    obtain ⟨k, hk, rfl, rfl, rfl, rfl, rfl, E⟩ := hrel
    by_cases hlt : k < len
    · obtain ⟨gb, off, rfl, tw⟩ := hc k hlt
      replace tw := tw_keep E tw
      have cb := rbrings_any (a k) (h k) (p k) (s k)
      have hlk : (k : Int) < len := by omega
      have hk0 : (0 : Int) ≤ k := by omega
      obtain ⟨r0, r1⟩ := nk_range h p 0 k
      obtain ⟨r2, r3⟩ := nk_range h p 1 k
      obtain ⟨r4, r5⟩ := nk_range h p 2 k
      have ws : IntKind.i64.wrap ((k : Int) + 1) = (k : Int) + 1 := by rw [IntKind.wrap_i64]; omega
      rcases three (h k) (p k) with ⟨h1, -, kk, k1, k2⟩ | ⟨h1, -, kk, k1, k2⟩ | ⟨h1, kk, k1, k2⟩
      · have e0 := Lib.hid (nk_yes kk)
        have e1 := Lib.hid (nk_no (j := 1) kk (by decide))
        have e2 := Lib.hid (nk_no (j := 2) kk (by decide))
        have e3 := Lib.hid (nl_yes k1)
        rw [k1, k2] at cb
        rw [h1] at cb tw
        clear h1 kk k1 k2
        generalize nk h p 0 k = n0 at *
        generalize nk h p 1 k = n1 at *
        generalize nk h p 2 k = n2 at *
        generalize nl h p k = n3 at *
        generalize a k = ak at *
        generalize p k = pk at *
        generalize s k = sk at *
        have wx : IntKind.i64.wrap (n0 + 1) = n0 + 1 := by rw [IntKind.wrap_i64]; omega
        obtain ⟨t0, t1, t2, t3⟩ := tw
        go_wp2_with fail
        refine (cb _).mono ?_
        rintro e y0 ⟨rfl, hb⟩
        replace t1 := cell_keep hb t1
        replace E := b_trans E hb
        clear hb cb t0 t2 t3
        go_wp2
        refine ⟨⟨k + 1, by omega, rfl, by rw [e0.out], by rw [e1.out], by rw [e2.out], by rw [e3.out], E⟩, ?_⟩
        simp only [intOf]
        omega
      · have e0 := Lib.hid (nk_no (j := 0) kk (by decide))
        have e1 := Lib.hid (nk_yes kk)
        have e2 := Lib.hid (nk_no (j := 2) kk (by decide))
        have e3 := Lib.hid (nl_no k1)
        rw [k1, k2] at cb
        rw [h1] at cb tw
        clear h1 kk k1 k2
        generalize nk h p 0 k = n0 at *
        generalize nk h p 1 k = n1 at *
        generalize nk h p 2 k = n2 at *
        generalize nl h p k = n3 at *
        generalize a k = ak at *
        generalize p k = pk at *
        generalize s k = sk at *
        have wx : IntKind.i64.wrap (n1 + 1) = n1 + 1 := by rw [IntKind.wrap_i64]; omega
        obtain ⟨t0, t1, t2, t3⟩ := tw
        go_wp2_with fail
        refine (cb _).mono ?_
        rintro e y0 ⟨rfl, hb⟩
        replace t1 := cell_keep hb t1
        replace E := b_trans E hb
        clear hb cb t0 t2 t3
        go_wp2
        refine ⟨⟨k + 1, by omega, rfl, by rw [e0.out], by rw [e1.out], by rw [e2.out], by rw [e3.out], E⟩, ?_⟩
        simp only [intOf]
        omega
      · have e0 := Lib.hid (nk_no (j := 0) kk (by decide))
        have e1 := Lib.hid (nk_no (j := 1) kk (by decide))
        have e2 := Lib.hid (nk_yes kk)
        have e3 := Lib.hid (nl_no k1)
        rw [k1, k2] at cb
        rw [h1] at cb tw
        clear h1 kk k1 k2
        generalize nk h p 0 k = n0 at *
        generalize nk h p 1 k = n1 at *
        generalize nk h p 2 k = n2 at *
        generalize nl h p k = n3 at *
        generalize a k = ak at *
        generalize p k = pk at *
        generalize s k = sk at *
        have wx : IntKind.i64.wrap (n2 + 1) = n2 + 1 := by rw [IntKind.wrap_i64]; omega
        obtain ⟨t0, t1, t2, t3⟩ := tw
        go_wp2_with fail
        refine (cb _).mono ?_
        rintro e y0 ⟨rfl, hb⟩
        replace t1 := cell_keep hb t1
        replace E := b_trans E hb
        clear hb cb t0 t2 t3
        go_wp2
        refine ⟨⟨k + 1, by omega, rfl, by rw [e0.out], by rw [e1.out], by rw [e2.out], by rw [e3.out], E⟩, ?_⟩
        simp only [intOf]
        omega
    · have hlk : ¬ (k : Int) < len := by omega
      have e : k = len := by omega
      subst e
      clear hlt hk hc
      go_wp2
      exact bodyPost_ret (v := .tuple #[.int .i64 (nk h p 0 k), .int .i64 (nk h p 1 k), .int .i64 (nk h p 2 k), .int .i64 (nl h p k)]) (by simp [results, Try.results11, go_sem]) rfl ⟨rfl, E⟩
end Go.Proofs.Ytmkdpnfhpnfmnaa
