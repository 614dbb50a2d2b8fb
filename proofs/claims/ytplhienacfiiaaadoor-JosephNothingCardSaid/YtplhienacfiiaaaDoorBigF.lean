/- The document's whole numbers: Down, Div, low, From: each call's answer. -/
import Derived.Test.YtplhienacfiiaaaDoorBigE
namespace Go.Proofs.YtplhienacfiiaaaDoor
open Go.RowKit Go.Shelf Go.Joins

theorem tiny_neg {z : Int} (h : Tiny z) : Tiny (-z) := by obtain ⟨a, b⟩ := h; exact ⟨by omega, by omega⟩
theorem down_big (va vb : Value) (x y : Int) (w : World) (hx : BG w va x) (hy : BG w vb y) (y1 : 1 ≤ y) (tx : Tiny x) (ty : Tiny y) :
    Calls Tryd.prog 73 #[va, vb] w (RetB (x / y) w) := by
  obtain ⟨n1, aa, a, ca, rfl, hA, da, na, la, rfl, ca1, ca2⟩ := bg_open hx
  have k := (sgn_neg da na la).2.2
  exact down_go n1 aa ca a vb y w hA da (small_len da na la (tiny_small tx)) hy y1 ty (by obtain ⟨a, b⟩ := tx; exact ⟨by omega, by omega⟩)

/-- The quotient, rounded down; y is not 0. -/
def qd (x y : Int) : Int := if y < 0 then -x / -y else x / y

theorem power_64 (w : World) : Calls Tryd.prog 51 #[.int .i64 64] w (RetB 18446744073709551616 w) := by
  have := power_any 64 (by decide) w
  rwa [show (2 : Int) ^ 64 = 18446744073709551616 by decide] at this

theorem low_step {l : List Int} {v : Int} {i : Nat} (_h : Dig l) (hi : i < 4) (e : v = val ((l.take 4).drop (i + 1))) : 65536 * v + l.getD i 0 = val ((l.take 4).drop i) := by
  by_cases c : i < (l.take 4).length
  · rw [List.drop_eq_getElem_cons c]
    simp only [val]
    rw [e, List.getD_eq_getElem?_getD, List.getElem?_eq_getElem (by simp at c; omega), List.getElem_take]
    simp; omega
  · rw [List.drop_of_length_le (by omega)] at e
    rw [List.drop_of_length_le (by omega), List.getD_eq_getElem?_getD, List.getElem?_eq_none (by simp at c; omega), e]
    simp [val]
theorem low_bd {l : List Int} (h : Dig l) (i : Nat) (hi : i ≤ 4) : 0 ≤ val ((l.take 4).drop i) ∧ val ((l.take 4).drop i) < 65536 ^ (4 - i) := by
  have d : Dig ((l.take 4).drop i) := fun x hx => h x (List.mem_of_mem_take (List.mem_of_mem_drop hx))
  have h1 := val_lt d
  have h2 := pow_mono65 (show ((l.take 4).drop i).length ≤ 4 - i by simp; omega)
  exact ⟨val_nonneg d, by omega⟩

set_option maxHeartbeats 2000000 in
set_option maxRecDepth 10000 in
theorem low_any (v : Value) (l : List Int) (w : World) (h : DG w v l) (hd : Dig l) : Calls Tryd.prog 87 #[v] w fun e w' => e = .returned (.int .u64 (val (l.take 4))) ∧ w = w' := by
  go_enter Tryd.func87, Tryd.ntmps87
  go_wp2
  go_loop [3, 4] (fun nv iv => ∃ k : Nat, k ≤ 4 ∧ iv = .int .i64 ((k : Int) - 1) ∧ nv = .int .u64 (val ((l.take 4).drop k))) (fun _ iv => (intOf iv + 1).toNat)
  case atStart => exact ⟨4, Nat.le_refl _, rfl, by rw [List.drop_of_length_le (by simp; omega)]; rfl⟩
  case round =>
    obtain ⟨k, hk, rfl, rfl⟩ := hrel
    by_cases c : k = 0
    · subst c
      have E := Lib.hid (show val ((l.take 4).drop 0) = val (l.take 4) by simp)
      generalize val ((l.take 4).drop 0) = q at *
      go_wp2
      go_ret
      exact ⟨by rw [← E.out]; rfl, rfl⟩
    · obtain ⟨i, rfl⟩ : ∃ i, k = i + 1 := ⟨k - 1, by omega⟩
      have st := low_step hd (i := i) (by omega) rfl
      have bd := low_bd hd (i + 1) (by omega)
      have b2 := low_bd hd i (by omega)
      have p1 := pow_mono65 (show 4 - (i + 1) ≤ 3 by omega)
      have p2 := pow_mono65 (show 4 - i ≤ 4 by omega)
      have e3 : (65536 : Int) ^ 3 = 281474976710656 := by decide
      have e4 : (65536 : Int) ^ 4 = 18446744073709551616 := by decide
      have dg := dig_getD hd i
      have cA := digit_any v l i w h (by omega) (by omega)
      rw [Int.toNat_natCast] at cA
      have lt1 : val ((l.take 4).drop (i + 1)) ≤ 281474976710655 := by omega
      have nn := bd.1
      rw [show (((i + 1 : Nat) : Int) - 1) = (i : Int) by omega]
      have ST := Lib.hid st
      clear st bd b2 p1 p2 e3 e4
      generalize val ((l.take 4).drop (i + 1)) = q at *
      generalize l.getD i 0 = d at *
      go_wp2_with (go_at_call 67; refine cA.mono ?_; rintro e w' ⟨rfl, rfl⟩)
      go_round
      case rel => exact ⟨i, by omega, rfl, by rw [ST.out]⟩
      case measure => simp [intOf]

end Go.Proofs.YtplhienacfiiaaaDoor
