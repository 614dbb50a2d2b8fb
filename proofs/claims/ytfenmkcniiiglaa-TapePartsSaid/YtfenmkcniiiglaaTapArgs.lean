/- For the laws of layer 21: ticks as a list; a slice of bytes; a slice of what was told. -/
import Derived.Test.YtfenmkcniiiglaaTickArgs
import Derived.Test.YtfenmkcniiiglaaTapN
import Derived.ChangeSlices
import Derived.ChangeSame
namespace Go.Proofs.Ytfenmkcniiiglaa
open Go.ChangeShapes Go.WideShapes Go.ChangeAt Go.RowKit Go.Joins Go.Deep
set_option maxRecDepth 100000

theorem Try.cellsTapB : Try.prog.cellsOf 5 = 1 := by kernel_rfl
/-- Ticks as a list. -/
def tl (a : Nat → Int) (h : Nat → Bool) (p : Nat → Int) (s : Nat → Bool) (n : Nat) : List Tk := (List.range n).map fun k => ⟨a k, h k, p k, s k⟩
theorem tl_len (a : Nat → Int) (h : Nat → Bool) (p : Nat → Int) (s : Nat → Bool) (n : Nat) : (tl a h p s n).length = n := by simp [tl]
theorem tl_in {a : Nat → Int} {h : Nat → Bool} {p : Nat → Int} {s : Nat → Bool} {n : Nat} (ha : ∀ k, -9223372036854775808 ≤ a k ∧ a k ≤ 9223372036854775807) (hp : ∀ k, -9223372036854775808 ≤ p k ∧ p k ≤ 9223372036854775807) : ∀ t ∈ tl a h p s n, In t := fun t ht => by
  unfold tl at ht
  obtain ⟨k, _, rfl⟩ := List.mem_map.1 ht
  exact ⟨ha k, hp k⟩
theorem tl_ts {w : World} {sa : Option Addr} {a : Nat → Int} {h : Nat → Bool} {p : Nat → Int} {s : Nat → Bool} {n : Nat} (hc : ∀ k, k < n → ∃ gb off, sa = some ⟨gb, off, none⟩ ∧ TW w gb (off + k * 4) (a k) (h k) (p k) (s k)) : TS w sa (tl a h p s n) := fun k t hk => by
  have hl : k < n := by
    have := (List.getElem?_eq_some_iff.1 hk).1
    rwa [tl_len] at this
  simp [tl, hl] at hk
  subst hk
  exact hc k hl
/-- Bytes as a list. -/
theorem by_take {z : List Int} (n : Nat) (h : ∀ x ∈ z, 0 ≤ x ∧ x ≤ 255) : By (z.take n) := fun x hx => h x (List.mem_of_mem_take hx)
theorem us_take {w : World} {sa : Option Addr} {z : List Int} {n : Nat} (hn : n ≤ z.length) (hc : ∀ k, k < n → ∃ gb off, sa = some ⟨gb, off, none⟩ ∧ w.cell? ⟨gb, off + k, none⟩ = some (.int .u8 (z.getD k 0))) : US w 0 sa (z.take n) := fun k x hk => by
  have hl : k < n := by
    have := (List.getElem?_eq_some_iff.1 hk).1
    rw [List.length_take] at this
    omega
  obtain ⟨gb, off, e, c⟩ := hc k hl
  refine ⟨gb, off, e, Nat.zero_le _, ?_⟩
  rw [List.getElem?_take_of_lt hl] at hk
  rwa [List.getD_eq_getElem?_getD, hk] at c
section
variable {H : Type} {enc : TypeId × Value → H}
theorem wf_tap8 {n : Int} (h : (Lit.int .u8 n).wf = true) : 0 ≤ n ∧ n ≤ 255 := by
  simp [Lit.wf, IntKind.min, IntKind.max, IntKind.signed, IntKind.bits] at h
  omega
set_option maxRecDepth 10000 in
/-- A slice of integers of eight bits among the arguments: its numbers; it reads again as it read in a world that has grown. -/
theorem open_u8s {w : World} {r : Reach} {b0 : Nat} {v : Value} {d : DataW H} {p : List MemPlace}
    (hv : Value.okWide Try.prog w r b0 24 v) (h : DataW.Trod enc Try.prog w 0 (fun _ => true) true 24 v d p) :
    ∃ (sa : Option Addr) (len cap : Nat) (zs : List Int), v = .slice sa len cap ∧ cap ≤ 9223372036854775807 ∧ len ≤ cap ∧ len ≤ zs.length ∧ (∀ n ∈ zs, 0 ≤ n ∧ n ≤ 255) ∧
      (∀ k, k < len → ∃ gb off, sa = some ⟨gb, off, none⟩ ∧ w.cell? ⟨gb, off + k, none⟩ = some (.int .u8 (zs.getD k 0))) ∧
      (∀ W', Below w.heap.size w W' → ∀ sp : Nat → Bool, (∀ q ∈ p, sp q.block = true) → DataW.Trod enc Try.prog W' 0 sp true 24 v d p) := by
  obtain ⟨a0, len, cap, rfl⟩ := okWide_slice Try.underlying24 hv
  obtain ⟨fuel, hf⟩ := h
  rcases open_ints Try.underlying24 Try.underlying5 Try.cellsTapB hf with ⟨hcs, hx⟩ | ⟨a, len', cap', zs, hcs, _, hl, hm, hz, hx, hcell, hwz⟩
  · simp [Value.cells] at hcs
    obtain ⟨rfl, rfl, rfl⟩ := hcs
    simp only [Prod.mk.injEq] at hx
    obtain ⟨rfl, rfl⟩ := hx
    exact ⟨none, 0, 0, [], rfl, Nat.zero_le _, Nat.le_refl _, Nat.le_refl _, fun _ hn => absurd hn (by simp), fun k hk => absurd hk (Nat.not_lt_zero _), fun W' _ sp _ => shut_slice_nil Try.underlying24⟩
  · simp [Value.cells] at hcs
    obtain ⟨rfl, rfl, rfl⟩ := hcs
    simp only [Prod.mk.injEq] at hx
    obtain ⟨rfl, rfl⟩ := hx
    simp only [if_true] at hz
    refine ⟨some a, len, cap, zs, rfl, by unfold maxLen at hm; omega, hl, by omega, fun n hn => wf_tap8 (hwz n hn), fun k hk => ?_, fun W' hb sp hsp => ?_⟩
    · obtain ⟨b, off, spot⟩ := a
      have hspot : spot = none := by simpa [Addr.add] using World.cell?_spot (hcell 0 (by omega))
      subst hspot
      exact ⟨b, off, rfl, by rw [← add_plain]; exact hcell k (by omega)⟩
    · have hc' : ∀ i, i < zs.length → W'.cell? (a.add i) = some (.int .u8 (zs.getD i 0)) := fun i hi => cell_keep hb (hcell i hi)
      by_cases hz0 : zs.length = 0
      · have hc0 : cap = 0 := by omega
        have hl0 : len = 0 := by omega
        subst hc0
        subst hl0
        have t0 := shut_ints (enc := enc) (w := W') (base := 0) (spare := sp) (held := true) (a := a) (len := 0) (cap := 0) (zs := zs) 0 Try.underlying24 Try.underlying5 Try.cellsTapB (Nat.zero_le _) (Nat.le_refl _) hm (by simp [hz0]) hc' hwz
        exact ⟨2, by simpa [Value.cells] using t0⟩
      · have hspb : sp a.block = true := hsp (.cell a.block a.off) (MemPlace.mem_row.2 ⟨0, by omega, by simp⟩)
        have t0 := shut_ints (enc := enc) (w := W') (base := 0) (spare := sp) (held := true) (a := a) (len := len) (cap := cap) (zs := zs) 0 Try.underlying24 Try.underlying5 Try.cellsTapB (Nat.zero_le _) hl hm (by simp [hspb, hz]) hc' hwz
        exact ⟨2, by simpa [Value.cells] using t0⟩
end
end Go.Proofs.Ytfenmkcniiiglaa
