/- For laws one of whose arguments is a slice of integers: opening it, handing it back in a world that has grown. -/
import Derived.Test.YthnaeoagooahbaaDoorKeptArgs
import Derived.ChangeSlices
import Derived.ChangeSame
namespace Go.Proofs.YthnaeoagooahbaaDoor
open Go.ChangeShapes Go.WideShapes Go.ChangeAt Go.RowKit Go.Joins

section
variable {H : Type} {enc : TypeId × Value → H}

theorem Tryd.cellsI : Tryd.prog.cellsOf 2 = 1 := by kernel_rfl

set_option maxRecDepth 10000 in
/-- A slice of integers among the arguments: its numbers; it reads again as it read in a world that has grown. -/
theorem open_list {w : World} {r : Reach} {b0 : Nat} {v : Value} {d : DataW H} {p : List MemPlace}
    (hv : Value.okWide Tryd.prog w r b0 23 v) (h : DataW.Trod enc Tryd.prog w 0 (fun _ => true) true 23 v d p) :
    ∃ (sa : Option Addr) (len cap : Nat) (zs : List Int), v = .slice sa len cap ∧ len ≤ 9223372036854775807 ∧ len ≤ zs.length ∧ (∀ n ∈ zs, -9223372036854775808 ≤ n ∧ n ≤ 9223372036854775807) ∧
      (∀ k, k < len → ∃ gb off, sa = some ⟨gb, off, none⟩ ∧ w.cell? ⟨gb, off + k, none⟩ = some (.int .i64 (zs.getD k 0))) ∧
      (∀ W', Below w.heap.size w W' → ∀ sp : Nat → Bool, (∀ q ∈ p, sp q.block = true) → DataW.Trod enc Tryd.prog W' 0 sp true 23 v d p) := by
  obtain ⟨a0, len, cap, rfl⟩ := okWide_slice Tryd.underlying23 hv
  obtain ⟨fuel, hf⟩ := h
  rcases open_ints Tryd.underlying23 Tryd.underlying2 Tryd.cellsI hf with ⟨hcs, hx⟩ | ⟨a, len', cap', zs, hcs, _, hl, hm, hz, hx, hcell, hwz⟩
  · simp [Value.cells] at hcs
    obtain ⟨rfl, rfl, rfl⟩ := hcs
    simp only [Prod.mk.injEq] at hx
    obtain ⟨rfl, rfl⟩ := hx
    exact ⟨none, 0, 0, [], rfl, Nat.zero_le _, Nat.le_refl _, fun _ hn => absurd hn (by simp), fun k hk => absurd hk (Nat.not_lt_zero _), fun W' _ sp _ => shut_slice_nil Tryd.underlying23⟩
  · simp [Value.cells] at hcs
    obtain ⟨rfl, rfl, rfl⟩ := hcs
    simp only [Prod.mk.injEq] at hx
    obtain ⟨rfl, rfl⟩ := hx
    simp only [if_true] at hz
    refine ⟨some a, len, cap, zs, rfl, by unfold maxLen at hm; omega, by omega, fun n hn => wf_i64 (hwz n hn), fun k hk => ?_, fun W' hb sp hsp => ?_⟩
    · obtain ⟨b, off, spot⟩ := a
      have hspot : spot = none := by simpa [Addr.add] using World.cell?_spot (hcell 0 (by omega))
      subst hspot
      exact ⟨b, off, rfl, by rw [← add_plain]; exact hcell k (by omega)⟩
    · have hc' : ∀ i, i < zs.length → W'.cell? (a.add i) = some (.int .i64 (zs.getD i 0)) := fun i hi => cell_keep hb (hcell i hi)
      by_cases hz0 : zs.length = 0
      · have hc0 : cap = 0 := by omega
        have hl0 : len = 0 := by omega
        subst hc0
        subst hl0
        have t0 := shut_ints (enc := enc) (w := W') (base := 0) (spare := sp) (held := true) (a := a) (len := 0) (cap := 0) (zs := zs) 0 Tryd.underlying23 Tryd.underlying2 Tryd.cellsI (Nat.zero_le _) (Nat.le_refl _) hm (by simp [hz0]) hc' hwz
        exact ⟨2, by simpa [Value.cells] using t0⟩
      · have hspb : sp a.block = true := hsp (.cell a.block a.off) (MemPlace.mem_row.2 ⟨0, by omega, by simp⟩)
        have t0 := shut_ints (enc := enc) (w := W') (base := 0) (spare := sp) (held := true) (a := a) (len := len) (cap := cap) (zs := zs) 0 Tryd.underlying23 Tryd.underlying2 Tryd.cellsI (Nat.zero_le _) hl hm (by simp [hspb, hz]) hc' hwz
        exact ⟨2, by simpa [Value.cells] using t0⟩
end
end Go.Proofs.YthnaeoagooahbaaDoor
