/- Layer 14: the document's part: three numbers of a row. -/
import Derived.Test.YtjaccedpkkcjnaaGreatDoorParA
import Derived.Test.YtjaccedpkkcjnaaGreatDoorVecA
import Derived.Test.YtjaccedpkkcjnaaGreatDoorLate
import Derived.IntWalk
import Derived.StillTailTactics
namespace Go.Proofs.YtjaccedpkkcjnaaGreatDoor
open Go.RowKit Go.Shelf Go.Lib

set_option maxHeartbeats 2000000 in
set_option maxRecDepth 10000 in
theorem part_any (g cap k : Nat) (x : Nat → Int) (hk : k + 2 < 31) (w : World) (hc : ∀ j, j < 31 → w.cell? ⟨g, j, none⟩ = some (.int .i64 (x j))) :
    Calls Tryz.prog 16 #[.slice (some ⟨g, 0, none⟩) 31 cap, .int .i64 k] w (RetV (tv (x k) (x (k + 1)) (x (k + 2))) w) := by
  have c0 := hc k (by omega)
  have c1 := hc (k + 1) (by omega)
  have c2 := hc (k + 2) (by omega)
  have e1 : IntKind.i64.wrap ((k : Int) + 1) = (k : Int) + 1 := by rw [IntKind.wrap_i64]; omega
  have e2 : IntKind.i64.wrap ((k : Int) + 2) = (k : Int) + 2 := by rw [IntKind.wrap_i64]; omega
  have p1 : (0 : Int) ≤ (k : Int) + 1 := by omega
  have p2 : (0 : Int) ≤ (k : Int) + 2 := by omega
  have t1 : ((k : Int) + 1).toNat = k + 1 := by omega
  have t2 : ((k : Int) + 2).toNat = k + 2 := by omega
  have hk3 : (k : Int) < 31 := by omega
  have hk4 : (k : Int) + 1 < 31 := by omega
  have hk5 : (k : Int) + 2 < 31 := by omega
  have hg : g < w.heap.size := World.block_lt_of_cell? w _ c0
  clear hc
  go_enter Tryz.func16, Tryz.ntmps16
  go_wp2
  go_region
  go_wp2
  exact bodyPost_ret (v := tv (x k) (x (k + 1)) (x (k + 2))) (by simp [results, Tryz.results16, go_sem]) rfl ⟨rfl, b_drew (b_alloc (Below.refl _ _))⟩
theorem part_at (g cap k : Nat) (K : Int) (p q : Nat) (x : Nat → Int) (hK : (k : Int) = K) (hp : k + 1 = p) (hq : k + 2 = q) (hk : q < 31) (w : World) (hc : ∀ j, j < 31 → w.cell? ⟨g, j, none⟩ = some (.int .i64 (x j))) :
    Calls Tryz.prog 16 #[.slice (some ⟨g, 0, none⟩) 31 cap, .int .i64 K] w (RetV (tv (x k) (x p) (x q)) w) := by
  subst hK hp hq
  exact part_any g cap k x hk w hc
end Go.Proofs.YtjaccedpkkcjnaaGreatDoor
