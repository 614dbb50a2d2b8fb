/- Layer 21: the program's Put: ticks' bytes. -/
import Derived.Test.YtobmjlnficdmlaaTapD
import Derived.Test.YtobmjlnficdmlaaTick
namespace Go.Proofs.Ytobmjlnficdmlaa
open Go.RowKit Go.Shelf Go.Joins Go.Maps

/-- A slice holds these ticks. -/
def TS (w : World) (sa : Option Addr) (l : List Tk) : Prop := ∀ k t, l[k]? = some t → ∃ gb off, sa = some ⟨gb, off, none⟩ ∧ TW w gb (off + k * 4) t.a t.h t.p t.s
theorem ts_keep {w w' : World} (hb : Below w.heap.size w w') {sa : Option Addr} {l : List Tk} (h : TS w sa l) : TS w' sa l := fun k x hk => by
  obtain ⟨gb, off, e, c⟩ := h k x hk
  exact ⟨gb, off, e, tw_keep hb c⟩
theorem mk_fb (t : Tk) : (mk (fun k => if k = 0 then t.h else t.s) 2 : Int) = fb t := by
  obtain ⟨a, h, p, s⟩ := t
  cases h <;> cases s <;> rfl
theorem two_bools {w : World} {b : Nat} {x y : Bool} {t : TypeId} (hb : w.heap.size = b) : ∀ k, k < 2 → ∃ gb off, (some ⟨b, 0, none⟩ : Option Addr) = some ⟨gb, off, none⟩ ∧ (w.alloc (Obj.cells #[.bool x, .bool y] t)).cell? ⟨gb, off + k, none⟩ = some (.bool (if k = 0 then x else y)) := fun k hk => by
  subst hb
  refine ⟨_, 0, rfl, ?_⟩
  rw [Nat.zero_add, cell_of_row _ _ k _ _ _ (heap_alloc_last w _)]
  have : k = 0 ∨ k = 1 := by omega
  rcases this with rfl | rfl <;> rfl
theorem own_new {w : World} {B g : Nat} {v : Value} {l : List Int} (h : OB w B v l) (hg : w.heap.size ≤ g) : v.ownBlock ≠ some g := fun e => by
  have := own_to h g e
  omega
theorem num_row {w : World} {B : Nat} {v : Value} {l : List Int} {x : Int} {t : TypeId} (h : OB w B v l) : ∀ k, k < 1 → ∃ gb off, (some ⟨w.heap.size, 0, none⟩ : Option Addr) = some ⟨gb, off, none⟩ ∧ v.ownBlock ≠ some gb ∧ (w.alloc (Obj.cells #[.int .i64 x] t)).cell? ⟨gb, off + k, none⟩ = some (.int .i64 x) := fun k hk => by
  refine ⟨_, 0, rfl, own_new h (Nat.le_refl _), ?_⟩
  obtain rfl : k = 0 := by omega
  rw [Nat.zero_add, cell_of_row _ _ 0 _ _ _ (heap_alloc_last w _)]
  rfl
theorem gr_own {w w' : World} {v v' : Value} {g : Nat} (G : GR w w' v v') (hn : v.ownBlock ≠ some g) (hg : g < w.heap.size) : v'.ownBlock ≠ some g := fun e => by
  rcases G.2 with h | ⟨q, h, hq⟩
  · exact hn (h.symm.trans e)
  · rw [h] at e
    injection e with e
    omega
theorem tw_gr {w w' : World} {v v' : Value} {g o : Nat} {a : Int} {h : Bool} {p : Int} {s : Bool} (G : GR w w' v v') (hn : v.ownBlock ≠ some g) (t : TW w g o a h p s) : TW w' g o a h p s :=
  ⟨gr_cell G hn t.1, gr_cell G hn t.2.1, gr_cell G hn t.2.2.1, gr_cell G hn t.2.2.2⟩
theorem nm_one (x : Int) : nm (fun _ => x) 1 = num x := by simp [nm]
theorem take_one {l : List Tk} {k : Nat} {t : Tk} (h : l[k]? = some t) : l.take (k + 1) = l.take k ++ [t] := by rw [List.take_add_one, h]; rfl

end Go.Proofs.Ytobmjlnficdmlaa
