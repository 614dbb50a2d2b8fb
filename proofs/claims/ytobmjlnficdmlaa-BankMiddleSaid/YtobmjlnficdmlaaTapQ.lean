/- Layer 21: what was told, in memory; the program's bytes of it. -/
import Derived.Test.YtobmjlnficdmlaaTapE
import Derived.Test.YtobmjlnficdmlaaRegion
namespace Go.Proofs.Ytobmjlnficdmlaa
open Go.RowKit Go.Shelf Go.Joins Go.Maps

/-- Cells off .. hold what was told. -/
structure TDW (w : World) (g o : Nat) (t : Td) : Prop where
  c0 : w.cell? ⟨g, o, none⟩ = some (.int .i64 t.m)
  c1 : w.cell? ⟨g, o + 1, none⟩ = some (.bool t.v)
  c2 : w.cell? ⟨g, o + 2, none⟩ = some (.bool t.c)
  c3 : w.cell? ⟨g, o + 3, none⟩ = some (.bool t.r)
  c4 : w.cell? ⟨g, o + 4, none⟩ = some (.bool t.d)
  c5 : w.cell? ⟨g, o + 5, none⟩ = some (.bool t.g)
  c6 : w.cell? ⟨g, o + 6, none⟩ = some (.int .i64 t.al)
  c7 : w.cell? ⟨g, o + 7, none⟩ = some (.int .i64 t.sp)
  c8 : w.cell? ⟨g, o + 8, none⟩ = some (.int .i64 t.bi)
theorem tdw_keep {w w' : World} (hb : Below w.heap.size w w') {g o : Nat} {t : Td} (h : TDW w g o t) : TDW w' g o t :=
  ⟨cell_keep hb h.c0, cell_keep hb h.c1, cell_keep hb h.c2, cell_keep hb h.c3, cell_keep hb h.c4, cell_keep hb h.c5, cell_keep hb h.c6, cell_keep hb h.c7, cell_keep hb h.c8⟩
theorem tdw_gr {w w' : World} {v v' : Value} (G : GR w w' v v') {g o : Nat} {t : Td} (hn : v.ownBlock ≠ some g) (h : TDW w g o t) : TDW w' g o t :=
  ⟨gr_cell G hn h.c0, gr_cell G hn h.c1, gr_cell G hn h.c2, gr_cell G hn h.c3, gr_cell G hn h.c4, gr_cell G hn h.c5, gr_cell G hn h.c6, gr_cell G hn h.c7, gr_cell G hn h.c8⟩
theorem tdw_new (w : World) (t : Td) : TDW (w.alloc (Obj.cells #[.int .i64 t.m, .bool t.v, .bool t.c, .bool t.r, .bool t.d, .bool t.g, .int .i64 t.al, .int .i64 t.sp, .int .i64 t.bi] 29)) w.heap.size 0 t :=
  ⟨(cell_of_row _ _ 0 _ _ _ (heap_alloc_last _ _)).trans rfl, (cell_of_row _ _ 1 _ _ _ (heap_alloc_last _ _)).trans rfl, (cell_of_row _ _ 2 _ _ _ (heap_alloc_last _ _)).trans rfl, (cell_of_row _ _ 3 _ _ _ (heap_alloc_last _ _)).trans rfl, (cell_of_row _ _ 4 _ _ _ (heap_alloc_last _ _)).trans rfl, (cell_of_row _ _ 5 _ _ _ (heap_alloc_last _ _)).trans rfl, (cell_of_row _ _ 6 _ _ _ (heap_alloc_last _ _)).trans rfl, (cell_of_row _ _ 7 _ _ _ (heap_alloc_last _ _)).trans rfl, (cell_of_row _ _ 8 _ _ _ (heap_alloc_last _ _)).trans rfl⟩
/-- A slice holds what was told. -/
def DS (w : World) (sa : Option Addr) (l : List Td) : Prop := ∀ k t, l[k]? = some t → ∃ gb off, sa = some ⟨gb, off, none⟩ ∧ TDW w gb (off + k * 9) t
theorem ds_keep {w w' : World} (hb : Below w.heap.size w w') {sa : Option Addr} {l : List Td} (h : DS w sa l) : DS w' sa l := fun k x hk => by
  obtain ⟨gb, off, e, c⟩ := h k x hk
  exact ⟨gb, off, e, tdw_keep hb c⟩
/-- Five marks. -/
def m5 (tv tc tr td tg : Bool) : Nat → Bool := fun k => if k = 0 then tv else if k = 1 then tc else if k = 2 then tr else if k = 3 then td else tg
theorem mk_ms (t : Td) : (mk (m5 t.v t.c t.r t.d t.g) 5 : Int) = ms t := by
  obtain ⟨tm, tv, tc, tr, td, tg, ta, tsp, tb⟩ := t
  cases tv <;> cases tc <;> cases tr <;> cases td <;> cases tg <;> rfl
theorem five_bools {w : World} {g : Nat} {tv tc tr td tg : Bool} {t : TypeId} (hg : w.heap[g]? = some (Obj.cells #[.bool tv, .bool tc, .bool tr, .bool td, .bool tg] t)) : ∀ k, k < 5 → ∃ gb off, (some ⟨g, 0, none⟩ : Option Addr) = some ⟨gb, off, none⟩ ∧ w.cell? ⟨gb, off + k, none⟩ = some (.bool (m5 tv tc tr td tg k)) := fun k hk => by
  refine ⟨_, 0, rfl, ?_⟩
  rw [Nat.zero_add, cell_of_row _ _ k _ _ _ hg]
  have : k = 0 ∨ k = 1 ∨ k = 2 ∨ k = 3 ∨ k = 4 := by omega
  rcases this with rfl | rfl | rfl | rfl | rfl <;> rfl
/-- Three numbers. -/
def z3 (x y z : Int) : Nat → Int := fun k => if k = 0 then x else if k = 1 then y else z
theorem nm_three (x y z : Int) : nm (z3 x y z) 3 = num x ++ (num y ++ num z) := by simp [nm, z3]
theorem num_row3 {w : World} {B : Nat} {v : Value} {l : List Int} {x y z : Int} {t : TypeId} (h : OB w B v l) : ∀ k, k < 3 → ∃ gb off, (some ⟨w.heap.size, 0, none⟩ : Option Addr) = some ⟨gb, off, none⟩ ∧ v.ownBlock ≠ some gb ∧ (w.alloc (Obj.cells #[.int .i64 x, .int .i64 y, .int .i64 z] t)).cell? ⟨gb, off + k, none⟩ = some (.int .i64 (z3 x y z k)) := fun k hk => by
  refine ⟨_, 0, rfl, own_new h (Nat.le_refl _), ?_⟩
  rw [Nat.zero_add, cell_of_row _ _ k _ _ _ (heap_alloc_last w _)]
  have : k = 0 ∨ k = 1 ∨ k = 2 := by omega
  rcases this with rfl | rfl | rfl <;> rfl
theorem us_new {w : World} {g : Nat} {a : Array Value} {ty : TypeId} {l : List Int} (hg : w.heap[g]? = some (Obj.cells a ty)) (ha : a.toList = us l) : ∀ j u, (us l)[j]? = some u → w.cell? ((⟨g, 0, none⟩ : Addr).add j) = some u := fun j u h => by
  rw [add_off, Nat.zero_add, cell_of_row _ _ j _ _ _ hg, ← Array.getElem?_toList, ha, h]
theorem take_td {l : List Td} {k : Nat} {t : Td} (h : l[k]? = some t) : l.take (k + 1) = l.take k ++ [t] := by rw [List.take_add_one, h]; rfl

end Go.Proofs.Ytobmjlnficdmlaa
