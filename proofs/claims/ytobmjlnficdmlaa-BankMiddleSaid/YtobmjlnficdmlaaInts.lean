/- Joins: slices of integers of 64 bits: what they hold, and append of them. -/
import Derived.Test.YtobmjlnficdmlaaBut
import Derived.Maps.AppendAt
import Derived.Laws.OwnMore
import Derived.Deep.AppendLies
namespace Go.Proofs.Ytobmjlnficdmlaa
open Go.RowKit Go.Shelf Go.Joins

theorem add_off (b off i : Nat) : (⟨b, off, none⟩ : Addr).add i = ⟨b, off + i, none⟩ := by unfold Addr.add; split <;> simp_all
/-- A slice holds z 0, z 1 .. (n of them), in a block from B on. -/
def IS (w : World) (B : Nat) (sa : Option Addr) (n : Nat) (z : Nat → Int) : Prop :=
  ∀ k, k < n → ∃ gb off, sa = some ⟨gb, off, none⟩ ∧ B ≤ gb ∧ w.cell? ⟨gb, off + k, none⟩ = some (.int .i64 (z k))
theorem is_of {w : World} {sa : Option Addr} {n : Nat} {zs : List Int} (h : ∀ k, k < n → ∃ gb off, sa = some ⟨gb, off, none⟩ ∧ w.cell? ⟨gb, off + k, none⟩ = some (.int .i64 (zs.getD k 0))) : IS w 0 sa n (fun k => zs.getD k 0) := fun k hk => by
  obtain ⟨gb, off, e, c⟩ := h k hk
  exact ⟨gb, off, e, Nat.zero_le _, c⟩
theorem is_none {w : World} {B : Nat} {sa : Option Addr} {z : Nat → Int} : IS w B sa 0 z := fun _ h => absurd h (Nat.not_lt_zero _)
theorem is_keep {w w' : World} {B n : Nat} {sa : Option Addr} {z : Nat → Int} (hb : Below w.heap.size w w') (h : IS w B sa n z) : IS w' B sa n z := fun k hk => by
  obtain ⟨gb, off, e, hB, c⟩ := h k hk
  exact ⟨gb, off, e, hB, cell_keep hb c⟩
theorem is_less {w : World} {B m n : Nat} {sa : Option Addr} {z : Nat → Int} (hm : m ≤ n) (h : IS w B sa n z) : IS w B sa m z := fun k hk => h k (Nat.lt_of_lt_of_le hk hm)
theorem is_low {w : World} {B A n : Nat} {sa : Option Addr} {z : Nat → Int} (hB : A ≤ B) (h : IS w B sa n z) : IS w A sa n z := fun k hk => by
  obtain ⟨gb, off, e, h1, c⟩ := h k hk
  exact ⟨gb, off, e, Nat.le_trans hB h1, c⟩
theorem is_same {w : World} {B n : Nat} {sa : Option Addr} {y z : Nat → Int} (e : ∀ k, k < n → y k = z k) (h : IS w B sa n y) : IS w B sa n z := fun k hk => by
  rw [← e k hk]
  exact h k hk
theorem is_but {w w' : World} {B b n : Nat} {sa : Option Addr} {z : Nat → Int} (hb : But b w w') (h1 : b < B) (h : IS w B sa n z) : IS w' B sa n z := fun k hk => by
  obtain ⟨gb, off, e, hB, c⟩ := h k hk
  have hl : gb < w.heap.size := World.block_lt_of_cell? w _ c
  exact ⟨gb, off, e, hB, (World.cell?_of_block (a := ⟨gb, off + k, none⟩) (hb.block gb hl (by omega))).trans c⟩

/-- Integers as values. -/
def ints (z : Nat → Int) (n : Nat) : List Value := (List.range n).map fun k => .int .i64 (z k)
theorem ints_len (z : Nat → Int) (n : Nat) : (ints z n).length = n := by simp [ints]
theorem ints_at {z : Nat → Int} {n j : Nat} {u : Value} (h : (ints z n)[j]? = some u) : j < n ∧ u = .int .i64 (z j) := by
  have hj : j < n := by
    have := (List.getElem?_eq_some_iff.1 h).1
    rwa [ints_len] at this
  refine ⟨hj, ?_⟩
  simp [ints, hj] at h
  exact h.symm
theorem ints_get {z : Nat → Int} {n j : Nat} (h : j < n) : (ints z n)[j]? = some (.int .i64 (z j)) := by simp [ints, h]
theorem ints_snoc (z : Nat → Int) (n : Nat) : ints z (n + 1) = ints z n ++ [.int .i64 (z n)] := by simp [ints, List.range_succ]
theorem ints_same {y z : Nat → Int} {n : Nat} (e : ∀ k, k < n → y k = z k) : ints y n = ints z n := by
  unfold ints
  apply List.map_congr_left
  intro k hk
  rw [e k (List.mem_range.1 hk)]
theorem ints_cell {z : Nat → Int} {n : Nat} : ∀ u ∈ ints z n, u.oneCell' = true := fun u hu => by
  unfold ints at hu
  obtain ⟨k, _, rfl⟩ := List.mem_map.1 hu
  rfl
/-- One more. -/
def more (z : Nat → Int) (n : Nat) (c : Int) : Nat → Int := fun k => if k < n then z k else c
theorem more_old {z : Nat → Int} {n k : Nat} {c : Int} (h : k < n) : more z n c k = z k := if_pos h
theorem more_new {z : Nat → Int} {n : Nat} {c : Int} : more z n c n = c := if_neg (Nat.lt_irrefl _)
theorem ints_more (z : Nat → Int) (n : Nat) (c : Int) : ints (more z n c) (n + 1) = ints z n ++ [.int .i64 c] := by
  rw [ints_snoc, more_new, ints_same (fun k hk => more_old hk)]

/-- A row of its own, as a slice. -/
theorem is_own {w : World} {B : Nat} {t : TypeId} {v : Value} {n : Nat} {z : Nat → Int} (h : w.ownsRow B t 1 v n (ints z n)) : ∃ sb cap, v = .slice sb n cap ∧ IS w B sb n z := by
  rcases h.2 with ⟨rfl, rfl⟩ | ⟨g, cap, cur, rfl, hB, hg, hc, _, hs, ht⟩
  · exact ⟨none, 0, rfl, is_none⟩
  · refine ⟨_, cap, rfl, fun k hk => ⟨g, 0, rfl, hB, ?_⟩⟩
    have hk' : (ints z n)[k]? = some (.int .i64 (z k)) := ints_get hk
    rw [← ht, List.getElem?_take_of_lt (by omega)] at hk'
    rw [Nat.zero_add, cell_of_row _ _ k _ _ _ hg]
    simpa using hk'
theorem oi_part {w : World} {B : Nat} {t : TypeId} {v : Value} {n : Nat} {xs : List Value} (h : w.ownsRow B t 1 v n xs) : ∀ q, v.ownBlock = some q → B ≤ q := fun q hq => (h.lt q hq).1
theorem oi_empty (w : World) (t : TypeId) : (w.alloc (Obj.cells #[] t)).ownsRow w.heap.size t 1 (.slice (some ⟨w.heap.size, 0, none⟩) 0 0) 0 [] :=
  World.ownsRow_made w #[] 0 (Nat.le_refl _) (by decide) rfl
theorem oi_keep {w w' : World} {B : Nat} {t : TypeId} {v : Value} {n : Nat} {xs : List Value} (hb : Below w.heap.size w w') (h : w.ownsRow B t 1 v n xs) : w'.ownsRow B t 1 v n xs := by
  refine ⟨h.1, ?_⟩
  rcases h.2 with h | ⟨g, cap, cur, h1, h2, h3, h4⟩
  · exact Or.inl h
  · exact Or.inr ⟨g, cap, cur, h1, h2, row_keep hb h3, h4⟩
theorem oi_form {w : World} {B : Nat} {t : TypeId} {v : Value} {n : Nat} {xs : List Value} (h : w.ownsRow B t 1 v n xs) : ∃ a cap, v = .slice a n cap := by
  rcases h.2 with ⟨rfl, rfl⟩ | ⟨g0, cap, c0, rfl, _⟩
  · exact ⟨_, _, rfl⟩
  · exact ⟨_, _, rfl⟩
/-- What grows a row of its own leaves what was there ahead of it. -/
theorem below_grown {a w w' : World} {row : Option Nat} (E : Below a.heap.size a w) (hg : w.grownBy w' row) (hr : ∀ q, row = some q → a.heap.size ≤ q) : Below a.heap.size a w' :=
  ⟨hg.os.trans E.os, hg.tape.trans E.tape, hg.output.trans E.output, Nat.le_trans E.size hg.size, fun k hk => (hg.block k (Nat.lt_of_lt_of_le hk E.size) (fun e => by have := hr _ e.symm; omega)).trans (E.block k hk)⟩

theorem info_whole : ∃ i0, Try.prog.info? 2 = some i0 ∧ i0.zero = some (.int .i64 0) ∧ i0.size = 1 ∧ i0.bytes = 8 := by
  have h : (Try.prog.info? 2).map (fun i => (i.zero, i.size, i.bytes)) = some (some (.int .i64 0), 1, 8) := by kernel_rfl
  revert h
  cases Try.prog.info? 2 with
  | none => intro h; cases h
  | some i =>
    intro h
    simp at h
    exact ⟨i, rfl, h⟩
theorem run_append_empty {P : Program} (w : World) (base : Nat) (t ty e : TypeId) (i : TypeInfo) (size : Nat) (ht : P.underlying t = some (.slice e)) (hi : P.info? e = some i)
    (v : Value) (n : Nat) (xs : List Value) (hown : w.ownsRow base e size v n xs) (c : Nat) : (Builtin.append_ #[t, t] ty #[v, .slice none 0 c]).run P w = .ok v w := by
  rcases hown.2 with ⟨rfl, rfl⟩ | ⟨g, cap, cur, rfl, _, _, hnc, _⟩
  · simp [Builtin.append_, run_underlying ht, sizeOf, typeInfo, hi, Builtin.lenOf, Builtin.firstCells]
  · simp [Builtin.append_, run_underlying ht, sizeOf, typeInfo, hi, Builtin.lenOf, Builtin.firstCells, hnc, storeCells]
/-- append of a slice of integers, nil or not, to a row of its own. -/
theorem wpList_append_ints {P : Program} {w : World} {ops : Array Oper} {rest : List Oper} {o : Oper} {a : Act} {Q : Exit → Act → World → Prop} (hgd : o.guard = none) (s x : Operand) (t : TypeId)
    (ho : o.op = .call { callee := .builtin .append, args := #[s, x], argTypes := #[t, t] })
    (base : Nat) (e : TypeId) (i : TypeInfo) (z0 : Value) (bytes : Nat) (ht : P.underlying t = some (.slice e)) (hi : P.info? e = some i) (hz : i.zero = some z0)
    (hsize : i.size = 1) (hby : i.bytes = bytes) (hzs : z0.cells.size = 1)
    (v : Value) (n : Nat) (xs : List Value) (hs : a.eval s = v) (hown : w.ownsRow base e 1 v n xs)
    (B : Nat) (sa : Option Addr) (m c : Nat) (z : Nat → Int) (hx : a.eval x = .slice sa m c) (hr : IS w B sa m z)
    (h63 : n + m ≤ maxLen) (hbytes : (n + m) * bytes ≤ 140737488355328) (hbase : base ≤ w.heap.size)
    (h : ∀ v' w', w'.ownsRow base e 1 v' (n + m) (xs ++ ints z m) → w.grownBy w' v.ownBlock → wpList P ops Q rest (a.put o.dst v') w') : wpList P ops Q (o :: rest) a w := by
  cases sa with
  | none =>
    have hm : m = 0 := by
      rcases Nat.eq_zero_or_pos m with h0 | h0
      · exact h0
      · obtain ⟨_, _, h1, _⟩ := hr 0 h0
        cases h1
    subst hm
    refine wpList_plain hgd fun K hK => ?_
    have hrun := run_append_empty (P := P) w base t o.type e i 1 ht hi v n xs hown c
    unfold Oper.wp execOp
    simp only [ho, resolve, invoke, builtin, Sem.run_bind, Sem.run_pure, Result.andThen_ok, List.map_toArray, List.map_cons, List.map_nil, hs, hx, hrun]
    exact hK _ _ (h v w (by simpa [ints] using hown) ⟨rfl, rfl, rfl, Nat.le_refl _, fun _ _ _ => rfl⟩)
  | some ad =>
    refine wpList_append_own w hgd s x t ho base e i z0 1 bytes ht hi hz hsize hby hzs (by decide) v n xs hs hown ad m c (ints z m) hx (by rw [ints_len, Nat.mul_one]) (fun j u hj => ?_) ints_cell h63 hbytes hbase (fun v' w' h1 h2 _ => h v' w' h1 h2)
    obtain ⟨hj', rfl⟩ := ints_at hj
    obtain ⟨gb, off, e, _, hc⟩ := hr j hj'
    injection e with e
    subst e
    rw [add_off]
    exact hc
end Go.Proofs.Ytobmjlnficdmlaa
