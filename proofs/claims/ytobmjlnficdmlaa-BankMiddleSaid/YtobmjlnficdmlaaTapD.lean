/- Layer 21: the program's bytes of numbers. -/
import Derived.Test.YtobmjlnficdmlaaTapC
import Derived.Test.YtobmjlnficdmlaaInts
import Derived.OwnWalk
namespace Go.Proofs.Ytobmjlnficdmlaa
open Go.RowKit Go.Shelf Go.Joins Go.Maps

/-- From one world to another, where the row v grew to be v': of what was there nothing else has changed. -/
def GR (w w' : World) (v v' : Value) : Prop := w.grownBy w' v.ownBlock ∧ (v'.ownBlock = v.ownBlock ∨ ∃ q, v'.ownBlock = some q ∧ w.heap.size ≤ q)
theorem gr_refl (w : World) (v : Value) : GR w w v v := ⟨⟨rfl, rfl, rfl, Nat.le_refl _, fun _ _ _ => rfl⟩, Or.inl rfl⟩
theorem gr_below {w w' : World} {v : Value} (h : Below w.heap.size w w') : GR w w' v v := ⟨⟨h.os, h.tape, h.output, h.size, fun k hk _ => h.block k hk⟩, Or.inl rfl⟩
theorem gr_trans {a b c : World} {u v x : Value} (h : GR a b u v) (k : GR b c v x) : GR a c u x := by
  obtain ⟨h1, h2⟩ := h
  obtain ⟨k1, k2⟩ := k
  refine ⟨⟨k1.os.trans h1.os, k1.tape.trans h1.tape, k1.output.trans h1.output, Nat.le_trans h1.size k1.size, fun i hi hn => (k1.block i (Nat.lt_of_lt_of_le hi h1.size) (fun e => ?_)).trans (h1.block i hi hn)⟩, ?_⟩
  · rcases h2 with h2 | ⟨q, h2, hq⟩
    · exact hn (e.trans h2)
    · rw [h2] at e
      injection e with e
      omega
  · rcases k2 with k2 | ⟨q, k2, hq⟩
    · rw [k2]
      exact h2
    · exact Or.inr ⟨q, k2, Nat.le_trans h1.size hq⟩
theorem gr_cell {w w' : World} {v v' : Value} (h : GR w w' v v') {gb o : Nat} {x : Value} (hn : v.ownBlock ≠ some gb) (c : w.cell? ⟨gb, o, none⟩ = some x) : w'.cell? ⟨gb, o, none⟩ = some x := by
  have hl := World.block_lt_of_cell? w _ c
  have e := h.1.block gb hl (fun e => hn e.symm)
  unfold World.cell? at c ⊢
  simp only [e]
  exact c
theorem gr_size {w w' : World} {v v' : Value} (h : GR w w' v v') : w.heap.size ≤ w'.heap.size := h.1.size
theorem below_gr {a w w' : World} {v v' : Value} (E : Below a.heap.size a w) (h : GR w w' v v') (hr : ∀ q, v.ownBlock = some q → a.heap.size ≤ q) : Below a.heap.size a w' := below_grown E h.1 hr
theorem own_from {w : World} {B : Nat} {t : TypeId} {s : Nat} {v : Value} {n : Nat} {xs : List Value} (h : w.ownsRow B t s v n xs) : ∀ q, v.ownBlock = some q → B ≤ q := fun q hq => (h.lt q hq).1
theorem own_to {w : World} {B : Nat} {t : TypeId} {s : Nat} {v : Value} {n : Nat} {xs : List Value} (h : w.ownsRow B t s v n xs) : ∀ q, v.ownBlock = some q → q < w.heap.size := fun q hq => (h.lt q hq).2
theorem info_u8 : ∃ i0, Try.prog.info? 5 = some i0 ∧ i0.zero = some (.int .u8 0) ∧ i0.size = 1 ∧ i0.bytes = 1 := by
  have h : (Try.prog.info? 5).map (fun i => (i.zero, i.size, i.bytes)) = some (some (.int .u8 0), 1, 1) := by kernel_rfl
  revert h
  cases Try.prog.info? 5 with
  | none => intro h; cases h
  | some i =>
    intro h
    simp at h
    exact ⟨i, rfl, h⟩

/-- The bytes of n numbers. -/
def nm (z : Nat → Int) : Nat → List Int
  | 0 => []
  | n + 1 => nm z n ++ num (z n)
theorem nm_len (z : Nat → Int) : ∀ n, (nm z n).length = 8 * n
  | 0 => rfl
  | n + 1 => by
    rw [nm, List.length_append, nm_len z n, num_len]
    omega
theorem sh_byte (x : Int) (j : Nat) : x / 2 ^ (8 * j) % 256 = b8 x j := by
  rw [Int.pow_mul]
  rfl
/-- A row of its own holds these bytes. -/
def OB (w : World) (B : Nat) (v : Value) (l : List Int) : Prop := w.ownsRow B 5 1 v l.length (us l)
theorem ob_keep {w w' : World} {B : Nat} {v : Value} {l : List Int} (hb : Below w.heap.size w w') (h : OB w B v l) : OB w' B v l := oi_keep hb h
theorem ob_nil {w : World} {B : Nat} : OB w B (.slice none 0 0) [] := World.ownsRow_nil _ _ _ _
theorem ob_us {w : World} {B : Nat} {v : Value} {l : List Int} (h : OB w B v l) : ∃ sa cap, v = .slice sa l.length cap ∧ l.length ≤ cap ∧ cap ≤ maxLen ∧ US w B sa l := by
  obtain ⟨sa, cap, e, _, h1, h2, h3⟩ := us_own h
  exact ⟨sa, cap, e, h1, h2, h3⟩
theorem ob_grow {w : World} {B n : Nat} {v : Value} {l m : List Int} (h : w.ownsRow B 5 1 v (l.length + n) (us l ++ us m)) (hn : m.length = n) : OB w B v (l ++ m) := by
  unfold OB
  rw [us_app, List.length_append, hn]
  exact h
theorem gr_app {w w1 w3 : World} {v v' : Value} (hb : Below w.heap.size w w1) (hg : w1.grownBy w3 v.ownBlock) (hat : v'.ownBlock = v.ownBlock ∨ v'.ownBlock = some w1.heap.size) : GR w w3 v v' :=
  gr_trans (gr_below hb) ⟨hg, hat.imp id fun h => ⟨_, h, Nat.le_refl _⟩⟩

end Go.Proofs.Ytobmjlnficdmlaa
