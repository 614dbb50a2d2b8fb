/- A range over a function that keeps a variable of its own in memory (it writes it between two rounds): a contract for such a function, and the loop over it. The loop's body never leaves early; what its owner says between two rounds lies ahead of the loop. -/
import Derived.Test.YtohbneijfibhhaaBase
import Derived.RangeFuncNested
import Derived.RangeFuncLeaves
import Derived.RangeFuncCalls
namespace Go.Proofs.Ytohbneijfibhhaa
open Go.RowKit Go.Shelf

/-- What is said of a world holds on when blocks from B on are laid or turned. -/
def Ahead (B : Nat) (J : Nat → World → Prop) : Prop := ∀ k A A' row, J k A → A.grownBy A' row → (∀ r, row = some r → B ≤ r) → J k A'
theorem ahead_put {B k l : Nat} {J : Nat → World → Prop} (h : Ahead B J) {A : World} (o : Obj) (hl : B ≤ l) (j : J k A) : J k (A.putObj l o) :=
  h k A _ (some l) j (grownBy_putObj' A l o) fun r e => by cases e; exact hl
theorem ahead_lay {B k : Nat} {J : Nat → World → Prop} (h : Ahead B J) {A : World} (o : Obj) (j : J k A) : J k (A.alloc o) :=
  h k A _ none j (World.grownBy_alloc A o none) fun r e => by cases e
theorem ahead_below {B k : Nat} {J : Nat → World → Prop} (h : Ahead B J) {A A' : World} (hb : Below A.heap.size A A') (j : J k A) : J k A' :=
  h k A A' none j ⟨hb.os, hb.tape, hb.output, hb.size, fun i hi _ => hb.block i hi⟩ fun r e => by cases e
theorem ahead_set {B k b i : Nat} {J : Nat → World → Prop} (h : Ahead B J) {A : World} {v : Value} (hl : B ≤ b) (j : J k A) : J k (A.setCell ⟨b, i, none⟩ v) :=
  h k A _ (some b) j ⟨rfl, rfl, rfl, by simp [World.setCell], fun n _ hn => heap_setCell_other A ⟨b, i, none⟩ n v (fun e => hn (by rw [e]))⟩ fun r e => by cases e; exact hl

/-- The function hands on N elements, one by one; a round keeps what Kp says. -/
def Hands (F : Fence) (n : Nat) (P : Program) (g : Nat) (lb : Array Value) (el : Nat → Array Value) (Kp : World → World → Prop) (N : Nat) (w : World) : Prop :=
  ∀ (l : Nat) (J : Nat → World → Prop) (W : World), Below w.heap.size w W → Ahead W.heap.size J →
    (∀ k A, k < N → J k A → YieldAt F (n - 1) P l (el k) A fun e A' => e = .returned (.bool true) ∧ J (k + 1) A' ∧ Kp A A') →
    J 0 W → CallsIn F n P g (#[.func (.yield l) #[] #[]] ++ lb) W fun e A => (∃ v, e = .returned v) ∧ J N A

variable {F : Fence} {n : Nat} {P : Program}

theorem range_hands {el : Nat → Array Value} {g : Operand} {ps : Array Tmp} {assign body : Code} {Q : Exit → Act → World → Prop} {a : Act} {w : World}
    (hro : F.round = none) (h1 : 1 ≤ n) {gf : Nat} {lb : Array Value} (hg : a.eval g = .func (.func gf) #[] lb) (hF : F.fn gf) (eg : ∀ args w, (callFunc gf args).run P w = .ok (.enter gf args) w)
    {Kp : World → World → Prop} {N : Nat} (seq : Hands F (n - 1) P gf lb el Kp N w) (hps : ∀ k, (el k).size = ps.size)
    (kt : ∀ {A B C : World}, Kp A B → Kp B C → Kp A C) (kb : ∀ (A : World) (l : Nat) (o o' : Obj), A.heap[l]? = some o → o.isCells = false → Kp A (A.putObj l o'))
    (I : Nat → World → Prop) (hI : Ahead w.heap.size I) (h0 : I 0 w) (Ax : Nat → Act → World → Prop) (hAx : ∀ k a', OwnFrom w.heap.size (fun (_ : Unit) A => Ax k a' A))
    (hassign : ∀ (l k : Nat) (A : World) (K : Act → World → Prop), I k A → (∀ a' A', KeepsFrom w.heap.size A A' → Kp A A' → I k A' → Ax k a' A' → K a' A') →
      assign.wpIn (F.inRound l) (n - 1 - 1) P (Exit.then K (fun _ _ _ => False)) { tmps := (ps.zip (el k)).foldl (fun t (p, v) => t.setIfInBounds p v) a.tmps, defers := [] } A)
    (hbody : ∀ (l k : Nat) (a' : Act) (A : World), k < N → I k A → Ax k a' A →
      body.wpIn (F.inRound l) (n - 1 - 1) P (fun e _ A' => e = .normal ∧ KeepsFrom w.heap.size A A' ∧ Kp A A' ∧ I (k + 1) A') a' A)
    (hdone : ∀ (D : Nat) (A : World), w.heap.size ≤ D → I N A → A.heap[D]? = some (.deferred (some [])) → Q .normal { a with defers := { target := .collected D, args := #[] } :: a.defers } A) :
    (Code.rangeFunc g ps assign body).wpIn F n P Q a w := by
  refine wpIn_rangeFunc fun fn hfn => ?_
  rw [hro]
  -- the loop's record, in each of its states
  obtain ⟨st, hst⟩ : ∃ st : LoopState → Loop, st = fun s => { state := s, pending := none, fn, tmps := a.tmps, params := ps, assign, body, defers := w.heap.size } := ⟨_, rfl⟩
  obtain ⟨B, hB⟩ : ∃ B, w.heap.size = B := ⟨_, rfl⟩
  obtain ⟨V, hV⟩ : ∃ V, (w.alloc (.deferred (some []))).alloc (.loop (st .ready)) = V := ⟨_, rfl⟩
  have vL : V.heap[B + 1]? = some (.loop (st .ready)) := by
    have := World.alloc_heap_new (w.alloc (.deferred (some []))) (.loop (st .ready))
    rw [World.size_alloc, hV, hB] at this
    exact this
  have vD : V.heap[B]? = some (.deferred (some [])) := by
    rw [← hV, ← hB]
    exact (heap_alloc_old _ _ (by simp)).trans (World.alloc_heap_new w _)
  have vS : V.heap.size = B + 2 := by rw [← hV, ← hB]; simp
  have vI : I 0 V := by rw [← hV]; exact ahead_lay hI _ (ahead_lay hI _ h0)
  have vB : Below w.heap.size w V := by rw [← hV]; exact ((Below.refl _ w).alloc (Nat.le_refl _) _).alloc (by simp) _
  refine ⟨B + 1, [{ target := .collected B, args := #[] }], V, { target := .fn (.func gf) lb, args := #[.func (.yield (B + 1)) #[] #[]] }, V, gf, #[.func (.yield (B + 1)) #[] #[]] ++ lb, V, ?_, ?_, ?_, ?_, fun _ => h1, ?_⟩
  · rw [← hV, hst, ← hB]
    exact run_enterLoop_outer _ _ _ _ _
  · simp only [resolve, hg]
    simp [go_sem]
  · intro f hf
    simp [Target.leads] at hf
    subst hf
    exact hF
  · simp [invoke, go_sem, eg]
  refine (seq (B + 1) (fun k A => I k A ∧ A.heap[B + 1]? = some (.loop (st .ready)) ∧ A.heap[B]? = some (.deferred (some []))) V vB ?_ ?_ ⟨vI, vL, vD⟩).mono ?_
  · rintro k A A' row ⟨j, jl, jd⟩ hg' hr
    rw [vS] at hr
    have keep : ∀ (b : Nat) (o : Obj), b < B + 2 → A.heap[b]? = some o → A'.heap[b]? = some o := fun b o hb ho =>
      (hg'.block b (Array.getElem?_eq_some_iff.1 ho).1 (fun e => by have := hr b e.symm; omega)).trans ho
    exact ⟨hI k A A' row j hg' (fun r e => by have := hr r e; omega), keep _ _ (by omega) jl, keep _ _ (by omega) jd⟩
  · rintro k A hk ⟨j, jl, jd⟩
    have hy := run_yield (P := P) (args := el k) jl (by rw [hst]; exact hps k)
    rw [hst] at hy
    refine ⟨fn, _, assign, body, hy, roundIn_of_wpIn hfn (hassign (B + 1) k A _ j ?_)⟩
    clear hy
    intro a' A1 q1 p1 j1 x1
    rw [hB] at q1
    have l1 := q1.same _ _ (by omega) jl rfl
    have d1 := q1.same _ _ (Nat.le_refl _) jd rfl
    have s1 : B + 1 < A1.heap.size := (Array.getElem?_eq_some_iff.1 l1).1
    refine ⟨_, run_beginRound l1 (by rw [hst]), ?_⟩
    have p2 := kb A1 (B + 1) _ (.loop { st .ready with state := .busy }) l1 rfl
    have j2 := ahead_put hI (.loop { st .ready with state := .busy }) (by omega : w.heap.size ≤ B + 1) j1
    have x2 := (hAx k a').putObj (s := ()) (.loop { st .ready with state := .busy }) x1 (by omega : w.heap.size ≤ B + 1) l1 rfl
    have l2 : (A1.putObj (B + 1) (.loop { st .ready with state := .busy })).heap[B + 1]? = some (.loop { st .ready with state := .busy }) := World.putObj_heap_same s1
    have d2 : (A1.putObj (B + 1) (.loop { st .ready with state := .busy })).heap[B]? = some (.deferred (some [])) := (World.putObj_heap_other (by omega)).trans d1
    refine wpIn_mono (hbody (B + 1) k a' _ hk j2 x2) ?_
    rintro e a3 A3 ⟨rfl, q3, p3, j3⟩
    rw [hB] at q3
    have l3 := q3.same _ _ (by omega) l2 rfl
    have d3 := q3.same _ _ (Nat.le_refl _) d2 rfl
    have s3 : B + 1 < A3.heap.size := (Array.getElem?_eq_some_iff.1 l3).1
    have r3 := run_endRound (P := P) none l3
    have e3 : ({ { st .ready with state := .busy } with state := .ready, pending := none } : Loop) = st .ready := by rw [hst]
    simp only [Option.isNone_none, if_true] at r3
    exact ⟨_, _, r3, rfl, ⟨ahead_put hI _ (by omega) j3, by rw [World.putObj_heap_same s3, e3], (World.putObj_heap_other (by omega)).trans d3⟩, kt p1 (kt (kt p2 p3) (kb A3 (B + 1) _ _ l3 rfl))⟩
  · rintro e A ⟨⟨v, rfl⟩, j, jl, jd⟩
    have hend := run_endLoop (P := P) jl (by rw [hst]; simp)
    rw [hst] at hend
    exact ⟨none, _, hend, hdone B _ (by omega) (ahead_put hI _ (by omega) j) ((World.putObj_heap_other (by omega)).trans jd)⟩
end Go.Proofs.Ytohbneijfibhhaa
