/- Layer 19: the clocks of a run in numbers; the function that hands them on. -/
import Derived.RangeFuncNested
import Derived.RangeFuncLeaves
import Derived.RangeFuncCalls
import Derived.Shelf.Abstract
import Derived.WalkKit
import Derived.OwnWalkIn
import Derived.TacticsInMore
import Derived.LoopNIn
import Derived.LoopIn
import Derived.Test.YtohbneijfibhhaaModA
import Derived.Test.YtohbneijfibhhaaModC
namespace Go.Proofs.Ytohbneijfibhhaa
open Go.RowKit Go.Shelf Go.Joins

attribute [local go_sem] Oper.semAt_some

/-- The clock behind k events. -/
def clk (z : Nat → Int) (co ou : Int) : Nat → Int × Int
  | 0 => (0, 0)
  | k + 1 => nxt (clk z co ou k) (z k) co ou
theorem nxt_since (c : Int × Int) (e co ou : Int) : (nxt c e co ou).2 = 0 ∨ (nxt c e co ou).2 = c.2 ∨ (nxt c e co ou).2 = c.2 + 1 := by
  unfold nxt msd
  repeat' split
  all_goals simp
theorem clk_since (z : Nat → Int) (co ou : Int) (k : Nat) : 0 ≤ (clk z co ou k).2 ∧ (clk z co ou k).2 ≤ k := by
  induction k with
  | zero => simp [clk]
  | succ k ih =>
    have := nxt_since (clk z co ou k) (z k) co ou
    rw [clk]
    omega

/-- All cells stand as they stood, but those of the blocks from p to q. -/
structure Kq (p q : Nat) (A B : World) : Prop where
  size : A.heap.size ≤ B.heap.size
  same : ∀ (k : Nat) (o : Obj), A.heap[k]? = some o → o.isCells = true → (k < p ∨ q < k) → B.heap[k]? = some o
theorem kq_trans {p q : Nat} {A B C : World} (h : Kq p q A B) (k : Kq p q B C) : Kq p q A C :=
  ⟨Nat.le_trans h.size k.size, fun i o hi ho hp => k.same i o (h.same i o hi ho hp) ho hp⟩
theorem kq_put {p q : Nat} (A : World) (l : Nat) (o o' : Obj) (h : A.heap[l]? = some o) (ho : o.isCells = false) : Kq p q A (A.putObj l o') :=
  ⟨by simp, fun k o2 hk hc _ => by
    by_cases e : k = l
    · subst e
      rw [h] at hk
      cases hk
      rw [ho] at hc
      cases hc
    · exact (World.putObj_heap_other e).trans hk⟩
theorem kq_below {p q : Nat} {A B : World} (hb : Below A.heap.size A B) : Kq p q A B := ⟨hb.size, fun _ _ hk _ _ => row_keep hb hk⟩
theorem kq_alloc {p q : Nat} {A : World} {o : Obj} : Kq p q A (A.alloc o) := kq_below (b_alloc (Below.refl _ _))
theorem kq_set {p q b i : Nat} {A : World} {v : Value} (h : p ≤ b) (h2 : b ≤ q) : Kq p q A (A.setCell ⟨b, i, none⟩ v) :=
  ⟨by simp [World.setCell], fun k _ hk _ hp => (heap_setCell_other A ⟨b, i, none⟩ k v (by show k ≠ b; omega)).trans hk⟩
theorem kq_grown {p q g : Nat} {A B : World} (h : p ≤ g) (h2 : g ≤ q) (hg : A.grownBy B (some g)) : Kq p q A B :=
  ⟨hg.size, fun k _ hk _ hp => (hg.block k (Array.getElem?_eq_some_iff.1 hk).1 (fun e => by injection e with e; omega)).trans hk⟩
theorem kq_cell {p q k o : Nat} {A B : World} {v : Value} (h : Kq p q A B) (hp : k < p ∨ q < k) (c : A.cell? ⟨k, o, none⟩ = some v) : B.cell? ⟨k, o, none⟩ = some v := by
  obtain ⟨ob, h1, h2⟩ := cells_of_cell c
  exact (World.cell?_of_block (a := ⟨k, o, none⟩) ((h.same k ob h1 h2 hp).trans h1.symm)).trans c

/-- What the function has at hand: the variables that hold the events, the numbers; the events. -/
structure EI (p q : Nat) (W : World) (E C O : Nat) (sa : Option Addr) (m c : Nat) (z : Nat → Int) (co ou : Int) : Prop where
  e : W.cell? ⟨E, 0, none⟩ = some (.slice sa m c)
  c : W.cell? ⟨C, 0, none⟩ = some (.int .i64 co)
  o : W.cell? ⟨O, 0, none⟩ = some (.int .i64 ou)
  pq : p ≤ q
  el : q < E
  cl : q < C
  ol : q < O
  z : ∀ k, k < m → ∃ gb off, sa = some ⟨gb, off, none⟩ ∧ gb < p ∧ W.cell? ⟨gb, off + k, none⟩ = some (.int .i64 (z k))
theorem ei_keep {p q : Nat} {W W' : World} {E C O : Nat} {sa : Option Addr} {m c : Nat} {z : Nat → Int} {co ou : Int} (k : Kq p q W W') (h : EI p q W E C O sa m c z co ou) : EI p q W' E C O sa m c z co ou :=
  ⟨kq_cell k (Or.inr h.el) h.e, kq_cell k (Or.inr h.cl) h.c, kq_cell k (Or.inr h.ol) h.o, h.pq, h.el, h.cl, h.ol, fun i hi => by
    obtain ⟨gb, off, e, l, g⟩ := h.z i hi
    exact ⟨gb, off, e, l, kq_cell k (Or.inl l) g⟩⟩
theorem ei_set {p q : Nat} {W : World} {E C O b i : Nat} {v : Value} {sa : Option Addr} {m c : Nat} {z : Nat → Int} {co ou : Int} (hE : E < b) (hC : C < b) (hO : O < b) (h : EI p q W E C O sa m c z co ou) : EI p q (W.setCell ⟨b, i, none⟩ v) E C O sa m c z co ou := by
  have far : ∀ (k j : Nat) (u : Value), k < b → W.cell? ⟨k, j, none⟩ = some u → (W.setCell ⟨b, i, none⟩ v).cell? ⟨k, j, none⟩ = some u := fun k j u hk hc => by
    rw [World.cell?_setCell_far _ _ _ _ (by show b ≠ k; omega)]
    exact hc
  refine ⟨far _ _ _ hE h.e, far _ _ _ hC h.c, far _ _ _ hO h.o, h.pq, h.el, h.cl, h.ol, fun k hk => ?_⟩
  obtain ⟨gb, off, e, l, g⟩ := h.z k hk
  have := h.el
  have := h.pq
  exact ⟨gb, off, e, l, far _ _ _ (by omega) g⟩

theorem on_step {z : Nat → Int} {co ou : Int} {k : Nat} {m1 s1 m2 s2 : Int} (h1 : clk z co ou k = (m1, s1)) (h2 : clk z co ou (k + 1) = (m2, s2)) (ho : ou ≤ 9223372036854775807) {w : World} :
    Calls Try.prog 7 #[ckv (m1, s1), .int .i64 (z k), .int .i64 co, .int .i64 ou] w (RetV (ckv (m2, s2)) w) := by
  have e : nxt (m1, s1) (z k) co ou = (m2, s2) := by
    rw [← h1]
    exact h2
  have hs := (clk_since z co ou k).1
  rw [h1] at hs
  have h := on_clock m1 s1 (z k) co ou (Int.le_trans (by decide) hs) ho w
  rw [e] at h
  exact h

set_option maxRecDepth 100000 in
set_option maxHeartbeats 4000000 in
theorem clocks_in (n : Nat) (hn : 1 ≤ n) (p q l E C O : Nat) (sa : Option Addr) (m c : Nat) (z : Nat → Int) (co ou : Int) (hm : m ≤ 300) (ho : ou ≤ 9223372036854775807) (J : Nat → World → Prop) (W : World) (hA : Ahead W.heap.size J)
    (hY : ∀ k A, k < m → J k A → YieldAt Fence.wide (n - 1) Try.prog l #[ckv (clk z co ou (k + 1))] A fun e A' => e = .returned (.bool true) ∧ J (k + 1) A' ∧ Kq p q A A')
    (hT : EI p q W E C O sa m c z co ou) (h0 : J 0 W) :
    CallsIn Fence.wide n Try.prog 14 #[.func (.yield l) #[] #[], .pointer (some ⟨E, 0, none⟩), .pointer (some ⟨C, 0, none⟩), .pointer (some ⟨O, 0, none⟩)] W fun e A => (∃ v, e = .returned v) ∧ J m A := by
  refine callsIn_of_wp Try.func14 rfl trivial ?_ rfl
  simp only [Try.ntmps14, List.size_toArray, List.length_cons, List.length_nil, Nat.reduceAdd, Nat.reduceSub, Array.replicate_succ, Array.replicate_zero, List.push_toArray, List.append_toArray, List.nil_append, List.cons_append]
  have kE : E < W.heap.size := World.block_lt_of_cell? W _ hT.e
  have kC : C < W.heap.size := World.block_lt_of_cell? W _ hT.c
  have kO : O < W.heap.size := World.block_lt_of_cell? W _ hT.o
  have kp := hT.el
  have e1 : (W.alloc (Obj.cells #[.int .i64 0, .int .i64 0] 23)).cell? ⟨E, 0, none⟩ = some (.slice sa m c) := kq_cell (p := p) (q := q) kq_alloc (Or.inr hT.el) hT.e
  gi_wp2
  clear e1
  gi_loopw [11] (fun iv wr => ∃ k : Nat, k ≤ m ∧ iv = .int .i64 k ∧ J k wr ∧ EI p q wr E C O sa m c z co ou ∧ KR wr W.heap.size 23 (clk z co ou k).1 (clk z co ou k).2) (fun iv _ => m - (intOf iv).toNat)
  case atStart => exact ⟨0, Nat.zero_le _, rfl, ahead_lay hA _ h0, ei_keep kq_alloc hT, heap_alloc_last _ _⟩
  case round =>
    obtain ⟨k, hk, rfl, hJ, hI, hR⟩ := hrel
    by_cases d : k < m
    · obtain ⟨gb, off, rfl, hlt, g⟩ := hI.z k d
      obtain ⟨⟨m1, s1⟩, h1⟩ : ∃ q, clk z co ou k = q := ⟨_, rfl⟩
      obtain ⟨⟨m2, s2⟩, h2⟩ : ∃ q, clk z co ou (k + 1) = q := ⟨_, rfl⟩
      have cO := fun w => on_step (w := w) h1 h2 ho
      rw [h1] at hR
      have hY' := hY k
      rw [h2] at hY'
      have HY := Lib.hid hY'
      have HI := Lib.hid hI
      have HJ := Lib.hid hJ
      have HR := Lib.hid hR
      have q0 : (0 : Int) ≤ (k : Int) := by omega
      have q1 : (k : Int) < (m : Int) := by omega
      have ws : IntKind.i64.wrap ((k : Int) + 1) = (k : Int) + 1 := by rw [IntKind.wrap_i64]; omega
      have ce := hI.c
      have oe := hI.o
      have g0 : wr.cell? ⟨W.heap.size, 0, none⟩ = some (.int .i64 m1) := (cell_of_row _ _ 0 _ _ _ hR).trans rfl
      have g1 : wr.cell? ⟨W.heap.size, 1, none⟩ = some (.int .i64 s1) := (cell_of_row _ _ 1 _ _ _ hR).trans rfl
      have H2 := Lib.hid h2
      clear h1 h2 hY hY' hI hJ hR hT h0
      generalize z k = v at *
      gi_wp2_with fail
      refine ⟨trivial, (callsIn_wide.2 (cO _)).mono ?_⟩
      rintro e y1 ⟨rfl, hb⟩
      have R1 : KR y1 W.heap.size 23 m1 s1 := row_keep hb HR.out
      have R2 := kr_set (m' := m2) (s' := s2) R1
      have I2 := ei_set (b := W.heap.size) (i := 1) (v := .int .i64 s2) kE kC kO (ei_set (b := W.heap.size) (i := 0) (v := .int .i64 m2) kE kC kO (ei_keep (kq_below hb) HI.out))
      have J2 := ahead_set (i := 1) (v := .int .i64 s2) hA (Nat.le_refl _) (ahead_set (i := 0) (v := .int .i64 m2) hA (Nat.le_refl _) (ahead_below hA hb HJ.out))
      obtain ⟨fn, tmps, assign, body, hy, hrun⟩ := HY.out _ d J2
      have h0 : y1.cell? ⟨W.heap.size, 0, none⟩ = some (.int .i64 m1) := (cell_of_row _ _ 0 _ _ _ R1).trans rfl
      have h1 : y1.cell? ⟨W.heap.size, 1, none⟩ = some (.int .i64 s1) := (cell_of_row _ _ 1 _ _ _ R1).trans rfl
      have f0 := frozen_of_row y1 W.heap.size 0 _ _ R1
      have f1 := frozen_of_row y1 W.heap.size 1 _ _ R1
      have HR2 := Lib.hid R2
      have HI2 := Lib.hid I2
      have HN := Lib.hid hrun
      clear R1 R2 I2 J2 hrun HY HI HJ HR g0 g1 g ce oe hb cO
      gi_wp2_with fail
      refine HN.out.mono ?_
      rintro e W3 ⟨rfl, hJ3, hk3⟩
      have HR3 : KR W3 W.heap.size 23 m2 s2 := hk3.same _ _ HR2.out rfl (Or.inr (by omega))
      have HI3 := ei_keep hk3 HI2.out
      replace HR3 := Lib.hid HR3
      replace HI3 := Lib.hid HI3
      clear HN HR2 HI2 hk3 h0 h1 f0 f1 hy
      gi_wp2
      go_roundw
      case rel => exact ⟨k + 1, d, rfl, hJ3, HI3.out, by rw [H2.out]; exact HR3.out⟩
      case measure => simp [intOf]; omega
    · obtain rfl : k = m := by omega
      gi_wp2
      go_end0
      exact ⟨⟨_, rfl⟩, hJ⟩

theorem clocks_hands (n : Nat) (hn : 1 ≤ n) (p q E C O : Nat) (sa : Option Addr) (m c : Nat) (z : Nat → Int) (co ou : Int) (hm : m ≤ 300) (ho : ou ≤ 9223372036854775807) (w : World) (hT : EI p q w E C O sa m c z co ou) :
    Hands Fence.wide n Try.prog 14 #[.pointer (some ⟨E, 0, none⟩), .pointer (some ⟨C, 0, none⟩), .pointer (some ⟨O, 0, none⟩)] (fun k => #[ckv (clk z co ou (k + 1))]) (Kq p q) m w := fun l J W hW hA hY h0 =>
  clocks_in n hn p q l E C O sa m c z co ou hm ho J W hA hY (ei_keep (kq_below hW) hT) h0

theorem clocks_any (sa : Option Addr) (m c : Nat) (co ou : Int) (w : World) :
    Calls Try.prog 13 #[.slice sa m c, .int .i64 co, .int .i64 ou] w fun e w' => e = .returned (.func (.func 14) #[] #[.pointer (some ⟨w.heap.size, 0, none⟩), .pointer (some ⟨w.heap.size + 1, 0, none⟩), .pointer (some ⟨w.heap.size + 1 + 1, 0, none⟩)]) ∧
      w' = ((w.alloc (Obj.cells #[.slice sa m c] 30)).alloc (Obj.cells #[.int .i64 co] 2)).alloc (Obj.cells #[.int .i64 ou] 2) := by
  go_enter Try.func13, Try.ntmps13
  go_wp2
  go_ret
  exact ⟨rfl, rfl⟩
end Go.Proofs.Ytohbneijfibhhaa
