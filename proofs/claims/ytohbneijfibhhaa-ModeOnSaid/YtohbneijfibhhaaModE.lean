/- Layer 19: the program's Run: the clocks behind any events. -/
import Derived.RangeFuncBox
import Derived.Maps.AppendAt
import Derived.Test.YtohbneijfibhhaaModD
namespace Go.Proofs.Ytohbneijfibhhaa
open Go.RowKit Go.Shelf Go.Joins

attribute [local go_sem] Oper.semAt_some

/-- The clocks behind n events, as they lie. -/
def crow (z : Nat → Int) (co ou : Int) : Nat → List Value
  | 0 => []
  | n + 1 => crow z co ou n ++ [.int .i64 (clk z co ou (n + 1)).1, .int .i64 (clk z co ou (n + 1)).2]
theorem crow_len (z : Nat → Int) (co ou : Int) (n : Nat) : (crow z co ou n).length = n * 2 := by
  induction n with
  | zero => rfl
  | succ n ih => rw [crow, List.length_append, ih]; simp; omega
theorem crow_at (z : Nat → Int) (co ou : Int) (n k : Nat) (h : k < n) : (crow z co ou n)[k * 2]? = some (.int .i64 (clk z co ou (k + 1)).1) ∧ (crow z co ou n)[k * 2 + 1]? = some (.int .i64 (clk z co ou (k + 1)).2) := by
  induction n with
  | zero => omega
  | succ n ih =>
    rw [crow]
    by_cases e : k = n
    · subst e
      rw [List.getElem?_append_right (by rw [crow_len]; omega), List.getElem?_append_right (by rw [crow_len]; omega), crow_len]
      simp
    · rw [List.getElem?_append_left (by rw [crow_len]; omega), List.getElem?_append_left (by rw [crow_len]; omega)]
      exact ih (by omega)
theorem info_clock : (Try.prog.info? 23).map (fun i => (i.zero, i.size, i.bytes)) = some (some (.agg #[.int .i64 0, .int .i64 0]), 2, 16) := by kernel_rfl
theorem two_new (w : World) (x y : Value) (t : TypeId) : ∀ j u, [x, y][j]? = some u → (w.alloc (Obj.cells #[x, y] t)).cell? ((⟨w.heap.size, 0, none⟩ : Addr).add j) = some u := fun j u hu => by
  have hadd : (⟨w.heap.size, 0, none⟩ : Addr).add j = ⟨w.heap.size, j, none⟩ := by unfold Addr.add; split <;> simp_all
  rw [hadd, cell_of_row _ _ j _ _ _ (heap_alloc_last w _)]
  simpa using hu
/-- Block b holds the clocks behind n events. -/
def CW (w : World) (b n : Nat) (z : Nat → Int) (co ou : Int) : Prop := ∀ k, k < n → w.cell? ⟨b, k * 2, none⟩ = some (.int .i64 (clk z co ou (k + 1)).1) ∧ w.cell? ⟨b, k * 2 + 1, none⟩ = some (.int .i64 (clk z co ou (k + 1)).2)
theorem cw_own {w : World} {B b n cap : Nat} {t : TypeId} {z : Nat → Int} {co ou : Int} (h : w.ownsRow B t 2 (.slice (some ⟨b, 0, none⟩) n cap) n (crow z co ou n)) : CW w b n z co ou := fun k hk => by
  have add : ∀ j, (⟨b, 0, none⟩ : Addr).add j = ⟨b, j, none⟩ := fun j => by unfold Addr.add; split <;> simp_all
  have c0 := h.cells rfl _ _ (crow_at z co ou n k hk).1
  have c1 := h.cells rfl _ _ (crow_at z co ou n k hk).2
  rw [add] at c0 c1
  exact ⟨c0, c1⟩
theorem cw_keep {w w' : World} {b n : Nat} {z : Nat → Int} {co ou : Int} (hb : Below w.heap.size w w') (h : CW w b n z co ou) : CW w' b n z co ou := fun k hk => ⟨cell_keep hb (h k hk).1, cell_keep hb (h k hk).2⟩

/-- What the loop keeps: the slice, the row, what was there. -/
def RK (w : World) (R m : Nat) (z : Nat → Int) (co ou : Int) (k : Nat) (A : World) : Prop :=
  Boxed A R 31 (.slice (some ⟨w.heap.size, 0, none⟩) k m) ∧ A.ownsRow w.heap.size 23 2 (.slice (some ⟨w.heap.size, 0, none⟩) k m) k (crow z co ou k) ∧ Below w.heap.size w A
theorem rk_ahead {w : World} {R m B : Nat} {z : Nat → Int} {co ou : Int} (hB : R < B) (hw : w.heap.size < B) : Ahead B (RK w R m z co ou) := by
  rintro k A A' row ⟨b, r, e⟩ hg hr
  refine ⟨b.kept hg (fun e' => ?_), r.kept hg (Or.inr (fun e' => ?_)), hg.os.trans e.os, hg.tape.trans e.tape, hg.output.trans e.output, Nat.le_trans e.size hg.size, fun i hi => (hg.block i (Nat.lt_of_lt_of_le hi e.size) (fun e' => ?_)).trans (e.block i hi)⟩
  · have := hr R e'.symm
    omega
  · have := hr w.heap.size e'.symm
    omega
  · have := hr i e'.symm
    omega

set_option maxRecDepth 100000 in
set_option maxHeartbeats 4000000 in
theorem run_any (sa : Option Addr) (m c : Nat) (z : Nat → Int) (co ou : Int) (hm : m ≤ 300) (ho : ou ≤ 9223372036854775807) (w : World) (hz : ∀ k, k < m → ∃ gb off, sa = some ⟨gb, off, none⟩ ∧ w.cell? ⟨gb, off + k, none⟩ = some (.int .i64 (z k))) :
    Calls Try.prog 11 #[.slice sa m c, .int .i64 co, .int .i64 ou] w fun e w' => e = .returned (.slice (some ⟨w.heap.size, 0, none⟩) m m) ∧ CW w' w.heap.size m z co ou ∧ Below w.heap.size w w' := by
  obtain ⟨i0, hi, hz0, hz1, hz2⟩ := info_parts info_clock
  refine (callsIn_wide (n := 5)).1 ?_
  refine callsIn_of_wp_marks Try.func11 rfl trivial ?_ rfl
  simp only [Try.ntmps11, List.size_toArray, List.length_cons, List.length_nil, Nat.reduceAdd, Nat.reduceSub, Array.replicate_succ, Array.replicate_zero, List.push_toArray, List.append_toArray, List.nil_append, List.cons_append]
  gi_wp2_with (gi_at_make; refine wpListIn_make_own _ rfl _ _ 31 rfl w.heap.size 23 i0 (.agg #[.int .i64 0, .int .i64 0]) 2 Try.underlying31 hi hz0 hz1 .i64 .i64 _ m rfl rfl rfl (by rw [hz2]; omega) (by unfold maxLen; omega) (Nat.le_refl _) ?_; intro w0 hown0 hgrow0)
  refine ⟨trivial, (callsIn_wide.2 (clocks_any _ _ _ _ _ _)).mono ?_⟩
  rintro e w1 ⟨rfl, rfl⟩
  have hb0 : Below w.heap.size w w0 := ⟨hgrow0.os, hgrow0.tape, hgrow0.output, hgrow0.size, fun i hi => hgrow0.block i hi (fun e => by cases e)⟩
  have hG : w.heap.size < w0.heap.size := (hown0.lt _ rfl).2
  obtain ⟨R, hR⟩ : ∃ R, w0.heap.size = R := ⟨_, rfl⟩
  have s1 : (w0.alloc (Obj.cells #[.slice (some ⟨w.heap.size, 0, none⟩) 0 m] 31)).heap.size = R + 1 := by simp [hR]
  have bx := Boxed.new w0 31 (.slice (some ⟨w.heap.size, 0, none⟩) 0 m)
  have ow := hown0.alloc (Obj.cells #[.slice (some ⟨w.heap.size, 0, none⟩) 0 m] 31)
  have E1 := b_alloc (o := Obj.cells #[.slice (some ⟨w.heap.size, 0, none⟩) 0 m] 31) hb0
  rw [hR] at bx hG
  rw [s1]
  simp only [hR]
  generalize w0.alloc (Obj.cells #[.slice (some ⟨w.heap.size, 0, none⟩) 0 m] 31) = w2 at *
  clear hown0 hgrow0 hb0 hR
  have g2 : w2.heap.size = R + 1 := s1
  have h0 : ((w2.alloc (Obj.cells #[.slice sa m c] 30)).alloc (Obj.cells #[.int .i64 co] 2)).heap.size = R + 3 := by simp [g2]
  have h1 : (w2.alloc (Obj.cells #[.slice sa m c] 30)).heap.size = R + 2 := by simp [g2]
  have eE : (((w2.alloc (Obj.cells #[.slice sa m c] 30)).alloc (Obj.cells #[.int .i64 co] 2)).alloc (Obj.cells #[.int .i64 ou] 2)).cell? ⟨R + 1, 0, none⟩ = some (.slice sa m c) := by
    rw [← g2]; simp [go_sem]
  have eC : (((w2.alloc (Obj.cells #[.slice sa m c] 30)).alloc (Obj.cells #[.int .i64 co] 2)).alloc (Obj.cells #[.int .i64 ou] 2)).cell? ⟨R + 1 + 1, 0, none⟩ = some (.int .i64 co) := by
    rw [← g2]; simp [go_sem]
  have eO : (((w2.alloc (Obj.cells #[.slice sa m c] 30)).alloc (Obj.cells #[.int .i64 co] 2)).alloc (Obj.cells #[.int .i64 ou] 2)).cell? ⟨R + 1 + 1 + 1, 0, none⟩ = some (.int .i64 ou) := by
    rw [← g2]; simp [go_sem]
  have s4 : (((w2.alloc (Obj.cells #[.slice sa m c] 30)).alloc (Obj.cells #[.int .i64 co] 2)).alloc (Obj.cells #[.int .i64 ou] 2)).heap.size = R + 4 := by simp [g2]
  have bx4 := ((bx.alloc (Obj.cells #[.slice sa m c] 30)).alloc (Obj.cells #[.int .i64 co] 2)).alloc (Obj.cells #[.int .i64 ou] 2)
  have ow4 := ((ow.alloc (Obj.cells #[.slice sa m c] 30)).alloc (Obj.cells #[.int .i64 co] 2)).alloc (Obj.cells #[.int .i64 ou] 2)
  have E4 := b_alloc (o := Obj.cells #[.int .i64 ou] 2) (b_alloc (o := Obj.cells #[.int .i64 co] 2) (b_alloc (o := Obj.cells #[.slice sa m c] 30) E1))
  gi_wp2
  generalize (((w2.alloc (Obj.cells #[.slice sa m c] 30)).alloc (Obj.cells #[.int .i64 co] 2)).alloc (Obj.cells #[.int .i64 ou] 2)) = W0 at *
  have T0 : EI w.heap.size R W0 (R + 1) (R + 1 + 1) (R + 1 + 1 + 1) sa m c z co ou := ⟨eE, eC, eO, by omega, by omega, by omega, by omega, fun k hk => by
    obtain ⟨gb, off, e, g⟩ := hz k hk
    have hl : gb < w.heap.size := World.block_lt_of_cell? w _ g
    exact ⟨gb, off, e, hl, (E4.cell (p := ⟨gb, off + k, none⟩) hl).trans g⟩⟩
  clear bx ow E1 g2 h0 h1 s1 eE eC eO hz
  refine range_hands (F := Fence.wide) rfl (by decide) (gf := 14) (lb := #[.pointer (some ⟨R + 1, 0, none⟩), .pointer (some ⟨R + 1 + 1, 0, none⟩), .pointer (some ⟨R + 1 + 1 + 1, 0, none⟩)]) rfl trivial (enters_of Try.func14 (by kernel_rfl) rfl)
    (clocks_hands 4 (by decide) w.heap.size R _ _ _ sa m c z co ou hm ho W0 T0) (fun _ => rfl) kq_trans kq_put
    (RK w R m z co ou) (rk_ahead (by omega) (by omega)) ⟨bx4, ow4, E4⟩
    (fun k a' A => ∃ Bx, KR A Bx 23 (clk z co ou (k + 1)).1 (clk z co ou (k + 1)).2 ∧ a' = { tmps := #[.slice sa m c, .int .i64 co, .int .i64 ou, undef, undef, undef, .slice none 0 0, .pointer (some ⟨R, 0, none⟩), .pointer (some ⟨Bx, 0, none⟩), .slice sa m c, .int .i64 m, .slice (some ⟨w.heap.size, 0, none⟩) 0 m, .slice sa m c, .int .i64 co, .int .i64 ou, .func (.func 14) #[] #[.pointer (some ⟨R + 1, 0, none⟩), .pointer (some ⟨R + 1 + 1, 0, none⟩), .pointer (some ⟨R + 1 + 1 + 1, 0, none⟩)], ckv (clk z co ou (k + 1)), undef, undef, undef, undef, undef], defers := [] })
    (fun k a' s X Y row hs hg hr => ?own) ?assign ?body ?done
  case own =>
    obtain ⟨Bx, h1, h2⟩ := hs
    refine ⟨Bx, (hg.block Bx (Array.getElem?_eq_some_iff.1 h1).1 (fun e => ?_)).trans h1, h2⟩
    obtain ⟨-, o, ho', hc⟩ := hr Bx e.symm
    rw [h1] at ho'
    cases ho'
    cases hc
  case assign =>
    rintro l k A K hS hK
    gi_wp2
    exact hK _ _ ((KeepsOthers.alloc _ _).from _) kq_alloc (ahead_lay (rk_ahead (B := R + 1) (by omega) (by omega)) _ hS) ⟨A.heap.size, heap_alloc_last _ _, rfl⟩
  case body =>
    rintro l k a' A hk ⟨hv, hrow, hE⟩ ⟨Bx, hX, rfl⟩
    have hc := hv.cell
    have g0 : A.cell? ⟨Bx, 0, none⟩ = some (.int .i64 (clk z co ou (k + 1)).1) := (cell_of_row _ _ 0 _ _ _ hX).trans rfl
    have g1 : A.cell? ⟨Bx, 1, none⟩ = some (.int .i64 (clk z co ou (k + 1)).2) := (cell_of_row _ _ 1 _ _ _ hX).trans rfl
    have hX' := Lib.hid hX
    have hV := Lib.hid hv
    have hW := Lib.hid hrow
    have hN : crow z co ou (k + 1) = crow z co ou k ++ [.int .i64 (clk z co ou (k + 1)).1, .int .i64 (clk z co ou (k + 1)).2] := rfl
    replace hN := Lib.hid hN
    have hne : some R ≠ some w.heap.size := fun e => by injection e with e; omega
    generalize (clk z co ou (k + 1)).1 = m1 at *
    generalize (clk z co ou (k + 1)).2 = s1 at *
    clear hX hv hrow T0 bx4 ow4
    gi_wp2_with (gi_at_builtin; refine wpListIn_append_fits _ rfl _ _ 31 rfl w.heap.size 23 i0 2 Try.underlying31 hi hz1 w.heap.size k m (crow z co ou k) rfl (hW.out.alloc _) ⟨A.heap.size, 0, none⟩ 1 1 [.int .i64 m1, .int .i64 s1] rfl rfl (two_new _ _ _ _) (by simp [Value.oneCell']) (by omega) ?_; intro w3 hown' hgrow'; have hv1 := (hV.out.alloc (Obj.cells #[.int .i64 m1, .int .i64 s1] 23)).kept hgrow' hne; have hc1 := hv1.cell; have hf1 := hv1.frozen)
    obtain ⟨-, v2, r2, k2, b2⟩ := hV.out.appended (by decide) hW.out hE.size (by omega) hown' hgrow'
    exact ⟨k2.from _, kq_trans kq_alloc (kq_trans (kq_grown (Nat.le_refl _) (by omega) hgrow') (kq_set (by omega) (Nat.le_refl _))), v2, by rw [hN.out]; exact r2, hE.trans b2⟩
  case done =>
    rintro D A hD ⟨hv, hrow, hE⟩ hK
    have hc := hv.cell
    gi_wp2
    refine ⟨by simp, .inl ⟨_, _, rfl, run_takeDeferred hK, ?_⟩⟩
    refine ⟨_, results_tmp rfl _ _ _, rfl, ?_, ?_⟩
    · exact cw_own (ownsRow_putObj hrow _ hK rfl)
    · exact hE.trans (belowK_b (w := w) (Nat.le_refl _) A D _ _ (by omega) hK rfl rfl)
end Go.Proofs.Ytohbneijfibhhaa
