/- Layer 14: the program's Get: what is thrown is caught. -/
import Derived.Test.YtjaccedpkkcjnaaDoorParM
import Derived.Tactics
import Derived.Tactics2
import Derived.Defers
import Derived.Recover
import Derived.Laws.Pointers
namespace Go.Proofs.YtjaccedpkkcjnaaDoor
open Go.RowKit Go.Shelf Go.Lib Go.Maps

/-- What is thrown, as a panic's entry. -/
abbrev thr (r : Bool) : PanicEntry := { v := .iface 27 (.int .i64 6), recovered := r }

set_option maxHeartbeats 4000000 in
set_option maxRecDepth 20000 in
theorem catch_thrown (c e : Nat) (old : Array Value) (hce : c ≠ e) (older : List PanicEntry) (w : World) (hc : w.heap[c]? = some (.cells old 25 (0, 0))) (ho : old.size = 31) (he : w.cell? ⟨e, 0, none⟩ = some (.int .i64 0)) (hf : w.frozen? ⟨e, 0, none⟩ = false) :
    CallsD Tryd.prog 12 #[.pointer (some ⟨c, 0, none⟩), .pointer (some ⟨e, 0, none⟩)] (.panicking (thr false :: older)) w fun en u' w' => en = .returned (.tuple #[]) ∧ u' = .panicking (thr true :: older) ∧ w' = (w.setRow c #[.int .i64 0, .int .i64 0, .int .i64 0, .int .i64 0, .int .i64 0, .int .i64 0, .int .i64 0, .int .i64 0, .int .i64 0, .int .i64 0, .int .i64 0, .int .i64 0, .int .i64 0, .int .i64 0, .int .i64 0, .int .i64 0, .int .i64 0, .int .i64 0, .int .i64 0, .int .i64 0, .int .i64 0, .int .i64 0, .int .i64 0, .int .i64 0, .int .i64 0, .int .i64 0, .int .i64 0, .int .i64 0, .int .i64 0, .int .i64 0, .int .i64 0]).setCell ⟨e, 0, none⟩ (.int .i64 6) := by
  have ta : ∀ xT w, (Instr.typeAssert (.iface 27 (.int .i64 6)) xT 27 true).run Tryd.prog w = .ok (.tuple #[.int .i64 6, .bool true]) w := fun xT w => by kernel_rfl
  refine callsD_of_wpS Tryd.func12 rfl fun c₀ cs hu => ?_
  change Code.wpS _ _ _ { tmps := #[.pointer (some ⟨c, 0, none⟩), .pointer (some ⟨e, 0, none⟩), undef, undef, undef, undef, undef, undef, undef, undef, undef, undef, undef, undef, undef, undef, undef, undef], defers := [] } _ _
  apply wpS_seq
  apply wpS_region
  simp [wpOpsS, go_sem, recoverD, hu, Exit.thenS]
  refine wpS_of_wp ?_
  have f1 : (w.setRow c #[.int .i64 0, .int .i64 0, .int .i64 0, .int .i64 0, .int .i64 0, .int .i64 0, .int .i64 0, .int .i64 0, .int .i64 0, .int .i64 0, .int .i64 0, .int .i64 0, .int .i64 0, .int .i64 0, .int .i64 0, .int .i64 0, .int .i64 0, .int .i64 0, .int .i64 0, .int .i64 0, .int .i64 0, .int .i64 0, .int .i64 0, .int .i64 0, .int .i64 0, .int .i64 0, .int .i64 0, .int .i64 0, .int .i64 0, .int .i64 0, .int .i64 0]).cell? ⟨e, 0, none⟩ = some (.int .i64 0) := by rw [cell_setRow_other _ _ _ _ (Ne.symm hce)]; exact he
  have f2 : (w.setRow c #[.int .i64 0, .int .i64 0, .int .i64 0, .int .i64 0, .int .i64 0, .int .i64 0, .int .i64 0, .int .i64 0, .int .i64 0, .int .i64 0, .int .i64 0, .int .i64 0, .int .i64 0, .int .i64 0, .int .i64 0, .int .i64 0, .int .i64 0, .int .i64 0, .int .i64 0, .int .i64 0, .int .i64 0, .int .i64 0, .int .i64 0, .int .i64 0, .int .i64 0, .int .i64 0, .int .i64 0, .int .i64 0, .int .i64 0, .int .i64 0, .int .i64 0]).frozen? ⟨e, 0, none⟩ = false := by rw [show (w.setRow c #[.int .i64 0, .int .i64 0, .int .i64 0, .int .i64 0, .int .i64 0, .int .i64 0, .int .i64 0, .int .i64 0, .int .i64 0, .int .i64 0, .int .i64 0, .int .i64 0, .int .i64 0, .int .i64 0, .int .i64 0, .int .i64 0, .int .i64 0, .int .i64 0, .int .i64 0, .int .i64 0, .int .i64 0, .int .i64 0, .int .i64 0, .int .i64 0, .int .i64 0, .int .i64 0, .int .i64 0, .int .i64 0, .int .i64 0, .int .i64 0, .int .i64 0]).frozen? ⟨e, 0, none⟩ = w.frozen? ⟨e, 0, none⟩ from by simp [World.frozen?, setRow_other w c e #[.int .i64 0, .int .i64 0, .int .i64 0, .int .i64 0, .int .i64 0, .int .i64 0, .int .i64 0, .int .i64 0, .int .i64 0, .int .i64 0, .int .i64 0, .int .i64 0, .int .i64 0, .int .i64 0, .int .i64 0, .int .i64 0, .int .i64 0, .int .i64 0, .int .i64 0, .int .i64 0, .int .i64 0, .int .i64 0, .int .i64 0, .int .i64 0, .int .i64 0, .int .i64 0, .int .i64 0, .int .i64 0, .int .i64 0, .int .i64 0, .int .i64 0] (Ne.symm hce)]]; exact hf
  have HC := Lib.hid hc
  obtain ⟨w1, hw1⟩ : ∃ w1, w.setRow c #[.int .i64 0, .int .i64 0, .int .i64 0, .int .i64 0, .int .i64 0, .int .i64 0, .int .i64 0, .int .i64 0, .int .i64 0, .int .i64 0, .int .i64 0, .int .i64 0, .int .i64 0, .int .i64 0, .int .i64 0, .int .i64 0, .int .i64 0, .int .i64 0, .int .i64 0, .int .i64 0, .int .i64 0, .int .i64 0, .int .i64 0, .int .i64 0, .int .i64 0, .int .i64 0, .int .i64 0, .int .i64 0, .int .i64 0, .int .i64 0, .int .i64 0] = w1 := ⟨_, rfl⟩
  rw [hw1] at f1 f2
  have HW := Lib.hid hw1
  clear hc hw1
  go_wp2_with (with_reducible refine stop_at none rfl ?_)
  refine unstop ?_
  refine wpList_store_row rfl 25 (.tmp 0) (.tmp 16) rfl c #[.int .i64 0, .int .i64 0, .int .i64 0, .int .i64 0, .int .i64 0, .int .i64 0, .int .i64 0, .int .i64 0, .int .i64 0, .int .i64 0, .int .i64 0, .int .i64 0, .int .i64 0, .int .i64 0, .int .i64 0, .int .i64 0, .int .i64 0, .int .i64 0, .int .i64 0, .int .i64 0, .int .i64 0, .int .i64 0, .int .i64 0, .int .i64 0, .int .i64 0, .int .i64 0, .int .i64 0, .int .i64 0, .int .i64 0, .int .i64 0, .int .i64 0] rfl rfl 25 old HC.out (by kernel_rfl) ho (by kernel_rfl) ?_
  rw [HW.out]
  go_wp2
  exact ⟨rfl, .panicking (thr true :: older), rfl, .tuple #[], by simp [results, Tryd.results12], rfl, rfl, by rw [HW.out]⟩

set_option maxHeartbeats 4000000 in
set_option maxRecDepth 20000 in
theorem catch_idle (c e : Nat) (w : World) :
    CallsD Tryd.prog 12 #[.pointer (some ⟨c, 0, none⟩), .pointer (some ⟨e, 0, none⟩)] .returning w fun en u' w' => en = .returned (.tuple #[]) ∧ u' = .returning ∧ w' = w := by
  refine callsD_of_wpS Tryd.func12 rfl fun c₀ cs hu => ?_
  change Code.wpS _ _ _ { tmps := #[.pointer (some ⟨c, 0, none⟩), .pointer (some ⟨e, 0, none⟩), undef, undef, undef, undef, undef, undef, undef, undef, undef, undef, undef, undef, undef, undef, undef, undef], defers := [] } _ _
  apply wpS_seq
  apply wpS_region
  simp [wpOpsS, go_sem, recoverD, hu, Exit.thenS]
  refine wpS_of_wp ?_
  go_wp2
  exact ⟨rfl, .returning, by rw [← hu], .tuple #[], by simp [results, Tryd.results12], rfl, rfl, rfl⟩

theorem results_two {P : Program} {fn : Func} {p q : Tmp} {ty te : TypeId} (h : fn.results = #[.cell p ty, .cell q te]) (tmps : Array Value) (w : World) (g e : Nat) (t : TypeId) (cs : Array Value) (fr : Nat × Nat) (d : TypeDesc) (v : Value)
    (hp : tmps.getD p undef = .pointer (some ⟨g, 0, none⟩)) (hq : tmps.getD q undef = .pointer (some ⟨e, 0, none⟩)) (hg : w.heap[g]? = some (.cells cs t fr))
    (hu : P.underlying ty = some d) (hd : (match d with | .struct _ | .array _ _ => true | _ => false) = true) (hi : (P.info? ty).map (·.size) = some cs.size) (hv : (loadVar te ⟨e, 0, none⟩).run P w = .ok v w) :
    (results fn tmps).run P w = .ok (.tuple #[.agg cs, v]) w := by
  have hp' : tmps[p]?.getD undef = .pointer (some ⟨g, 0, none⟩) := by simpa using hp
  have hq' : tmps[q]?.getD undef = .pointer (some ⟨e, 0, none⟩) := by simpa using hq
  simp [results, h, hp', hq', asAddr, run_loadVar_row w g t ty cs fr d hg hu hd hi, hv]
/-- What Get hands back: the configuration whose text this is; or that it is none's. -/
def RetGt (l : List UInt8) (w : World) (e : Ending) (w' : World) : Prop := (∃ x, Reads l x ∧ e = .returned (.tuple #[.agg (rowOf x), .int .i64 0]) ∧ Below w.heap.size w w') ∨ (NoConf l ∧ e = .returned (.tuple #[zv, .int .i64 6]) ∧ Below w.heap.size w w')

set_option maxHeartbeats 4000000 in
set_option maxRecDepth 20000 in
theorem get_any (s : ByteArray) (hs : s.size ≤ 3000) (w : World) (ev : EV w) : Calls Tryd.prog 6 #[.string s] w (RetGt s.data.toList w) := by
  have hmf : ∀ (fn : Fn) (first cap : Array Value) (w : World), (Instr.makeFunc fn first cap).run Tryd.prog w = .ok (.func fn first cap) w := fun _ _ _ _ => rfl
  have cr := read_any s hs
  obtain ⟨l, hl⟩ : ∃ l, s.data.toList = l := ⟨_, rfl⟩
  rw [hl] at cr ⊢
  have HL := Lib.hid hl
  have HEV := Lib.hid ev
  clear hl ev
  go_enter_defers Tryd.func6, Tryd.ntmps6
  go_wp2_with fail
  have E0 : Below w.heap.size w ((w.alloc (Obj.cells #[.int .i64 0, .int .i64 0, .int .i64 0, .int .i64 0, .int .i64 0, .int .i64 0, .int .i64 0, .int .i64 0, .int .i64 0, .int .i64 0, .int .i64 0, .int .i64 0, .int .i64 0, .int .i64 0, .int .i64 0, .int .i64 0, .int .i64 0, .int .i64 0, .int .i64 0, .int .i64 0, .int .i64 0, .int .i64 0, .int .i64 0, .int .i64 0, .int .i64 0, .int .i64 0, .int .i64 0, .int .i64 0, .int .i64 0, .int .i64 0, .int .i64 0] 25)).alloc (Obj.cells #[.int .i64 0] 27)) := b_alloc (b_alloc (Below.refl _ _))
  have Q0 : ((w.alloc (Obj.cells #[.int .i64 0, .int .i64 0, .int .i64 0, .int .i64 0, .int .i64 0, .int .i64 0, .int .i64 0, .int .i64 0, .int .i64 0, .int .i64 0, .int .i64 0, .int .i64 0, .int .i64 0, .int .i64 0, .int .i64 0, .int .i64 0, .int .i64 0, .int .i64 0, .int .i64 0, .int .i64 0, .int .i64 0, .int .i64 0, .int .i64 0, .int .i64 0, .int .i64 0, .int .i64 0, .int .i64 0, .int .i64 0, .int .i64 0, .int .i64 0, .int .i64 0] 25)).alloc (Obj.cells #[.int .i64 0] 27)).heap[w.heap.size]? = some (.cells #[.int .i64 0, .int .i64 0, .int .i64 0, .int .i64 0, .int .i64 0, .int .i64 0, .int .i64 0, .int .i64 0, .int .i64 0, .int .i64 0, .int .i64 0, .int .i64 0, .int .i64 0, .int .i64 0, .int .i64 0, .int .i64 0, .int .i64 0, .int .i64 0, .int .i64 0, .int .i64 0, .int .i64 0, .int .i64 0, .int .i64 0, .int .i64 0, .int .i64 0, .int .i64 0, .int .i64 0, .int .i64 0, .int .i64 0, .int .i64 0, .int .i64 0] 25 (0, 0)) := block_alloc (heap_alloc_last w _)
  have P0 : ((w.alloc (Obj.cells #[.int .i64 0, .int .i64 0, .int .i64 0, .int .i64 0, .int .i64 0, .int .i64 0, .int .i64 0, .int .i64 0, .int .i64 0, .int .i64 0, .int .i64 0, .int .i64 0, .int .i64 0, .int .i64 0, .int .i64 0, .int .i64 0, .int .i64 0, .int .i64 0, .int .i64 0, .int .i64 0, .int .i64 0, .int .i64 0, .int .i64 0, .int .i64 0, .int .i64 0, .int .i64 0, .int .i64 0, .int .i64 0, .int .i64 0, .int .i64 0, .int .i64 0] 25)).alloc (Obj.cells #[.int .i64 0] 27)).heap[w.heap.size + 1]? = some (.cells #[.int .i64 0] 27 (0, 0)) := by
    have := heap_alloc_last (w.alloc (Obj.cells #[.int .i64 0, .int .i64 0, .int .i64 0, .int .i64 0, .int .i64 0, .int .i64 0, .int .i64 0, .int .i64 0, .int .i64 0, .int .i64 0, .int .i64 0, .int .i64 0, .int .i64 0, .int .i64 0, .int .i64 0, .int .i64 0, .int .i64 0, .int .i64 0, .int .i64 0, .int .i64 0, .int .i64 0, .int .i64 0, .int .i64 0, .int .i64 0, .int .i64 0, .int .i64 0, .int .i64 0, .int .i64 0, .int .i64 0, .int .i64 0, .int .i64 0] 25)) (Obj.cells #[.int .i64 0] 27)
    rw [show (w.alloc (Obj.cells #[.int .i64 0, .int .i64 0, .int .i64 0, .int .i64 0, .int .i64 0, .int .i64 0, .int .i64 0, .int .i64 0, .int .i64 0, .int .i64 0, .int .i64 0, .int .i64 0, .int .i64 0, .int .i64 0, .int .i64 0, .int .i64 0, .int .i64 0, .int .i64 0, .int .i64 0, .int .i64 0, .int .i64 0, .int .i64 0, .int .i64 0, .int .i64 0, .int .i64 0, .int .i64 0, .int .i64 0, .int .i64 0, .int .i64 0, .int .i64 0, .int .i64 0] 25)).heap.size = w.heap.size + 1 by simp] at this
    exact this
  generalize ((w.alloc (Obj.cells #[.int .i64 0, .int .i64 0, .int .i64 0, .int .i64 0, .int .i64 0, .int .i64 0, .int .i64 0, .int .i64 0, .int .i64 0, .int .i64 0, .int .i64 0, .int .i64 0, .int .i64 0, .int .i64 0, .int .i64 0, .int .i64 0, .int .i64 0, .int .i64 0, .int .i64 0, .int .i64 0, .int .i64 0, .int .i64 0, .int .i64 0, .int .i64 0, .int .i64 0, .int .i64 0, .int .i64 0, .int .i64 0, .int .i64 0, .int .i64 0, .int .i64 0] 25)).alloc (Obj.cells #[.int .i64 0] 27)) = y0 at *
  refine (cr _ (ev_keep E0 HEV.out)).mono ?_
  rintro e w3 (⟨x, hx, rfl, hb⟩ | ⟨hn, rfl, hb⟩)
  · replace E0 := b_trans E0 hb
    replace Q0 := block_keep hb Q0
    replace P0 := block_keep hb P0
    have HX := Lib.hid hx
    have HE := Lib.hid E0
    have HQ := Lib.hid Q0
    have f1 : (w3.setRow w.heap.size (rowOf x)).cell? ⟨w.heap.size + 1, 0, none⟩ = some (.int .i64 0) := row_at ((setRow_other _ _ _ _ (by omega)).trans P0) rfl
    have f2 : (w3.setRow w.heap.size (rowOf x)).frozen? ⟨w.heap.size + 1, 0, none⟩ = false := frozen_of_row _ _ 0 _ _ ((setRow_other _ _ _ _ (by omega)).trans P0)
    have f3 := Lib.hid (set_other (c := w.heap.size + 1) (o := 0) (v := .int .i64 0) (setRow_heap _ _ _ (rowOf x) _ _ Q0) (by omega))
    have E4 := Lib.hid (b_set (p := ⟨w.heap.size + 1, 0, none⟩) (v := .int .i64 0) (row_below E0 (g := w.heap.size) (cs := rowOf x) (Nat.le_refl _)) (Nat.le_succ _))
    clear hx E0 Q0 P0 hb cr
    go_wp2_with (with_reducible refine stop_at none rfl ?_)
    refine unstop ?_
    refine wpList_store_row rfl 25 (.tmp 2) (.tmp 6) rfl w.heap.size (rowOf x) rfl rfl 25 _ HQ.out (by kernel_rfl) rfl (by kernel_rfl) ?_
    generalize w3.setRow w.heap.size (rowOf x) = w4 at *
    go_wp2
    refine leaves_cons (f := 12) (args := #[.pointer (some ⟨w.heap.size, 0, none⟩), .pointer (some ⟨w.heap.size + 1, 0, none⟩)]) (by simp) (by simp [go_sem]) ?_
    refine (catch_idle _ _ _).mono ?_
    rintro e u' w'' ⟨rfl, rfl, hw⟩
    rw [hw]
    have hres := results_two (P := Tryd.prog) Tryd.results6 #[.string s, undef, .pointer (some ⟨w.heap.size, 0, none⟩), .pointer (some ⟨w.heap.size + 1, 0, none⟩), .func (.func 12) #[] #[.pointer (some ⟨w.heap.size, 0, none⟩), .pointer (some ⟨w.heap.size + 1, 0, none⟩)], .string s, .agg (rowOf x)] (w4.setCell ⟨w.heap.size + 1, 0, none⟩ (.int .i64 0)) w.heap.size (w.heap.size + 1) 25 _ (0, 0) _ (.int .i64 0) rfl rfl f3.out Tryd.underlying25 rfl (by kernel_rfl) (by simp [go_sem, f1])
    exact ⟨_, hres, Or.inl ⟨x, HX.out, rfl, E4.out⟩⟩
  · replace E0 := b_trans E0 hb
    replace Q0 := block_keep hb Q0
    replace P0 := block_keep hb P0
    have HN := Lib.hid hn
    clear hn hb cr
    refine leaves_cons (f := 12) (args := #[.pointer (some ⟨w.heap.size, 0, none⟩), .pointer (some ⟨w.heap.size + 1, 0, none⟩)]) (by simp) (by simp [go_sem]) ?_
    refine (catch_thrown w.heap.size (w.heap.size + 1) #[.int .i64 0, .int .i64 0, .int .i64 0, .int .i64 0, .int .i64 0, .int .i64 0, .int .i64 0, .int .i64 0, .int .i64 0, .int .i64 0, .int .i64 0, .int .i64 0, .int .i64 0, .int .i64 0, .int .i64 0, .int .i64 0, .int .i64 0, .int .i64 0, .int .i64 0, .int .i64 0, .int .i64 0, .int .i64 0, .int .i64 0, .int .i64 0, .int .i64 0, .int .i64 0, .int .i64 0, .int .i64 0, .int .i64 0, .int .i64 0, .int .i64 0] (by omega) [] _ Q0 rfl (row_at P0 rfl) (frozen_of_row _ _ 0 _ _ P0)).mono ?_
    rintro e u' w'' ⟨rfl, rfl, hw⟩
    rw [hw]
    have f1 : (w3.setRow w.heap.size #[.int .i64 0, .int .i64 0, .int .i64 0, .int .i64 0, .int .i64 0, .int .i64 0, .int .i64 0, .int .i64 0, .int .i64 0, .int .i64 0, .int .i64 0, .int .i64 0, .int .i64 0, .int .i64 0, .int .i64 0, .int .i64 0, .int .i64 0, .int .i64 0, .int .i64 0, .int .i64 0, .int .i64 0, .int .i64 0, .int .i64 0, .int .i64 0, .int .i64 0, .int .i64 0, .int .i64 0, .int .i64 0, .int .i64 0, .int .i64 0, .int .i64 0]).cell? ⟨w.heap.size + 1, 0, none⟩ = some (.int .i64 0) := row_at ((setRow_other _ _ _ _ (by omega)).trans P0) rfl
    have f3 := set_other (c := w.heap.size + 1) (o := 0) (v := .int .i64 6) (setRow_heap _ _ _ #[.int .i64 0, .int .i64 0, .int .i64 0, .int .i64 0, .int .i64 0, .int .i64 0, .int .i64 0, .int .i64 0, .int .i64 0, .int .i64 0, .int .i64 0, .int .i64 0, .int .i64 0, .int .i64 0, .int .i64 0, .int .i64 0, .int .i64 0, .int .i64 0, .int .i64 0, .int .i64 0, .int .i64 0, .int .i64 0, .int .i64 0, .int .i64 0, .int .i64 0, .int .i64 0, .int .i64 0, .int .i64 0, .int .i64 0, .int .i64 0, .int .i64 0] _ _ Q0) (by omega)
    have E4 := b_set (p := ⟨w.heap.size + 1, 0, none⟩) (v := .int .i64 6) (row_below E0 (g := w.heap.size) (cs := #[.int .i64 0, .int .i64 0, .int .i64 0, .int .i64 0, .int .i64 0, .int .i64 0, .int .i64 0, .int .i64 0, .int .i64 0, .int .i64 0, .int .i64 0, .int .i64 0, .int .i64 0, .int .i64 0, .int .i64 0, .int .i64 0, .int .i64 0, .int .i64 0, .int .i64 0, .int .i64 0, .int .i64 0, .int .i64 0, .int .i64 0, .int .i64 0, .int .i64 0, .int .i64 0, .int .i64 0, .int .i64 0, .int .i64 0, .int .i64 0, .int .i64 0]) (Nat.le_refl _)) (Nat.le_succ _)
    generalize w3.setRow w.heap.size #[.int .i64 0, .int .i64 0, .int .i64 0, .int .i64 0, .int .i64 0, .int .i64 0, .int .i64 0, .int .i64 0, .int .i64 0, .int .i64 0, .int .i64 0, .int .i64 0, .int .i64 0, .int .i64 0, .int .i64 0, .int .i64 0, .int .i64 0, .int .i64 0, .int .i64 0, .int .i64 0, .int .i64 0, .int .i64 0, .int .i64 0, .int .i64 0, .int .i64 0, .int .i64 0, .int .i64 0, .int .i64 0, .int .i64 0, .int .i64 0, .int .i64 0] = w4 at *
    have hres := results_two (P := Tryd.prog) Tryd.results6 #[.string s, undef, .pointer (some ⟨w.heap.size, 0, none⟩), .pointer (some ⟨w.heap.size + 1, 0, none⟩), .func (.func 12) #[] #[.pointer (some ⟨w.heap.size, 0, none⟩), .pointer (some ⟨w.heap.size + 1, 0, none⟩)], .string s, undef] (w4.setCell ⟨w.heap.size + 1, 0, none⟩ (.int .i64 6)) w.heap.size (w.heap.size + 1) 25 _ (0, 0) _ (.int .i64 6) rfl rfl f3 Tryd.underlying25 rfl (by kernel_rfl) (by simp [go_sem, f1])
    exact ⟨_, hres, Or.inr ⟨HN.out, rfl, E4⟩⟩
end Go.Proofs.YtjaccedpkkcjnaaDoor
