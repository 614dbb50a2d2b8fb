/- SymEntries: what the law's call answers: true, for every matrix, every two places and every number. -/
import Derived.Test.YtppkmnigongpdaaDoorSymD
namespace Go.Proofs.YtppkmnigongpdaaDoor
open Go.RowKit Go.Shelf

/-- Two matrices held against one another: one with itself. -/
theorem sym_eq_self (x0 x1 x2 x3 x4 x5 : Int) (w : World) : (Op.equalIn 10000 23 (.agg #[.int .i64 x0, .int .i64 x1, .int .i64 x2, .int .i64 x3, .int .i64 x4, .int .i64 x5]) (.agg #[.int .i64 x0, .int .i64 x1, .int .i64 x2, .int .i64 x3, .int .i64 x4, .int .i64 x5])).run Tryd.prog w = .ok true w := by
  have hs : (Tryd.prog.info? 2).isSome = true := by kernel_rfl
  obtain ⟨i, hi⟩ := Option.isSome_iff_exists.1 hs
  have hc : Tryd.prog.cellsOf 2 = 1 := by kernel_rfl
  have hp : Tryd.prog.plainKey 2 = true := by kernel_rfl
  rw [run_equalIn_array w 9999 _ _ Tryd.underlying23 hi]
  rw [hc]
  have P := fun (k : Nat) (v : Value) (h : (#[Value.int IntKind.i64 x0, Value.int IntKind.i64 x1, Value.int IntKind.i64 x2, Value.int IntKind.i64 x3, Value.int IntKind.i64 x4, Value.int IntKind.i64 x5] : Array Value)[k * 1]? = some v) (w : World) => run_part_plain w hp h
  have E := fun (a : Int) (w : World) => run_equalIn_int w 9998 2 .i64 .i64 a a Tryd.underlying2
  simp only [List.range, List.range.loop, Op.eqItems, Sem.run_bind, P 0 _ rfl, Result.andThen_ok]
  simp [P 1 _ rfl, P 2 _ rfl, P 3 _ rfl, P 4 _ rfl, P 5 _ rfl, E]

theorem fixed_sym (w : World) (hp : PL w) : Calls Tryd.prog 10 #[] w (RetV (.bool true) w) := by
  have cR : Calls Tryd.prog 9 #[.agg #[.int .i64 1, .int .i64 2, .int .i64 3, .int .i64 4, .int .i64 5, .int .i64 6], .int .i64 1] w (RetV (.tuple #[tv 2 4 5, .int .i64 0]) w) :=
    row_ok (fun i => match i with | 0 => 1 | 1 => 2 | 2 => 3 | 3 => 4 | 4 => 5 | _ => 6) 1 1 3 4 (by decide) w hp
  have hve := vec_eq_self
  clear hp
  go_enter Tryd.func10, Tryd.ntmps10
  go_wp2_with fail
  refine cR.mono ?_
  rintro e w1 ⟨rfl, hb1⟩
  go_wp2
  go_ret
  exact ⟨rfl, b_alloc hb1⟩

/-- One number is stored where a letter says. -/
theorem wpList_store_i64 {ops : Array Oper} {rest : List Oper} {ty : TypeId} {pos : String} {after : Array Edge} {a : Act} {w : World} {Q : Exit → Act → World → Prop} (p v : Tmp) {b k : Nat} {x y : Int}
    (hp : a.tmps[p]? = some (.pointer (some ⟨b, k, none⟩))) (hv : a.tmps[v]? = some (.int .i64 x)) (c : w.cell? ⟨b, k, none⟩ = some (.int .i64 y)) (f : w.frozen? ⟨b, k, none⟩ = false)
    (h : ∀ u, u = w.setCell ⟨b, k, none⟩ (.int .i64 x) → wpList Tryd.prog ops Q rest a u) :
    wpList Tryd.prog ops Q ({ dst := none, op := .store 2 (.tmp p) (.tmp v), type := ty, pos := pos, after := after, guard := none } :: rest) a w := by
  refine wpList_plain rfl fun K hK => ?_
  have hh := h _ rfl
  clear h
  go_simp
  exact hK _ _ hh

/-- A walk stops where the goal is put behind this word. -/
def Halted (p : Prop) : Prop := p
theorem halt {p : Prop} (h : Halted p) : p := h
theorem unhalt {p : Prop} (h : p) : Halted p := h
theorem halt_at (d : Option Tmp) {P : Program} {ops : Array Oper} {rest : List Oper} {o : Oper} {a : Act} {w : World} {Q : Exit → Act → World → Prop} (_hd : o.dst = d) (h : Halted (wpList P ops Q (o :: rest) a w)) : wpList P ops Q (o :: rest) a w := h
/-- Two numbers of the law's pair. -/
abbrev PC (w : World) (b : Nat) (i j : Int) : Prop := w.cell? ⟨b, 0, none⟩ = some (.int .i64 i) ∧ w.cell? ⟨b, 1, none⟩ = some (.int .i64 j)
theorem pc_keep {w w' : World} (hb : Below w.heap.size w w') {b : Nat} {i j : Int} (c : PC w b i j) : PC w' b i j := ⟨cell_keep hb c.1, cell_keep hb c.2⟩
/-- What the law's walk keeps: the arguments. -/
def EM (W : World) (A B : Nat) (m : Nat → Int) (i j : Int) (w : World) : Prop := Below W.heap.size W w ∧ SC w A m ∧ PC w B i j ∧ PL w
theorem em_keep {W : World} {A B : Nat} {m : Nat → Int} {i j : Int} {w w' : World} (h : EM W A B m i j w) (hb : Below w.heap.size w w') : EM W A B m i j w' :=
  ⟨b_trans h.1 hb, sc_keep hb h.2.1, pc_keep hb h.2.2.1, pl_keep hb h.2.2.2⟩
theorem em_set {W : World} {A B b o : Nat} {m : Nat → Int} {i j : Int} {v : Value} {w : World} (h : EM W A B m i j w) (q : W.heap.size ≤ b) (q0 : 0 < b) (qa : b ≠ A) (qb : b ≠ B) : EM W A B m i j (w.setCell ⟨b, o, none⟩ v) :=
  ⟨b_set h.1 q, sc_set h.2.1 qa, ⟨by rw [World.cell?_setCell_far _ _ _ _ qb]; exact h.2.2.1.1, by rw [World.cell?_setCell_far _ _ _ _ qb]; exact h.2.2.1.2⟩, pl_set h.2.2.2 q0⟩
theorem sc_put {w : World} {b k : Nat} {m : Nat → Int} {x : Int} (h : SC w b m) (hk : k < 6) : SC (w.setCell ⟨b, k, none⟩ (.int .i64 x)) b (umk m k x) := by
  intro i hi
  by_cases e : i = k
  · subst e
    rw [World.cell?_setCell_same' _ _ _ (by rw [h i hi]; rfl)]
    simp [umk]
  · rw [World.cell?_setCell_other _ _ _ _ (by intro c; simp at c <;> omega), h i hi]
    simp [umk, e]
theorem row_places {i : Int} {k0 k1 k2 : Nat} (h : Row3 i k0 k1 k2) : At9 i 0 k0 ∧ At9 i 1 k1 ∧ At9 i 2 k2 ∧ k0 < 6 ∧ k1 < 6 ∧ k2 < 6 := by
  rcases h with ⟨rfl, rfl, rfl, rfl⟩ | ⟨rfl, rfl, rfl, rfl⟩ | ⟨rfl, rfl, rfl, rfl⟩ <;> exact ⟨by decide, by decide, by decide, by decide, by decide, by decide⟩
theorem row_has {i : Int} (h : Inb i) : ∃ k0 k1 k2, Row3 i k0 k1 k2 := by
  rcases (show i = 0 ∨ i = 1 ∨ i = 2 by omega) with rfl | rfl | rfl
  · exact ⟨0, 1, 2, by decide⟩
  · exact ⟨1, 3, 4, by decide⟩
  · exact ⟨2, 4, 5, by decide⟩

set_option maxHeartbeats 4000000 in
theorem entries_out (m : Nat → Int) (i j x : Int) (hi : ¬ Inb i) (w : World) (hp : PL w) :
    Calls Tryd.prog 3 #[sv m, .agg #[.int .i64 i, .int .i64 j], .int .i64 x] w (RetV (.bool true) w) := by
  have s : EM w w.heap.size (w.heap.size + 1) m i j ((w.alloc (Obj.cells #[.int .i64 (m 0), .int .i64 (m 1), .int .i64 (m 2), .int .i64 (m 3), .int .i64 (m 4), .int .i64 (m 5)] 23)).alloc (Obj.cells #[.int .i64 i, .int .i64 j] 24)) := ⟨b_alloc (b_alloc (Below.refl _ _)), sc_alloc (sc_new (w := w) (m := m) (t := 23) rfl), by simp [PC, go_sem], pl_keep (b_alloc (b_alloc (Below.refl _ _))) hp⟩
  have z0 := pl_lt hp
  clear hp
  go_enter Tryd.func3, Tryd.ntmps3
  have hve := vec_eq_self
  have hse := sym_eq_self
  have l6 := sc_six s.2.1
  have lp := s.2.2.1
  go_wp2_with fail
  refine (place_bad i j (fun h => hi h.1) _).mono ?_
  rintro e_ w1 ⟨rfl, hb9⟩
  clear l6 lp
  replace s := em_keep s hb9
  clear hb9
  have l6 := sc_six s.2.1
  have lp := s.2.2.1
  go_wp2_with fail
  refine (at_bad m i j (fun h => hi h.1) _).mono ?_
  rintro e_ w2 ⟨rfl, hb9⟩
  clear l6 lp
  replace s := em_keep s hb9
  clear hb9
  have l6 := sc_six s.2.1
  have lp := s.2.2.1
  go_wp2_with fail
  refine (put_bad m i j x (fun h => hi h.1) _).mono ?_
  rintro e_ w3 ⟨rfl, hb9⟩
  clear l6 lp
  replace s := em_keep s hb9
  clear hb9
  have hb9 : Below w3.heap.size w3 (w3.alloc (Obj.cells #[.int .i64 0, .int .i64 0, .int .i64 0, .int .i64 0, .int .i64 0, .int .i64 0] 23)) := b_alloc (Below.refl _ _)
  replace s := em_keep s hb9
  clear hb9
  have kN : SC (w3.alloc (Obj.cells #[.int .i64 0, .int .i64 0, .int .i64 0, .int .i64 0, .int .i64 0, .int .i64 0] 23)) w3.heap.size (fun _ => 0) := sc_new (m := fun _ => 0) rfl
  have l6 := sc_six s.2.1
  have lp := s.2.2.1
  go_wp2_with fail
  refine (row_bad m i hi _).mono ?_
  rintro e_ w4 ⟨rfl, hb9⟩
  clear l6 lp
  replace s := em_keep s hb9
  replace kN := sc_keep hb9 kN
  clear hb9
  have hb9 : Below w4.heap.size w4 (w4.alloc (Obj.cells #[.int .i64 0, .int .i64 0, .int .i64 0] 32)) := b_alloc (Below.refl _ _)
  replace s := em_keep s hb9
  replace kN := sc_keep hb9 kN
  clear hb9
  have kR : TC (w4.alloc (Obj.cells #[.int .i64 0, .int .i64 0, .int .i64 0] 32)) w4.heap.size 0 0 0 := tc_new rfl
  have kN6 := sc_six kN
  have lp := s.2.2.1
  have hw : i < 0 ∨ 2 < i := by omega
  rcases hw with hw | hw
  all_goals
    go_wp2_with fail
    refine (fixed_sym _ s.2.2.2).mono ?_
    rintro e_ w9 ⟨rfl, hb9⟩
    replace s := em_keep s hb9
    replace kR := tc_keep hb9 kR
    clear hb9 kN6 lp hi kN
    have B9 := s.1
    clear s
    go_wp2
    go_ret
    exact ⟨rfl, B9⟩
set_option maxRecDepth 10000 in
set_option maxHeartbeats 8000000 in
theorem entries_half (m : Nat → Int) (i j x : Int) (k0 k1 k2 : Nat) (hr : Row3 i k0 k1 k2) (p0 : At9 i 0 k0) (p1 : At9 i 1 k1) (p2 : At9 i 2 k2) (h0 : k0 < 6) (h1 : k1 < 6) (h2 : k2 < 6) (hi : Inb i) (hj : ¬ Inb j) (w : World) (hp : PL w) :
    Calls Tryd.prog 3 #[sv m, .agg #[.int .i64 i, .int .i64 j], .int .i64 x] w (RetV (.bool true) w) := by
  have HP := Lib.hid (And.intro p0 (And.intro p1 p2))
  have HR := Lib.hid hr
  clear p0 p1 p2 hr
  have s : EM w w.heap.size (w.heap.size + 1) m i j ((w.alloc (Obj.cells #[.int .i64 (m 0), .int .i64 (m 1), .int .i64 (m 2), .int .i64 (m 3), .int .i64 (m 4), .int .i64 (m 5)] 23)).alloc (Obj.cells #[.int .i64 i, .int .i64 j] 24)) := ⟨b_alloc (b_alloc (Below.refl _ _)), sc_alloc (sc_new (w := w) (m := m) (t := 23) rfl), by simp [PC, go_sem], pl_keep (b_alloc (b_alloc (Below.refl _ _))) hp⟩
  have z0 := pl_lt hp
  clear hp
  go_enter Tryd.func3, Tryd.ntmps3
  have hse := sym_eq_self
  have l6 := sc_six s.2.1
  have lp := s.2.2.1
  go_wp2_with fail
  refine (place_bad i j (fun h => hj h.2) _).mono ?_
  rintro e_ w1 ⟨rfl, hb9⟩
  clear l6 lp
  replace s := em_keep s hb9
  clear hb9
  have l6 := sc_six s.2.1
  have lp := s.2.2.1
  go_wp2_with fail
  refine (at_bad m i j (fun h => hj h.2) _).mono ?_
  rintro e_ w2 ⟨rfl, hb9⟩
  clear l6 lp
  replace s := em_keep s hb9
  clear hb9
  have l6 := sc_six s.2.1
  have lp := s.2.2.1
  go_wp2_with fail
  refine (put_bad m i j x (fun h => hj h.2) _).mono ?_
  rintro e_ w3 ⟨rfl, hb9⟩
  clear l6 lp
  replace s := em_keep s hb9
  clear hb9
  have hb9 : Below w3.heap.size w3 (w3.alloc (Obj.cells #[.int .i64 0, .int .i64 0, .int .i64 0, .int .i64 0, .int .i64 0, .int .i64 0] 23)) := b_alloc (Below.refl _ _)
  replace s := em_keep s hb9
  clear hb9
  have kN : SC (w3.alloc (Obj.cells #[.int .i64 0, .int .i64 0, .int .i64 0, .int .i64 0, .int .i64 0, .int .i64 0] 23)) w3.heap.size (fun _ => 0) := sc_new (m := fun _ => 0) rfl
  have l6 := sc_six s.2.1
  have lp := s.2.2.1
  go_wp2_with fail
  refine (row_ok m i k0 k1 k2 HR.out _ s.2.2.2).mono ?_
  rintro e_ w4 ⟨rfl, hb9⟩
  clear l6 lp
  replace s := em_keep s hb9
  replace kN := sc_keep hb9 kN
  clear hb9
  have hb9 : Below w4.heap.size w4 (w4.alloc (Obj.cells #[.int .i64 (m k0), .int .i64 (m k1), .int .i64 (m k2)] 32)) := b_alloc (Below.refl _ _)
  replace s := em_keep s hb9
  replace kN := sc_keep hb9 kN
  clear hb9
  have kR : TC (w4.alloc (Obj.cells #[.int .i64 (m k0), .int .i64 (m k1), .int .i64 (m k2)] 32)) w4.heap.size (m k0) (m k1) (m k2) := tc_new rfl
  have kN6 := sc_six kN
  have hi0 : ¬ i < 0 := by omega
  have hi2 : ¬ 2 < i := by omega
  clear hi hj
  have l6 := sc_six s.2.1
  have lp := s.2.2.1
  go_wp2_with fail
  refine (main_any m _ s.2.2.2).mono ?_
  rintro e_ w5 ⟨rfl, hb9⟩
  clear l6 lp
  replace s := em_keep s hb9
  replace kR := tc_keep hb9 kR
  clear hb9
  clear kN6 kN
  generalize w4.heap.size = R at *
  have hb9 : Below w5.heap.size w5 (w5.alloc (Obj.cells #[.int .i64 (m 0), .int .i64 (m 3), .int .i64 (m 5)] 32)) := b_alloc (Below.refl _ _)
  replace s := em_keep s hb9
  replace kR := tc_keep hb9 kR
  clear hb9
  have kD : TC (w5.alloc (Obj.cells #[.int .i64 (m 0), .int .i64 (m 3), .int .i64 (m 5)] 32)) w5.heap.size (m 0) (m 3) (m 5) := tc_new rfl
  go_wp2
  generalize w5.alloc (Obj.cells #[.int .i64 (m 0), .int .i64 (m 3), .int .i64 (m 5)] 32) = w6 at *
  generalize w5.heap.size = Dg at *
  clear hse hi0 hi2
  have P0 : ∀ w, Calls Tryd.prog 6 #[.int .i64 i, .int .i64 0] w (RetV (.int .i64 (k0 : Int)) w) := fun w => place_ok i 0 k0 HP.out.1 w
  have P1 : ∀ w, Calls Tryd.prog 6 #[.int .i64 i, .int .i64 1] w (RetV (.int .i64 (k1 : Int)) w) := fun w => place_ok i 1 k1 HP.out.2.1 w
  have P2 : ∀ w, Calls Tryd.prog 6 #[.int .i64 i, .int .i64 2] w (RetV (.int .i64 (k2 : Int)) w) := fun w => place_ok i 2 k2 HP.out.2.2 w
  have D0 : ∀ w, Calls Tryd.prog 6 #[.int .i64 0, .int .i64 0] w (RetV (.int .i64 0) w) := fun w => place_ok 0 0 0 (by decide) w
  have D1 : ∀ w, Calls Tryd.prog 6 #[.int .i64 1, .int .i64 1] w (RetV (.int .i64 3) w) := fun w => place_ok 1 1 3 (by decide) w
  have D2 : ∀ w, Calls Tryd.prog 6 #[.int .i64 2, .int .i64 2] w (RetV (.int .i64 5) w) := fun w => place_ok 2 2 5 (by decide) w
  clear HP
  refine wp_loop_rounds 4 ?_
  rw [rounds_succ]
  go_wp2
  refine region_each [110, 111, 112, 113, 114, 115, 116, 117, 118, 119, 120, 121, 122, 123, 124, 125, 126, 127, 128, 129, 130] (fun i_ X_ U_ => match i_ with | 0 => X_ = .int .i64 0 | 1 => X_ = .pointer (some ⟨R, 0, none⟩) | 2 => X_ = .int .i64 (m k0) | 3 => X_ = .pointer (some ⟨w.heap.size + 1, 0, none⟩) | 4 => X_ = .int .i64 i | 5 => X_ = .int .i64 0 | 6 => X_ = .int .i64 ((k0 : Nat) : Int) | 7 => X_ = .pointer (some ⟨w.heap.size, k0, none⟩) | 8 => X_ = .int .i64 (m k0) | 9 => X_ = .bool false | 10 => X_ = .bool false | 11 => X_ = .int .i64 0 | 12 => X_ = .pointer (some ⟨Dg, 0, none⟩) | 13 => X_ = .int .i64 (m 0) | 14 => X_ = .int .i64 0 | 15 => X_ = .int .i64 0 | 16 => X_ = .int .i64 0 | 17 => X_ = .pointer (some ⟨w.heap.size, 0, none⟩) | 18 => X_ = .int .i64 (m 0) | 19 => X_ = .bool false | 20 => X_ = .bool false | _ => True) (fun i_ => false) (by kernel_rfl) (by kernel_rfl) (by kernel_rfl) (by kernel_rfl) (by kernel_rfl) ?_ (fun i x w hi ha h => by cases ha) ?_ ?_
  · refine swp (upS (upS (upS (upS (upS (upS (upS (upS (upS (upS (upS (upS (upS (upS (upS (upS (upS (upS (upS (upS (upS up0 ?_) ?_) ?_) ?_) ?_) ?_) ?_) ?_) ?_) ?_) ?_) ?_) ?_) ?_) ?_) ?_) ?_) ?_) ?_) ?_) ?_)
    all_goals exact fun _ _ _ h _ => h
  · refine upS (upS (upS (upS (upS (upS (upS (upS (upS (upS (upS (upS (upS (upS (upS (upS (upS (upS (upS (upS (upS up0 ?_) ?_) ?_) ?_) ?_) ?_) ?_) ?_) ?_) ?_) ?_) ?_) ?_) ?_) ?_) ?_) ?_) ?_) ?_) ?_) ?_
    all_goals intro v f w' hb hv hB hd
    · have b16 : f.tmps[16]? = some (.int .i64 0) := (hb 16 (by decide)).trans rfl
      clear hb hv hd
      refine wpOp_step rfl fun K hK => ?_
      go_simp
      exact hK _ _ ⟨_, rfl, Below.refl _ _, rfl, fun h => absurd h (by decide)⟩
    · have b12 : f.tmps[12]? = some (.pointer (some ⟨R, 0, none⟩)) := (hb 12 (by decide)).trans rfl
      have d0 := got (hv 0 110 rfl) (hd 0 (by kernel_rfl))
      clear hb hv hd
      refine wpOp_step rfl fun K hK => ?_
      go_simp
      exact hK _ _ ⟨_, rfl, Below.refl _ _, rfl, fun h => absurd h (by decide)⟩
    · have d1 := got (hv 1 111 rfl) (hd 1 (by kernel_rfl))
      clear hb hv hd
      have c := tc_keep hB kR
      refine wpOp_step rfl fun K hK => ?_
      go_simp
      exact hK _ _ ⟨_, rfl, Below.refl _ _, rfl, fun h => absurd h (by decide)⟩
    · have b4 : f.tmps[4]? = some (.pointer (some ⟨w.heap.size + 1, 0, none⟩)) := (hb 4 (by decide)).trans rfl
      clear hb hv hd
      refine wpOp_step rfl fun K hK => ?_
      go_simp
      exact hK _ _ ⟨_, rfl, Below.refl _ _, rfl, fun h => absurd h (by decide)⟩
    · have d3 := got (hv 3 113 rfl) (hd 3 (by kernel_rfl))
      clear hb hv hd
      have c := pc_keep hB s.2.2.1
      refine wpOp_step rfl fun K hK => ?_
      go_simp
      exact hK _ _ ⟨_, rfl, Below.refl _ _, rfl, fun h => absurd h (by decide)⟩
    · have b16 : f.tmps[16]? = some (.int .i64 0) := (hb 16 (by decide)).trans rfl
      clear hb hv hd
      refine wpOp_step rfl fun K hK => ?_
      go_simp
      exact hK _ _ ⟨_, rfl, Below.refl _ _, rfl, fun h => absurd h (by decide)⟩
    · have d4 := got (hv 4 114 rfl) (hd 4 (by kernel_rfl))
      have d5 := got (hv 5 115 rfl) (hd 5 (by kernel_rfl))
      clear hb hv hd
      refine wpOp_call rfl Tryd.call6 (args2 (eval_tmp d4) (eval_tmp d5)) (P0 _) ?_
      rintro e5 w5 ⟨rfl, hb5⟩
      exact ⟨_, rfl, _, rfl, hb5, rfl, fun h => absurd h (by decide)⟩
    · have b3 : f.tmps[3]? = some (.pointer (some ⟨w.heap.size, 0, none⟩)) := (hb 3 (by decide)).trans rfl
      have d6 := got (hv 6 116 rfl) (hd 6 (by kernel_rfl))
      clear hb hv hd
      have q0 : (0 : Int) ≤ (k0 : Int) := by omega
      have q6 : (k0 : Int) < 6 := by omega
      refine wpOp_step rfl fun K hK => ?_
      go_simp
      exact hK _ _ ⟨_, rfl, Below.refl _ _, rfl, fun h => absurd h (by decide)⟩
    · have d7 := got (hv 7 117 rfl) (hd 7 (by kernel_rfl))
      clear hb hv hd
      have c := sc_keep hB s.2.1 k0 h0
      refine wpOp_step rfl fun K hK => ?_
      go_simp
      exact hK _ _ ⟨_, rfl, Below.refl _ _, rfl, fun h => absurd h (by decide)⟩
    · have d2 := got (hv 2 112 rfl) (hd 2 (by kernel_rfl))
      have d8 := got (hv 8 118 rfl) (hd 8 (by kernel_rfl))
      clear hb hv hd
      refine wpOp_step rfl fun K hK => ?_
      go_simp
      exact hK _ _ ⟨_, rfl, Below.refl _ _, rfl, fun h => absurd h (by decide)⟩
    · have d9 := got (hv 9 119 rfl) (hd 9 (by kernel_rfl))
      clear hb hv hd
      refine wpOp_step rfl fun K hK => ?_
      go_simp
      exact hK _ _ ⟨_, rfl, Below.refl _ _, rfl, fun h => absurd h (by decide)⟩
    · have b16 : f.tmps[16]? = some (.int .i64 0) := (hb 16 (by decide)).trans rfl
      have d10 := got (hv 10 120 rfl) (hd 10 (by kernel_rfl))
      clear hb hv hd
      refine wpOp_step rfl fun K hK => ?_
      go_simp
      exact hK _ _ ⟨_, rfl, Below.refl _ _, rfl, fun h => absurd h (by decide)⟩
    · have b15 : f.tmps[15]? = some (.pointer (some ⟨Dg, 0, none⟩)) := (hb 15 (by decide)).trans rfl
      have d11 := got (hv 11 121 rfl) (hd 11 (by kernel_rfl))
      have d10 := got (hv 10 120 rfl) (hd 10 (by kernel_rfl))
      clear hb hv hd
      refine wpOp_step rfl fun K hK => ?_
      go_simp
      exact hK _ _ ⟨_, rfl, Below.refl _ _, rfl, fun h => absurd h (by decide)⟩
    · have d12 := got (hv 12 122 rfl) (hd 12 (by kernel_rfl))
      have d10 := got (hv 10 120 rfl) (hd 10 (by kernel_rfl))
      clear hb hv hd
      have c := tc_keep hB kD
      refine wpOp_step rfl fun K hK => ?_
      go_simp
      exact hK _ _ ⟨_, rfl, Below.refl _ _, rfl, fun h => absurd h (by decide)⟩
    · have b16 : f.tmps[16]? = some (.int .i64 0) := (hb 16 (by decide)).trans rfl
      have d10 := got (hv 10 120 rfl) (hd 10 (by kernel_rfl))
      clear hb hv hd
      refine wpOp_step rfl fun K hK => ?_
      go_simp
      exact hK _ _ ⟨_, rfl, Below.refl _ _, rfl, fun h => absurd h (by decide)⟩
    · have b16 : f.tmps[16]? = some (.int .i64 0) := (hb 16 (by decide)).trans rfl
      have d10 := got (hv 10 120 rfl) (hd 10 (by kernel_rfl))
      clear hb hv hd
      refine wpOp_step rfl fun K hK => ?_
      go_simp
      exact hK _ _ ⟨_, rfl, Below.refl _ _, rfl, fun h => absurd h (by decide)⟩
    · have d14 := got (hv 14 124 rfl) (hd 14 (by kernel_rfl))
      have d15 := got (hv 15 125 rfl) (hd 15 (by kernel_rfl))
      have d10 := got (hv 10 120 rfl) (hd 10 (by kernel_rfl))
      clear hb hv hd
      refine wpOp_callg rfl (yields rfl rfl d10) Tryd.call6 (args2 (eval_tmp d14) (eval_tmp d15)) (D0 _) ?_
      rintro e5 w5 ⟨rfl, hb5⟩
      exact ⟨_, rfl, _, rfl, hb5, rfl, fun h => absurd h (by decide)⟩
    · have b3 : f.tmps[3]? = some (.pointer (some ⟨w.heap.size, 0, none⟩)) := (hb 3 (by decide)).trans rfl
      have d16 := got (hv 16 126 rfl) (hd 16 (by kernel_rfl))
      have d10 := got (hv 10 120 rfl) (hd 10 (by kernel_rfl))
      clear hb hv hd
      refine wpOp_step rfl fun K hK => ?_
      go_simp
      exact hK _ _ ⟨_, rfl, Below.refl _ _, rfl, fun h => absurd h (by decide)⟩
    · have d17 := got (hv 17 127 rfl) (hd 17 (by kernel_rfl))
      have d10 := got (hv 10 120 rfl) (hd 10 (by kernel_rfl))
      clear hb hv hd
      have c := sc_keep hB s.2.1 0 (by decide)
      refine wpOp_step rfl fun K hK => ?_
      go_simp
      exact hK _ _ ⟨_, rfl, Below.refl _ _, rfl, fun h => absurd h (by decide)⟩
    · have d13 := got (hv 13 123 rfl) (hd 13 (by kernel_rfl))
      have d18 := got (hv 18 128 rfl) (hd 18 (by kernel_rfl))
      have d10 := got (hv 10 120 rfl) (hd 10 (by kernel_rfl))
      clear hb hv hd
      refine wpOp_step rfl fun K hK => ?_
      go_simp
      exact hK _ _ ⟨_, rfl, Below.refl _ _, rfl, fun h => absurd h (by decide)⟩
    · have d10 := got (hv 10 120 rfl) (hd 10 (by kernel_rfl))
      have d19 := got (hv 19 129 rfl) (hd 19 (by kernel_rfl))
      clear hb hv hd
      refine wpOp_step rfl fun K hK => ?_
      go_simp
      exact hK _ _ ⟨_, rfl, Below.refl _ _, rfl, fun h => absurd h (by decide)⟩
  · intro v w' hB hF hD
    have F0 : v 0 = _ := hF 0 (by simp)
    have F1 : v 1 = _ := hF 1 (by simp)
    have F2 : v 2 = _ := hF 2 (by simp)
    have F3 : v 3 = _ := hF 3 (by simp)
    have F4 : v 4 = _ := hF 4 (by simp)
    have F5 : v 5 = _ := hF 5 (by simp)
    have F6 : v 6 = _ := hF 6 (by simp)
    have F7 : v 7 = _ := hF 7 (by simp)
    have F8 : v 8 = _ := hF 8 (by simp)
    have F9 : v 9 = _ := hF 9 (by simp)
    have F10 : v 10 = _ := hF 10 (by simp)
    have F11 : v 11 = _ := hF 11 (by simp)
    have F12 : v 12 = _ := hF 12 (by simp)
    have F13 : v 13 = _ := hF 13 (by simp)
    have F14 : v 14 = _ := hF 14 (by simp)
    have F15 : v 15 = _ := hF 15 (by simp)
    have F16 : v 16 = _ := hF 16 (by simp)
    have F17 : v 17 = _ := hF 17 (by simp)
    have F18 : v 18 = _ := hF 18 (by simp)
    have F19 : v 19 = _ := hF 19 (by simp)
    have F20 : v 20 = _ := hF 20 (by simp)
    clear hF
    simp only [frOf, frGo, Nat.zero_add, Nat.reduceAdd, F0, F1, F2, F3, F4, F5, F6, F7, F8, F9, F10, F11, F12, F13, F14, F15, F16, F17, F18, F19, F20]
    rw [List.drop_eq_nil_of_le (by simp)]
    refine wpList_end ?_
    simp only [Act.put, List.setIfInBounds_toArray, List.set_cons_zero, List.set_cons_succ]
    replace s := em_keep s hB
    replace kR := tc_keep hB kR
    replace kD := tc_keep hB kD
    clear F0 F1 F2 F3 F4 F5 F6 F7 F8 F9 F10 F11 F12 F13 F14 F15 F16 F17 F18 F19 F20 hD hB
    go_wp2
    rw [rounds_succ]
    go_wp2
    refine region_each [110, 111, 112, 113, 114, 115, 116, 117, 118, 119, 120, 121, 122, 123, 124, 125, 126, 127, 128, 129, 130] (fun i_ X_ U_ => match i_ with | 0 => X_ = .int .i64 1 | 1 => X_ = .pointer (some ⟨R, 1, none⟩) | 2 => X_ = .int .i64 (m k1) | 3 => X_ = .pointer (some ⟨w.heap.size + 1, 0, none⟩) | 4 => X_ = .int .i64 i | 5 => X_ = .int .i64 1 | 6 => X_ = .int .i64 ((k1 : Nat) : Int) | 7 => X_ = .pointer (some ⟨w.heap.size, k1, none⟩) | 8 => X_ = .int .i64 (m k1) | 9 => X_ = .bool false | 10 => X_ = .bool false | 11 => X_ = .int .i64 1 | 12 => X_ = .pointer (some ⟨Dg, 1, none⟩) | 13 => X_ = .int .i64 (m 3) | 14 => X_ = .int .i64 1 | 15 => X_ = .int .i64 1 | 16 => X_ = .int .i64 3 | 17 => X_ = .pointer (some ⟨w.heap.size, 3, none⟩) | 18 => X_ = .int .i64 (m 3) | 19 => X_ = .bool false | 20 => X_ = .bool false | _ => True) (fun i_ => false) (by kernel_rfl) (by kernel_rfl) (by kernel_rfl) (by kernel_rfl) (by kernel_rfl) ?_ (fun i x w hi ha h => by cases ha) ?_ ?_
    · refine swp (upS (upS (upS (upS (upS (upS (upS (upS (upS (upS (upS (upS (upS (upS (upS (upS (upS (upS (upS (upS (upS up0 ?_) ?_) ?_) ?_) ?_) ?_) ?_) ?_) ?_) ?_) ?_) ?_) ?_) ?_) ?_) ?_) ?_) ?_) ?_) ?_) ?_)
      all_goals exact fun _ _ _ h _ => h
    · refine upS (upS (upS (upS (upS (upS (upS (upS (upS (upS (upS (upS (upS (upS (upS (upS (upS (upS (upS (upS (upS up0 ?_) ?_) ?_) ?_) ?_) ?_) ?_) ?_) ?_) ?_) ?_) ?_) ?_) ?_) ?_) ?_) ?_) ?_) ?_) ?_) ?_
      all_goals intro v f w' hb hv hB hd
      · have b16 : f.tmps[16]? = some (.int .i64 1) := (hb 16 (by decide)).trans rfl
        clear hb hv hd
        refine wpOp_step rfl fun K hK => ?_
        go_simp
        exact hK _ _ ⟨_, rfl, Below.refl _ _, rfl, fun h => absurd h (by decide)⟩
      · have b12 : f.tmps[12]? = some (.pointer (some ⟨R, 0, none⟩)) := (hb 12 (by decide)).trans rfl
        have d0 := got (hv 0 110 rfl) (hd 0 (by kernel_rfl))
        clear hb hv hd
        refine wpOp_step rfl fun K hK => ?_
        go_simp
        exact hK _ _ ⟨_, rfl, Below.refl _ _, rfl, fun h => absurd h (by decide)⟩
      · have d1 := got (hv 1 111 rfl) (hd 1 (by kernel_rfl))
        clear hb hv hd
        have c := tc_keep hB kR
        refine wpOp_step rfl fun K hK => ?_
        go_simp
        exact hK _ _ ⟨_, rfl, Below.refl _ _, rfl, fun h => absurd h (by decide)⟩
      · have b4 : f.tmps[4]? = some (.pointer (some ⟨w.heap.size + 1, 0, none⟩)) := (hb 4 (by decide)).trans rfl
        clear hb hv hd
        refine wpOp_step rfl fun K hK => ?_
        go_simp
        exact hK _ _ ⟨_, rfl, Below.refl _ _, rfl, fun h => absurd h (by decide)⟩
      · have d3 := got (hv 3 113 rfl) (hd 3 (by kernel_rfl))
        clear hb hv hd
        have c := pc_keep hB s.2.2.1
        refine wpOp_step rfl fun K hK => ?_
        go_simp
        exact hK _ _ ⟨_, rfl, Below.refl _ _, rfl, fun h => absurd h (by decide)⟩
      · have b16 : f.tmps[16]? = some (.int .i64 1) := (hb 16 (by decide)).trans rfl
        clear hb hv hd
        refine wpOp_step rfl fun K hK => ?_
        go_simp
        exact hK _ _ ⟨_, rfl, Below.refl _ _, rfl, fun h => absurd h (by decide)⟩
      · have d4 := got (hv 4 114 rfl) (hd 4 (by kernel_rfl))
        have d5 := got (hv 5 115 rfl) (hd 5 (by kernel_rfl))
        clear hb hv hd
        refine wpOp_call rfl Tryd.call6 (args2 (eval_tmp d4) (eval_tmp d5)) (P1 _) ?_
        rintro e5 w5 ⟨rfl, hb5⟩
        exact ⟨_, rfl, _, rfl, hb5, rfl, fun h => absurd h (by decide)⟩
      · have b3 : f.tmps[3]? = some (.pointer (some ⟨w.heap.size, 0, none⟩)) := (hb 3 (by decide)).trans rfl
        have d6 := got (hv 6 116 rfl) (hd 6 (by kernel_rfl))
        clear hb hv hd
        have q0 : (0 : Int) ≤ (k1 : Int) := by omega
        have q6 : (k1 : Int) < 6 := by omega
        refine wpOp_step rfl fun K hK => ?_
        go_simp
        exact hK _ _ ⟨_, rfl, Below.refl _ _, rfl, fun h => absurd h (by decide)⟩
      · have d7 := got (hv 7 117 rfl) (hd 7 (by kernel_rfl))
        clear hb hv hd
        have c := sc_keep hB s.2.1 k1 h1
        refine wpOp_step rfl fun K hK => ?_
        go_simp
        exact hK _ _ ⟨_, rfl, Below.refl _ _, rfl, fun h => absurd h (by decide)⟩
      · have d2 := got (hv 2 112 rfl) (hd 2 (by kernel_rfl))
        have d8 := got (hv 8 118 rfl) (hd 8 (by kernel_rfl))
        clear hb hv hd
        refine wpOp_step rfl fun K hK => ?_
        go_simp
        exact hK _ _ ⟨_, rfl, Below.refl _ _, rfl, fun h => absurd h (by decide)⟩
      · have d9 := got (hv 9 119 rfl) (hd 9 (by kernel_rfl))
        clear hb hv hd
        refine wpOp_step rfl fun K hK => ?_
        go_simp
        exact hK _ _ ⟨_, rfl, Below.refl _ _, rfl, fun h => absurd h (by decide)⟩
      · have b16 : f.tmps[16]? = some (.int .i64 1) := (hb 16 (by decide)).trans rfl
        have d10 := got (hv 10 120 rfl) (hd 10 (by kernel_rfl))
        clear hb hv hd
        refine wpOp_step rfl fun K hK => ?_
        go_simp
        exact hK _ _ ⟨_, rfl, Below.refl _ _, rfl, fun h => absurd h (by decide)⟩
      · have b15 : f.tmps[15]? = some (.pointer (some ⟨Dg, 0, none⟩)) := (hb 15 (by decide)).trans rfl
        have d11 := got (hv 11 121 rfl) (hd 11 (by kernel_rfl))
        have d10 := got (hv 10 120 rfl) (hd 10 (by kernel_rfl))
        clear hb hv hd
        refine wpOp_step rfl fun K hK => ?_
        go_simp
        exact hK _ _ ⟨_, rfl, Below.refl _ _, rfl, fun h => absurd h (by decide)⟩
      · have d12 := got (hv 12 122 rfl) (hd 12 (by kernel_rfl))
        have d10 := got (hv 10 120 rfl) (hd 10 (by kernel_rfl))
        clear hb hv hd
        have c := tc_keep hB kD
        refine wpOp_step rfl fun K hK => ?_
        go_simp
        exact hK _ _ ⟨_, rfl, Below.refl _ _, rfl, fun h => absurd h (by decide)⟩
      · have b16 : f.tmps[16]? = some (.int .i64 1) := (hb 16 (by decide)).trans rfl
        have d10 := got (hv 10 120 rfl) (hd 10 (by kernel_rfl))
        clear hb hv hd
        refine wpOp_step rfl fun K hK => ?_
        go_simp
        exact hK _ _ ⟨_, rfl, Below.refl _ _, rfl, fun h => absurd h (by decide)⟩
      · have b16 : f.tmps[16]? = some (.int .i64 1) := (hb 16 (by decide)).trans rfl
        have d10 := got (hv 10 120 rfl) (hd 10 (by kernel_rfl))
        clear hb hv hd
        refine wpOp_step rfl fun K hK => ?_
        go_simp
        exact hK _ _ ⟨_, rfl, Below.refl _ _, rfl, fun h => absurd h (by decide)⟩
      · have d14 := got (hv 14 124 rfl) (hd 14 (by kernel_rfl))
        have d15 := got (hv 15 125 rfl) (hd 15 (by kernel_rfl))
        have d10 := got (hv 10 120 rfl) (hd 10 (by kernel_rfl))
        clear hb hv hd
        refine wpOp_callg rfl (yields rfl rfl d10) Tryd.call6 (args2 (eval_tmp d14) (eval_tmp d15)) (D1 _) ?_
        rintro e5 w5 ⟨rfl, hb5⟩
        exact ⟨_, rfl, _, rfl, hb5, rfl, fun h => absurd h (by decide)⟩
      · have b3 : f.tmps[3]? = some (.pointer (some ⟨w.heap.size, 0, none⟩)) := (hb 3 (by decide)).trans rfl
        have d16 := got (hv 16 126 rfl) (hd 16 (by kernel_rfl))
        have d10 := got (hv 10 120 rfl) (hd 10 (by kernel_rfl))
        clear hb hv hd
        refine wpOp_step rfl fun K hK => ?_
        go_simp
        exact hK _ _ ⟨_, rfl, Below.refl _ _, rfl, fun h => absurd h (by decide)⟩
      · have d17 := got (hv 17 127 rfl) (hd 17 (by kernel_rfl))
        have d10 := got (hv 10 120 rfl) (hd 10 (by kernel_rfl))
        clear hb hv hd
        have c := sc_keep hB s.2.1 3 (by decide)
        refine wpOp_step rfl fun K hK => ?_
        go_simp
        exact hK _ _ ⟨_, rfl, Below.refl _ _, rfl, fun h => absurd h (by decide)⟩
      · have d13 := got (hv 13 123 rfl) (hd 13 (by kernel_rfl))
        have d18 := got (hv 18 128 rfl) (hd 18 (by kernel_rfl))
        have d10 := got (hv 10 120 rfl) (hd 10 (by kernel_rfl))
        clear hb hv hd
        refine wpOp_step rfl fun K hK => ?_
        go_simp
        exact hK _ _ ⟨_, rfl, Below.refl _ _, rfl, fun h => absurd h (by decide)⟩
      · have d10 := got (hv 10 120 rfl) (hd 10 (by kernel_rfl))
        have d19 := got (hv 19 129 rfl) (hd 19 (by kernel_rfl))
        clear hb hv hd
        refine wpOp_step rfl fun K hK => ?_
        go_simp
        exact hK _ _ ⟨_, rfl, Below.refl _ _, rfl, fun h => absurd h (by decide)⟩
    · intro v w' hB hF hD
      have F0 : v 0 = _ := hF 0 (by simp)
      have F1 : v 1 = _ := hF 1 (by simp)
      have F2 : v 2 = _ := hF 2 (by simp)
      have F3 : v 3 = _ := hF 3 (by simp)
      have F4 : v 4 = _ := hF 4 (by simp)
      have F5 : v 5 = _ := hF 5 (by simp)
      have F6 : v 6 = _ := hF 6 (by simp)
      have F7 : v 7 = _ := hF 7 (by simp)
      have F8 : v 8 = _ := hF 8 (by simp)
      have F9 : v 9 = _ := hF 9 (by simp)
      have F10 : v 10 = _ := hF 10 (by simp)
      have F11 : v 11 = _ := hF 11 (by simp)
      have F12 : v 12 = _ := hF 12 (by simp)
      have F13 : v 13 = _ := hF 13 (by simp)
      have F14 : v 14 = _ := hF 14 (by simp)
      have F15 : v 15 = _ := hF 15 (by simp)
      have F16 : v 16 = _ := hF 16 (by simp)
      have F17 : v 17 = _ := hF 17 (by simp)
      have F18 : v 18 = _ := hF 18 (by simp)
      have F19 : v 19 = _ := hF 19 (by simp)
      have F20 : v 20 = _ := hF 20 (by simp)
      clear hF
      simp only [frOf, frGo, Nat.zero_add, Nat.reduceAdd, F0, F1, F2, F3, F4, F5, F6, F7, F8, F9, F10, F11, F12, F13, F14, F15, F16, F17, F18, F19, F20]
      rw [List.drop_eq_nil_of_le (by simp)]
      refine wpList_end ?_
      simp only [Act.put, List.setIfInBounds_toArray, List.set_cons_zero, List.set_cons_succ]
      replace s := em_keep s hB
      replace kR := tc_keep hB kR
      replace kD := tc_keep hB kD
      clear F0 F1 F2 F3 F4 F5 F6 F7 F8 F9 F10 F11 F12 F13 F14 F15 F16 F17 F18 F19 F20 hD hB
      go_wp2
      rw [rounds_succ]
      go_wp2
      refine region_each [110, 111, 112, 113, 114, 115, 116, 117, 118, 119, 120, 121, 122, 123, 124, 125, 126, 127, 128, 129, 130] (fun i_ X_ U_ => match i_ with | 0 => X_ = .int .i64 2 | 1 => X_ = .pointer (some ⟨R, 2, none⟩) | 2 => X_ = .int .i64 (m k2) | 3 => X_ = .pointer (some ⟨w.heap.size + 1, 0, none⟩) | 4 => X_ = .int .i64 i | 5 => X_ = .int .i64 2 | 6 => X_ = .int .i64 ((k2 : Nat) : Int) | 7 => X_ = .pointer (some ⟨w.heap.size, k2, none⟩) | 8 => X_ = .int .i64 (m k2) | 9 => X_ = .bool false | 10 => X_ = .bool false | 11 => X_ = .int .i64 2 | 12 => X_ = .pointer (some ⟨Dg, 2, none⟩) | 13 => X_ = .int .i64 (m 5) | 14 => X_ = .int .i64 2 | 15 => X_ = .int .i64 2 | 16 => X_ = .int .i64 5 | 17 => X_ = .pointer (some ⟨w.heap.size, 5, none⟩) | 18 => X_ = .int .i64 (m 5) | 19 => X_ = .bool false | 20 => X_ = .bool false | _ => True) (fun i_ => false) (by kernel_rfl) (by kernel_rfl) (by kernel_rfl) (by kernel_rfl) (by kernel_rfl) ?_ (fun i x w hi ha h => by cases ha) ?_ ?_
      · refine swp (upS (upS (upS (upS (upS (upS (upS (upS (upS (upS (upS (upS (upS (upS (upS (upS (upS (upS (upS (upS (upS up0 ?_) ?_) ?_) ?_) ?_) ?_) ?_) ?_) ?_) ?_) ?_) ?_) ?_) ?_) ?_) ?_) ?_) ?_) ?_) ?_) ?_)
        all_goals exact fun _ _ _ h _ => h
      · refine upS (upS (upS (upS (upS (upS (upS (upS (upS (upS (upS (upS (upS (upS (upS (upS (upS (upS (upS (upS (upS up0 ?_) ?_) ?_) ?_) ?_) ?_) ?_) ?_) ?_) ?_) ?_) ?_) ?_) ?_) ?_) ?_) ?_) ?_) ?_) ?_) ?_
        all_goals intro v f w' hb hv hB hd
        · have b16 : f.tmps[16]? = some (.int .i64 2) := (hb 16 (by decide)).trans rfl
          clear hb hv hd
          refine wpOp_step rfl fun K hK => ?_
          go_simp
          exact hK _ _ ⟨_, rfl, Below.refl _ _, rfl, fun h => absurd h (by decide)⟩
        · have b12 : f.tmps[12]? = some (.pointer (some ⟨R, 0, none⟩)) := (hb 12 (by decide)).trans rfl
          have d0 := got (hv 0 110 rfl) (hd 0 (by kernel_rfl))
          clear hb hv hd
          refine wpOp_step rfl fun K hK => ?_
          go_simp
          exact hK _ _ ⟨_, rfl, Below.refl _ _, rfl, fun h => absurd h (by decide)⟩
        · have d1 := got (hv 1 111 rfl) (hd 1 (by kernel_rfl))
          clear hb hv hd
          have c := tc_keep hB kR
          refine wpOp_step rfl fun K hK => ?_
          go_simp
          exact hK _ _ ⟨_, rfl, Below.refl _ _, rfl, fun h => absurd h (by decide)⟩
        · have b4 : f.tmps[4]? = some (.pointer (some ⟨w.heap.size + 1, 0, none⟩)) := (hb 4 (by decide)).trans rfl
          clear hb hv hd
          refine wpOp_step rfl fun K hK => ?_
          go_simp
          exact hK _ _ ⟨_, rfl, Below.refl _ _, rfl, fun h => absurd h (by decide)⟩
        · have d3 := got (hv 3 113 rfl) (hd 3 (by kernel_rfl))
          clear hb hv hd
          have c := pc_keep hB s.2.2.1
          refine wpOp_step rfl fun K hK => ?_
          go_simp
          exact hK _ _ ⟨_, rfl, Below.refl _ _, rfl, fun h => absurd h (by decide)⟩
        · have b16 : f.tmps[16]? = some (.int .i64 2) := (hb 16 (by decide)).trans rfl
          clear hb hv hd
          refine wpOp_step rfl fun K hK => ?_
          go_simp
          exact hK _ _ ⟨_, rfl, Below.refl _ _, rfl, fun h => absurd h (by decide)⟩
        · have d4 := got (hv 4 114 rfl) (hd 4 (by kernel_rfl))
          have d5 := got (hv 5 115 rfl) (hd 5 (by kernel_rfl))
          clear hb hv hd
          refine wpOp_call rfl Tryd.call6 (args2 (eval_tmp d4) (eval_tmp d5)) (P2 _) ?_
          rintro e5 w5 ⟨rfl, hb5⟩
          exact ⟨_, rfl, _, rfl, hb5, rfl, fun h => absurd h (by decide)⟩
        · have b3 : f.tmps[3]? = some (.pointer (some ⟨w.heap.size, 0, none⟩)) := (hb 3 (by decide)).trans rfl
          have d6 := got (hv 6 116 rfl) (hd 6 (by kernel_rfl))
          clear hb hv hd
          have q0 : (0 : Int) ≤ (k2 : Int) := by omega
          have q6 : (k2 : Int) < 6 := by omega
          refine wpOp_step rfl fun K hK => ?_
          go_simp
          exact hK _ _ ⟨_, rfl, Below.refl _ _, rfl, fun h => absurd h (by decide)⟩
        · have d7 := got (hv 7 117 rfl) (hd 7 (by kernel_rfl))
          clear hb hv hd
          have c := sc_keep hB s.2.1 k2 h2
          refine wpOp_step rfl fun K hK => ?_
          go_simp
          exact hK _ _ ⟨_, rfl, Below.refl _ _, rfl, fun h => absurd h (by decide)⟩
        · have d2 := got (hv 2 112 rfl) (hd 2 (by kernel_rfl))
          have d8 := got (hv 8 118 rfl) (hd 8 (by kernel_rfl))
          clear hb hv hd
          refine wpOp_step rfl fun K hK => ?_
          go_simp
          exact hK _ _ ⟨_, rfl, Below.refl _ _, rfl, fun h => absurd h (by decide)⟩
        · have d9 := got (hv 9 119 rfl) (hd 9 (by kernel_rfl))
          clear hb hv hd
          refine wpOp_step rfl fun K hK => ?_
          go_simp
          exact hK _ _ ⟨_, rfl, Below.refl _ _, rfl, fun h => absurd h (by decide)⟩
        · have b16 : f.tmps[16]? = some (.int .i64 2) := (hb 16 (by decide)).trans rfl
          have d10 := got (hv 10 120 rfl) (hd 10 (by kernel_rfl))
          clear hb hv hd
          refine wpOp_step rfl fun K hK => ?_
          go_simp
          exact hK _ _ ⟨_, rfl, Below.refl _ _, rfl, fun h => absurd h (by decide)⟩
        · have b15 : f.tmps[15]? = some (.pointer (some ⟨Dg, 0, none⟩)) := (hb 15 (by decide)).trans rfl
          have d11 := got (hv 11 121 rfl) (hd 11 (by kernel_rfl))
          have d10 := got (hv 10 120 rfl) (hd 10 (by kernel_rfl))
          clear hb hv hd
          refine wpOp_step rfl fun K hK => ?_
          go_simp
          exact hK _ _ ⟨_, rfl, Below.refl _ _, rfl, fun h => absurd h (by decide)⟩
        · have d12 := got (hv 12 122 rfl) (hd 12 (by kernel_rfl))
          have d10 := got (hv 10 120 rfl) (hd 10 (by kernel_rfl))
          clear hb hv hd
          have c := tc_keep hB kD
          refine wpOp_step rfl fun K hK => ?_
          go_simp
          exact hK _ _ ⟨_, rfl, Below.refl _ _, rfl, fun h => absurd h (by decide)⟩
        · have b16 : f.tmps[16]? = some (.int .i64 2) := (hb 16 (by decide)).trans rfl
          have d10 := got (hv 10 120 rfl) (hd 10 (by kernel_rfl))
          clear hb hv hd
          refine wpOp_step rfl fun K hK => ?_
          go_simp
          exact hK _ _ ⟨_, rfl, Below.refl _ _, rfl, fun h => absurd h (by decide)⟩
        · have b16 : f.tmps[16]? = some (.int .i64 2) := (hb 16 (by decide)).trans rfl
          have d10 := got (hv 10 120 rfl) (hd 10 (by kernel_rfl))
          clear hb hv hd
          refine wpOp_step rfl fun K hK => ?_
          go_simp
          exact hK _ _ ⟨_, rfl, Below.refl _ _, rfl, fun h => absurd h (by decide)⟩
        · have d14 := got (hv 14 124 rfl) (hd 14 (by kernel_rfl))
          have d15 := got (hv 15 125 rfl) (hd 15 (by kernel_rfl))
          have d10 := got (hv 10 120 rfl) (hd 10 (by kernel_rfl))
          clear hb hv hd
          refine wpOp_callg rfl (yields rfl rfl d10) Tryd.call6 (args2 (eval_tmp d14) (eval_tmp d15)) (D2 _) ?_
          rintro e5 w5 ⟨rfl, hb5⟩
          exact ⟨_, rfl, _, rfl, hb5, rfl, fun h => absurd h (by decide)⟩
        · have b3 : f.tmps[3]? = some (.pointer (some ⟨w.heap.size, 0, none⟩)) := (hb 3 (by decide)).trans rfl
          have d16 := got (hv 16 126 rfl) (hd 16 (by kernel_rfl))
          have d10 := got (hv 10 120 rfl) (hd 10 (by kernel_rfl))
          clear hb hv hd
          refine wpOp_step rfl fun K hK => ?_
          go_simp
          exact hK _ _ ⟨_, rfl, Below.refl _ _, rfl, fun h => absurd h (by decide)⟩
        · have d17 := got (hv 17 127 rfl) (hd 17 (by kernel_rfl))
          have d10 := got (hv 10 120 rfl) (hd 10 (by kernel_rfl))
          clear hb hv hd
          have c := sc_keep hB s.2.1 5 (by decide)
          refine wpOp_step rfl fun K hK => ?_
          go_simp
          exact hK _ _ ⟨_, rfl, Below.refl _ _, rfl, fun h => absurd h (by decide)⟩
        · have d13 := got (hv 13 123 rfl) (hd 13 (by kernel_rfl))
          have d18 := got (hv 18 128 rfl) (hd 18 (by kernel_rfl))
          have d10 := got (hv 10 120 rfl) (hd 10 (by kernel_rfl))
          clear hb hv hd
          refine wpOp_step rfl fun K hK => ?_
          go_simp
          exact hK _ _ ⟨_, rfl, Below.refl _ _, rfl, fun h => absurd h (by decide)⟩
        · have d10 := got (hv 10 120 rfl) (hd 10 (by kernel_rfl))
          have d19 := got (hv 19 129 rfl) (hd 19 (by kernel_rfl))
          clear hb hv hd
          refine wpOp_step rfl fun K hK => ?_
          go_simp
          exact hK _ _ ⟨_, rfl, Below.refl _ _, rfl, fun h => absurd h (by decide)⟩
      · intro v w' hB hF hD
        have F0 : v 0 = _ := hF 0 (by simp)
        have F1 : v 1 = _ := hF 1 (by simp)
        have F2 : v 2 = _ := hF 2 (by simp)
        have F3 : v 3 = _ := hF 3 (by simp)
        have F4 : v 4 = _ := hF 4 (by simp)
        have F5 : v 5 = _ := hF 5 (by simp)
        have F6 : v 6 = _ := hF 6 (by simp)
        have F7 : v 7 = _ := hF 7 (by simp)
        have F8 : v 8 = _ := hF 8 (by simp)
        have F9 : v 9 = _ := hF 9 (by simp)
        have F10 : v 10 = _ := hF 10 (by simp)
        have F11 : v 11 = _ := hF 11 (by simp)
        have F12 : v 12 = _ := hF 12 (by simp)
        have F13 : v 13 = _ := hF 13 (by simp)
        have F14 : v 14 = _ := hF 14 (by simp)
        have F15 : v 15 = _ := hF 15 (by simp)
        have F16 : v 16 = _ := hF 16 (by simp)
        have F17 : v 17 = _ := hF 17 (by simp)
        have F18 : v 18 = _ := hF 18 (by simp)
        have F19 : v 19 = _ := hF 19 (by simp)
        have F20 : v 20 = _ := hF 20 (by simp)
        clear hF
        simp only [frOf, frGo, Nat.zero_add, Nat.reduceAdd, F0, F1, F2, F3, F4, F5, F6, F7, F8, F9, F10, F11, F12, F13, F14, F15, F16, F17, F18, F19, F20]
        rw [List.drop_eq_nil_of_le (by simp)]
        refine wpList_end ?_
        simp only [Act.put, List.setIfInBounds_toArray, List.set_cons_zero, List.set_cons_succ]
        replace s := em_keep s hB
        replace kR := tc_keep hB kR
        replace kD := tc_keep hB kD
        clear F0 F1 F2 F3 F4 F5 F6 F7 F8 F9 F10 F11 F12 F13 F14 F15 F16 F17 F18 F19 F20 hD hB
        go_wp2
        rw [rounds_succ]
        clear kR kD h0 h1 h2 P0 P1 P2 D0 D1 D2
        go_wp2_with fail
        refine (fixed_sym _ s.2.2.2).mono ?_
        rintro e_ w9 ⟨rfl, hb9⟩
        replace s := em_keep s hb9
        clear hb9
        have B9 := s.1
        clear s
        go_wp2
        go_ret
        exact ⟨rfl, B9⟩
set_option maxRecDepth 10000 in
set_option maxHeartbeats 8000000 in
theorem entries_in (m : Nat → Int) (i j x : Int) (k0 k1 k2 : Nat) (hr : Row3 i k0 k1 k2) (p0 : At9 i 0 k0) (p1 : At9 i 1 k1) (p2 : At9 i 2 k2) (h0 : k0 < 6) (h1 : k1 < 6) (h2 : k2 < 6) (k : Nat) (hi : Inb i) (hk : At9 i j k) (hkk : k < 6) (w : World) (hp : PL w) :
    Calls Tryd.prog 3 #[sv m, .agg #[.int .i64 i, .int .i64 j], .int .i64 x] w (RetV (.bool true) w) := by
  have HP := Lib.hid (And.intro p0 (And.intro p1 p2))
  have HR := Lib.hid hr
  clear p0 p1 p2 hr
  have HK := Lib.hid hk
  clear hk
  have s : EM w w.heap.size (w.heap.size + 1) m i j ((w.alloc (Obj.cells #[.int .i64 (m 0), .int .i64 (m 1), .int .i64 (m 2), .int .i64 (m 3), .int .i64 (m 4), .int .i64 (m 5)] 23)).alloc (Obj.cells #[.int .i64 i, .int .i64 j] 24)) := ⟨b_alloc (b_alloc (Below.refl _ _)), sc_alloc (sc_new (w := w) (m := m) (t := 23) rfl), by simp [PC, go_sem], pl_keep (b_alloc (b_alloc (Below.refl _ _))) hp⟩
  have z0 := pl_lt hp
  clear hp
  go_enter Tryd.func3, Tryd.ntmps3
  have hk0 : (0 : Int) ≤ (k : Int) := by omega
  have hk6 : (k : Int) < 6 := by omega
  have hkn : ¬ (k : Int) < 0 := by omega
  have hse := sym_eq_self
  have l6 := sc_six s.2.1
  have lp := s.2.2.1
  go_wp2_with fail
  refine (place_ok i j k HK.out _).mono ?_
  rintro e_ w1 ⟨rfl, hb9⟩
  clear l6 lp
  replace s := em_keep s hb9
  clear hb9
  have l6 := sc_six s.2.1
  have lp := s.2.2.1
  go_wp2_with fail
  refine (at_ok m i j k HK.out _ s.2.2.2).mono ?_
  rintro e_ w2 ⟨rfl, hb9⟩
  clear l6 lp
  replace s := em_keep s hb9
  clear hb9
  have l6 := sc_six s.2.1
  have lp := s.2.2.1
  go_wp2_with fail
  refine (put_ok m i j x k HK.out _ s.2.2.2).mono ?_
  rintro e_ w3 ⟨rfl, hb9⟩
  clear l6 lp
  replace s := em_keep s hb9
  clear hb9
  have hb9 : Below w3.heap.size w3 (w3.alloc (Obj.cells #[.int .i64 (umk m k x 0), .int .i64 (umk m k x 1), .int .i64 (umk m k x 2), .int .i64 (umk m k x 3), .int .i64 (umk m k x 4), .int .i64 (umk m k x 5)] 23)) := b_alloc (Below.refl _ _)
  replace s := em_keep s hb9
  clear hb9
  have kN : SC (w3.alloc (Obj.cells #[.int .i64 (umk m k x 0), .int .i64 (umk m k x 1), .int .i64 (umk m k x 2), .int .i64 (umk m k x 3), .int .i64 (umk m k x 4), .int .i64 (umk m k x 5)] 23)) w3.heap.size (umk m k x) := sc_new rfl
  have l6 := sc_six s.2.1
  have lp := s.2.2.1
  go_wp2_with fail
  refine (row_ok m i k0 k1 k2 HR.out _ s.2.2.2).mono ?_
  rintro e_ w4 ⟨rfl, hb9⟩
  clear l6 lp
  replace s := em_keep s hb9
  replace kN := sc_keep hb9 kN
  clear hb9
  have gN := sc_lt kN
  have gA := sc_lt s.2.1
  have gB := World.block_lt_of_cell? _ _ s.2.2.1.1
  have gW := s.1.size
  have l6 := sc_six s.2.1
  simp only at gB
  have s5 : EM w w.heap.size (w.heap.size + 1) m i j ((w4.alloc (Obj.cells #[.int .i64 (m k0), .int .i64 (m k1), .int .i64 (m k2)] 32)).alloc (Obj.cells #[.int .i64 (m 0), .int .i64 (m 1), .int .i64 (m 2), .int .i64 (m 3), .int .i64 (m 4), .int .i64 (m 5)] 23)) := em_keep s (b_alloc (b_alloc (Below.refl _ _)))
  have kN5 : SC ((w4.alloc (Obj.cells #[.int .i64 (m k0), .int .i64 (m k1), .int .i64 (m k2)] 32)).alloc (Obj.cells #[.int .i64 (m 0), .int .i64 (m 1), .int .i64 (m 2), .int .i64 (m 3), .int .i64 (m 4), .int .i64 (m 5)] 23)) w3.heap.size (umk m k x) := sc_alloc (sc_alloc kN)
  have kR5 : TC ((w4.alloc (Obj.cells #[.int .i64 (m k0), .int .i64 (m k1), .int .i64 (m k2)] 32)).alloc (Obj.cells #[.int .i64 (m 0), .int .i64 (m 1), .int .i64 (m 2), .int .i64 (m 3), .int .i64 (m 4), .int .i64 (m 5)] 23)) w4.heap.size (m k0) (m k1) (m k2) := tc_alloc (tc_new rfl)
  have kW5 : SC ((w4.alloc (Obj.cells #[.int .i64 (m k0), .int .i64 (m k1), .int .i64 (m k2)] 32)).alloc (Obj.cells #[.int .i64 (m 0), .int .i64 (m 1), .int .i64 (m 2), .int .i64 (m 3), .int .i64 (m 4), .int .i64 (m 5)] 23)) (w4.heap.size + 1) m := sc_new (w := w4.alloc (Obj.cells #[.int .i64 (m k0), .int .i64 (m k1), .int .i64 (m k2)] 32)) (m := m) (t := 23) (by simp)
  have fW := sf_new (w := w4.alloc (Obj.cells #[.int .i64 (m k0), .int .i64 (m k1), .int .i64 (m k2)] 32)) (c0 := .int .i64 (m 0)) (c1 := .int .i64 (m 1)) (c2 := .int .i64 (m 2)) (c3 := .int .i64 (m 3)) (c4 := .int .i64 (m 4)) (c5 := .int .i64 (m 5)) (t := 23) (b := w4.heap.size + 1) (by simp) k hkk
  have cW := kW5 k hkk
  have K := Lib.hid (fun (u : World) (hu : u = World.setCell ((w4.alloc (Obj.cells #[.int .i64 (m k0), .int .i64 (m k1), .int .i64 (m k2)] 32)).alloc (Obj.cells #[.int .i64 (m 0), .int .i64 (m 1), .int .i64 (m 2), .int .i64 (m 3), .int .i64 (m 4), .int .i64 (m 5)] 23)) ⟨w4.heap.size + 1, k, none⟩ (.int .i64 x)) => (show EM w w.heap.size (w.heap.size + 1) m i j u ∧ SC u w3.heap.size (umk m k x) ∧ SC u (w4.heap.size + 1) (umk m k x) ∧ TC u w4.heap.size (m k0) (m k1) (m k2) from by subst hu; exact ⟨em_set s5 (by omega) (by omega) (by omega) (by omega), sc_set kN5 (by omega), sc_put kW5 hkk, tc_set kR5 (by omega)⟩))
  clear s s5 kN kN5 kR5 kW5
  clear HR HK
  go_wp2_with (with_reducible refine halt_at (some 68) rfl ?_)
  refine unhalt ?_
  go_wp2_with (with_reducible refine halt_at none rfl ?_)
  refine unhalt ?_
  refine wpList_store_i64 68 67 (b := w4.heap.size + 1) (k := k) rfl rfl cW fW ?_
  intro u hu
  have ku := K.out u hu
  clear hu l6 K cW fW
  have n6 := sc_six ku.2.1
  have w6 := sc_six ku.2.2.1
  have pc := ku.1.2.2.1
  have ck := ku.1.2.1 k hkk
  have m6 := sc_six ku.1.2.1
  have hi0 : ¬ i < 0 := by omega
  have hi2 : ¬ 2 < i := by omega
  replace ku := Lib.hid ku
  go_wp2_with fail
  obtain ⟨s, kN, kW, kR⟩ := ku.out
  refine (main_any m _ s.2.2.2).mono ?_
  rintro e_ w5 ⟨rfl, hb9⟩
  clear ku n6 w6 pc ck m6 kN kW hkn hk0 hk6 hkk hi
  replace s := em_keep s hb9
  replace kR := tc_keep hb9 kR
  clear hb9
  generalize w4.heap.size = R at *
  have hb9 : Below w5.heap.size w5 (w5.alloc (Obj.cells #[.int .i64 (m 0), .int .i64 (m 3), .int .i64 (m 5)] 32)) := b_alloc (Below.refl _ _)
  replace s := em_keep s hb9
  replace kR := tc_keep hb9 kR
  clear hb9
  have kD : TC (w5.alloc (Obj.cells #[.int .i64 (m 0), .int .i64 (m 3), .int .i64 (m 5)] 32)) w5.heap.size (m 0) (m 3) (m 5) := tc_new rfl
  go_wp2
  generalize w5.alloc (Obj.cells #[.int .i64 (m 0), .int .i64 (m 3), .int .i64 (m 5)] 32) = w6 at *
  generalize w5.heap.size = Dg at *
  clear hse hi0 hi2
  have P0 : ∀ w, Calls Tryd.prog 6 #[.int .i64 i, .int .i64 0] w (RetV (.int .i64 (k0 : Int)) w) := fun w => place_ok i 0 k0 HP.out.1 w
  have P1 : ∀ w, Calls Tryd.prog 6 #[.int .i64 i, .int .i64 1] w (RetV (.int .i64 (k1 : Int)) w) := fun w => place_ok i 1 k1 HP.out.2.1 w
  have P2 : ∀ w, Calls Tryd.prog 6 #[.int .i64 i, .int .i64 2] w (RetV (.int .i64 (k2 : Int)) w) := fun w => place_ok i 2 k2 HP.out.2.2 w
  have D0 : ∀ w, Calls Tryd.prog 6 #[.int .i64 0, .int .i64 0] w (RetV (.int .i64 0) w) := fun w => place_ok 0 0 0 (by decide) w
  have D1 : ∀ w, Calls Tryd.prog 6 #[.int .i64 1, .int .i64 1] w (RetV (.int .i64 3) w) := fun w => place_ok 1 1 3 (by decide) w
  have D2 : ∀ w, Calls Tryd.prog 6 #[.int .i64 2, .int .i64 2] w (RetV (.int .i64 5) w) := fun w => place_ok 2 2 5 (by decide) w
  clear HP
  refine wp_loop_rounds 4 ?_
  rw [rounds_succ]
  go_wp2
  refine region_each [110, 111, 112, 113, 114, 115, 116, 117, 118, 119, 120, 121, 122, 123, 124, 125, 126, 127, 128, 129, 130] (fun i_ X_ U_ => match i_ with | 0 => X_ = .int .i64 0 | 1 => X_ = .pointer (some ⟨R, 0, none⟩) | 2 => X_ = .int .i64 (m k0) | 3 => X_ = .pointer (some ⟨w.heap.size + 1, 0, none⟩) | 4 => X_ = .int .i64 i | 5 => X_ = .int .i64 0 | 6 => X_ = .int .i64 ((k0 : Nat) : Int) | 7 => X_ = .pointer (some ⟨w.heap.size, k0, none⟩) | 8 => X_ = .int .i64 (m k0) | 9 => X_ = .bool false | 10 => X_ = .bool false | 11 => X_ = .int .i64 0 | 12 => X_ = .pointer (some ⟨Dg, 0, none⟩) | 13 => X_ = .int .i64 (m 0) | 14 => X_ = .int .i64 0 | 15 => X_ = .int .i64 0 | 16 => X_ = .int .i64 0 | 17 => X_ = .pointer (some ⟨w.heap.size, 0, none⟩) | 18 => X_ = .int .i64 (m 0) | 19 => X_ = .bool false | 20 => X_ = .bool false | _ => True) (fun i_ => false) (by kernel_rfl) (by kernel_rfl) (by kernel_rfl) (by kernel_rfl) (by kernel_rfl) ?_ (fun i x w hi ha h => by cases ha) ?_ ?_
  · refine swp (upS (upS (upS (upS (upS (upS (upS (upS (upS (upS (upS (upS (upS (upS (upS (upS (upS (upS (upS (upS (upS up0 ?_) ?_) ?_) ?_) ?_) ?_) ?_) ?_) ?_) ?_) ?_) ?_) ?_) ?_) ?_) ?_) ?_) ?_) ?_) ?_) ?_)
    all_goals exact fun _ _ _ h _ => h
  · refine upS (upS (upS (upS (upS (upS (upS (upS (upS (upS (upS (upS (upS (upS (upS (upS (upS (upS (upS (upS (upS up0 ?_) ?_) ?_) ?_) ?_) ?_) ?_) ?_) ?_) ?_) ?_) ?_) ?_) ?_) ?_) ?_) ?_) ?_) ?_) ?_) ?_
    all_goals intro v f w' hb hv hB hd
    · have b16 : f.tmps[16]? = some (.int .i64 0) := (hb 16 (by decide)).trans rfl
      clear hb hv hd
      refine wpOp_step rfl fun K hK => ?_
      go_simp
      exact hK _ _ ⟨_, rfl, Below.refl _ _, rfl, fun h => absurd h (by decide)⟩
    · have b12 : f.tmps[12]? = some (.pointer (some ⟨R, 0, none⟩)) := (hb 12 (by decide)).trans rfl
      have d0 := got (hv 0 110 rfl) (hd 0 (by kernel_rfl))
      clear hb hv hd
      refine wpOp_step rfl fun K hK => ?_
      go_simp
      exact hK _ _ ⟨_, rfl, Below.refl _ _, rfl, fun h => absurd h (by decide)⟩
    · have d1 := got (hv 1 111 rfl) (hd 1 (by kernel_rfl))
      clear hb hv hd
      have c := tc_keep hB kR
      refine wpOp_step rfl fun K hK => ?_
      go_simp
      exact hK _ _ ⟨_, rfl, Below.refl _ _, rfl, fun h => absurd h (by decide)⟩
    · have b4 : f.tmps[4]? = some (.pointer (some ⟨w.heap.size + 1, 0, none⟩)) := (hb 4 (by decide)).trans rfl
      clear hb hv hd
      refine wpOp_step rfl fun K hK => ?_
      go_simp
      exact hK _ _ ⟨_, rfl, Below.refl _ _, rfl, fun h => absurd h (by decide)⟩
    · have d3 := got (hv 3 113 rfl) (hd 3 (by kernel_rfl))
      clear hb hv hd
      have c := pc_keep hB s.2.2.1
      refine wpOp_step rfl fun K hK => ?_
      go_simp
      exact hK _ _ ⟨_, rfl, Below.refl _ _, rfl, fun h => absurd h (by decide)⟩
    · have b16 : f.tmps[16]? = some (.int .i64 0) := (hb 16 (by decide)).trans rfl
      clear hb hv hd
      refine wpOp_step rfl fun K hK => ?_
      go_simp
      exact hK _ _ ⟨_, rfl, Below.refl _ _, rfl, fun h => absurd h (by decide)⟩
    · have d4 := got (hv 4 114 rfl) (hd 4 (by kernel_rfl))
      have d5 := got (hv 5 115 rfl) (hd 5 (by kernel_rfl))
      clear hb hv hd
      refine wpOp_call rfl Tryd.call6 (args2 (eval_tmp d4) (eval_tmp d5)) (P0 _) ?_
      rintro e5 w5 ⟨rfl, hb5⟩
      exact ⟨_, rfl, _, rfl, hb5, rfl, fun h => absurd h (by decide)⟩
    · have b3 : f.tmps[3]? = some (.pointer (some ⟨w.heap.size, 0, none⟩)) := (hb 3 (by decide)).trans rfl
      have d6 := got (hv 6 116 rfl) (hd 6 (by kernel_rfl))
      clear hb hv hd
      have q0 : (0 : Int) ≤ (k0 : Int) := by omega
      have q6 : (k0 : Int) < 6 := by omega
      refine wpOp_step rfl fun K hK => ?_
      go_simp
      exact hK _ _ ⟨_, rfl, Below.refl _ _, rfl, fun h => absurd h (by decide)⟩
    · have d7 := got (hv 7 117 rfl) (hd 7 (by kernel_rfl))
      clear hb hv hd
      have c := sc_keep hB s.2.1 k0 h0
      refine wpOp_step rfl fun K hK => ?_
      go_simp
      exact hK _ _ ⟨_, rfl, Below.refl _ _, rfl, fun h => absurd h (by decide)⟩
    · have d2 := got (hv 2 112 rfl) (hd 2 (by kernel_rfl))
      have d8 := got (hv 8 118 rfl) (hd 8 (by kernel_rfl))
      clear hb hv hd
      refine wpOp_step rfl fun K hK => ?_
      go_simp
      exact hK _ _ ⟨_, rfl, Below.refl _ _, rfl, fun h => absurd h (by decide)⟩
    · have d9 := got (hv 9 119 rfl) (hd 9 (by kernel_rfl))
      clear hb hv hd
      refine wpOp_step rfl fun K hK => ?_
      go_simp
      exact hK _ _ ⟨_, rfl, Below.refl _ _, rfl, fun h => absurd h (by decide)⟩
    · have b16 : f.tmps[16]? = some (.int .i64 0) := (hb 16 (by decide)).trans rfl
      have d10 := got (hv 10 120 rfl) (hd 10 (by kernel_rfl))
      clear hb hv hd
      refine wpOp_step rfl fun K hK => ?_
      go_simp
      exact hK _ _ ⟨_, rfl, Below.refl _ _, rfl, fun h => absurd h (by decide)⟩
    · have b15 : f.tmps[15]? = some (.pointer (some ⟨Dg, 0, none⟩)) := (hb 15 (by decide)).trans rfl
      have d11 := got (hv 11 121 rfl) (hd 11 (by kernel_rfl))
      have d10 := got (hv 10 120 rfl) (hd 10 (by kernel_rfl))
      clear hb hv hd
      refine wpOp_step rfl fun K hK => ?_
      go_simp
      exact hK _ _ ⟨_, rfl, Below.refl _ _, rfl, fun h => absurd h (by decide)⟩
    · have d12 := got (hv 12 122 rfl) (hd 12 (by kernel_rfl))
      have d10 := got (hv 10 120 rfl) (hd 10 (by kernel_rfl))
      clear hb hv hd
      have c := tc_keep hB kD
      refine wpOp_step rfl fun K hK => ?_
      go_simp
      exact hK _ _ ⟨_, rfl, Below.refl _ _, rfl, fun h => absurd h (by decide)⟩
    · have b16 : f.tmps[16]? = some (.int .i64 0) := (hb 16 (by decide)).trans rfl
      have d10 := got (hv 10 120 rfl) (hd 10 (by kernel_rfl))
      clear hb hv hd
      refine wpOp_step rfl fun K hK => ?_
      go_simp
      exact hK _ _ ⟨_, rfl, Below.refl _ _, rfl, fun h => absurd h (by decide)⟩
    · have b16 : f.tmps[16]? = some (.int .i64 0) := (hb 16 (by decide)).trans rfl
      have d10 := got (hv 10 120 rfl) (hd 10 (by kernel_rfl))
      clear hb hv hd
      refine wpOp_step rfl fun K hK => ?_
      go_simp
      exact hK _ _ ⟨_, rfl, Below.refl _ _, rfl, fun h => absurd h (by decide)⟩
    · have d14 := got (hv 14 124 rfl) (hd 14 (by kernel_rfl))
      have d15 := got (hv 15 125 rfl) (hd 15 (by kernel_rfl))
      have d10 := got (hv 10 120 rfl) (hd 10 (by kernel_rfl))
      clear hb hv hd
      refine wpOp_callg rfl (yields rfl rfl d10) Tryd.call6 (args2 (eval_tmp d14) (eval_tmp d15)) (D0 _) ?_
      rintro e5 w5 ⟨rfl, hb5⟩
      exact ⟨_, rfl, _, rfl, hb5, rfl, fun h => absurd h (by decide)⟩
    · have b3 : f.tmps[3]? = some (.pointer (some ⟨w.heap.size, 0, none⟩)) := (hb 3 (by decide)).trans rfl
      have d16 := got (hv 16 126 rfl) (hd 16 (by kernel_rfl))
      have d10 := got (hv 10 120 rfl) (hd 10 (by kernel_rfl))
      clear hb hv hd
      refine wpOp_step rfl fun K hK => ?_
      go_simp
      exact hK _ _ ⟨_, rfl, Below.refl _ _, rfl, fun h => absurd h (by decide)⟩
    · have d17 := got (hv 17 127 rfl) (hd 17 (by kernel_rfl))
      have d10 := got (hv 10 120 rfl) (hd 10 (by kernel_rfl))
      clear hb hv hd
      have c := sc_keep hB s.2.1 0 (by decide)
      refine wpOp_step rfl fun K hK => ?_
      go_simp
      exact hK _ _ ⟨_, rfl, Below.refl _ _, rfl, fun h => absurd h (by decide)⟩
    · have d13 := got (hv 13 123 rfl) (hd 13 (by kernel_rfl))
      have d18 := got (hv 18 128 rfl) (hd 18 (by kernel_rfl))
      have d10 := got (hv 10 120 rfl) (hd 10 (by kernel_rfl))
      clear hb hv hd
      refine wpOp_step rfl fun K hK => ?_
      go_simp
      exact hK _ _ ⟨_, rfl, Below.refl _ _, rfl, fun h => absurd h (by decide)⟩
    · have d10 := got (hv 10 120 rfl) (hd 10 (by kernel_rfl))
      have d19 := got (hv 19 129 rfl) (hd 19 (by kernel_rfl))
      clear hb hv hd
      refine wpOp_step rfl fun K hK => ?_
      go_simp
      exact hK _ _ ⟨_, rfl, Below.refl _ _, rfl, fun h => absurd h (by decide)⟩
  · intro v w' hB hF hD
    have F0 : v 0 = _ := hF 0 (by simp)
    have F1 : v 1 = _ := hF 1 (by simp)
    have F2 : v 2 = _ := hF 2 (by simp)
    have F3 : v 3 = _ := hF 3 (by simp)
    have F4 : v 4 = _ := hF 4 (by simp)
    have F5 : v 5 = _ := hF 5 (by simp)
    have F6 : v 6 = _ := hF 6 (by simp)
    have F7 : v 7 = _ := hF 7 (by simp)
    have F8 : v 8 = _ := hF 8 (by simp)
    have F9 : v 9 = _ := hF 9 (by simp)
    have F10 : v 10 = _ := hF 10 (by simp)
    have F11 : v 11 = _ := hF 11 (by simp)
    have F12 : v 12 = _ := hF 12 (by simp)
    have F13 : v 13 = _ := hF 13 (by simp)
    have F14 : v 14 = _ := hF 14 (by simp)
    have F15 : v 15 = _ := hF 15 (by simp)
    have F16 : v 16 = _ := hF 16 (by simp)
    have F17 : v 17 = _ := hF 17 (by simp)
    have F18 : v 18 = _ := hF 18 (by simp)
    have F19 : v 19 = _ := hF 19 (by simp)
    have F20 : v 20 = _ := hF 20 (by simp)
    clear hF
    simp only [frOf, frGo, Nat.zero_add, Nat.reduceAdd, F0, F1, F2, F3, F4, F5, F6, F7, F8, F9, F10, F11, F12, F13, F14, F15, F16, F17, F18, F19, F20]
    rw [List.drop_eq_nil_of_le (by simp)]
    refine wpList_end ?_
    simp only [Act.put, List.setIfInBounds_toArray, List.set_cons_zero, List.set_cons_succ]
    replace s := em_keep s hB
    replace kR := tc_keep hB kR
    replace kD := tc_keep hB kD
    clear F0 F1 F2 F3 F4 F5 F6 F7 F8 F9 F10 F11 F12 F13 F14 F15 F16 F17 F18 F19 F20 hD hB
    go_wp2
    rw [rounds_succ]
    go_wp2
    refine region_each [110, 111, 112, 113, 114, 115, 116, 117, 118, 119, 120, 121, 122, 123, 124, 125, 126, 127, 128, 129, 130] (fun i_ X_ U_ => match i_ with | 0 => X_ = .int .i64 1 | 1 => X_ = .pointer (some ⟨R, 1, none⟩) | 2 => X_ = .int .i64 (m k1) | 3 => X_ = .pointer (some ⟨w.heap.size + 1, 0, none⟩) | 4 => X_ = .int .i64 i | 5 => X_ = .int .i64 1 | 6 => X_ = .int .i64 ((k1 : Nat) : Int) | 7 => X_ = .pointer (some ⟨w.heap.size, k1, none⟩) | 8 => X_ = .int .i64 (m k1) | 9 => X_ = .bool false | 10 => X_ = .bool false | 11 => X_ = .int .i64 1 | 12 => X_ = .pointer (some ⟨Dg, 1, none⟩) | 13 => X_ = .int .i64 (m 3) | 14 => X_ = .int .i64 1 | 15 => X_ = .int .i64 1 | 16 => X_ = .int .i64 3 | 17 => X_ = .pointer (some ⟨w.heap.size, 3, none⟩) | 18 => X_ = .int .i64 (m 3) | 19 => X_ = .bool false | 20 => X_ = .bool false | _ => True) (fun i_ => false) (by kernel_rfl) (by kernel_rfl) (by kernel_rfl) (by kernel_rfl) (by kernel_rfl) ?_ (fun i x w hi ha h => by cases ha) ?_ ?_
    · refine swp (upS (upS (upS (upS (upS (upS (upS (upS (upS (upS (upS (upS (upS (upS (upS (upS (upS (upS (upS (upS (upS up0 ?_) ?_) ?_) ?_) ?_) ?_) ?_) ?_) ?_) ?_) ?_) ?_) ?_) ?_) ?_) ?_) ?_) ?_) ?_) ?_) ?_)
      all_goals exact fun _ _ _ h _ => h
    · refine upS (upS (upS (upS (upS (upS (upS (upS (upS (upS (upS (upS (upS (upS (upS (upS (upS (upS (upS (upS (upS up0 ?_) ?_) ?_) ?_) ?_) ?_) ?_) ?_) ?_) ?_) ?_) ?_) ?_) ?_) ?_) ?_) ?_) ?_) ?_) ?_) ?_
      all_goals intro v f w' hb hv hB hd
      · have b16 : f.tmps[16]? = some (.int .i64 1) := (hb 16 (by decide)).trans rfl
        clear hb hv hd
        refine wpOp_step rfl fun K hK => ?_
        go_simp
        exact hK _ _ ⟨_, rfl, Below.refl _ _, rfl, fun h => absurd h (by decide)⟩
      · have b12 : f.tmps[12]? = some (.pointer (some ⟨R, 0, none⟩)) := (hb 12 (by decide)).trans rfl
        have d0 := got (hv 0 110 rfl) (hd 0 (by kernel_rfl))
        clear hb hv hd
        refine wpOp_step rfl fun K hK => ?_
        go_simp
        exact hK _ _ ⟨_, rfl, Below.refl _ _, rfl, fun h => absurd h (by decide)⟩
      · have d1 := got (hv 1 111 rfl) (hd 1 (by kernel_rfl))
        clear hb hv hd
        have c := tc_keep hB kR
        refine wpOp_step rfl fun K hK => ?_
        go_simp
        exact hK _ _ ⟨_, rfl, Below.refl _ _, rfl, fun h => absurd h (by decide)⟩
      · have b4 : f.tmps[4]? = some (.pointer (some ⟨w.heap.size + 1, 0, none⟩)) := (hb 4 (by decide)).trans rfl
        clear hb hv hd
        refine wpOp_step rfl fun K hK => ?_
        go_simp
        exact hK _ _ ⟨_, rfl, Below.refl _ _, rfl, fun h => absurd h (by decide)⟩
      · have d3 := got (hv 3 113 rfl) (hd 3 (by kernel_rfl))
        clear hb hv hd
        have c := pc_keep hB s.2.2.1
        refine wpOp_step rfl fun K hK => ?_
        go_simp
        exact hK _ _ ⟨_, rfl, Below.refl _ _, rfl, fun h => absurd h (by decide)⟩
      · have b16 : f.tmps[16]? = some (.int .i64 1) := (hb 16 (by decide)).trans rfl
        clear hb hv hd
        refine wpOp_step rfl fun K hK => ?_
        go_simp
        exact hK _ _ ⟨_, rfl, Below.refl _ _, rfl, fun h => absurd h (by decide)⟩
      · have d4 := got (hv 4 114 rfl) (hd 4 (by kernel_rfl))
        have d5 := got (hv 5 115 rfl) (hd 5 (by kernel_rfl))
        clear hb hv hd
        refine wpOp_call rfl Tryd.call6 (args2 (eval_tmp d4) (eval_tmp d5)) (P1 _) ?_
        rintro e5 w5 ⟨rfl, hb5⟩
        exact ⟨_, rfl, _, rfl, hb5, rfl, fun h => absurd h (by decide)⟩
      · have b3 : f.tmps[3]? = some (.pointer (some ⟨w.heap.size, 0, none⟩)) := (hb 3 (by decide)).trans rfl
        have d6 := got (hv 6 116 rfl) (hd 6 (by kernel_rfl))
        clear hb hv hd
        have q0 : (0 : Int) ≤ (k1 : Int) := by omega
        have q6 : (k1 : Int) < 6 := by omega
        refine wpOp_step rfl fun K hK => ?_
        go_simp
        exact hK _ _ ⟨_, rfl, Below.refl _ _, rfl, fun h => absurd h (by decide)⟩
      · have d7 := got (hv 7 117 rfl) (hd 7 (by kernel_rfl))
        clear hb hv hd
        have c := sc_keep hB s.2.1 k1 h1
        refine wpOp_step rfl fun K hK => ?_
        go_simp
        exact hK _ _ ⟨_, rfl, Below.refl _ _, rfl, fun h => absurd h (by decide)⟩
      · have d2 := got (hv 2 112 rfl) (hd 2 (by kernel_rfl))
        have d8 := got (hv 8 118 rfl) (hd 8 (by kernel_rfl))
        clear hb hv hd
        refine wpOp_step rfl fun K hK => ?_
        go_simp
        exact hK _ _ ⟨_, rfl, Below.refl _ _, rfl, fun h => absurd h (by decide)⟩
      · have d9 := got (hv 9 119 rfl) (hd 9 (by kernel_rfl))
        clear hb hv hd
        refine wpOp_step rfl fun K hK => ?_
        go_simp
        exact hK _ _ ⟨_, rfl, Below.refl _ _, rfl, fun h => absurd h (by decide)⟩
      · have b16 : f.tmps[16]? = some (.int .i64 1) := (hb 16 (by decide)).trans rfl
        have d10 := got (hv 10 120 rfl) (hd 10 (by kernel_rfl))
        clear hb hv hd
        refine wpOp_step rfl fun K hK => ?_
        go_simp
        exact hK _ _ ⟨_, rfl, Below.refl _ _, rfl, fun h => absurd h (by decide)⟩
      · have b15 : f.tmps[15]? = some (.pointer (some ⟨Dg, 0, none⟩)) := (hb 15 (by decide)).trans rfl
        have d11 := got (hv 11 121 rfl) (hd 11 (by kernel_rfl))
        have d10 := got (hv 10 120 rfl) (hd 10 (by kernel_rfl))
        clear hb hv hd
        refine wpOp_step rfl fun K hK => ?_
        go_simp
        exact hK _ _ ⟨_, rfl, Below.refl _ _, rfl, fun h => absurd h (by decide)⟩
      · have d12 := got (hv 12 122 rfl) (hd 12 (by kernel_rfl))
        have d10 := got (hv 10 120 rfl) (hd 10 (by kernel_rfl))
        clear hb hv hd
        have c := tc_keep hB kD
        refine wpOp_step rfl fun K hK => ?_
        go_simp
        exact hK _ _ ⟨_, rfl, Below.refl _ _, rfl, fun h => absurd h (by decide)⟩
      · have b16 : f.tmps[16]? = some (.int .i64 1) := (hb 16 (by decide)).trans rfl
        have d10 := got (hv 10 120 rfl) (hd 10 (by kernel_rfl))
        clear hb hv hd
        refine wpOp_step rfl fun K hK => ?_
        go_simp
        exact hK _ _ ⟨_, rfl, Below.refl _ _, rfl, fun h => absurd h (by decide)⟩
      · have b16 : f.tmps[16]? = some (.int .i64 1) := (hb 16 (by decide)).trans rfl
        have d10 := got (hv 10 120 rfl) (hd 10 (by kernel_rfl))
        clear hb hv hd
        refine wpOp_step rfl fun K hK => ?_
        go_simp
        exact hK _ _ ⟨_, rfl, Below.refl _ _, rfl, fun h => absurd h (by decide)⟩
      · have d14 := got (hv 14 124 rfl) (hd 14 (by kernel_rfl))
        have d15 := got (hv 15 125 rfl) (hd 15 (by kernel_rfl))
        have d10 := got (hv 10 120 rfl) (hd 10 (by kernel_rfl))
        clear hb hv hd
        refine wpOp_callg rfl (yields rfl rfl d10) Tryd.call6 (args2 (eval_tmp d14) (eval_tmp d15)) (D1 _) ?_
        rintro e5 w5 ⟨rfl, hb5⟩
        exact ⟨_, rfl, _, rfl, hb5, rfl, fun h => absurd h (by decide)⟩
      · have b3 : f.tmps[3]? = some (.pointer (some ⟨w.heap.size, 0, none⟩)) := (hb 3 (by decide)).trans rfl
        have d16 := got (hv 16 126 rfl) (hd 16 (by kernel_rfl))
        have d10 := got (hv 10 120 rfl) (hd 10 (by kernel_rfl))
        clear hb hv hd
        refine wpOp_step rfl fun K hK => ?_
        go_simp
        exact hK _ _ ⟨_, rfl, Below.refl _ _, rfl, fun h => absurd h (by decide)⟩
      · have d17 := got (hv 17 127 rfl) (hd 17 (by kernel_rfl))
        have d10 := got (hv 10 120 rfl) (hd 10 (by kernel_rfl))
        clear hb hv hd
        have c := sc_keep hB s.2.1 3 (by decide)
        refine wpOp_step rfl fun K hK => ?_
        go_simp
        exact hK _ _ ⟨_, rfl, Below.refl _ _, rfl, fun h => absurd h (by decide)⟩
      · have d13 := got (hv 13 123 rfl) (hd 13 (by kernel_rfl))
        have d18 := got (hv 18 128 rfl) (hd 18 (by kernel_rfl))
        have d10 := got (hv 10 120 rfl) (hd 10 (by kernel_rfl))
        clear hb hv hd
        refine wpOp_step rfl fun K hK => ?_
        go_simp
        exact hK _ _ ⟨_, rfl, Below.refl _ _, rfl, fun h => absurd h (by decide)⟩
      · have d10 := got (hv 10 120 rfl) (hd 10 (by kernel_rfl))
        have d19 := got (hv 19 129 rfl) (hd 19 (by kernel_rfl))
        clear hb hv hd
        refine wpOp_step rfl fun K hK => ?_
        go_simp
        exact hK _ _ ⟨_, rfl, Below.refl _ _, rfl, fun h => absurd h (by decide)⟩
    · intro v w' hB hF hD
      have F0 : v 0 = _ := hF 0 (by simp)
      have F1 : v 1 = _ := hF 1 (by simp)
      have F2 : v 2 = _ := hF 2 (by simp)
      have F3 : v 3 = _ := hF 3 (by simp)
      have F4 : v 4 = _ := hF 4 (by simp)
      have F5 : v 5 = _ := hF 5 (by simp)
      have F6 : v 6 = _ := hF 6 (by simp)
      have F7 : v 7 = _ := hF 7 (by simp)
      have F8 : v 8 = _ := hF 8 (by simp)
      have F9 : v 9 = _ := hF 9 (by simp)
      have F10 : v 10 = _ := hF 10 (by simp)
      have F11 : v 11 = _ := hF 11 (by simp)
      have F12 : v 12 = _ := hF 12 (by simp)
      have F13 : v 13 = _ := hF 13 (by simp)
      have F14 : v 14 = _ := hF 14 (by simp)
      have F15 : v 15 = _ := hF 15 (by simp)
      have F16 : v 16 = _ := hF 16 (by simp)
      have F17 : v 17 = _ := hF 17 (by simp)
      have F18 : v 18 = _ := hF 18 (by simp)
      have F19 : v 19 = _ := hF 19 (by simp)
      have F20 : v 20 = _ := hF 20 (by simp)
      clear hF
      simp only [frOf, frGo, Nat.zero_add, Nat.reduceAdd, F0, F1, F2, F3, F4, F5, F6, F7, F8, F9, F10, F11, F12, F13, F14, F15, F16, F17, F18, F19, F20]
      rw [List.drop_eq_nil_of_le (by simp)]
      refine wpList_end ?_
      simp only [Act.put, List.setIfInBounds_toArray, List.set_cons_zero, List.set_cons_succ]
      replace s := em_keep s hB
      replace kR := tc_keep hB kR
      replace kD := tc_keep hB kD
      clear F0 F1 F2 F3 F4 F5 F6 F7 F8 F9 F10 F11 F12 F13 F14 F15 F16 F17 F18 F19 F20 hD hB
      go_wp2
      rw [rounds_succ]
      go_wp2
      refine region_each [110, 111, 112, 113, 114, 115, 116, 117, 118, 119, 120, 121, 122, 123, 124, 125, 126, 127, 128, 129, 130] (fun i_ X_ U_ => match i_ with | 0 => X_ = .int .i64 2 | 1 => X_ = .pointer (some ⟨R, 2, none⟩) | 2 => X_ = .int .i64 (m k2) | 3 => X_ = .pointer (some ⟨w.heap.size + 1, 0, none⟩) | 4 => X_ = .int .i64 i | 5 => X_ = .int .i64 2 | 6 => X_ = .int .i64 ((k2 : Nat) : Int) | 7 => X_ = .pointer (some ⟨w.heap.size, k2, none⟩) | 8 => X_ = .int .i64 (m k2) | 9 => X_ = .bool false | 10 => X_ = .bool false | 11 => X_ = .int .i64 2 | 12 => X_ = .pointer (some ⟨Dg, 2, none⟩) | 13 => X_ = .int .i64 (m 5) | 14 => X_ = .int .i64 2 | 15 => X_ = .int .i64 2 | 16 => X_ = .int .i64 5 | 17 => X_ = .pointer (some ⟨w.heap.size, 5, none⟩) | 18 => X_ = .int .i64 (m 5) | 19 => X_ = .bool false | 20 => X_ = .bool false | _ => True) (fun i_ => false) (by kernel_rfl) (by kernel_rfl) (by kernel_rfl) (by kernel_rfl) (by kernel_rfl) ?_ (fun i x w hi ha h => by cases ha) ?_ ?_
      · refine swp (upS (upS (upS (upS (upS (upS (upS (upS (upS (upS (upS (upS (upS (upS (upS (upS (upS (upS (upS (upS (upS up0 ?_) ?_) ?_) ?_) ?_) ?_) ?_) ?_) ?_) ?_) ?_) ?_) ?_) ?_) ?_) ?_) ?_) ?_) ?_) ?_) ?_)
        all_goals exact fun _ _ _ h _ => h
      · refine upS (upS (upS (upS (upS (upS (upS (upS (upS (upS (upS (upS (upS (upS (upS (upS (upS (upS (upS (upS (upS up0 ?_) ?_) ?_) ?_) ?_) ?_) ?_) ?_) ?_) ?_) ?_) ?_) ?_) ?_) ?_) ?_) ?_) ?_) ?_) ?_) ?_
        all_goals intro v f w' hb hv hB hd
        · have b16 : f.tmps[16]? = some (.int .i64 2) := (hb 16 (by decide)).trans rfl
          clear hb hv hd
          refine wpOp_step rfl fun K hK => ?_
          go_simp
          exact hK _ _ ⟨_, rfl, Below.refl _ _, rfl, fun h => absurd h (by decide)⟩
        · have b12 : f.tmps[12]? = some (.pointer (some ⟨R, 0, none⟩)) := (hb 12 (by decide)).trans rfl
          have d0 := got (hv 0 110 rfl) (hd 0 (by kernel_rfl))
          clear hb hv hd
          refine wpOp_step rfl fun K hK => ?_
          go_simp
          exact hK _ _ ⟨_, rfl, Below.refl _ _, rfl, fun h => absurd h (by decide)⟩
        · have d1 := got (hv 1 111 rfl) (hd 1 (by kernel_rfl))
          clear hb hv hd
          have c := tc_keep hB kR
          refine wpOp_step rfl fun K hK => ?_
          go_simp
          exact hK _ _ ⟨_, rfl, Below.refl _ _, rfl, fun h => absurd h (by decide)⟩
        · have b4 : f.tmps[4]? = some (.pointer (some ⟨w.heap.size + 1, 0, none⟩)) := (hb 4 (by decide)).trans rfl
          clear hb hv hd
          refine wpOp_step rfl fun K hK => ?_
          go_simp
          exact hK _ _ ⟨_, rfl, Below.refl _ _, rfl, fun h => absurd h (by decide)⟩
        · have d3 := got (hv 3 113 rfl) (hd 3 (by kernel_rfl))
          clear hb hv hd
          have c := pc_keep hB s.2.2.1
          refine wpOp_step rfl fun K hK => ?_
          go_simp
          exact hK _ _ ⟨_, rfl, Below.refl _ _, rfl, fun h => absurd h (by decide)⟩
        · have b16 : f.tmps[16]? = some (.int .i64 2) := (hb 16 (by decide)).trans rfl
          clear hb hv hd
          refine wpOp_step rfl fun K hK => ?_
          go_simp
          exact hK _ _ ⟨_, rfl, Below.refl _ _, rfl, fun h => absurd h (by decide)⟩
        · have d4 := got (hv 4 114 rfl) (hd 4 (by kernel_rfl))
          have d5 := got (hv 5 115 rfl) (hd 5 (by kernel_rfl))
          clear hb hv hd
          refine wpOp_call rfl Tryd.call6 (args2 (eval_tmp d4) (eval_tmp d5)) (P2 _) ?_
          rintro e5 w5 ⟨rfl, hb5⟩
          exact ⟨_, rfl, _, rfl, hb5, rfl, fun h => absurd h (by decide)⟩
        · have b3 : f.tmps[3]? = some (.pointer (some ⟨w.heap.size, 0, none⟩)) := (hb 3 (by decide)).trans rfl
          have d6 := got (hv 6 116 rfl) (hd 6 (by kernel_rfl))
          clear hb hv hd
          have q0 : (0 : Int) ≤ (k2 : Int) := by omega
          have q6 : (k2 : Int) < 6 := by omega
          refine wpOp_step rfl fun K hK => ?_
          go_simp
          exact hK _ _ ⟨_, rfl, Below.refl _ _, rfl, fun h => absurd h (by decide)⟩
        · have d7 := got (hv 7 117 rfl) (hd 7 (by kernel_rfl))
          clear hb hv hd
          have c := sc_keep hB s.2.1 k2 h2
          refine wpOp_step rfl fun K hK => ?_
          go_simp
          exact hK _ _ ⟨_, rfl, Below.refl _ _, rfl, fun h => absurd h (by decide)⟩
        · have d2 := got (hv 2 112 rfl) (hd 2 (by kernel_rfl))
          have d8 := got (hv 8 118 rfl) (hd 8 (by kernel_rfl))
          clear hb hv hd
          refine wpOp_step rfl fun K hK => ?_
          go_simp
          exact hK _ _ ⟨_, rfl, Below.refl _ _, rfl, fun h => absurd h (by decide)⟩
        · have d9 := got (hv 9 119 rfl) (hd 9 (by kernel_rfl))
          clear hb hv hd
          refine wpOp_step rfl fun K hK => ?_
          go_simp
          exact hK _ _ ⟨_, rfl, Below.refl _ _, rfl, fun h => absurd h (by decide)⟩
        · have b16 : f.tmps[16]? = some (.int .i64 2) := (hb 16 (by decide)).trans rfl
          have d10 := got (hv 10 120 rfl) (hd 10 (by kernel_rfl))
          clear hb hv hd
          refine wpOp_step rfl fun K hK => ?_
          go_simp
          exact hK _ _ ⟨_, rfl, Below.refl _ _, rfl, fun h => absurd h (by decide)⟩
        · have b15 : f.tmps[15]? = some (.pointer (some ⟨Dg, 0, none⟩)) := (hb 15 (by decide)).trans rfl
          have d11 := got (hv 11 121 rfl) (hd 11 (by kernel_rfl))
          have d10 := got (hv 10 120 rfl) (hd 10 (by kernel_rfl))
          clear hb hv hd
          refine wpOp_step rfl fun K hK => ?_
          go_simp
          exact hK _ _ ⟨_, rfl, Below.refl _ _, rfl, fun h => absurd h (by decide)⟩
        · have d12 := got (hv 12 122 rfl) (hd 12 (by kernel_rfl))
          have d10 := got (hv 10 120 rfl) (hd 10 (by kernel_rfl))
          clear hb hv hd
          have c := tc_keep hB kD
          refine wpOp_step rfl fun K hK => ?_
          go_simp
          exact hK _ _ ⟨_, rfl, Below.refl _ _, rfl, fun h => absurd h (by decide)⟩
        · have b16 : f.tmps[16]? = some (.int .i64 2) := (hb 16 (by decide)).trans rfl
          have d10 := got (hv 10 120 rfl) (hd 10 (by kernel_rfl))
          clear hb hv hd
          refine wpOp_step rfl fun K hK => ?_
          go_simp
          exact hK _ _ ⟨_, rfl, Below.refl _ _, rfl, fun h => absurd h (by decide)⟩
        · have b16 : f.tmps[16]? = some (.int .i64 2) := (hb 16 (by decide)).trans rfl
          have d10 := got (hv 10 120 rfl) (hd 10 (by kernel_rfl))
          clear hb hv hd
          refine wpOp_step rfl fun K hK => ?_
          go_simp
          exact hK _ _ ⟨_, rfl, Below.refl _ _, rfl, fun h => absurd h (by decide)⟩
        · have d14 := got (hv 14 124 rfl) (hd 14 (by kernel_rfl))
          have d15 := got (hv 15 125 rfl) (hd 15 (by kernel_rfl))
          have d10 := got (hv 10 120 rfl) (hd 10 (by kernel_rfl))
          clear hb hv hd
          refine wpOp_callg rfl (yields rfl rfl d10) Tryd.call6 (args2 (eval_tmp d14) (eval_tmp d15)) (D2 _) ?_
          rintro e5 w5 ⟨rfl, hb5⟩
          exact ⟨_, rfl, _, rfl, hb5, rfl, fun h => absurd h (by decide)⟩
        · have b3 : f.tmps[3]? = some (.pointer (some ⟨w.heap.size, 0, none⟩)) := (hb 3 (by decide)).trans rfl
          have d16 := got (hv 16 126 rfl) (hd 16 (by kernel_rfl))
          have d10 := got (hv 10 120 rfl) (hd 10 (by kernel_rfl))
          clear hb hv hd
          refine wpOp_step rfl fun K hK => ?_
          go_simp
          exact hK _ _ ⟨_, rfl, Below.refl _ _, rfl, fun h => absurd h (by decide)⟩
        · have d17 := got (hv 17 127 rfl) (hd 17 (by kernel_rfl))
          have d10 := got (hv 10 120 rfl) (hd 10 (by kernel_rfl))
          clear hb hv hd
          have c := sc_keep hB s.2.1 5 (by decide)
          refine wpOp_step rfl fun K hK => ?_
          go_simp
          exact hK _ _ ⟨_, rfl, Below.refl _ _, rfl, fun h => absurd h (by decide)⟩
        · have d13 := got (hv 13 123 rfl) (hd 13 (by kernel_rfl))
          have d18 := got (hv 18 128 rfl) (hd 18 (by kernel_rfl))
          have d10 := got (hv 10 120 rfl) (hd 10 (by kernel_rfl))
          clear hb hv hd
          refine wpOp_step rfl fun K hK => ?_
          go_simp
          exact hK _ _ ⟨_, rfl, Below.refl _ _, rfl, fun h => absurd h (by decide)⟩
        · have d10 := got (hv 10 120 rfl) (hd 10 (by kernel_rfl))
          have d19 := got (hv 19 129 rfl) (hd 19 (by kernel_rfl))
          clear hb hv hd
          refine wpOp_step rfl fun K hK => ?_
          go_simp
          exact hK _ _ ⟨_, rfl, Below.refl _ _, rfl, fun h => absurd h (by decide)⟩
      · intro v w' hB hF hD
        have F0 : v 0 = _ := hF 0 (by simp)
        have F1 : v 1 = _ := hF 1 (by simp)
        have F2 : v 2 = _ := hF 2 (by simp)
        have F3 : v 3 = _ := hF 3 (by simp)
        have F4 : v 4 = _ := hF 4 (by simp)
        have F5 : v 5 = _ := hF 5 (by simp)
        have F6 : v 6 = _ := hF 6 (by simp)
        have F7 : v 7 = _ := hF 7 (by simp)
        have F8 : v 8 = _ := hF 8 (by simp)
        have F9 : v 9 = _ := hF 9 (by simp)
        have F10 : v 10 = _ := hF 10 (by simp)
        have F11 : v 11 = _ := hF 11 (by simp)
        have F12 : v 12 = _ := hF 12 (by simp)
        have F13 : v 13 = _ := hF 13 (by simp)
        have F14 : v 14 = _ := hF 14 (by simp)
        have F15 : v 15 = _ := hF 15 (by simp)
        have F16 : v 16 = _ := hF 16 (by simp)
        have F17 : v 17 = _ := hF 17 (by simp)
        have F18 : v 18 = _ := hF 18 (by simp)
        have F19 : v 19 = _ := hF 19 (by simp)
        have F20 : v 20 = _ := hF 20 (by simp)
        clear hF
        simp only [frOf, frGo, Nat.zero_add, Nat.reduceAdd, F0, F1, F2, F3, F4, F5, F6, F7, F8, F9, F10, F11, F12, F13, F14, F15, F16, F17, F18, F19, F20]
        rw [List.drop_eq_nil_of_le (by simp)]
        refine wpList_end ?_
        simp only [Act.put, List.setIfInBounds_toArray, List.set_cons_zero, List.set_cons_succ]
        replace s := em_keep s hB
        replace kR := tc_keep hB kR
        replace kD := tc_keep hB kD
        clear F0 F1 F2 F3 F4 F5 F6 F7 F8 F9 F10 F11 F12 F13 F14 F15 F16 F17 F18 F19 F20 hD hB
        go_wp2
        rw [rounds_succ]
        clear kR kD h0 h1 h2 P0 P1 P2 D0 D1 D2
        go_wp2_with fail
        refine (fixed_sym _ s.2.2.2).mono ?_
        rintro e_ w9 ⟨rfl, hb9⟩
        replace s := em_keep s hb9
        clear hb9
        have B9 := s.1
        clear s
        go_wp2
        go_ret
        exact ⟨rfl, B9⟩
end Go.Proofs.YtppkmnigongpdaaDoor
