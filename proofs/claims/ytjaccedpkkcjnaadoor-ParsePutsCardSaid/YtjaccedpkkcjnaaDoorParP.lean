/- Layer 14: the laws of Put and Get. -/
import Derived.Test.YtjaccedpkkcjnaaDoorParO
namespace Go.Proofs.YtjaccedpkkcjnaaDoor
open Go.RowKit Go.Shelf Go.Lib Go.Maps

/-- A row's load that is guarded. -/
theorem wpList_load_rowg {P : Program} {ops : Array Oper} {rest : List Oper} {o : Oper} {a : Act} {w : World} {Q : Exit → Act → World → Prop} (hw : Region.wanted o (yielded ops a.tmps) = true) (ty : TypeId) (x : Operand) (ho : o.op = .load ty x)
    (g : Nat) (hx : a.eval x = .pointer (some ⟨g, 0, none⟩)) (t : TypeId) (cs : Array Value) (fr : Nat × Nat) (d : TypeDesc) (hg : w.heap[g]? = some (.cells cs t fr))
    (hu : P.underlying ty = some d) (hd : (match d with | .struct _ | .array _ _ => true | _ => false) = true) (hi : (P.info? ty).map (·.size) = some cs.size)
    (h : wpList P ops Q rest (a.put o.dst (.agg cs)) w) : wpList P ops Q (o :: rest) a w :=
  wpList_step fun K hK => by
    rw [if_pos hw]
    exact wp_load_row ty x ho g hx t cs fr d hg hu hd hi (hK _ _ h)

set_option maxHeartbeats 8000000 in
set_option maxRecDepth 20000 in
/-- A configuration's text is the document's, and is read as it. -/
theorem parsePuts_any (x : Nat → Int) (hx : C64 x) (w : World) (ev : EV w) : Calls Tryd.prog 3 #[cv x] w (RetV (.bool true) w) := by
  have cp := fun w ev => put_any x hx w ev
  have cg := fun w ev => get_txt x hx w ev
  have cr := fun w => rput_any x hx w
  have ceq := conf_eq_self x hx
  obtain ⟨tb, htb⟩ : ∃ tb : ByteArray, ⟨(txt x).toArray⟩ = tb := ⟨_, rfl⟩
  rw [htb] at cp cg cr
  have q1 : (tb.toList == tb.toList) = true := by simp
  have HTB := Lib.hid htb
  have HEV := Lib.hid ev
  have E : Below w.heap.size w (w.alloc (Obj.cells #[.int .i64 (x 0), .int .i64 (x 1), .int .i64 (x 2), .int .i64 (x 3), .int .i64 (x 4), .int .i64 (x 5), .int .i64 (x 6), .int .i64 (x 7), .int .i64 (x 8), .int .i64 (x 9), .int .i64 (x 10), .int .i64 (x 11), .int .i64 (x 12), .int .i64 (x 13), .int .i64 (x 14), .int .i64 (x 15), .int .i64 (x 16), .int .i64 (x 17), .int .i64 (x 18), .int .i64 (x 19), .int .i64 (x 20), .int .i64 (x 21), .int .i64 (x 22), .int .i64 (x 23), .int .i64 (x 24), .int .i64 (x 25), .int .i64 (x 26), .int .i64 (x 27), .int .i64 (x 28), .int .i64 (x 29), .int .i64 (x 30)] 25)) := b_alloc (Below.refl _ _)
  have R1 : (w.alloc (Obj.cells #[.int .i64 (x 0), .int .i64 (x 1), .int .i64 (x 2), .int .i64 (x 3), .int .i64 (x 4), .int .i64 (x 5), .int .i64 (x 6), .int .i64 (x 7), .int .i64 (x 8), .int .i64 (x 9), .int .i64 (x 10), .int .i64 (x 11), .int .i64 (x 12), .int .i64 (x 13), .int .i64 (x 14), .int .i64 (x 15), .int .i64 (x 16), .int .i64 (x 17), .int .i64 (x 18), .int .i64 (x 19), .int .i64 (x 20), .int .i64 (x 21), .int .i64 (x 22), .int .i64 (x 23), .int .i64 (x 24), .int .i64 (x 25), .int .i64 (x 26), .int .i64 (x 27), .int .i64 (x 28), .int .i64 (x 29), .int .i64 (x 30)] 25)).heap[w.heap.size]? = some (.cells #[.int .i64 (x 0), .int .i64 (x 1), .int .i64 (x 2), .int .i64 (x 3), .int .i64 (x 4), .int .i64 (x 5), .int .i64 (x 6), .int .i64 (x 7), .int .i64 (x 8), .int .i64 (x 9), .int .i64 (x 10), .int .i64 (x 11), .int .i64 (x 12), .int .i64 (x 13), .int .i64 (x 14), .int .i64 (x 15), .int .i64 (x 16), .int .i64 (x 17), .int .i64 (x 18), .int .i64 (x 19), .int .i64 (x 20), .int .i64 (x 21), .int .i64 (x 22), .int .i64 (x 23), .int .i64 (x 24), .int .i64 (x 25), .int .i64 (x 26), .int .i64 (x 27), .int .i64 (x 28), .int .i64 (x 29), .int .i64 (x 30)] 25 (0, 0)) := heap_alloc_last w _
  clear htb ev
  go_enter Tryd.func3, Tryd.ntmps3
  go_wp2_with (with_reducible refine stop_at (some 6) rfl ?_)
  refine unstop ?_
  refine wpList_load_row rfl 25 (.tmp 1) rfl w.heap.size rfl 25 _ (0, 0) _ R1 Tryd.underlying25 rfl (by kernel_rfl) ?_
  generalize (w.alloc (Obj.cells #[.int .i64 (x 0), .int .i64 (x 1), .int .i64 (x 2), .int .i64 (x 3), .int .i64 (x 4), .int .i64 (x 5), .int .i64 (x 6), .int .i64 (x 7), .int .i64 (x 8), .int .i64 (x 9), .int .i64 (x 10), .int .i64 (x 11), .int .i64 (x 12), .int .i64 (x 13), .int .i64 (x 14), .int .i64 (x 15), .int .i64 (x 16), .int .i64 (x 17), .int .i64 (x 18), .int .i64 (x 19), .int .i64 (x 20), .int .i64 (x 21), .int .i64 (x 22), .int .i64 (x 23), .int .i64 (x 24), .int .i64 (x 25), .int .i64 (x 26), .int .i64 (x 27), .int .i64 (x 28), .int .i64 (x 29), .int .i64 (x 30)] 25)) = y0 at *
  go_wp2_with fail
  refine (cp _ (ev_keep E HEV.out)).mono ?_
  rintro e y1 ⟨rfl, hb⟩
  replace E := b_trans E hb
  replace R1 := block_keep hb R1
  clear hb
  go_wp2_with fail
  refine (cg _ (ev_keep E HEV.out)).mono ?_
  rintro e y2 ⟨rfl, hb⟩
  replace E := b_trans E hb
  replace R1 := block_keep hb R1
  clear hb
  go_wp2_with (with_reducible refine stop_at none rfl ?_)
  refine unstop ?_
  refine wpList_store_row rfl 25 (.tmp 4) (.tmp 11) rfl y2.heap.size #[.int .i64 (x 0), .int .i64 (x 1), .int .i64 (x 2), .int .i64 (x 3), .int .i64 (x 4), .int .i64 (x 5), .int .i64 (x 6), .int .i64 (x 7), .int .i64 (x 8), .int .i64 (x 9), .int .i64 (x 10), .int .i64 (x 11), .int .i64 (x 12), .int .i64 (x 13), .int .i64 (x 14), .int .i64 (x 15), .int .i64 (x 16), .int .i64 (x 17), .int .i64 (x 18), .int .i64 (x 19), .int .i64 (x 20), .int .i64 (x 21), .int .i64 (x 22), .int .i64 (x 23), .int .i64 (x 24), .int .i64 (x 25), .int .i64 (x 26), .int .i64 (x 27), .int .i64 (x 28), .int .i64 (x 29), .int .i64 (x 30)] rfl rfl 25 _ (heap_alloc_last y2 _) (by kernel_rfl) rfl (by kernel_rfl) ?_
  rw [World.setRow_alloc_new]
  replace E := b_alloc (o := Obj.cells #[.int .i64 (x 0), .int .i64 (x 1), .int .i64 (x 2), .int .i64 (x 3), .int .i64 (x 4), .int .i64 (x 5), .int .i64 (x 6), .int .i64 (x 7), .int .i64 (x 8), .int .i64 (x 9), .int .i64 (x 10), .int .i64 (x 11), .int .i64 (x 12), .int .i64 (x 13), .int .i64 (x 14), .int .i64 (x 15), .int .i64 (x 16), .int .i64 (x 17), .int .i64 (x 18), .int .i64 (x 19), .int .i64 (x 20), .int .i64 (x 21), .int .i64 (x 22), .int .i64 (x 23), .int .i64 (x 24), .int .i64 (x 25), .int .i64 (x 26), .int .i64 (x 27), .int .i64 (x 28), .int .i64 (x 29), .int .i64 (x 30)] 25) E
  replace R1 := block_alloc (q := Obj.cells #[.int .i64 (x 0), .int .i64 (x 1), .int .i64 (x 2), .int .i64 (x 3), .int .i64 (x 4), .int .i64 (x 5), .int .i64 (x 6), .int .i64 (x 7), .int .i64 (x 8), .int .i64 (x 9), .int .i64 (x 10), .int .i64 (x 11), .int .i64 (x 12), .int .i64 (x 13), .int .i64 (x 14), .int .i64 (x 15), .int .i64 (x 16), .int .i64 (x 17), .int .i64 (x 18), .int .i64 (x 19), .int .i64 (x 20), .int .i64 (x 21), .int .i64 (x 22), .int .i64 (x 23), .int .i64 (x 24), .int .i64 (x 25), .int .i64 (x 26), .int .i64 (x 27), .int .i64 (x 28), .int .i64 (x 29), .int .i64 (x 30)] 25) R1
  have R2 := heap_alloc_last y2 (Obj.cells #[.int .i64 (x 0), .int .i64 (x 1), .int .i64 (x 2), .int .i64 (x 3), .int .i64 (x 4), .int .i64 (x 5), .int .i64 (x 6), .int .i64 (x 7), .int .i64 (x 8), .int .i64 (x 9), .int .i64 (x 10), .int .i64 (x 11), .int .i64 (x 12), .int .i64 (x 13), .int .i64 (x 14), .int .i64 (x 15), .int .i64 (x 16), .int .i64 (x 17), .int .i64 (x 18), .int .i64 (x 19), .int .i64 (x 20), .int .i64 (x 21), .int .i64 (x 22), .int .i64 (x 23), .int .i64 (x 24), .int .i64 (x 25), .int .i64 (x 26), .int .i64 (x 27), .int .i64 (x 28), .int .i64 (x 29), .int .i64 (x 30)] 25)
  generalize y2.alloc (Obj.cells #[.int .i64 (x 0), .int .i64 (x 1), .int .i64 (x 2), .int .i64 (x 3), .int .i64 (x 4), .int .i64 (x 5), .int .i64 (x 6), .int .i64 (x 7), .int .i64 (x 8), .int .i64 (x 9), .int .i64 (x 10), .int .i64 (x 11), .int .i64 (x 12), .int .i64 (x 13), .int .i64 (x 14), .int .i64 (x 15), .int .i64 (x 16), .int .i64 (x 17), .int .i64 (x 18), .int .i64 (x 19), .int .i64 (x 20), .int .i64 (x 21), .int .i64 (x 22), .int .i64 (x 23), .int .i64 (x 24), .int .i64 (x 25), .int .i64 (x 26), .int .i64 (x 27), .int .i64 (x 28), .int .i64 (x 29), .int .i64 (x 30)] 25) = y3 at *
  generalize y2.heap.size = n at *
  go_wp2_with fail
  refine (fixed_par _ (ev_keep E HEV.out)).mono ?_
  rintro e y4 ⟨rfl, hb⟩
  replace E := b_trans E hb
  replace R1 := block_keep hb R1
  replace R2 := block_keep hb R2
  clear hb
  go_wp2_with (with_reducible refine stop_at (some 16) rfl ?_)
  refine unstop ?_
  refine wpList_load_rowg rfl 25 (.tmp 1) rfl w.heap.size rfl 25 _ (0, 0) _ R1 Tryd.underlying25 rfl (by kernel_rfl) ?_
  go_wp2_with fail
  refine (cr _).mono ?_
  rintro e y5 ⟨rfl, hb⟩
  replace E := b_trans E hb
  replace R1 := block_keep hb R1
  replace R2 := block_keep hb R2
  clear hb
  go_wp2_with (with_reducible refine stop_at (some 21) rfl ?_)
  refine unstop ?_
  refine wpList_load_rowg rfl 25 (.tmp 4) rfl n rfl 25 _ (0, 0) _ R2 Tryd.underlying25 rfl (by kernel_rfl) ?_
  go_wp2_with (with_reducible refine stop_at (some 22) rfl ?_)
  refine unstop ?_
  refine wpList_load_rowg rfl 25 (.tmp 1) rfl w.heap.size rfl 25 _ (0, 0) _ R1 Tryd.underlying25 rfl (by kernel_rfl) ?_
  go_wp2
  go_ret
  exact ⟨rfl, E⟩

set_option maxHeartbeats 8000000 in
set_option maxRecDepth 20000 in
/-- As which configuration a text is read, or that it is none's, is the document's; what is read has that text. -/
theorem parseGets_any (s : ByteArray) (hm : s.size ≤ 9223372036854775807) (w : World) (ev : EV w) : Calls Tryd.prog 4 #[.string s] w (RetV (.bool true) w) := by
  by_cases hs : s.size ≤ 3000
  · have h3 : ¬ (3000 : Int) < (s.size : Int) := by omega
    rcases reads_or s.data.toList with ⟨x, hx⟩ | hn
    · have cg := fun w ev => get_yes s hs x hx w ev
      have cr := fun w => rget_yes s hs x hx w
      have cp := fun w ev => put_any x hx.1 w ev
      have ceq := conf_eq_self x hx.1
      obtain ⟨tb, htb⟩ : ∃ tb : ByteArray, ⟨(txt x).toArray⟩ = tb := ⟨_, rfl⟩
      rw [htb] at cp
      have q1 : (tb.toList == s.toList) = true := by rw [Lib.toList_data, Lib.toList_data, ← htb, mk_list, hx.2]; simp
      have HTB := Lib.hid htb
      have HX := Lib.hid hx
      have HEV := Lib.hid ev
      clear htb ev hx
      go_enter Tryd.func4, Tryd.ntmps4
      have E := Below.refl w.heap.size w
      go_wp2_with fail
      refine (cg _ (ev_keep E HEV.out)).mono ?_
      rintro e y1 ⟨rfl, hb⟩
      replace E := b_trans E hb
      clear hb
      go_wp2_with (with_reducible refine stop_at none rfl ?_)
      refine unstop ?_
      refine wpList_store_row rfl 25 (.tmp 3) (.tmp 14) rfl y1.heap.size #[.int .i64 (x 0), .int .i64 (x 1), .int .i64 (x 2), .int .i64 (x 3), .int .i64 (x 4), .int .i64 (x 5), .int .i64 (x 6), .int .i64 (x 7), .int .i64 (x 8), .int .i64 (x 9), .int .i64 (x 10), .int .i64 (x 11), .int .i64 (x 12), .int .i64 (x 13), .int .i64 (x 14), .int .i64 (x 15), .int .i64 (x 16), .int .i64 (x 17), .int .i64 (x 18), .int .i64 (x 19), .int .i64 (x 20), .int .i64 (x 21), .int .i64 (x 22), .int .i64 (x 23), .int .i64 (x 24), .int .i64 (x 25), .int .i64 (x 26), .int .i64 (x 27), .int .i64 (x 28), .int .i64 (x 29), .int .i64 (x 30)] rfl rfl 25 _ (heap_alloc_last y1 _) (by kernel_rfl) rfl (by kernel_rfl) ?_
      rw [World.setRow_alloc_new]
      replace E := b_alloc (o := Obj.cells #[.int .i64 (x 0), .int .i64 (x 1), .int .i64 (x 2), .int .i64 (x 3), .int .i64 (x 4), .int .i64 (x 5), .int .i64 (x 6), .int .i64 (x 7), .int .i64 (x 8), .int .i64 (x 9), .int .i64 (x 10), .int .i64 (x 11), .int .i64 (x 12), .int .i64 (x 13), .int .i64 (x 14), .int .i64 (x 15), .int .i64 (x 16), .int .i64 (x 17), .int .i64 (x 18), .int .i64 (x 19), .int .i64 (x 20), .int .i64 (x 21), .int .i64 (x 22), .int .i64 (x 23), .int .i64 (x 24), .int .i64 (x 25), .int .i64 (x 26), .int .i64 (x 27), .int .i64 (x 28), .int .i64 (x 29), .int .i64 (x 30)] 25) E
      have R1 := heap_alloc_last y1 (Obj.cells #[.int .i64 (x 0), .int .i64 (x 1), .int .i64 (x 2), .int .i64 (x 3), .int .i64 (x 4), .int .i64 (x 5), .int .i64 (x 6), .int .i64 (x 7), .int .i64 (x 8), .int .i64 (x 9), .int .i64 (x 10), .int .i64 (x 11), .int .i64 (x 12), .int .i64 (x 13), .int .i64 (x 14), .int .i64 (x 15), .int .i64 (x 16), .int .i64 (x 17), .int .i64 (x 18), .int .i64 (x 19), .int .i64 (x 20), .int .i64 (x 21), .int .i64 (x 22), .int .i64 (x 23), .int .i64 (x 24), .int .i64 (x 25), .int .i64 (x 26), .int .i64 (x 27), .int .i64 (x 28), .int .i64 (x 29), .int .i64 (x 30)] 25)
      generalize y1.alloc (Obj.cells #[.int .i64 (x 0), .int .i64 (x 1), .int .i64 (x 2), .int .i64 (x 3), .int .i64 (x 4), .int .i64 (x 5), .int .i64 (x 6), .int .i64 (x 7), .int .i64 (x 8), .int .i64 (x 9), .int .i64 (x 10), .int .i64 (x 11), .int .i64 (x 12), .int .i64 (x 13), .int .i64 (x 14), .int .i64 (x 15), .int .i64 (x 16), .int .i64 (x 17), .int .i64 (x 18), .int .i64 (x 19), .int .i64 (x 20), .int .i64 (x 21), .int .i64 (x 22), .int .i64 (x 23), .int .i64 (x 24), .int .i64 (x 25), .int .i64 (x 26), .int .i64 (x 27), .int .i64 (x 28), .int .i64 (x 29), .int .i64 (x 30)] 25) = y2 at *
      generalize y1.heap.size = n at *
      go_wp2_with fail
      refine (cr _).mono ?_
      rintro e y3 ⟨rfl, hb⟩
      replace E := b_trans E hb
      replace R1 := block_keep hb R1
      clear hb
      go_wp2_with (with_reducible refine stop_at none rfl ?_)
      refine unstop ?_
      refine wpList_store_row rfl 25 (.tmp 5) (.tmp 19) rfl y3.heap.size #[.int .i64 (x 0), .int .i64 (x 1), .int .i64 (x 2), .int .i64 (x 3), .int .i64 (x 4), .int .i64 (x 5), .int .i64 (x 6), .int .i64 (x 7), .int .i64 (x 8), .int .i64 (x 9), .int .i64 (x 10), .int .i64 (x 11), .int .i64 (x 12), .int .i64 (x 13), .int .i64 (x 14), .int .i64 (x 15), .int .i64 (x 16), .int .i64 (x 17), .int .i64 (x 18), .int .i64 (x 19), .int .i64 (x 20), .int .i64 (x 21), .int .i64 (x 22), .int .i64 (x 23), .int .i64 (x 24), .int .i64 (x 25), .int .i64 (x 26), .int .i64 (x 27), .int .i64 (x 28), .int .i64 (x 29), .int .i64 (x 30)] rfl rfl 25 _ (heap_alloc_last y3 _) (by kernel_rfl) rfl (by kernel_rfl) ?_
      rw [World.setRow_alloc_new]
      replace E := b_alloc (o := Obj.cells #[.int .i64 (x 0), .int .i64 (x 1), .int .i64 (x 2), .int .i64 (x 3), .int .i64 (x 4), .int .i64 (x 5), .int .i64 (x 6), .int .i64 (x 7), .int .i64 (x 8), .int .i64 (x 9), .int .i64 (x 10), .int .i64 (x 11), .int .i64 (x 12), .int .i64 (x 13), .int .i64 (x 14), .int .i64 (x 15), .int .i64 (x 16), .int .i64 (x 17), .int .i64 (x 18), .int .i64 (x 19), .int .i64 (x 20), .int .i64 (x 21), .int .i64 (x 22), .int .i64 (x 23), .int .i64 (x 24), .int .i64 (x 25), .int .i64 (x 26), .int .i64 (x 27), .int .i64 (x 28), .int .i64 (x 29), .int .i64 (x 30)] 25) E
      replace R1 := block_alloc (q := Obj.cells #[.int .i64 (x 0), .int .i64 (x 1), .int .i64 (x 2), .int .i64 (x 3), .int .i64 (x 4), .int .i64 (x 5), .int .i64 (x 6), .int .i64 (x 7), .int .i64 (x 8), .int .i64 (x 9), .int .i64 (x 10), .int .i64 (x 11), .int .i64 (x 12), .int .i64 (x 13), .int .i64 (x 14), .int .i64 (x 15), .int .i64 (x 16), .int .i64 (x 17), .int .i64 (x 18), .int .i64 (x 19), .int .i64 (x 20), .int .i64 (x 21), .int .i64 (x 22), .int .i64 (x 23), .int .i64 (x 24), .int .i64 (x 25), .int .i64 (x 26), .int .i64 (x 27), .int .i64 (x 28), .int .i64 (x 29), .int .i64 (x 30)] 25) R1
      have R2 := heap_alloc_last y3 (Obj.cells #[.int .i64 (x 0), .int .i64 (x 1), .int .i64 (x 2), .int .i64 (x 3), .int .i64 (x 4), .int .i64 (x 5), .int .i64 (x 6), .int .i64 (x 7), .int .i64 (x 8), .int .i64 (x 9), .int .i64 (x 10), .int .i64 (x 11), .int .i64 (x 12), .int .i64 (x 13), .int .i64 (x 14), .int .i64 (x 15), .int .i64 (x 16), .int .i64 (x 17), .int .i64 (x 18), .int .i64 (x 19), .int .i64 (x 20), .int .i64 (x 21), .int .i64 (x 22), .int .i64 (x 23), .int .i64 (x 24), .int .i64 (x 25), .int .i64 (x 26), .int .i64 (x 27), .int .i64 (x 28), .int .i64 (x 29), .int .i64 (x 30)] 25)
      generalize y3.alloc (Obj.cells #[.int .i64 (x 0), .int .i64 (x 1), .int .i64 (x 2), .int .i64 (x 3), .int .i64 (x 4), .int .i64 (x 5), .int .i64 (x 6), .int .i64 (x 7), .int .i64 (x 8), .int .i64 (x 9), .int .i64 (x 10), .int .i64 (x 11), .int .i64 (x 12), .int .i64 (x 13), .int .i64 (x 14), .int .i64 (x 15), .int .i64 (x 16), .int .i64 (x 17), .int .i64 (x 18), .int .i64 (x 19), .int .i64 (x 20), .int .i64 (x 21), .int .i64 (x 22), .int .i64 (x 23), .int .i64 (x 24), .int .i64 (x 25), .int .i64 (x 26), .int .i64 (x 27), .int .i64 (x 28), .int .i64 (x 29), .int .i64 (x 30)] 25) = y4 at *
      generalize y3.heap.size = m at *
      go_wp2_with fail
      refine (fixed_par _ (ev_keep E HEV.out)).mono ?_
      rintro e y5 ⟨rfl, hb⟩
      replace E := b_trans E hb
      replace R1 := block_keep hb R1
      replace R2 := block_keep hb R2
      clear hb
      go_wp2_with (with_reducible refine stop_at (some 23) rfl ?_)
      refine unstop ?_
      refine wpList_load_rowg rfl 25 (.tmp 3) rfl n rfl 25 _ (0, 0) _ R1 Tryd.underlying25 rfl (by kernel_rfl) ?_
      go_wp2_with (with_reducible refine stop_at (some 24) rfl ?_)
      refine unstop ?_
      refine wpList_load_rowg rfl 25 (.tmp 5) rfl m rfl 25 _ (0, 0) _ R2 Tryd.underlying25 rfl (by kernel_rfl) ?_
      go_wp2_with (with_reducible refine stop_at (some 36) rfl ?_)
      refine unstop ?_
      refine wpList_load_rowg rfl 25 (.tmp 3) rfl n rfl 25 _ (0, 0) _ R1 Tryd.underlying25 rfl (by kernel_rfl) ?_
      go_wp2_with fail
      refine (cp _ (ev_keep E HEV.out)).mono ?_
      rintro e y6 ⟨rfl, hb⟩
      replace E := b_trans E hb
      clear hb
      go_wp2
      go_ret
      exact ⟨rfl, E⟩
    · have cg := fun w ev => get_no s hs hn w ev
      have cr := fun w => rget_no s hs hn w
      have ceq := zv_eq_self
      have HX := Lib.hid hn
      have HEV := Lib.hid ev
      clear ev hn
      go_enter Tryd.func4, Tryd.ntmps4
      have E := Below.refl w.heap.size w
      go_wp2_with fail
      refine (cg _ (ev_keep E HEV.out)).mono ?_
      rintro e y1 ⟨rfl, hb⟩
      replace E := b_trans E hb
      clear hb
      go_wp2_with (with_reducible refine stop_at none rfl ?_)
      refine unstop ?_
      refine wpList_store_row rfl 25 (.tmp 3) (.tmp 14) rfl y1.heap.size #[.int .i64 0, .int .i64 0, .int .i64 0, .int .i64 0, .int .i64 0, .int .i64 0, .int .i64 0, .int .i64 0, .int .i64 0, .int .i64 0, .int .i64 0, .int .i64 0, .int .i64 0, .int .i64 0, .int .i64 0, .int .i64 0, .int .i64 0, .int .i64 0, .int .i64 0, .int .i64 0, .int .i64 0, .int .i64 0, .int .i64 0, .int .i64 0, .int .i64 0, .int .i64 0, .int .i64 0, .int .i64 0, .int .i64 0, .int .i64 0, .int .i64 0] rfl rfl 25 _ (heap_alloc_last y1 _) (by kernel_rfl) rfl (by kernel_rfl) ?_
      rw [World.setRow_alloc_new]
      replace E := b_alloc (o := Obj.cells #[.int .i64 0, .int .i64 0, .int .i64 0, .int .i64 0, .int .i64 0, .int .i64 0, .int .i64 0, .int .i64 0, .int .i64 0, .int .i64 0, .int .i64 0, .int .i64 0, .int .i64 0, .int .i64 0, .int .i64 0, .int .i64 0, .int .i64 0, .int .i64 0, .int .i64 0, .int .i64 0, .int .i64 0, .int .i64 0, .int .i64 0, .int .i64 0, .int .i64 0, .int .i64 0, .int .i64 0, .int .i64 0, .int .i64 0, .int .i64 0, .int .i64 0] 25) E
      have R1 := heap_alloc_last y1 (Obj.cells #[.int .i64 0, .int .i64 0, .int .i64 0, .int .i64 0, .int .i64 0, .int .i64 0, .int .i64 0, .int .i64 0, .int .i64 0, .int .i64 0, .int .i64 0, .int .i64 0, .int .i64 0, .int .i64 0, .int .i64 0, .int .i64 0, .int .i64 0, .int .i64 0, .int .i64 0, .int .i64 0, .int .i64 0, .int .i64 0, .int .i64 0, .int .i64 0, .int .i64 0, .int .i64 0, .int .i64 0, .int .i64 0, .int .i64 0, .int .i64 0, .int .i64 0] 25)
      generalize y1.alloc (Obj.cells #[.int .i64 0, .int .i64 0, .int .i64 0, .int .i64 0, .int .i64 0, .int .i64 0, .int .i64 0, .int .i64 0, .int .i64 0, .int .i64 0, .int .i64 0, .int .i64 0, .int .i64 0, .int .i64 0, .int .i64 0, .int .i64 0, .int .i64 0, .int .i64 0, .int .i64 0, .int .i64 0, .int .i64 0, .int .i64 0, .int .i64 0, .int .i64 0, .int .i64 0, .int .i64 0, .int .i64 0, .int .i64 0, .int .i64 0, .int .i64 0, .int .i64 0] 25) = y2 at *
      generalize y1.heap.size = n at *
      go_wp2_with fail
      refine (cr _).mono ?_
      rintro e y3 ⟨rfl, hb⟩
      replace E := b_trans E hb
      replace R1 := block_keep hb R1
      clear hb
      go_wp2_with (with_reducible refine stop_at none rfl ?_)
      refine unstop ?_
      refine wpList_store_row rfl 25 (.tmp 5) (.tmp 19) rfl y3.heap.size #[.int .i64 0, .int .i64 0, .int .i64 0, .int .i64 0, .int .i64 0, .int .i64 0, .int .i64 0, .int .i64 0, .int .i64 0, .int .i64 0, .int .i64 0, .int .i64 0, .int .i64 0, .int .i64 0, .int .i64 0, .int .i64 0, .int .i64 0, .int .i64 0, .int .i64 0, .int .i64 0, .int .i64 0, .int .i64 0, .int .i64 0, .int .i64 0, .int .i64 0, .int .i64 0, .int .i64 0, .int .i64 0, .int .i64 0, .int .i64 0, .int .i64 0] rfl rfl 25 _ (heap_alloc_last y3 _) (by kernel_rfl) rfl (by kernel_rfl) ?_
      rw [World.setRow_alloc_new]
      replace E := b_alloc (o := Obj.cells #[.int .i64 0, .int .i64 0, .int .i64 0, .int .i64 0, .int .i64 0, .int .i64 0, .int .i64 0, .int .i64 0, .int .i64 0, .int .i64 0, .int .i64 0, .int .i64 0, .int .i64 0, .int .i64 0, .int .i64 0, .int .i64 0, .int .i64 0, .int .i64 0, .int .i64 0, .int .i64 0, .int .i64 0, .int .i64 0, .int .i64 0, .int .i64 0, .int .i64 0, .int .i64 0, .int .i64 0, .int .i64 0, .int .i64 0, .int .i64 0, .int .i64 0] 25) E
      replace R1 := block_alloc (q := Obj.cells #[.int .i64 0, .int .i64 0, .int .i64 0, .int .i64 0, .int .i64 0, .int .i64 0, .int .i64 0, .int .i64 0, .int .i64 0, .int .i64 0, .int .i64 0, .int .i64 0, .int .i64 0, .int .i64 0, .int .i64 0, .int .i64 0, .int .i64 0, .int .i64 0, .int .i64 0, .int .i64 0, .int .i64 0, .int .i64 0, .int .i64 0, .int .i64 0, .int .i64 0, .int .i64 0, .int .i64 0, .int .i64 0, .int .i64 0, .int .i64 0, .int .i64 0] 25) R1
      have R2 := heap_alloc_last y3 (Obj.cells #[.int .i64 0, .int .i64 0, .int .i64 0, .int .i64 0, .int .i64 0, .int .i64 0, .int .i64 0, .int .i64 0, .int .i64 0, .int .i64 0, .int .i64 0, .int .i64 0, .int .i64 0, .int .i64 0, .int .i64 0, .int .i64 0, .int .i64 0, .int .i64 0, .int .i64 0, .int .i64 0, .int .i64 0, .int .i64 0, .int .i64 0, .int .i64 0, .int .i64 0, .int .i64 0, .int .i64 0, .int .i64 0, .int .i64 0, .int .i64 0, .int .i64 0] 25)
      generalize y3.alloc (Obj.cells #[.int .i64 0, .int .i64 0, .int .i64 0, .int .i64 0, .int .i64 0, .int .i64 0, .int .i64 0, .int .i64 0, .int .i64 0, .int .i64 0, .int .i64 0, .int .i64 0, .int .i64 0, .int .i64 0, .int .i64 0, .int .i64 0, .int .i64 0, .int .i64 0, .int .i64 0, .int .i64 0, .int .i64 0, .int .i64 0, .int .i64 0, .int .i64 0, .int .i64 0, .int .i64 0, .int .i64 0, .int .i64 0, .int .i64 0, .int .i64 0, .int .i64 0] 25) = y4 at *
      generalize y3.heap.size = m at *
      go_wp2_with fail
      refine (fixed_par _ (ev_keep E HEV.out)).mono ?_
      rintro e y5 ⟨rfl, hb⟩
      replace E := b_trans E hb
      replace R1 := block_keep hb R1
      replace R2 := block_keep hb R2
      clear hb
      go_wp2_with (with_reducible refine stop_at (some 23) rfl ?_)
      refine unstop ?_
      refine wpList_load_rowg rfl 25 (.tmp 3) rfl n rfl 25 _ (0, 0) _ R1 Tryd.underlying25 rfl (by kernel_rfl) ?_
      go_wp2_with (with_reducible refine stop_at (some 24) rfl ?_)
      refine unstop ?_
      refine wpList_load_rowg rfl 25 (.tmp 5) rfl m rfl 25 _ (0, 0) _ R2 Tryd.underlying25 rfl (by kernel_rfl) ?_
      go_wp2
      go_ret
      exact ⟨rfl, E⟩
  · have h3 : (3000 : Int) < (s.size : Int) := by omega
    clear hs
    go_enter Tryd.func4, Tryd.ntmps4
    go_wp2_with fail
    refine (fixed_par _ ev).mono ?_
    rintro e y1 ⟨rfl, hb⟩
    go_wp2
    go_ret
    exact ⟨rfl, hb⟩

end Go.Proofs.YtjaccedpkkcjnaaDoor
