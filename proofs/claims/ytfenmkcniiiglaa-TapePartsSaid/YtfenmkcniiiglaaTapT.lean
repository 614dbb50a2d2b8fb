/- Layer 21: append of a slice, nil or not, guarded or not; a byte of a row that is changed. -/
import Derived.Test.YtfenmkcniiiglaaTapN
namespace Go.Proofs.Ytfenmkcniiiglaa
open Go.RowKit Go.Shelf Go.Joins Go.Maps

theorem wpList_append_any {P : Program} {w : World} {ops : Array Oper} {rest : List Oper} {o : Oper} {a : Act} {Q : Exit → Act → World → Prop} (hw : Region.wanted o (yielded ops a.tmps) = true) (s x : Operand) (t : TypeId)
    (ho : o.op = .call { callee := .builtin .append, args := #[s, x], argTypes := #[t, t] })
    (base : Nat) (e : TypeId) (i : TypeInfo) (z : Value) (size bytes : Nat) (ht : P.underlying t = some (.slice e)) (hi : P.info? e = some i) (hz : i.zero = some z)
    (hsize : i.size = size) (hby : i.bytes = bytes) (hzs : z.cells.size = size) (hsz : 0 < size)
    (v : Value) (n : Nat) (xs : List Value) (hs : a.eval s = v) (hown : w.ownsRow base e size v n xs)
    (sa : Option Addr) (m c : Nat) (news : List Value) (hx : a.eval x = .slice sa m c) (hl : news.length = m * size) (hnews : ∀ j u, news[j]? = some u → ∃ ad, sa = some ad ∧ w.cell? (ad.add j) = some u) (h1 : ∀ u ∈ news, u.oneCell' = true)
    (h63 : n + m ≤ maxLen) (hbytes : (n + m) * bytes ≤ 140737488355328) (hbase : base ≤ w.heap.size)
    (h : ∀ v' w', w'.ownsRow base e size v' (n + m) (xs ++ news) → w.grownBy w' v.ownBlock → (v'.ownBlock = v.ownBlock ∨ v'.ownBlock = some w.heap.size) → wpList P ops Q rest (a.put o.dst v') w') :
    wpList P ops Q (o :: rest) a w := by
  refine wpList_step fun K hK => ?_
  rw [if_pos hw]
  have hrun : ∃ v' w', (Builtin.append_ #[t, t] o.type #[v, .slice sa m c]).run P w = .ok v' w' ∧ w'.ownsRow base e size v' (n + m) (xs ++ news) ∧ w.grownBy w' v.ownBlock ∧ (v'.ownBlock = v.ownBlock ∨ v'.ownBlock = some w.heap.size) := by
    cases sa with
    | none =>
      have hn : news = [] := by
        cases news with
        | nil => rfl
        | cons u r =>
          obtain ⟨ad, h, _⟩ := hnews 0 u rfl
          cases h
      subst hn
      have hm : m = 0 := by
        rcases Nat.eq_zero_or_pos m with h0 | h0
        · exact h0
        · have := Nat.mul_pos h0 hsz
          simp at hl
          omega
      subst hm
      exact ⟨v, w, run_append_empty w base t o.type e i size ht hi v n xs hown c, by simpa using hown, ⟨rfl, rfl, rfl, Nat.le_refl _, fun _ _ _ => rfl⟩, Or.inl rfl⟩
    | some ad =>
      obtain ⟨v', w', hr, h2, h3, _, h5⟩ := run_append_own_at w base t o.type e i z size bytes ht hi hz hsize hby hzs hsz v n xs hown ad m c news hl (fun j u hj => by
        obtain ⟨a2, e2, c2⟩ := hnews j u hj
        injection e2 with e2
        subst e2
        exact c2) h1 h63 hbytes hbase
      exact ⟨v', w', hr, h2, h3, h5⟩
  obtain ⟨v', w', hr, h2, h3, h5⟩ := hrun
  unfold Oper.wp execOp
  simp only [ho, resolve, invoke, builtin, Sem.run_bind, Sem.run_pure, Result.andThen_ok, List.map_toArray, List.map_cons, List.map_nil, hs, hx, hr]
  exact hK _ _ (h v' w' h2 h3 h5)
theorem us_news {w : World} {B : Nat} {sa : Option Addr} {l : List Int} (h : US w B sa l) : ∀ j u, (us l)[j]? = some u → ∃ ad, sa = some ad ∧ w.cell? (ad.add j) = some u := fun j u hj => by
  simp only [us, List.getElem?_map, Option.map_eq_some_iff] at hj
  obtain ⟨x, hx, rfl⟩ := hj
  obtain ⟨gb, off, rfl, _, c⟩ := h j x hx
  exact ⟨_, rfl, by rw [add_off]; exact c⟩
theorem ts_news {w : World} {sa : Option Addr} {l : List Tk} (h : TS w sa l) : ∀ j u, (cl l)[j]? = some u → ∃ ad, sa = some ad ∧ w.cell? (ad.add j) = some u := fun j u hj => by
  have hl : j < l.length * 4 := by
    have := (List.getElem?_eq_some_iff.1 hj).1
    rwa [cl_len] at this
  obtain ⟨k, r, hk, rfl⟩ : ∃ k r, r < 4 ∧ j = k * 4 + r := ⟨j / 4, j % 4, Nat.mod_lt _ (by decide), by omega⟩
  have hkl : k < l.length := by omega
  obtain ⟨gb, off, rfl, tw⟩ := h k l[k] (List.getElem?_eq_getElem hkl)
  obtain ⟨e0, e1, e2, e3⟩ := cl_at l k l[k] (List.getElem?_eq_getElem hkl)
  refine ⟨_, rfl, ?_⟩
  rw [add_off, ← Nat.add_assoc]
  rcases (show r = 0 ∨ r = 1 ∨ r = 2 ∨ r = 3 by omega) with rfl | rfl | rfl | rfl
  · rw [Nat.add_zero, e0] at hj
    injection hj with hj
    rw [← hj]
    exact tw.1
  · rw [e1] at hj
    injection hj with hj
    rw [← hj]
    exact tw.2.1
  · rw [e2] at hj
    injection hj with hj
    rw [← hj]
    exact tw.2.2.1
  · rw [e3] at hj
    injection hj with hj
    rw [← hj]
    exact tw.2.2.2
theorem ob_empty {w : World} {B g : Nat} (hg : w.heap.size = g) (hB : B ≤ g) : OB (w.alloc (Obj.cells #[] 5)) B (.slice (some ⟨g, 0, none⟩) 0 0) [] := by
  subst hg
  exact ⟨rfl, Or.inr ⟨w.heap.size, 0, #[], rfl, hB, heap_alloc_last w _, Nat.le_refl _, Nat.zero_le _, rfl, rfl⟩⟩
/-- A byte of a row of its own: it may be changed. -/
theorem ob_cell {w : World} {B : Nat} {v : Value} {l : List Int} (h : OB w B v l) {j : Nat} {c : Int} (hj : l[j]? = some c) :
    ∃ g cap, v = .slice (some ⟨g, 0, none⟩) l.length cap ∧ B ≤ g ∧ l.length ≤ cap ∧ w.cell? ⟨g, j, none⟩ = some (.int .u8 c) ∧ w.frozen? ⟨g, j, none⟩ = false ∧ ∀ d, US (w.setCell ⟨g, j, none⟩ (.int .u8 d)) 0 (some ⟨g, 0, none⟩) (l.set j d) := by
  have hl : j < l.length := (List.getElem?_eq_some_iff.1 hj).1
  rcases h.2 with ⟨_, e⟩ | ⟨g, cap, cur, rfl, hB, hg, hc, _, hs, ht⟩
  · omega
  · have hcur : ∀ (k : Nat) (x : Int), l[k]? = some x → cur[k]? = some (Value.int .u8 x) := fun k x hk => by
      have hk' : (us l)[k]? = some (Value.int .u8 x) := by simp [us, hk]
      have hkl : k < l.length := (List.getElem?_eq_some_iff.1 hk).1
      rw [← ht, List.getElem?_take_of_lt (by omega)] at hk'
      simpa using hk'
    refine ⟨g, cap, rfl, hB, hc, by rw [cell_of_row _ _ j _ _ _ hg]; exact hcur j c hj, frozen_of_row w g j _ _ hg, fun d k x hk => ⟨g, 0, rfl, Nat.zero_le _, ?_⟩⟩
    have hr := heap_setCell_same w g j _ _ (.int .u8 d) hg
    rw [Nat.zero_add, cell_of_row _ _ k _ _ _ hr]
    by_cases e : k = j
    · subst e
      rw [List.getElem?_set_self hl] at hk
      injection hk with hk
      subst hk
      have hs' : k < cur.size := by omega
      simp [hs']
    · rw [List.getElem?_set_ne (fun h => e h.symm)] at hk
      have := hcur k x hk
      simp [Ne.symm e, this]
theorem xor_other {c k : Nat} (hk : 0 < k) : c ^^^ k ≠ c := fun h => by
  have := congrArg (c ^^^ ·) h
  simp only [← Nat.xor_assoc, Nat.xor_self, Nat.zero_xor] at this
  omega
theorem set_split {l : List Int} {j : Nat} {c : Int} (h : l[j]? = some c) (d : Int) : l = l.take j ++ c :: l.drop (j + 1) ∧ l.set j d = l.take j ++ d :: l.drop (j + 1) := by
  have hl : j < l.length := (List.getElem?_eq_some_iff.1 h).1
  have hc : l[j] = c := by
    rw [List.getElem?_eq_getElem hl] at h
    injection h
  refine ⟨?_, List.set_eq_take_append_cons_drop.trans (if_pos hl)⟩
  conv => lhs; rw [← List.take_append_drop j l, List.drop_eq_getElem_cons hl, hc]
/-- A byte that is another one changes the sum. -/
theorem sum_other {l : List Int} (hl : By l) {j : Nat} {c d : Int} (h : l[j]? = some c) (hd : 0 ≤ d ∧ d ≤ 255) (hn : c ≠ d) : sb s0 l ≠ sb s0 (l.set j d) := by
  obtain ⟨e1, e2⟩ := set_split h d
  rw [e2]
  conv => lhs; rw [e1]
  have hc := hl c (List.mem_of_getElem? h)
  exact sb_other (fun x hx => hl x (List.mem_of_mem_take hx)) (fun x hx => hl x (List.mem_of_mem_drop hx)) (by decide) hc hd hn
end Go.Proofs.Ytfenmkcniiiglaa
