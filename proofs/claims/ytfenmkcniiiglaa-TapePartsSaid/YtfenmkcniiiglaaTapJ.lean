/- Layer 21: the program's Get: the ticks of bytes. -/
import Derived.Test.YtfenmkcniiiglaaTapI
namespace Go.Proofs.Ytfenmkcniiiglaa
open Go.RowKit Go.Shelf Go.Joins Go.Maps

/-- Ticks as values. -/
def cl : List Tk → List Value
  | [] => []
  | t :: l => [.int .i64 t.a, .bool t.h, .int .i64 t.p, .bool t.s] ++ cl l
theorem cl_app (m : List Tk) : ∀ l, cl (l ++ m) = cl l ++ cl m
  | [] => rfl
  | t :: l => by simp [cl, cl_app m l]
theorem cl_len : ∀ l, (cl l).length = l.length * 4
  | [] => rfl
  | t :: l => by
    have := cl_len l
    simp [cl]
    omega
theorem cl_cell : ∀ (l : List Tk) (u : Value), u ∈ cl l → u.oneCell' = true
  | [], _, h => by simp [cl] at h
  | t :: l, u, h => by
    simp only [cl, List.mem_append, List.mem_cons, List.not_mem_nil, or_false] at h
    rcases h with (rfl | rfl | rfl | rfl) | h
    · rfl
    · rfl
    · rfl
    · rfl
    · exact cl_cell l u h
theorem cl_at : ∀ (l : List Tk) (k : Nat) (t : Tk), l[k]? = some t → (cl l)[k * 4]? = some (.int .i64 t.a) ∧ (cl l)[k * 4 + 1]? = some (.bool t.h) ∧ (cl l)[k * 4 + 2]? = some (.int .i64 t.p) ∧ (cl l)[k * 4 + 3]? = some (.bool t.s)
  | [], _, _, h => by simp at h
  | x :: l, 0, t, h => by
    simp at h
    subst h
    exact ⟨rfl, rfl, rfl, rfl⟩
  | x :: l, k + 1, t, h => by
    have := cl_at l k t (by simpa using h)
    have e : ∀ i, (cl (x :: l))[(k + 1) * 4 + i]? = (cl l)[k * 4 + i]? := fun i => by
      rw [cl, List.getElem?_append_right (by simp; omega)]
      congr 1
      simp
      omega
    exact ⟨(e 0).trans this.1, (e 1).trans this.2.1, (e 2).trans this.2.2.1, (e 3).trans this.2.2.2⟩
/-- A row of its own holds these ticks. -/
def OT (w : World) (B : Nat) (v : Value) (l : List Tk) : Prop := w.ownsRow B 48 4 v l.length (cl l)
theorem ot_keep {w w' : World} {B : Nat} {v : Value} {l : List Tk} (hb : Below w.heap.size w w') (h : OT w B v l) : OT w' B v l := by
  refine ⟨h.1, ?_⟩
  rcases h.2 with h | ⟨g, cap, cur, h1, h2, h3, h4⟩
  · exact Or.inl h
  · exact Or.inr ⟨g, cap, cur, h1, h2, row_keep hb h3, h4⟩
theorem ot_nil {w : World} {B : Nat} : OT w B (.slice none 0 0) [] := World.ownsRow_nil _ _ _ _
theorem ot_ts {w : World} {B : Nat} {v : Value} {l : List Tk} (h : OT w B v l) : ∃ sa cap, v = .slice sa l.length cap ∧ l.length ≤ cap ∧ cap ≤ maxLen ∧ TS w sa l := by
  have hn := cl_len l
  rcases h.2 with ⟨rfl, e⟩ | ⟨g, cap, cur, rfl, hB, hg, hc, hm, hs, ht⟩
  · have : l = [] := List.eq_nil_of_length_eq_zero e
    subst this
    exact ⟨none, 0, rfl, Nat.le_refl _, Nat.zero_le _, fun k x h => by simp at h⟩
  · refine ⟨_, cap, rfl, hc, hm, fun k t hk => ⟨g, 0, rfl, ?_⟩⟩
    have hl : k < l.length := (List.getElem?_eq_some_iff.1 hk).1
    have hp : ∀ i u, i < 4 → (cl l)[k * 4 + i]? = some u → w.cell? ⟨g, 0 + k * 4 + i, none⟩ = some u := fun i u hi e => by
      rw [← ht, List.getElem?_take_of_lt (by omega)] at e
      rw [Nat.zero_add, cell_of_row _ _ (k * 4 + i) _ _ _ hg]
      simpa using e
    obtain ⟨e0, e1, e2, e3⟩ := cl_at l k t hk
    exact ⟨hp 0 _ (by decide) e0, hp 1 _ (by decide) e1, hp 2 _ (by decide) e2, hp 3 _ (by decide) e3⟩
theorem ot_grow {w : World} {B : Nat} {v : Value} {l m : List Tk} (h : w.ownsRow B 48 4 v (l.length + m.length) (cl l ++ cl m)) : OT w B v (l ++ m) := by
  unfold OT
  rw [cl_app, List.length_append]
  exact h
theorem cl_new {w : World} {g : Nat} {a : Array Value} {ty : TypeId} {l : List Tk} (hg : w.heap[g]? = some (Obj.cells a ty)) (ha : a.toList = cl l) : ∀ j u, (cl l)[j]? = some u → w.cell? ((⟨g, 0, none⟩ : Addr).add j) = some u := fun j u h => by
  rw [add_off, Nat.zero_add, cell_of_row _ _ j _ _ _ hg, ← Array.getElem?_toList, ha, h]
theorem cl_one {w : World} {g : Nat} {ty : TypeId} {a : Int} {h : Bool} {p : Int} {s : Bool} (hg : w.heap.size = g) : ∀ j u, (cl [⟨a, h, p, s⟩])[j]? = some u → (w.alloc (Obj.cells #[.int .i64 a, .bool h, .int .i64 p, .bool s] ty)).cell? ((⟨g, 0, none⟩ : Addr).add j) = some u := by
  subst hg
  exact cl_new (heap_alloc_last _ _) rfl
theorem info_tick : ∃ i0 z, Try.prog.info? 48 = some i0 ∧ i0.zero = some z ∧ i0.size = 4 ∧ i0.bytes = 32 ∧ z.cells.size = 4 := by
  have h : (Try.prog.info? 48).map (fun i => (i.zero.map (·.cells.size), i.size, i.bytes)) = some (some 4, 4, 32) := by kernel_rfl
  revert h
  cases Try.prog.info? 48 with
  | none => intro h; cases h
  | some i =>
    intro h
    simp at h
    obtain ⟨⟨z, h1, h2⟩, h3, h4⟩ := h
    exact ⟨i, z, rfl, h1, h3, h4, h2⟩

theorem us_head {w : World} {B : Nat} {sa : Option Addr} {f : Int} {r : List Int} (h : US w B sa (f :: r)) : ∃ gb off, sa = some ⟨gb, off, none⟩ ∧ w.cell? ⟨gb, off, none⟩ = some (.int .u8 f) ∧ ∀ k x, r[k]? = some x → w.cell? ⟨gb, off + 1 + k, none⟩ = some (.int .u8 x) := by
  obtain ⟨gb, off, rfl, _, c⟩ := h 0 f rfl
  refine ⟨gb, off, rfl, c, fun k x hk => ?_⟩
  obtain ⟨g2, o2, e, _, c2⟩ := h (k + 1) x (by simpa using hk)
  injection e with e
  injection e with e1 e2
  subst e1 e2
  rw [Nat.add_assoc, Nat.add_comm 1 k]
  exact c2
theorem next_short {f : Int} {r : List Int} (f0 : 0 ≤ f) (f3 : ¬ 3 < f) (hs : r.length < lg f) (gb off cap : Nat) (w : World) (c0 : w.cell? ⟨gb, off, none⟩ = some (.int .u8 f)) :
    Calls Try.prog 21 #[.slice (some ⟨gb, off, none⟩) (r.length + 1) cap] w (RetV (.tuple #[tk 0 false 0 false, .slice none 0 0, .int .i64 5]) w) := by
  rcases (show f = 0 ∨ f = 1 ∨ f = 2 ∨ f = 3 by omega) with rfl | rfl | rfl | rfl
  · exact next_short0 gb off _ cap hs w c0
  · exact next_short1 gb off _ cap hs w c0
  · exact next_short2 gb off _ cap hs w c0
  · exact next_short3 gb off _ cap hs w c0
theorem next_ok {f : Int} {r : List Int} (hr : By r) (f0 : 0 ≤ f) (f3 : ¬ 3 < f) (hs : ¬ r.length < lg f) (gb off cap : Nat) (hn : r.length + 1 ≤ cap) (w v : World) (E : Below w.heap.size w v) (c0 : w.cell? ⟨gb, off, none⟩ = some (.int .u8 f)) (hc : ∀ k x, r[k]? = some x → w.cell? ⟨gb, off + 1 + k, none⟩ = some (.int .u8 x)) :
    ∃ sb cp, (r.drop (lg f)).length ≤ cp ∧ US w 0 sb (r.drop (lg f)) ∧ Calls Try.prog 21 #[.slice (some ⟨gb, off, none⟩) (r.length + 1) cap] v (RetV (.tuple #[tk (tick f r).a (tick f r).h (tick f r).p (tick f r).s, .slice sb (r.drop (lg f)).length cp, .int .i64 0]) v) := by
  have hc' : ∀ k, k < r.length → v.cell? ⟨gb, off + 1 + k, none⟩ = some (.int .u8 (at0 r k)) := fun k hk => cell_keep E (hc k _ (by rw [at0, List.getD_eq_getElem?_getD, List.getElem?_eq_getElem hk]; rfl))
  have hu : ∀ m, m ≤ r.length → US w 0 (if cap = m + 1 then some ⟨gb, off + 1, none⟩ else some ⟨gb, off + 1 + m, none⟩) (r.drop m) := fun m hm k x hk => by
    rw [List.getElem?_drop] at hk
    have hl : m + k < r.length := (List.getElem?_eq_some_iff.1 hk).1
    rw [if_neg (by omega)]
    refine ⟨gb, off + 1 + m, rfl, Nat.zero_le _, ?_⟩
    rw [Nat.add_assoc]
    exact hc (m + k) x hk
  rw [List.length_drop]
  rcases (show f = 0 ∨ f = 1 ∨ f = 2 ∨ f = 3 by omega) with rfl | rfl | rfl | rfl
  · have hl : 8 ≤ r.length := by have : lg 0 = 8 := rfl; omega
    exact ⟨_, cap - 1 - 8, by show r.length - 8 ≤ _; omega, hu 8 hl, next_ok0 (at0 r) (by_at hr) gb off r.length cap hl hn _ rfl v (cell_keep E c0) hc'⟩
  · have hl : 16 ≤ r.length := by have : lg 1 = 16 := rfl; omega
    exact ⟨_, cap - 1 - 16, by show r.length - 16 ≤ _; omega, hu 16 hl, next_ok1 (at0 r) (by_at hr) gb off r.length cap hl hn _ rfl v (cell_keep E c0) hc'⟩
  · have hl : 8 ≤ r.length := by have : lg 2 = 8 := rfl; omega
    exact ⟨_, cap - 1 - 8, by show r.length - 8 ≤ _; omega, hu 8 hl, next_ok2 (at0 r) (by_at hr) gb off r.length cap hl hn _ rfl v (cell_keep E c0) hc'⟩
  · have hl : 16 ≤ r.length := by have : lg 3 = 16 := rfl; omega
    exact ⟨_, cap - 1 - 16, by show r.length - 16 ≤ _; omega, hu 16 hl, next_ok3 (at0 r) (by_at hr) gb off r.length cap hl hn _ rfl v (cell_keep E c0) hc'⟩
/-- How long a slice is. -/
def sl : Value → Nat
  | .slice _ n _ => n
  | _ => 0

set_option maxHeartbeats 4000000 in
set_option maxRecDepth 10000 in
theorem get_any (z : List Int) (hz : By z) (hl : z.length ≤ 100000) (sa : Option Addr) (cap : Nat) (hcap : z.length ≤ cap) (w : World) (hc : US w 0 sa z) :
    Calls Try.prog 10 #[.slice sa z.length cap] w fun e w' => ∃ v, e = .returned (.tuple #[v, .int .i64 (ge z)]) ∧ OT w' w.heap.size v (gx z) ∧ Below w.heap.size w w' := by
  obtain ⟨i0, zv, hi, hz0, hz1, hz2, hz3⟩ := info_tick
  generalize hn : z.length = n at *
  go_enter Try.func10, Try.ntmps10
  go_wp2
  go_loopw [0, 4] (fun bv lv wr => ∃ (y : List Int) (l : List Tk) (sb : Option Addr) (cp : Nat), bv = .slice sb y.length cp ∧ y.length ≤ cp ∧ By y ∧ US w 0 sb y ∧ gt y l = gt z [] ∧ OT wr w.heap.size lv l ∧ l.length + y.length ≤ n ∧ Below w.heap.size w wr) (fun bv _ _ => sl bv)
  case atStart => exact ⟨z, [], sa, cap, by rw [hn], by omega, hz, hc, rfl, ot_nil, by simp; omega, Below.refl _ _⟩
  case round =>
    obtain ⟨y, l, sb, cp, rfl, hcp, hy, hu, hg, ho, hln, E⟩ := hrel
    cases y with
    | nil =>
      rw [gt_nil] at hg
      have HX : Hid (gx z = l ∧ ge z = 0) := Lib.hid ⟨by rw [gx, ← hg], by rw [ge, ← hg]⟩
      clear hg hu hy hz hc hn hln
      go_wp2
      exact bodyPost_ret (v := .tuple #[u4, .int .i64 0]) (by simp [results, Try.results10, go_sem]) rfl ⟨_, by rw [HX.out.2], by rw [HX.out.1]; exact ho, E⟩
    | cons f r =>
      obtain ⟨gb, off, rfl, c0, hcr⟩ := us_head hu
      have f0 := (hy f (by simp)).1
      have hr : By r := fun x hx => hy x (by simp [hx])
      have hp : (0 : Int) < ((r.length + 1 : Nat) : Int) := by omega
      rw [List.length_cons] at hcp hln ⊢
      by_cases h3 : 3 < f
      · rw [gt_form h3] at hg
        have HX : Hid (gx z = [] ∧ ge z = 6) := Lib.hid ⟨by rw [gx, ← hg], by rw [ge, ← hg]⟩
        have cn := next_form f h3 gb off r.length cp wr (cell_keep E c0)
        clear hg hu hy hz hc hn hln hcr c0 ho h3
        go_wp2_with fail
        refine cn.mono ?_
        rintro e y1 ⟨rfl, hb⟩
        replace E := b_trans E hb
        clear hb cn
        go_wp2
        exact bodyPost_ret (v := .tuple #[.slice none 0 0, .int .i64 6]) (by simp [results, Try.results10, go_sem]) rfl ⟨_, by rw [HX.out.2], by rw [HX.out.1]; exact ot_nil, b_alloc E⟩
      · by_cases hs : r.length < lg f
        · rw [gt_short h3 hs] at hg
          have HX : Hid (gx z = [] ∧ ge z = 5) := Lib.hid ⟨by rw [gx, ← hg], by rw [ge, ← hg]⟩
          have cn := next_short f0 h3 hs gb off cp wr (cell_keep E c0)
          clear hg hu hy hz hc hn hln hcr c0 ho h3
          go_wp2_with fail
          refine cn.mono ?_
          rintro e y1 ⟨rfl, hb⟩
          replace E := b_trans E hb
          clear hb cn
          go_wp2
          exact bodyPost_ret (v := .tuple #[.slice none 0 0, .int .i64 5]) (by simp [results, Try.results10, go_sem]) rfl ⟨_, by rw [HX.out.2], by rw [HX.out.1]; exact ot_nil, b_alloc E⟩
        · rw [gt_one h3 hs] at hg
          obtain ⟨sb, c2, h2, hu2, cn⟩ := next_ok hr f0 h3 hs gb off cp hcp w wr E c0 hcr
          have HG := Lib.hid hg
          have hlg : 8 ≤ lg f := by unfold lg; split <;> decide
          have hdr : Hid ((r.drop (lg f)).length + 8 ≤ r.length) := Lib.hid (by rw [List.length_drop]; omega)
          have HY : Hid (By (r.drop (lg f))) := Lib.hid (fun x hx => hr x (List.mem_of_mem_drop hx))
          have HU := Lib.hid hu2
          have HO := Lib.hid ho
          clear hg hu hy hz hc hn hcr c0 ho h3 hs hu2 hr f0 hlg
          generalize tick f r = t at *
          generalize r.drop (lg f) = r2 at *
          obtain ⟨a, h, p, s⟩ := t
          simp only at cn
          go_wp2_with fail
          refine cn.mono ?_
          rintro e y1 ⟨rfl, hb⟩
          have HZ := Lib.hid hb
          have hs1 := hb.size
          have HE := Lib.hid E
          have hs2 := E.size
          clear hb cn E
          go_wp2_with (at_builtin; refine wpList_append_own_at _ rfl _ _ 22 rfl w.heap.size 48 i0 zv 4 32 Try.underlying22 hi hz0 hz1 hz2 hz3 (by decide) _ _ _ rfl (ot_keep (b_alloc (b_alloc HZ.out)) HO.out) ⟨y1.heap.size + 1, 0, none⟩ 1 1 (cl [⟨a, h, p, s⟩]) rfl rfl (cl_one (by simp)) (cl_cell _) (by unfold maxLen; omega) (by omega) (by simp; omega) ?_; intro v1 w3 hown1 hgrow3 _ hat3; have HN := Lib.hid (ot_grow hown1); have HG3 := Lib.hid (gr_trans (gr_below HZ.out) (gr_app (b_alloc (b_alloc (Below.refl _ _))) hgrow3 hat3)); clear hown1 hgrow3 hat3)
          have hd := hdr.out
          refine ⟨⟨r2, l ++ [⟨a, h, p, s⟩], sb, c2, rfl, h2, HY.out, HU.out, HG.out, HN.out, by simp; omega, below_gr HE.out HG3.out (own_from HO.out)⟩, ?_⟩
          show r2.length < r.length + 1
          omega
end Go.Proofs.Ytfenmkcniiiglaa
