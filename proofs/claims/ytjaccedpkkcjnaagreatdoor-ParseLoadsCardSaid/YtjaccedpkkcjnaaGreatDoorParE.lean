/- Layer 14: the document's digits, Signed, Number, one, three: a number's text. -/
import Derived.Test.YtjaccedpkkcjnaaGreatDoorParA
import Derived.Test.YtjaccedpkkcjnaaGreatDoorWideA
import Derived.Test.YtjaccedpkkcjnaaGreatDoorLate
import Derived.Lib.Slices
import Derived.Deep.QuietTactic
import Derived.BigQuiet
import Derived.Laws.Concat
namespace Go.Proofs.YtjaccedpkkcjnaaGreatDoor
open Go.RowKit Go.Shelf Go.Lib

/-- A string's bytes, at most n of them. -/
def IsB (a : ByteArray) (l : List UInt8) (n : Nat) : Prop := a.data.toList = l ∧ l.length ≤ n
theorem isb_size {a : ByteArray} {l : List UInt8} {n : Nat} (h : IsB a l n) : a.size ≤ n := by rw [Lib.size_eq, h.1]; exact h.2
theorem isb_mono {a : ByteArray} {l : List UInt8} {n m : Nat} (h : IsB a l n) (k : n ≤ m) : IsB a l m := ⟨h.1, Nat.le_trans h.2 k⟩
theorem isb_lit (l : List UInt8) : IsB ⟨l.toArray⟩ l l.length := ⟨by simp, Nat.le_refl _⟩
theorem isb_eq {a : ByteArray} {l : List UInt8} {n : Nat} (h : IsB a l n) : a = ⟨l.toArray⟩ := by
  rw [← Lib.mk_data a, h.1]
theorem isb_add {a b : ByteArray} {l m : List UInt8} {n k : Nat} (h : IsB a l n) (g : IsB b m k) : IsB (a ++ b) (l ++ m) (n + k) :=
  ⟨by rw [ByteArray.data_append, Array.toList_append, h.1, g.1], by rw [List.length_append]; have := h.2; have := g.2; omega⟩
/-- One string behind another one. -/
theorem cat_ok {a b : ByteArray} {l m : List UInt8} {n k : Nat} (h : IsB a l n) (g : IsB b m k) (hs : n + k ≤ 1000000) :
    ∃ c, IsB c (l ++ m) (n + k) ∧ a ++ b = c ∧ ∀ w, (Op.stringOp .add a b).run Tryz.prog w = .ok (.string c) w :=
  ⟨a ++ b, isb_add h g, rfl, fun w => run_string_add_sum w a b (by have := isb_size h; have := isb_size g; omega)⟩

theorem below_drewn (w : World) (n : Nat) : Below w.heap.size w (w.drewN n) := ⟨rfl, rfl, rfl, Nat.le_refl _, fun _ _ => rfl⟩
theorem dig_slice (u : Nat) (h : u < 10) : (⟨#[48, 49, 50, 51, 52, 53, 54, 55, 56, 57]⟩ : ByteArray).extract u (u + 1) = ⟨#[UInt8.ofNat (48 + u)]⟩ := by
  match u, h with
  | 0, _ | 1, _ | 2, _ | 3, _ | 4, _ | 5, _ | 6, _ | 7, _ | 8, _ | 9, _ => rfl

set_option maxHeartbeats 2000000 in
set_option maxRecDepth 10000 in
theorem digits_any (u : Nat) (hu : u < 18446744073709551616) (w : World) : Calls Tryz.prog 57 #[.int .u64 u] w fun e w' => e = .returned (.string ⟨(decDigits u).toArray⟩) ∧ w' = w := by
  induction u using Nat.strongRecOn generalizing w with
  | _ u ih =>
    by_cases h : u < 10
    · have hs := dig_slice u h
      rw [show decDigits u = [UInt8.ofNat (48 + u)] from by rw [decDigits, dif_pos h]]
      generalize UInt8.ofNat (48 + u) = z at *
      clear ih
      go_enter Tryz.func57, Tryz.ntmps57
      go_wp2
      go_ret
      exact ⟨rfl, rfl⟩
    · have l1 := Nat.le_trans (Nat.le_of_eq (decDigits_length (u / 10))) (Nat.le_trans (nDigits_le20 (u / 10) (by omega)) (by decide : 20 ≤ 20))
      have e := show decDigits u = decDigits (u / 10) ++ [UInt8.ofNat (48 + u % 10)] from by rw [decDigits, dif_neg h]
      obtain ⟨v, hv⟩ : ∃ v, u / 10 = v := ⟨_, rfl⟩
      obtain ⟨y, hy⟩ : ∃ y, u % 10 = y := ⟨_, rfl⟩
      rw [hv] at l1
      rw [hv, hy] at e
      have h1 := ih v (by omega) (by omega)
      have h2 := ih y (by omega) (by omega)
      rw [show decDigits y = [UInt8.ofNat (48 + y)] from by rw [decDigits, dif_pos (by omega)]] at h2
      rw [e]
      obtain ⟨c, hc, hce, hcr⟩ := cat_ok (⟨by simp, l1⟩ : IsB ⟨(decDigits v).toArray⟩ (decDigits v) 20) (isb_lit [UInt8.ofNat (48 + y)]) (by simp)
      rw [← isb_eq hc]
      generalize (⟨(decDigits v).toArray⟩ : ByteArray) = a at *
      generalize (⟨[UInt8.ofNat (48 + y)].toArray⟩ : ByteArray) = b at *
      have q1 : ((u : Int) / 10) = (v : Int) := by omega
      have q2 : ((u : Int) % 10) = (y : Int) := by omega
      have HC := Lib.hid hc
      have HE := Lib.hid e
      have hn : ¬ ((u : Int) < 10) := by omega
      clear ih e hc l1 hv hy
      go_enter Tryz.func57, Tryz.ntmps57
      go_wp2_with fail
      refine (h1 _).mono ?_
      rintro e w' ⟨rfl, hw⟩
      rw [hw]
      go_wp2_with fail
      refine (h2 _).mono ?_
      rintro e w' ⟨rfl, hw⟩
      rw [hw]
      go_wp2
      go_ret
      exact ⟨rfl, rfl⟩

theorem itoa_len (v : Int) (h : R64 v) : (itoa v).length ≤ 21 := itoa_length_le v h.1 h.2
set_option maxHeartbeats 2000000 in
set_option maxRecDepth 10000 in
theorem signed_any (v : Int) (hv : R64 v) (w : World) : Calls Tryz.prog 29 #[.int .i64 v] w fun e w' => e = .returned (.string ⟨(itoa v).toArray⟩) ∧ w' = w := by
  obtain ⟨b1, b2⟩ := hv
  by_cases h : v < 0
  · obtain ⟨u, hu⟩ : ∃ u : Nat, (u : Int) = -v := ⟨(-v).toNat, by omega⟩
    have e : itoa v = 45 :: decDigits u := by
      unfold itoa
      rw [if_pos h, show v.natAbs = u by omega]
    have l1 := Nat.le_trans (Nat.le_of_eq (decDigits_length u)) (Nat.le_trans (nDigits_le20 u (by omega)) (by decide : 20 ≤ 20))
    have cd := digits_any u (by omega)
    obtain ⟨c, hc, hce, hcr⟩ := cat_ok (isb_lit [45]) (⟨by simp, l1⟩ : IsB ⟨(decDigits u).toArray⟩ (decDigits u) 20) (by simp)
    rw [e, show (45 :: decDigits u) = [45] ++ decDigits u from rfl, ← isb_eq hc]
    generalize (⟨(decDigits u).toArray⟩ : ByteArray) = b at *
    have w1 : IntKind.i64.wrap (v + 1) = v + 1 := by rw [IntKind.wrap_i64]; omega
    have w2 : IntKind.i64.wrap (-(v + 1)) = (u : Int) - 1 := by rw [IntKind.wrap_i64]; omega
    have w3 : IntKind.u64.wrap ((u : Int) - 1) = (u : Int) - 1 := by rw [IntKind.wrap_u64]; omega
    have w4 : IntKind.u64.wrap ((u : Int) - 1 + 1) = (u : Int) := by rw [IntKind.wrap_u64]; omega
    have w5 : (u : Int) - 1 + 1 = (u : Int) := by omega
    have w6 : IntKind.u64.wrap (u : Int) = (u : Int) := by rw [IntKind.wrap_u64]; omega
    have HC := Lib.hid hc
    have HE := Lib.hid e
    have HU := Lib.hid hu
    clear e hc l1 hu
    go_enter Tryz.func29, Tryz.ntmps29
    go_wp2_with fail
    refine (cd _).mono ?_
    rintro e w' ⟨rfl, hw⟩
    rw [hw]
    go_wp2
    go_ret
    exact ⟨rfl, rfl⟩
  · obtain ⟨u, rfl⟩ : ∃ u : Nat, v = (u : Int) := ⟨v.toNat, by omega⟩
    have cd := digits_any u (by omega)
    have e : itoa (u : Int) = decDigits u := by
      unfold itoa
      rw [if_neg h]
      rfl
    have w6 : IntKind.u64.wrap (u : Int) = (u : Int) := by rw [IntKind.wrap_u64]; omega
    rw [e]
    generalize (⟨(decDigits u).toArray⟩ : ByteArray) = b at *
    clear e
    go_enter Tryz.func29, Tryz.ntmps29
    go_wp2_with fail
    refine (cd _).mono ?_
    rintro e w' ⟨rfl, hw⟩
    rw [hw]
    go_wp2
    go_ret
    exact ⟨rfl, rfl⟩

set_option maxHeartbeats 2000000 in
set_option maxRecDepth 10000 in
theorem rone_any (v : Int) (hv : R64 v) (w : World) : Calls Tryz.prog 31 #[.int .i64 v] w fun e w' => e = .returned (.string ⟨(32 :: (itoa v ++ [10])).toArray⟩) ∧ w' = w := by
  have cs := signed_any v hv
  obtain ⟨a, ha, hae, har⟩ := cat_ok (isb_lit [32]) (⟨by simp, itoa_len v hv⟩ : IsB ⟨(itoa v).toArray⟩ (itoa v) 21) (by simp)
  obtain ⟨b, hb, hbe, hbr⟩ := cat_ok ha (isb_lit [10]) (by simp)
  rw [show (32 :: (itoa v ++ [10])) = [32] ++ itoa v ++ [10] from by simp, ← isb_eq hb]
  generalize (⟨(itoa v).toArray⟩ : ByteArray) = s at *
  clear ha hb hv
  go_enter Tryz.func31, Tryz.ntmps31
  go_wp2_with fail
  refine (cs _).mono ?_
  rintro e w' ⟨rfl, hw⟩
  rw [hw]
  go_wp2
  go_ret
  exact ⟨rfl, rfl⟩

set_option maxHeartbeats 2000000 in
set_option maxRecDepth 10000 in
theorem rthree_any (x y z : Int) (hx : R64 x) (hy : R64 y) (hz : R64 z) (w : World) : Calls Tryz.prog 30 #[.agg #[.int .i64 x, .int .i64 y, .int .i64 z]] w (RetV (.string ⟨(32 :: (itoa x ++ 32 :: (itoa y ++ 32 :: (itoa z ++ [10])))).toArray⟩) w) := by
  have cx := signed_any x hx
  have cy := signed_any y hy
  have cz := signed_any z hz
  obtain ⟨a, ha, hae, har⟩ := cat_ok (isb_lit [32]) (⟨by simp, itoa_len x hx⟩ : IsB ⟨(itoa x).toArray⟩ (itoa x) 21) (by simp)
  obtain ⟨b, hb, hbe, hbr⟩ := cat_ok ha (isb_lit [32]) (by simp)
  obtain ⟨c, hc, hce, hcr⟩ := cat_ok hb (⟨by simp, itoa_len y hy⟩ : IsB ⟨(itoa y).toArray⟩ (itoa y) 21) (by simp)
  obtain ⟨d, hd, hde, hdr⟩ := cat_ok hc (isb_lit [32]) (by simp)
  obtain ⟨f, hf, hfe, hfr⟩ := cat_ok hd (⟨by simp, itoa_len z hz⟩ : IsB ⟨(itoa z).toArray⟩ (itoa z) 21) (by simp)
  obtain ⟨g, hg, hge, hgr⟩ := cat_ok hf (isb_lit [10]) (by simp)
  rw [show (32 :: (itoa x ++ 32 :: (itoa y ++ 32 :: (itoa z ++ [10])))) = [32] ++ itoa x ++ [32] ++ itoa y ++ [32] ++ itoa z ++ [10] from by simp, ← isb_eq hg]
  generalize (⟨(itoa x).toArray⟩ : ByteArray) = s at *
  generalize (⟨(itoa y).toArray⟩ : ByteArray) = t at *
  generalize (⟨(itoa z).toArray⟩ : ByteArray) = u at *
  clear ha hb hc hd hf hg hx hy hz hae hbe hce hde hfe hge
  go_enter Tryz.func30, Tryz.ntmps30
  go_wp2
  go_quiet (first | ((with_reducible refine Calls.quiet_of_same (cx _))) | ((with_reducible refine Calls.quiet_of_same (cy _))) | ((with_reducible refine Calls.quiet_of_same (cz _))))
  go_wp2
  go_ret
  exact ⟨rfl, b_trans (b_alloc (Below.refl _ _)) (below_drewn _ _)⟩

/- Number. -/

theorem dec_len19 (u : Nat) (h : u < 10000000000000000000) : (decDigits u).length ≤ 19 := by
  have key : ∀ k u, 1 ≤ k → u < 10 ^ k → (decDigits u).length ≤ k := by
    intro k
    induction k with
    | zero => intro u h; omega
    | succ k ih =>
      intro u _ h
      rw [decDigits]
      split
      · simp
      · rename_i h10
        have hk : 1 ≤ k := by
          rcases Nat.eq_zero_or_pos k with h0 | h0
          · subst h0; simp at h; omega
          · exact h0
        have h2 : u / 10 < 10 ^ k := by rw [Nat.pow_succ] at h; omega
        have := ih (u / 10) hk h2
        simp
        omega
  exact key 19 u (by decide) (by simpa using h)
theorem itoa_neg {v : Int} {d : List UInt8} (h : itoa v = 45 :: d) : v < 0 ∧ d = decDigits v.natAbs := by
  unfold itoa at h
  split at h
  · rename_i c
    injection h with _ h
    exact ⟨c, h.symm⟩
  · exfalso
    have := dgt_dec v.toNat 45 (by have h' : decDigits v.toNat = 45 :: d := h; rw [h']; simp)
    revert this
    decide
theorem itoa_pos {v : Int} {l : List UInt8} (hn : ∀ d, l ≠ 45 :: d) (h : itoa v = l) : 0 ≤ v ∧ l = decDigits v.natAbs := by
  unfold itoa at h
  split at h
  · exact absurd h.symm (hn _)
  · rename_i c
    exact ⟨by omega, by rw [← h]; congr 1; omega⟩

/-- What Number answers: a number whose text this is, or that there is none. -/
def NumP (l : List UInt8) (w : World) (e : Ending) (w' : World) : Prop := ∃ (X : Int) (b : Bool), e = .returned (.tuple #[.int .i64 X, .bool b]) ∧ w' = w ∧ (b = true → R64 X ∧ itoa X = l) ∧ (b = false → ∀ v, R64 v → itoa v ≠ l)
/-- The digits of a number behind its sign. -/
def Rest (g : Bool) (l d : List UInt8) : Prop := (g = true ∧ l = 45 :: d) ∨ (g = false ∧ l = d ∧ ∀ r, l ≠ 45 :: r)
theorem rest_dec {g : Bool} {l d : List UInt8} {v : Int} (h : Rest g l d) (e : itoa v = l) : d = decDigits v.natAbs ∧ (g = true ↔ v < 0) := by
  rcases h with ⟨rfl, rfl⟩ | ⟨rfl, rfl, hn⟩
  · obtain ⟨a, b⟩ := itoa_neg e
    exact ⟨b, by simp [a]⟩
  · obtain ⟨a, b⟩ := itoa_pos hn e
    exact ⟨b, by simp; omega⟩
theorem rest_none {g : Bool} {l d : List UInt8} (h : Rest g l d) (hb : d = [] ∨ 19 < d.length ∨ ∃ b ∈ d, ¬ Dgt b) : ∀ v, R64 v → itoa v ≠ l := by
  intro v hv e
  obtain ⟨rfl, _⟩ := rest_dec h e
  rcases hb with hb | hb | ⟨b, hb, hd⟩
  · exact dec_ne _ hb
  · have := dec_len19 v.natAbs (by have := hv.1; have := hv.2; omega)
    omega
  · exact hd (dgt_dec _ b hb)
theorem num_none {g : Bool} {l d : List UInt8} {w : World} (h : Rest g l d) (hb : d = [] ∨ 19 < d.length ∨ ∃ b ∈ d, ¬ Dgt b) : NumP l w (.returned (.tuple #[.int .i64 0, .bool false])) w :=
  ⟨0, false, rfl, rfl, (fun h => by cases h), fun _ => rest_none h hb⟩
/-- The number that digits behind a sign spell, or 0. -/
def sgnd (g : Bool) (n : Nat) : Int := bif g then (if 0 < n ∧ n ≤ 9223372036854775808 then -(n : Int) else 0) else (if n ≤ 9223372036854775807 then (n : Int) else 0)
theorem sgnd_64 (g : Bool) (n : Nat) : R64 (sgnd g n) := by
  unfold sgnd R64
  cases g <;> simp only [cond_true, cond_false] <;> split <;> constructor <;> omega
theorem num_some {g : Bool} {l d : List UInt8} {w : World} {b : Bool} (h : Rest g l d) (hb : b = decide (itoa (sgnd g (vln 0 d)) = l)) : NumP l w (.returned (.tuple #[.int .i64 (sgnd g (vln 0 d)), .bool b])) w := by
  refine ⟨_, b, rfl, rfl, fun h1 => ?_, fun h1 v hv e => ?_⟩
  · rw [h1] at hb
    exact ⟨sgnd_64 _ _, of_decide_eq_true hb.symm⟩
  · rw [h1] at hb
    have hb := of_decide_eq_false hb.symm
    apply hb
    obtain ⟨e1, e2⟩ := rest_dec h e
    have e3 : vln 0 d = v.natAbs := by rw [e1, vln_dec]
    rw [e3]
    have : sgnd g v.natAbs = v := by
      unfold sgnd
      have := hv.1
      have := hv.2
      cases g
      · have : ¬ v < 0 := fun h => by have := e2.2 h; cases this
        simp only [cond_false]
        rw [if_pos (by omega)]
        omega
      · have : v < 0 := e2.1 rfl
        simp only [cond_true]
        rw [if_pos (by omega)]
        omega
    rw [this, e]

/-- Digits alone. -/
def Dgs (l : List UInt8) : Prop := ∀ b ∈ l, Dgt b
theorem take_snoc (s : ByteArray) (k : Nat) (h : k < s.size) : s.data.toList.take (k + 1) = s.data.toList.take k ++ [s[k]] := by
  rw [List.take_succ_eq_append_getElem (by simpa using h)]; rfl
theorem dgs_snoc (s : ByteArray) (k : Nat) (h : k < s.size) (g : Dgs (s.data.toList.take k)) (d : Dgt s[k]) : Dgs (s.data.toList.take (k + 1)) := by
  rw [take_snoc s k h]
  intro b hb
  rcases List.mem_append.1 hb with hb | hb
  · exact g b hb
  · simp at hb
    subst hb
    exact d
theorem mem_at (s : ByteArray) (k : Nat) (h : k < s.size) : s[k] ∈ s.data.toList := by
  have := Lib.data_getElem? s k h
  exact List.mem_of_getElem? this
theorem head_is (s : ByteArray) (h : 0 < s.size) : s.data.toList = s[0] :: (s.extract 1 s.size).data.toList := by
  rw [Lib.extract_data]
  have h1 := Lib.data_getElem? s 0 h
  cases hl : s.data.toList with
  | nil => rw [hl] at h1; cases h1
  | cons a l =>
    rw [hl] at h1
    have h2 : s.size = l.length + 1 := by rw [Lib.size_eq, hl]; rfl
    simp at h1
    rw [h1, h2]
    simp

set_option maxHeartbeats 2000000 in
set_option maxRecDepth 10000 in
theorem rnumber_any (s : ByteArray) (hs : s.size ≤ 3000) (w : World) : Calls Tryz.prog 15 #[.string s] w (NumP s.data.toList w) := by
  by_cases h0 : s.size = 0
  · have l0 : s.data.toList = [] := List.eq_nil_of_length_eq_zero (by rw [← Lib.size_eq]; exact h0)
    have hr : Rest false s.data.toList s.data.toList := Or.inr ⟨rfl, rfl, fun r h => by rw [l0] at h; cases h⟩
    have n0 : decide ((0 : Int) < (s.size : Int)) = false := decide_eq_false (by omega)
    have n01 : decide (0 < s.size) = false := decide_eq_false (by omega)
    have n1 : s.toList = [] := by rw [Lib.toList_data, l0]
    have n2 : s.toList.isEmpty = true := by rw [n1]; rfl
    have HR := Lib.hid (num_none (w := w) hr (Or.inl l0))
    have HL := Lib.hid l0
    have H0 := Lib.hid h0
    clear hr l0 h0
    go_enter Tryz.func15, Tryz.ntmps15
    go_wp2
    go_ret2
    exact HR.out
  · have h00 : 0 < s.size := by omega
    have hh : (0 : Int) < (s.size : Int) := by omega
    by_cases hm : s[0] = 45
    · obtain ⟨d, hd⟩ : ∃ d, s.extract 1 s.size = d := ⟨_, rfl⟩
      have hr : Rest true s.data.toList d.data.toList := Or.inl ⟨rfl, by rw [← hd, ← hm]; exact head_is s h00⟩
      have hds : d.size ≤ 3000 := by rw [← hd, ByteArray.size_extract]; omega
      have HS := Lib.hid h0
      clear h0
      have hx : IntKind.i64.wrap 0 = 0 := by decide
      rcases (show d.size = 0 ∨ 19 < d.size ∨ (0 < d.size ∧ d.size ≤ 19) by omega) with c0 | c0 | ⟨c0, c1⟩
      · have l0 : d.data.toList = [] := List.eq_nil_of_length_eq_zero (by rw [← Lib.size_eq]; exact c0)
        have n1 : d.toList = [] := by rw [Lib.toList_data, l0]
        have n2 : d.toList.isEmpty = true := by rw [n1]; rfl
        have HR := Lib.hid (num_none (w := w) hr (Or.inl l0))
        have HL := Lib.hid l0
        clear hr l0
        go_enter Tryz.func15, Tryz.ntmps15
        go_wp2
        go_ret2
        exact HR.out
      · have n1 : ¬ d.toList = [] := by rw [Lib.toList_data]; intro h; have := congrArg List.length h; rw [← Lib.size_eq] at this; have : d.size = 0 := this; omega
        have n2 : d.toList.isEmpty = false := by simpa using n1
        have n3 : (19 : Int) < (d.size : Int) := by omega
        have HR := Lib.hid (num_none (w := w) hr (Or.inr (Or.inl (by rw [← Lib.size_eq]; exact c0))))
        clear hr
        go_enter Tryz.func15, Tryz.ntmps15
        go_wp2
        go_ret2
        exact HR.out
      · have n1 : ¬ d.toList = [] := by rw [Lib.toList_data]; intro h; have := congrArg List.length h; rw [← Lib.size_eq] at this; have : d.size = 0 := this; omega
        have n2 : d.toList.isEmpty = false := by simpa using n1
        have n3 : (d.size : Int) ≤ 19 := by omega
        have HR := Lib.hid hr
        clear hr
        go_enter Tryz.func15, Tryz.ntmps15
        go_wp2
        go_loop [6, 7] (fun nv iv => ∃ k : Nat, k ≤ d.size ∧ iv = .int .i64 k ∧ nv = .int .u64 (vln 0 (d.data.toList.take k)) ∧ Dgs (d.data.toList.take k)) (fun _ iv => d.size - (intOf iv).toNat)
        case atStart => exact ⟨0, Nat.zero_le _, rfl, rfl, fun b hb => by cases hb⟩
        case round =>
          obtain ⟨k, hk, rfl, rfl, hg⟩ := hrel
          by_cases hlt : k < d.size
          · have hts := take_snoc d k hlt
            have hv := vln_snoc 0 (d.data.toList.take k) d[k]
            rw [← hts] at hv
            have hle : (d.data.toList.take k).length ≤ 18 := by rw [List.length_take]; omega
            have hb1 := Nat.lt_of_lt_of_le (vln_lt _ hg) (Nat.pow_le_pow_right (by decide) hle)
            by_cases hd : Dgt d[k]
            · obtain ⟨d1, d2⟩ := hd
              obtain ⟨N, hN⟩ : ∃ N, vln 0 (d.data.toList.take k) = N := ⟨_, rfl⟩
              obtain ⟨M, hM⟩ : ∃ M, vln 0 (d.data.toList.take (k + 1)) = M := ⟨_, rfl⟩
              rw [hN] at hv hb1
              rw [hM] at hv
              have hb2 : N < 1000000000000000000 := by simpa using hb1
              have e1 : IntKind.u64.wrap (10 * (N : Int)) = 10 * (N : Int) := by rw [IntKind.wrap_u64]; omega
              have e2 : IntKind.u8.wrap ((d[k].toNat : Int) - 48) = (d[k].toNat : Int) - 48 := by rw [IntKind.wrap_u8]; omega
              have e3 : IntKind.u64.wrap ((d[k].toNat : Int) - 48) = (d[k].toNat : Int) - 48 := by rw [IntKind.wrap_u64]; omega
              have e4 : IntKind.u64.wrap (10 * (N : Int) + ((d[k].toNat : Int) - 48)) = (M : Int) := by rw [IntKind.wrap_u64]; omega
              have e5 : IntKind.i64.wrap ((k : Int) + 1) = (k : Int) + 1 := by rw [IntKind.wrap_i64]; omega
              have f1 : decide ((d[k].toNat : Int) < 48) = false := decide_eq_false (by omega)
              have f2 : decide ((57 : Int) < (d[k].toNat : Int)) = false := decide_eq_false (by omega)
              rw [hN]
              have HM := Lib.hid hM
              have HN := Lib.hid hN
              have HV := Lib.hid hv
              have HG := Lib.hid (dgs_snoc d k hlt hg ⟨d1, d2⟩)
              clear hts hM hN hb1 hv hg
              go_wp2
              go_round
              case rel => exact ⟨k + 1, by omega, by go_num, by rw [HM.out], HG.out⟩
              case measure => simp [intOf]; omega
            · have HX := Lib.hid (num_none (w := w) HR.out (Or.inr (Or.inr ⟨d[k], mem_at d k hlt, hd⟩)))
              clear hts hv hg hle hb1
              rcases (show d[k].toNat < 48 ∨ (¬ d[k].toNat < 48 ∧ 57 < d[k].toNat) by unfold Dgt at hd; omega) with d1 | ⟨d1, d2⟩
              · have f1 : decide ((d[k].toNat : Int) < 48) = true := decide_eq_true (by omega)
                clear hd
                go_wp2
                go_ret2
                exact HX.out
              · have f1 : decide ((d[k].toNat : Int) < 48) = false := decide_eq_false (by omega)
                have f2 : decide ((57 : Int) < (d[k].toNat : Int)) = true := decide_eq_true (by omega)
                clear hd
                go_wp2
                go_ret2
                exact HX.out
          · obtain rfl : k = d.size := by omega
            rw [List.take_of_length_le (by rw [Lib.size_eq]; exact Nat.le_refl _)] at hg ⊢
            have hb1 := Nat.lt_of_lt_of_le (vln_lt _ hg) (Nat.pow_le_pow_right (by decide) (show d.data.toList.length ≤ 19 by rw [← Lib.size_eq]; exact c1))
            have hsm : ∀ b, b = decide (itoa (sgnd true (vln 0 d.data.toList)) = s.data.toList) → NumP s.data.toList w (.returned (.tuple #[.int .i64 (sgnd true (vln 0 d.data.toList)), .bool b])) w := fun b hb => num_some HR.out hb
            have hsg := sgnd_64 true (vln 0 d.data.toList)
            have hsd : sgnd true (vln 0 d.data.toList) = (if 0 < (vln 0 d.data.toList) ∧ (vln 0 d.data.toList) ≤ 9223372036854775808 then -((vln 0 d.data.toList) : Int) else 0) := rfl
            obtain ⟨N, hN⟩ : ∃ N, vln 0 d.data.toList = N := ⟨_, rfl⟩
            obtain ⟨X, hX⟩ : ∃ X, sgnd true N = X := ⟨_, rfl⟩
            rw [hN] at hb1 hsm hsg hsd ⊢
            rw [hX] at hsm hsg hsd
            have hb2 : N < 10000000000000000000 := by simpa using hb1
            have cs := signed_any X hsg
            obtain ⟨t, ht⟩ : ∃ t : ByteArray, ⟨(itoa X).toArray⟩ = t := ⟨_, rfl⟩
            rw [ht] at cs
            have HS := Lib.hid hsm
            have HN := Lib.hid hN
            have HX := Lib.hid hX
            clear hsm hN hX hb1 hg
            by_cases hq : itoa X = s.data.toList
            · have q1 : (t.toList == s.toList) = true := by rw [Lib.toList_data, Lib.toList_data, ← ht, hq]; simp
              have HZ := Lib.hid (HS.out true (by rw [hq]; simp))
              have HT := Lib.hid ht
              clear hq ht HS
              by_cases h1 : 0 < N ∧ N ≤ 9223372036854775808
              · obtain ⟨h2, h3⟩ := h1
                rw [if_pos ⟨h2, h3⟩] at hsd
                have e1 : IntKind.u64.wrap ((N : Int) - 1) = (N : Int) - 1 := by rw [IntKind.wrap_u64]; omega
                have e2 : IntKind.i64.wrap ((N : Int) - 1) = (N : Int) - 1 := by rw [IntKind.wrap_i64]; omega
                have e3 : IntKind.i64.wrap (-((N : Int) - 1)) = 1 - (N : Int) := by rw [IntKind.wrap_i64]; omega
                have e4 : IntKind.i64.wrap (1 - (N : Int) - 1) = X := by rw [hsd, IntKind.wrap_i64]; omega
                have f1 : decide ((0 : Int) < (N : Int)) = true := decide_eq_true (by omega)
                have f2 : decide ((N : Int) ≤ 9223372036854775808) = true := decide_eq_true (by omega)
                have HD := Lib.hid hsd
                clear hsd
                go_wp2_with fail
                refine (cs _).mono ?_
                rintro e w' ⟨rfl, hw⟩
                rw [hw]
                go_wp2
                go_ret2
                exact HZ.out
              · rw [if_neg h1] at hsd
                subst hsd
                rcases (show N = 0 ∨ (0 < N ∧ 9223372036854775808 < N) by omega) with h2 | ⟨h2, h3⟩
                · subst h2
                  clear h1
                  go_wp2_with fail
                  refine (cs _).mono ?_
                  rintro e w' ⟨rfl, hw⟩
                  rw [hw]
                  go_wp2
                  go_ret2
                  exact HZ.out
                · have f1 : decide ((0 : Int) < (N : Int)) = true := decide_eq_true (by omega)
                  have f2 : decide ((N : Int) ≤ 9223372036854775808) = false := decide_eq_false (by omega)
                  clear h1
                  go_wp2_with fail
                  refine (cs _).mono ?_
                  rintro e w' ⟨rfl, hw⟩
                  rw [hw]
                  go_wp2
                  go_ret2
                  exact HZ.out
            · have q1 : (t.toList == s.toList) = false := by rw [Lib.toList_data, Lib.toList_data, ← ht]; simpa using hq
              have HZ := Lib.hid (HS.out false (decide_eq_false hq).symm)
              have HT := Lib.hid ht
              clear hq ht HS
              by_cases h1 : 0 < N ∧ N ≤ 9223372036854775808
              · obtain ⟨h2, h3⟩ := h1
                rw [if_pos ⟨h2, h3⟩] at hsd
                have e1 : IntKind.u64.wrap ((N : Int) - 1) = (N : Int) - 1 := by rw [IntKind.wrap_u64]; omega
                have e2 : IntKind.i64.wrap ((N : Int) - 1) = (N : Int) - 1 := by rw [IntKind.wrap_i64]; omega
                have e3 : IntKind.i64.wrap (-((N : Int) - 1)) = 1 - (N : Int) := by rw [IntKind.wrap_i64]; omega
                have e4 : IntKind.i64.wrap (1 - (N : Int) - 1) = X := by rw [hsd, IntKind.wrap_i64]; omega
                have f1 : decide ((0 : Int) < (N : Int)) = true := decide_eq_true (by omega)
                have f2 : decide ((N : Int) ≤ 9223372036854775808) = true := decide_eq_true (by omega)
                have HD := Lib.hid hsd
                clear hsd
                go_wp2_with fail
                refine (cs _).mono ?_
                rintro e w' ⟨rfl, hw⟩
                rw [hw]
                go_wp2
                go_ret2
                exact HZ.out
              · rw [if_neg h1] at hsd
                subst hsd
                rcases (show N = 0 ∨ (0 < N ∧ 9223372036854775808 < N) by omega) with h2 | ⟨h2, h3⟩
                · subst h2
                  clear h1
                  go_wp2_with fail
                  refine (cs _).mono ?_
                  rintro e w' ⟨rfl, hw⟩
                  rw [hw]
                  go_wp2
                  go_ret2
                  exact HZ.out
                · have f1 : decide ((0 : Int) < (N : Int)) = true := decide_eq_true (by omega)
                  have f2 : decide ((N : Int) ≤ 9223372036854775808) = false := decide_eq_false (by omega)
                  clear h1
                  go_wp2_with fail
                  refine (cs _).mono ?_
                  rintro e w' ⟨rfl, hw⟩
                  rw [hw]
                  go_wp2
                  go_ret2
                  exact HZ.out
    · have hr : Rest false s.data.toList s.data.toList := Or.inr ⟨rfl, rfl, fun r h => by rw [head_is s h00] at h; injection h with h _; exact hm h⟩
      have m1 : ((s[0].toNat : Int) == 45) = false := by
        rw [beq_eq_false_iff_ne]
        intro h
        apply hm
        apply UInt8.toNat_inj.1
        have : s[0].toNat = 45 := by omega
        exact this
      have hx : IntKind.i64.wrap 0 = 0 := by decide
      rcases (show s.size = 0 ∨ 19 < s.size ∨ (0 < s.size ∧ s.size ≤ 19) by omega) with c0 | c0 | ⟨c0, c1⟩
      · have l0 : s.data.toList = [] := List.eq_nil_of_length_eq_zero (by rw [← Lib.size_eq]; exact c0)
        have n1 : s.toList = [] := by rw [Lib.toList_data, l0]
        have n2 : s.toList.isEmpty = true := by rw [n1]; rfl
        have HR := Lib.hid (num_none (w := w) hr (Or.inl l0))
        have HL := Lib.hid l0
        clear hr l0
        go_enter Tryz.func15, Tryz.ntmps15
        go_wp2
        go_ret2
        exact HR.out
      · have n1 : ¬ s.toList = [] := by rw [Lib.toList_data]; intro h; have := congrArg List.length h; rw [← Lib.size_eq] at this; have : s.size = 0 := this; omega
        have n2 : s.toList.isEmpty = false := by simpa using n1
        have n3 : (19 : Int) < (s.size : Int) := by omega
        have HR := Lib.hid (num_none (w := w) hr (Or.inr (Or.inl (by rw [← Lib.size_eq]; exact c0))))
        clear hr
        go_enter Tryz.func15, Tryz.ntmps15
        go_wp2
        go_ret2
        exact HR.out
      · have n1 : ¬ s.toList = [] := by rw [Lib.toList_data]; intro h; have := congrArg List.length h; rw [← Lib.size_eq] at this; have : s.size = 0 := this; omega
        have n2 : s.toList.isEmpty = false := by simpa using n1
        have n3 : (s.size : Int) ≤ 19 := by omega
        have HR := Lib.hid hr
        clear hr
        go_enter Tryz.func15, Tryz.ntmps15
        go_wp2
        go_loop [6, 7] (fun nv iv => ∃ k : Nat, k ≤ s.size ∧ iv = .int .i64 k ∧ nv = .int .u64 (vln 0 (s.data.toList.take k)) ∧ Dgs (s.data.toList.take k)) (fun _ iv => s.size - (intOf iv).toNat)
        case atStart => exact ⟨0, Nat.zero_le _, rfl, rfl, fun b hb => by cases hb⟩
        case round =>
          obtain ⟨k, hk, rfl, rfl, hg⟩ := hrel
          by_cases hlt : k < s.size
          · have hts := take_snoc s k hlt
            have hv := vln_snoc 0 (s.data.toList.take k) s[k]
            rw [← hts] at hv
            have hle : (s.data.toList.take k).length ≤ 18 := by rw [List.length_take]; omega
            have hb1 := Nat.lt_of_lt_of_le (vln_lt _ hg) (Nat.pow_le_pow_right (by decide) hle)
            by_cases hd : Dgt s[k]
            · obtain ⟨d1, d2⟩ := hd
              obtain ⟨N, hN⟩ : ∃ N, vln 0 (s.data.toList.take k) = N := ⟨_, rfl⟩
              obtain ⟨M, hM⟩ : ∃ M, vln 0 (s.data.toList.take (k + 1)) = M := ⟨_, rfl⟩
              rw [hN] at hv hb1
              rw [hM] at hv
              have hb2 : N < 1000000000000000000 := by simpa using hb1
              have e1 : IntKind.u64.wrap (10 * (N : Int)) = 10 * (N : Int) := by rw [IntKind.wrap_u64]; omega
              have e2 : IntKind.u8.wrap ((s[k].toNat : Int) - 48) = (s[k].toNat : Int) - 48 := by rw [IntKind.wrap_u8]; omega
              have e3 : IntKind.u64.wrap ((s[k].toNat : Int) - 48) = (s[k].toNat : Int) - 48 := by rw [IntKind.wrap_u64]; omega
              have e4 : IntKind.u64.wrap (10 * (N : Int) + ((s[k].toNat : Int) - 48)) = (M : Int) := by rw [IntKind.wrap_u64]; omega
              have e5 : IntKind.i64.wrap ((k : Int) + 1) = (k : Int) + 1 := by rw [IntKind.wrap_i64]; omega
              have f1 : decide ((s[k].toNat : Int) < 48) = false := decide_eq_false (by omega)
              have f2 : decide ((57 : Int) < (s[k].toNat : Int)) = false := decide_eq_false (by omega)
              rw [hN]
              have HM := Lib.hid hM
              have HN := Lib.hid hN
              have HV := Lib.hid hv
              have HG := Lib.hid (dgs_snoc s k hlt hg ⟨d1, d2⟩)
              clear hts hM hN hb1 hv hg
              go_wp2
              go_round
              case rel => exact ⟨k + 1, by omega, by go_num, by rw [HM.out], HG.out⟩
              case measure => simp [intOf]; omega
            · have HX := Lib.hid (num_none (w := w) HR.out (Or.inr (Or.inr ⟨s[k], mem_at s k hlt, hd⟩)))
              clear hts hv hg hle hb1
              rcases (show s[k].toNat < 48 ∨ (¬ s[k].toNat < 48 ∧ 57 < s[k].toNat) by unfold Dgt at hd; omega) with d1 | ⟨d1, d2⟩
              · have f1 : decide ((s[k].toNat : Int) < 48) = true := decide_eq_true (by omega)
                clear hd
                go_wp2
                go_ret2
                exact HX.out
              · have f1 : decide ((s[k].toNat : Int) < 48) = false := decide_eq_false (by omega)
                have f2 : decide ((57 : Int) < (s[k].toNat : Int)) = true := decide_eq_true (by omega)
                clear hd
                go_wp2
                go_ret2
                exact HX.out
          · obtain rfl : k = s.size := by omega
            rw [List.take_of_length_le (by rw [Lib.size_eq]; exact Nat.le_refl _)] at hg ⊢
            have hb1 := Nat.lt_of_lt_of_le (vln_lt _ hg) (Nat.pow_le_pow_right (by decide) (show s.data.toList.length ≤ 19 by rw [← Lib.size_eq]; exact c1))
            have hsm : ∀ b, b = decide (itoa (sgnd false (vln 0 s.data.toList)) = s.data.toList) → NumP s.data.toList w (.returned (.tuple #[.int .i64 (sgnd false (vln 0 s.data.toList)), .bool b])) w := fun b hb => num_some HR.out hb
            have hsg := sgnd_64 false (vln 0 s.data.toList)
            have hsd : sgnd false (vln 0 s.data.toList) = (if (vln 0 s.data.toList) ≤ 9223372036854775807 then ((vln 0 s.data.toList) : Int) else 0) := rfl
            obtain ⟨N, hN⟩ : ∃ N, vln 0 s.data.toList = N := ⟨_, rfl⟩
            obtain ⟨X, hX⟩ : ∃ X, sgnd false N = X := ⟨_, rfl⟩
            rw [hN] at hb1 hsm hsg hsd ⊢
            rw [hX] at hsm hsg hsd
            have hb2 : N < 10000000000000000000 := by simpa using hb1
            have cs := signed_any X hsg
            obtain ⟨t, ht⟩ : ∃ t : ByteArray, ⟨(itoa X).toArray⟩ = t := ⟨_, rfl⟩
            rw [ht] at cs
            have HS := Lib.hid hsm
            have HN := Lib.hid hN
            have HX := Lib.hid hX
            clear hsm hN hX hb1 hg
            by_cases hq : itoa X = s.data.toList
            · have q1 : (t.toList == s.toList) = true := by rw [Lib.toList_data, Lib.toList_data, ← ht, hq]; simp
              have HZ := Lib.hid (HS.out true (by rw [hq]; simp))
              have HT := Lib.hid ht
              clear hq ht HS
              by_cases h1 : N ≤ 9223372036854775807
              · rw [if_pos h1] at hsd
                have e1 : IntKind.i64.wrap (N : Int) = X := by rw [hsd, IntKind.wrap_i64]; omega
                have f1 : decide ((N : Int) ≤ 9223372036854775807) = true := decide_eq_true (by omega)
                have HD := Lib.hid hsd
                clear hsd
                go_wp2_with fail
                refine (cs _).mono ?_
                rintro e w' ⟨rfl, hw⟩
                rw [hw]
                go_wp2
                go_ret2
                exact HZ.out
              · rw [if_neg h1] at hsd
                subst hsd
                have f1 : decide ((N : Int) ≤ 9223372036854775807) = false := decide_eq_false (by omega)
                clear h1
                go_wp2_with fail
                refine (cs _).mono ?_
                rintro e w' ⟨rfl, hw⟩
                rw [hw]
                go_wp2
                go_ret2
                exact HZ.out
            · have q1 : (t.toList == s.toList) = false := by rw [Lib.toList_data, Lib.toList_data, ← ht]; simpa using hq
              have HZ := Lib.hid (HS.out false (decide_eq_false hq).symm)
              have HT := Lib.hid ht
              clear hq ht HS
              by_cases h1 : N ≤ 9223372036854775807
              · rw [if_pos h1] at hsd
                have e1 : IntKind.i64.wrap (N : Int) = X := by rw [hsd, IntKind.wrap_i64]; omega
                have f1 : decide ((N : Int) ≤ 9223372036854775807) = true := decide_eq_true (by omega)
                have HD := Lib.hid hsd
                clear hsd
                go_wp2_with fail
                refine (cs _).mono ?_
                rintro e w' ⟨rfl, hw⟩
                rw [hw]
                go_wp2
                go_ret2
                exact HZ.out
              · rw [if_neg h1] at hsd
                subst hsd
                have f1 : decide ((N : Int) ≤ 9223372036854775807) = false := decide_eq_false (by omega)
                clear h1
                go_wp2_with fail
                refine (cs _).mono ?_
                rintro e w' ⟨rfl, hw⟩
                rw [hw]
                go_wp2
                go_ret2
                exact HZ.out
end Go.Proofs.YtjaccedpkkcjnaaGreatDoor
