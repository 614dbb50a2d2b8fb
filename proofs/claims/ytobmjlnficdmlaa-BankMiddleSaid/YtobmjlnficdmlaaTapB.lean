/- Layer 21, numbers: a tick's bytes, the ticks of bytes, there and back; the bytes of what was told; the sum. -/
import Derived.Test.YtobmjlnficdmlaaTapA
namespace Go.Proofs.Ytobmjlnficdmlaa

/-- A tick. -/
structure Tk where
  a : Int
  h : Bool
  p : Int
  s : Bool
deriving DecidableEq
/-- Its first byte. -/
def fb (t : Tk) : Int := (if t.h then 1 else 0) + (if t.s then 2 else 0)
/-- It may be on a tape. -/
def may (t : Tk) : Bool := t.h || t.p == 0
def tb (t : Tk) : List Int := fb t :: (num t.a ++ if t.h then num t.p else [])
/-- Ticks' bytes. -/
def pb : List Tk → List Int
  | [] => []
  | t :: l => tb t ++ pb l
/-- What Put answers: the bytes; the error's number. -/
def px (l : List Tk) : List Int := if l.all may then pb l else []
def pe (l : List Tk) : Int := if l.all may then 0 else 1
theorem pb_snoc (t : Tk) : ∀ l, pb (l ++ [t]) = pb l ++ tb t
  | [] => by simp [pb]
  | x :: l => by simp [pb, pb_snoc t l]
theorem tb_len (t : Tk) : (tb t).length ≤ 17 ∧ 9 ≤ (tb t).length := by
  unfold tb
  cases t.h <;> simp [num_len]
theorem pb_len : ∀ l, (pb l).length ≤ 17 * l.length
  | [] => by simp [pb]
  | t :: l => by
    have := pb_len l
    have := (tb_len t).1
    simp [pb]
    omega
/-- A byte. -/
def By (z : List Int) : Prop := ∀ x ∈ z, 0 ≤ x ∧ x ≤ 255
theorem by_num (x : Int) : By (num x) := fun y hy => by
  simp [num] at hy
  obtain ⟨k, _, rfl⟩ := hy
  exact b8_in x k
theorem by_app {y z : List Int} (h : By y) (g : By z) : By (y ++ z) := fun x hx => by
  rcases List.mem_append.1 hx with hx | hx
  · exact h x hx
  · exact g x hx
theorem by_tb (t : Tk) : By (tb t) := by
  have h1 : 0 ≤ fb t ∧ fb t ≤ 255 := by unfold fb; cases t.h <;> cases t.s <;> decide
  intro x hx
  unfold tb at hx
  rcases List.mem_cons.1 hx with rfl | hx
  · exact h1
  · refine by_app (by_num _) ?_ x hx
    cases t.h
    · exact fun y hy => absurd hy (by simp)
    · exact by_num _
theorem by_pb : ∀ l, By (pb l)
  | [] => fun x hx => absurd hx (by simp [pb])
  | t :: l => by_app (by_tb t) (by_pb l)
theorem by_px (l : List Tk) : By (px l) := by
  unfold px
  split
  · exact by_pb l
  · exact fun x hx => absurd hx (by simp)
theorem px_len (l : List Tk) : (px l).length ≤ 17 * l.length := by
  unfold px
  split
  · exact pb_len l
  · exact Nat.zero_le _

/-- The byte at a place. -/
abbrev at0 (z : List Int) (k : Nat) : Int := z.getD k 0
theorem by_at {z : List Int} (h : By z) (k : Nat) : 0 ≤ at0 z k ∧ at0 z k ≤ 255 := by
  unfold at0
  rw [List.getD_eq_getElem?_getD]
  cases e : z[k]? with
  | none => exact ⟨Int.le_refl _, by decide⟩
  | some x => exact h x (List.mem_of_getElem? e)
/-- The tick that f and what lies behind it are. -/
def tick (f : Int) (r : List Int) : Tk := ⟨rd (at0 r), f % 2 == 1, if f % 2 = 1 then rd (fun k => at0 r (8 + k)) else 0, decide (1 < f)⟩
/-- How many bytes lie behind a tick's first. -/
def lg (f : Int) : Nat := if f % 2 = 1 then 16 else 8
/-- The ticks of bytes behind those that are read, and the error's number. -/
def gt (z : List Int) (l : List Tk) : List Tk × Int :=
  match z with
  | [] => (l, 0)
  | f :: r => if 3 < f then ([], 6) else if r.length < lg f then ([], 5) else gt (r.drop (lg f)) (l ++ [tick f r])
termination_by z.length
decreasing_by simp; omega
theorem gt_nil (l : List Tk) : gt [] l = (l, 0) := by rw [gt]
theorem gt_form {f : Int} {r : List Int} {l : List Tk} (h : 3 < f) : gt (f :: r) l = ([], 6) := by rw [gt, if_pos h]
theorem gt_short {f : Int} {r : List Int} {l : List Tk} (h : ¬ 3 < f) (k : r.length < lg f) : gt (f :: r) l = ([], 5) := by rw [gt, if_neg h, if_pos k]
theorem gt_one {f : Int} {r : List Int} {l : List Tk} (h : ¬ 3 < f) (k : ¬ r.length < lg f) : gt (f :: r) l = gt (r.drop (lg f)) (l ++ [tick f r]) := by
  rw [gt, if_neg h, if_neg k]
def gx (z : List Int) : List Tk := (gt z []).1
def ge (z : List Int) : Int := (gt z []).2

/-- A tick's numbers are of 64 bits. -/
def In (t : Tk) : Prop := (-9223372036854775808 ≤ t.a ∧ t.a ≤ 9223372036854775807) ∧ (-9223372036854775808 ≤ t.p ∧ t.p ≤ 9223372036854775807)
theorem at_num {x : Int} {r : List Int} {k : Nat} (h : k < 8) : at0 (num x ++ r) k = b8 x k := by
  unfold at0
  rw [List.getD_eq_getElem?_getD, List.getElem?_append_left (by rw [num_len]; exact h), num_at x h]
  rfl
theorem at_off {x : Int} {r : List Int} {k : Nat} : at0 (num x ++ r) (8 + k) = at0 r k := by
  unfold at0
  rw [List.getD_eq_getElem?_getD, List.getD_eq_getElem?_getD, List.getElem?_append_right (by rw [num_len]; omega), num_len]
  congr 2
  omega
/-- There and back, one tick. -/
theorem gt_tb {t : Tk} (hi : In t) (hm : may t = true) (z : List Int) (l : List Tk) : gt (tb t ++ z) l = gt z (l ++ [t]) := by
  obtain ⟨a, h, p, s⟩ := t
  obtain ⟨⟨a0, a1⟩, p0, p1⟩ := hi
  simp only at a0 a1 p0 p1
  have hl := num_len a
  have hp := num_len p
  have ra : rd (b8 a) = a := rd_num a0 a1
  have rp : rd (b8 p) = p := rd_num p0 p1
  unfold tb fb
  simp only [List.cons_append, List.append_assoc]
  have e1 : ∀ r : List Int, rd (at0 (num a ++ r)) = a := fun r => (rd_same (fun k hk => at_num hk)).trans ra
  have e2 : ∀ r : List Int, rd (fun k => at0 (num a ++ (num p ++ r)) (8 + k)) = p := fun r => (rd_same (fun k hk => at_off.trans (at_num hk))).trans rp
  cases h
  · have pz : p = 0 := by simpa [may] using hm
    subst pz
    simp only [Bool.false_eq_true, if_false, List.nil_append]
    have f0 : ((0 : Int) + if s = true then 2 else 0) % 2 ≠ 1 := by cases s <;> decide
    have f1 : ¬ 3 < ((0 : Int) + if s = true then 2 else 0) := by cases s <;> decide
    have f2 : decide (1 < ((0 : Int) + if s = true then 2 else 0)) = s := by cases s <;> decide
    generalize ((0 : Int) + if s = true then 2 else 0) = f at *
    have fl : lg f = 8 := if_neg f0
    have fh : (f % 2 == 1) = false := by simpa using f0
    rw [gt_one f1 (by rw [fl, List.length_append, hl]; omega), fl, List.drop_append_of_le_length (by omega), List.drop_of_length_le (by omega), List.nil_append]
    simp only [tick, e1, fh, if_neg f0, f2]
  · simp only [if_true]
    have f0 : ((1 : Int) + if s = true then 2 else 0) % 2 = 1 := by cases s <;> decide
    have f1 : ¬ 3 < ((1 : Int) + if s = true then 2 else 0) := by cases s <;> decide
    have f2 : decide (1 < ((1 : Int) + if s = true then 2 else 0)) = s := by cases s <;> decide
    generalize ((1 : Int) + if s = true then 2 else 0) = f at *
    have fl : lg f = 16 := if_pos f0
    have fh : (f % 2 == 1) = true := by simpa using f0
    rw [gt_one f1 (by rw [fl, List.length_append, List.length_append, hl, hp]; omega), fl, ← List.append_assoc, List.drop_append_of_le_length (by rw [List.length_append]; omega), List.drop_of_length_le (by rw [List.length_append]; omega), List.nil_append, List.append_assoc]
    simp only [tick, e1, e2, fh, if_pos f0, f2]
/-- There and back. -/
theorem gt_pb (z : List Int) : ∀ (m l : List Tk), (∀ t ∈ m, In t) → m.all may = true → gt (pb m ++ z) l = gt z (l ++ m)
  | [], l, _, _ => by simp [pb]
  | t :: m, l, hi, hm => by
    simp only [List.all_cons, Bool.and_eq_true] at hm
    rw [pb, List.append_assoc, gt_tb (hi t (by simp)) hm.1, gt_pb z m _ (fun x hx => hi x (by simp [hx])) hm.2, List.append_assoc]
    rfl
theorem gt_px {l : List Tk} (hi : ∀ t ∈ l, In t) (h : pe l = 0) : gt (px l) [] = (l, 0) := by
  have hm : l.all may = true := by
    unfold pe at h
    split at h
    · assumption
    · cases h
  have := gt_pb [] l [] hi hm
  rw [List.append_nil, List.nil_append, gt_nil] at this
  rw [px, if_pos hm, this]

theorem num_of {r : List Int} (hr : By r) (k : Nat) (h : 8 + k ≤ r.length) : num (rd (fun i => at0 r (k + i))) = (r.drop k).take 8 := by
  apply List.ext_getElem?
  intro i
  by_cases hi : i < 8
  · rw [num_at _ hi, b8_rd (fun j => by_at hr (k + j)) hi, List.getElem?_take_of_lt hi, List.getElem?_drop, at0, List.getD_eq_getElem?_getD]
    rw [List.getElem?_eq_getElem (by omega)]
    rfl
  · rw [List.getElem?_eq_none (by rw [num_len]; omega), List.getElem?_eq_none (by rw [List.length_take]; omega)]
theorem tb_tick {f : Int} {r : List Int} (hf : 0 ≤ f) (h3 : ¬ 3 < f) (hr : By r) (hl : ¬ r.length < lg f) : tb (tick f r) ++ r.drop (lg f) = f :: r := by
  have n0 := fun h => num_of hr 0 h
  have n8 := fun h => num_of hr 8 h
  simp only [Nat.zero_add, List.drop_zero] at n0
  have hf4 : f = 0 ∨ f = 1 ∨ f = 2 ∨ f = 3 := by omega
  have s8 : ∀ h : 8 ≤ r.length, r.take 8 ++ r.drop 8 = r := fun _ => List.take_append_drop 8 r
  have s16 : r.take 8 ++ ((r.drop 8).take 8 ++ r.drop 16) = r := by
    rw [show r.drop 16 = (r.drop 8).drop 8 from by rw [List.drop_drop], List.take_append_drop, List.take_append_drop]
  rcases hf4 with rfl | rfl | rfl | rfl
  · have hl' : 8 ≤ r.length := by have : lg 0 = 8 := rfl; omega
    simp [tick, tb, fb, n0 hl', show lg 0 = 8 from rfl]
  · have hl' : 16 ≤ r.length := by have : lg 1 = 16 := rfl; omega
    rw [show lg 1 = 16 from rfl]
    simp only [tick, tb, fb]
    rw [n0 (by omega)]
    simp only [show (1 : Int) % 2 = 1 from rfl, if_true, beq_self_eq_true]
    rw [n8 (by omega)]
    simp [s16]
  · have hl' : 8 ≤ r.length := by have : lg 2 = 8 := rfl; omega
    simp [tick, tb, fb, n0 hl', show lg 2 = 8 from rfl]
  · have hl' : 16 ≤ r.length := by have : lg 3 = 16 := rfl; omega
    rw [show lg 3 = 16 from rfl]
    simp only [tick, tb, fb]
    rw [n0 (by omega)]
    simp only [show (3 : Int) % 2 = 1 from rfl, if_true, beq_self_eq_true]
    rw [n8 (by omega)]
    simp [s16]
theorem may_tick (f : Int) (r : List Int) : may (tick f r) = true := by
  unfold may tick
  by_cases h : f % 2 = 1 <;> simp [h]
/-- One way: what is read has these bytes. -/
theorem gt_back : ∀ (n : Nat) (z : List Int) (l : List Tk), z.length ≤ n → By z → (gt z l).2 = 0 → ∃ m, (gt z l).1 = l ++ m ∧ pb m = z ∧ m.all may = true
  | n, [], l, _, _, _ => ⟨[], by simp [gt_nil], rfl, rfl⟩
  | 0, f :: r, l, h, _, _ => by simp at h
  | n + 1, f :: r, l, h, hb, he => by
    have hr : By r := fun x hx => hb x (by simp [hx])
    by_cases h3 : 3 < f
    · rw [gt_form h3] at he
      cases he
    · by_cases hl : r.length < lg f
      · rw [gt_short h3 hl] at he
        cases he
      · rw [gt_one h3 hl] at he ⊢
        have hn : (r.drop (lg f)).length ≤ n := by simp at h ⊢; omega
        obtain ⟨m, e1, e2, e3⟩ := gt_back n _ _ hn (fun x hx => hr x (List.mem_of_mem_drop hx)) he
        refine ⟨tick f r :: m, by rw [e1, List.append_assoc]; rfl, ?_, by simp [may_tick, e3]⟩
        rw [pb, e2]
        exact tb_tick (hb f (by simp)).1 h3 hr hl
theorem px_gx {z : List Int} (hb : By z) (h : ge z = 0) : px (gx z) = z ∧ pe (gx z) = 0 := by
  obtain ⟨m, e1, e2, e3⟩ := gt_back z.length z [] (Nat.le_refl _) hb h
  rw [List.nil_append] at e1
  unfold gx
  rw [e1, px, pe, if_pos e3, if_pos e3]
  exact ⟨e2, rfl⟩
theorem gt_len : ∀ (n : Nat) (z : List Int) (l : List Tk), z.length ≤ n → (gt z l).1.length ≤ l.length + z.length
  | n, [], l, _ => by simp [gt_nil]
  | 0, f :: r, l, h => by simp at h
  | n + 1, f :: r, l, h => by
    by_cases h3 : 3 < f
    · rw [gt_form h3]; simp
    · by_cases hl : r.length < lg f
      · rw [gt_short h3 hl]; simp
      · rw [gt_one h3 hl]
        have hn : (r.drop (lg f)).length ≤ n := by simp at h ⊢; omega
        have := gt_len n _ (l ++ [tick f r]) hn
        simp at this ⊢
        have : 8 ≤ lg f := by unfold lg; split <;> decide
        omega
theorem gx_len (z : List Int) : (gx z).length ≤ z.length := by simpa [gx] using gt_len z.length z [] (Nat.le_refl _)

/-- One step of the sum. -/
def stp (s c : Nat) : Nat := (s ^^^ c) * 1099511628211 % 18446744073709551616
/-- The sum of bytes, from s on. -/
def sb : Nat → List Int → Nat
  | s, [] => s
  | s, c :: l => sb (stp s c.toNat) l
theorem sb_snoc (c : Int) : ∀ (l : List Int) (s : Nat), sb s (l ++ [c]) = stp (sb s l) c.toNat
  | [], _ => rfl
  | _ :: l, _ => sb_snoc c l _
theorem sb_app (m : List Int) : ∀ (l : List Int) (s : Nat), sb s (l ++ m) = sb (sb s l) m
  | [], _ => rfl
  | _ :: l, _ => sb_app m l _
theorem stp_lt (s c : Nat) : stp s c < 18446744073709551616 := Nat.mod_lt _ (by decide)
theorem sb_lt : ∀ (l : List Int) (s : Nat), s < 18446744073709551616 → sb s l < 18446744073709551616
  | [], _, h => h
  | _ :: l, _, _ => sb_lt l _ (stp_lt _ _)
theorem stp_inv {s c : Nat} (hs : s < 18446744073709551616) (hc : c < 256) : stp s c * 14886173955864302971 % 18446744073709551616 = s ^^^ c := by
  have hx : s ^^^ c < 18446744073709551616 := Nat.xor_lt_two_pow (n := 64) hs (by omega)
  unfold stp
  generalize s ^^^ c = x at *
  omega
theorem stp_left {s t c : Nat} (hs : s < 18446744073709551616) (ht : t < 18446744073709551616) (hc : c < 256) (h : stp s c = stp t c) : s = t := by
  have e := stp_inv hs hc
  rw [h, stp_inv ht hc] at e
  have := congrArg (· ^^^ c) e
  simpa [Nat.xor_assoc] using this.symm
theorem stp_right {s c d : Nat} (hs : s < 18446744073709551616) (hc : c < 256) (hd : d < 256) (h : stp s c = stp s d) : c = d := by
  have e := stp_inv hs hc
  rw [h, stp_inv hs hd] at e
  have := congrArg (s ^^^ ·) e
  simpa [← Nat.xor_assoc] using this.symm
theorem sb_left : ∀ (l : List Int) (s t : Nat), By l → s < 18446744073709551616 → t < 18446744073709551616 → sb s l = sb t l → s = t
  | [], _, _, _, _, _, h => h
  | c :: l, s, t, hb, hs, ht, h => by
    have hc := hb c (by simp)
    exact stp_left hs ht (by omega) (sb_left l _ _ (fun x hx => hb x (by simp [hx])) (stp_lt _ _) (stp_lt _ _) h)
/-- A byte that is another one changes the sum. -/
theorem sb_other {l m : List Int} {c d : Int} {s : Nat} (_hl : By l) (hm : By m) (hs : s < 18446744073709551616) (hc : 0 ≤ c ∧ c ≤ 255) (hd : 0 ≤ d ∧ d ≤ 255) (h : c ≠ d) : sb s (l ++ c :: m) ≠ sb s (l ++ d :: m) := fun e => by
  rw [sb_app, sb_app, sb, sb] at e
  have := stp_right (sb_lt l s hs) (by omega) (by omega) (sb_left m _ _ hm (stp_lt _ _) (stp_lt _ _) e)
  omega
/-- The document's exclusive or, bit by bit: what k of its rounds make. -/
def xb (a b : Nat) : Nat → Nat
  | 0 => 0
  | k + 1 => xb a b k + (if a / 2 ^ k % 2 = b / 2 ^ k % 2 then 0 else 2 ^ k)
theorem xb_xor (a b : Nat) : ∀ k, xb a b k = (a ^^^ b) % 2 ^ k
  | 0 => by simp [xb]; omega
  | k + 1 => by
    rw [xb, xb_xor a b k, Nat.mod_pow_succ]
    congr 1
    have e : (a ^^^ b) / 2 ^ k % 2 = (a / 2 ^ k % 2) ^^^ (b / 2 ^ k % 2) := by
      rw [Nat.xor_div_two_pow]
      have := Nat.xor_mod_two_pow (a := a / 2 ^ k) (b := b / 2 ^ k) (n := 1)
      simpa using this
    rw [e]
    rcases Nat.mod_two_eq_zero_or_one (a / 2 ^ k) with h | h <;> rcases Nat.mod_two_eq_zero_or_one (b / 2 ^ k) with g | g <;> simp [h, g]
theorem xb_byte {n c : Nat} (hc : c < 256) : n - n % 256 + xb (n % 256) c 8 = n ^^^ c := by
  rw [xb_xor, show (2 : Nat) ^ 8 = 256 from rfl]
  have h1 : n % 256 ^^^ c < 256 := Nat.xor_lt_two_pow (n := 8) (by omega) hc
  rw [Nat.mod_eq_of_lt h1]
  have h2 : (n ^^^ c) % 256 = n % 256 ^^^ c := by
    have := Nat.xor_mod_two_pow (a := n) (b := c) (n := 8)
    rw [show (2 : Nat) ^ 8 = 256 from rfl, Nat.mod_eq_of_lt hc] at this
    exact this
  have h3 : (n ^^^ c) / 256 = n / 256 := by
    have := Nat.xor_div_two_pow (a := n) (b := c) (n := 8)
    rw [show (2 : Nat) ^ 8 = 256 from rfl, Nat.div_eq_of_lt hc, Nat.xor_zero] at this
    exact this
  have h4 := Nat.div_add_mod (n ^^^ c) 256
  rw [h2, h3] at h4
  omega

/-- What was told. -/
structure Td where
  m : Int
  v : Bool
  c : Bool
  r : Bool
  d : Bool
  g : Bool
  al : Int
  sp : Int
  bi : Int
/-- Its second byte, up to the j-th mark. -/
def mk (h : Nat → Bool) : Nat → Nat
  | 0 => 0
  | j + 1 => mk h j + if h j then 2 ^ j else 0
theorem mk_lt (h : Nat → Bool) : ∀ j, mk h j < 2 ^ j
  | 0 => by simp [mk]
  | j + 1 => by
    have := mk_lt h j
    rw [mk, Nat.pow_succ]
    split <;> omega
def ms (t : Td) : Int := (if t.v then 1 else 0) + (if t.c then 2 else 0) + (if t.r then 4 else 0) + (if t.d then 8 else 0) + (if t.g then 16 else 0)
/-- The bytes of what was told. -/
def db (t : Td) : List Int := [t.m % 256, ms t, 0, 0] ++ (num t.al ++ (num t.sp ++ num t.bi))
def dbs : List Td → List Int
  | [] => []
  | t :: l => db t ++ dbs l
theorem dbs_snoc (t : Td) : ∀ l, dbs (l ++ [t]) = dbs l ++ db t
  | [] => by simp [dbs]
  | x :: l => by simp [dbs, dbs_snoc t l]
theorem db_len (t : Td) : (db t).length = 28 := by simp [db, num_len]
theorem dbs_len : ∀ l, (dbs l).length = 28 * l.length
  | [] => by simp [dbs]
  | t :: l => by
    have := dbs_len l
    simp [dbs, db_len]
    omega
theorem ms_in (t : Td) : 0 ≤ ms t ∧ ms t ≤ 31 := by
  obtain ⟨m, v, c, r, d, g, al, sp, bi⟩ := t
  unfold ms
  cases v <;> cases c <;> cases r <;> cases d <;> cases g <;> exact ⟨by simp, by simp⟩
theorem by_db (t : Td) : By (db t) := by
  have := ms_in t
  refine by_app (fun x hx => ?_) (by_app (by_num _) (by_app (by_num _) (by_num _)))
  simp at hx
  rcases hx with rfl | rfl | rfl <;> omega
theorem by_dbs : ∀ l, By (dbs l)
  | [] => fun x hx => absurd hx (by simp [dbs])
  | t :: l => by_app (by_db t) (by_dbs l)
end Go.Proofs.Ytobmjlnficdmlaa
