/- Layer 21: rows of bytes in memory, strings of bytes; the program's marks. -/
import Derived.Test.YtobmjlnficdmlaaTapB
import Derived.Test.YtobmjlnficdmlaaBut
import Derived.Laws.BytesString
import Derived.Maps.AppendAt
import Derived.Laws.OwnMore
import Derived.Deep.AppendLies
import Derived.Laws.Concat
namespace Go.Proofs.Ytobmjlnficdmlaa
open Go.RowKit Go.Shelf Go.Joins

/-- Bytes as values. -/
def us (l : List Int) : List Value := l.map fun x => .int .u8 x
theorem us_len (l : List Int) : (us l).length = l.length := by simp [us]
theorem us_app (l m : List Int) : us (l ++ m) = us l ++ us m := by simp [us]
theorem us_cell {l : List Int} : ∀ u ∈ us l, u.oneCell' = true := fun u hu => by
  unfold us at hu
  obtain ⟨k, _, rfl⟩ := List.mem_map.1 hu
  rfl
/-- A slice holds these bytes, in a block from B on. -/
def US (w : World) (B : Nat) (sa : Option Addr) (l : List Int) : Prop :=
  ∀ k x, l[k]? = some x → ∃ gb off, sa = some ⟨gb, off, none⟩ ∧ B ≤ gb ∧ w.cell? ⟨gb, off + k, none⟩ = some (.int .u8 x)
theorem us_keep {w w' : World} (hb : Below w.heap.size w w') {B : Nat} {sa : Option Addr} {l : List Int} (h : US w B sa l) : US w' B sa l := fun k x hk => by
  obtain ⟨gb, off, e, hB, c⟩ := h k x hk
  exact ⟨gb, off, e, hB, cell_keep hb c⟩
theorem us_nil {w : World} {B : Nat} {sa : Option Addr} : US w B sa [] := fun k x h => by simp at h
theorem us_low {w : World} {A B : Nat} {sa : Option Addr} {l : List Int} (hB : A ≤ B) (h : US w B sa l) : US w A sa l := fun k x hk => by
  obtain ⟨gb, off, e, h1, c⟩ := h k x hk
  exact ⟨gb, off, e, Nat.le_trans hB h1, c⟩
/-- A row of its own, as a slice. -/
theorem us_own {w : World} {B : Nat} {t : TypeId} {v : Value} {n : Nat} {l : List Int} (h : w.ownsRow B t 1 v n (us l)) : ∃ sa cap, v = .slice sa n cap ∧ n = l.length ∧ n ≤ cap ∧ cap ≤ maxLen ∧ US w B sa l := by
  have hn : n = l.length := by have := h.1; rw [us_len] at this; omega
  rcases h.2 with ⟨rfl, rfl⟩ | ⟨g, cap, cur, rfl, hB, hg, hc, hm, hs, ht⟩
  · have : l = [] := List.eq_nil_of_length_eq_zero hn.symm
    subst this
    exact ⟨none, 0, rfl, rfl, Nat.le_refl _, Nat.zero_le _, us_nil⟩
  · refine ⟨_, cap, rfl, hn, hc, hm, fun k x hk => ⟨g, 0, rfl, hB, ?_⟩⟩
    have hl : k < l.length := (List.getElem?_eq_some_iff.1 hk).1
    have hk' : (us l)[k]? = some (.int .u8 x) := by simp [us, hk]
    rw [← ht, List.getElem?_take_of_lt (by omega)] at hk'
    rw [Nat.zero_add, cell_of_row _ _ k _ _ _ hg]
    simpa using hk'

/-- Bytes as a string. -/
def bs (l : List Int) : ByteArray := ⟨(l.map fun x => UInt8.ofNat x.toNat).toArray⟩
theorem bs_size (l : List Int) : (bs l).size = l.length := by simp [bs, ByteArray.size]
theorem bs_app (l m : List Int) : bs l ++ bs m = bs (l ++ m) := by
  apply ByteArray.ext
  rw [ByteArray.data_append]
  simp [bs]
theorem bs_push : ∀ (l : List Int) (r : ByteArray), l.foldl (fun r n => r.push (UInt8.ofNat n.toNat)) r = ⟨r.data ++ (l.map fun x => UInt8.ofNat x.toNat).toArray⟩
  | [], r => by simp
  | b :: l, r => by
    simp only [List.foldl_cons]
    rw [bs_push l]
    simp [ByteArray.push]
theorem bs_inj {l m : List Int} (hl : By l) (hm : By m) (h : bs l = bs m) : l = m := by
  have e : (l.map fun x => UInt8.ofNat x.toNat) = m.map fun x => UInt8.ofNat x.toNat := by
    have := congrArg (fun b => b.data.toList) h
    simpa [bs] using this
  have f : ∀ (l : List Int), By l → (l.map fun x => UInt8.ofNat x.toNat).map (fun b => (b.toNat : Int)) = l := fun l hl => by
    rw [List.map_map]
    conv => rhs; rw [← List.map_id l]
    apply List.map_congr_left
    intro x hx
    have := hl x hx
    simp
    omega
  have g := congrArg (List.map fun b => (b.toNat : Int)) e
  rwa [f l hl, f m hm] at g
/-- A slice's bytes as a string. -/
theorem cv_any {P : Program} {w : World} {B : Nat} {sa : Option Addr} {l : List Int} (cap : Nat) (src dst e : TypeId) (hs : P.underlying src = some (.slice e)) (he : P.underlying e = some (.int .u8)) (hd : P.underlying dst = some .string)
    (h : US w B sa l) : (convert src dst (.slice sa l.length cap)).run P w = .ok (.string (bs l)) w := by
  rw [run_convert_bytes_string w src dst e _ _ _ hs he hd]
  match l, h with
  | [], _ =>
    cases sa with
    | none => simp [Conv.bytesToString, bs]; rfl
    | some a => exact run_bytesToString w a 0 cap [] (run_loadCells_list (P := P) w a [] (fun j v hj => by simp at hj))
  | x :: l, h =>
    obtain ⟨gb, off, rfl, _, _⟩ := h 0 x rfl
    have hl := run_loadCells_list (P := P) w ⟨gb, off, none⟩ (us (x :: l)) (fun j v hj => by
      have hj' : j < (x :: l).length := by
        have := (List.getElem?_eq_some_iff.1 hj).1
        rwa [us_len] at this
      obtain ⟨gb2, off2, e2, _, c⟩ := h j (x :: l)[j] (List.getElem?_eq_getElem hj')
      injection e2 with e2
      injection e2 with e3 e4
      subst e3 e4
      have hadd : (⟨gb, off, none⟩ : Addr).add j = ⟨gb, off + j, none⟩ := by unfold Addr.add; split <;> simp_all
      rw [hadd, c]
      simp only [us, List.getElem?_map, List.getElem?_eq_getElem hj', Option.map_some] at hj
      exact hj)
    rw [us_len] at hl
    rw [run_bytesToString w _ _ cap (x :: l) hl, bs_push, show ByteArray.empty.data = #[] from rfl, Array.empty_append]
    rfl
/-- One string behind another one. -/
theorem cat_ok {P : Program} (l m : List Int) (hs : l.length + m.length ≤ 1000000) (w : World) : (Op.stringOp .add (bs l) (bs m)).run P w = .ok (.string (bs (l ++ m))) w := by
  rw [← bs_app]
  exact run_string_add_sum w (bs l) (bs m) (by rw [bs_size, bs_size]; omega)

theorem or_bit {a k : Nat} (h : a < 2 ^ k) (hk : k < 8) : bits .or .u8 (a : Int) (2 ^ k % 256) = ((a + 2 ^ k : Nat) : Int) := by
  have h1 : 2 ^ k ≤ 2 ^ 7 := Nat.pow_le_pow_right (by decide) (by omega)
  have h2 : (2 : Int) ^ k % 256 = ((2 ^ k : Nat) : Int) := by
    rw [Int.natCast_pow]
    have h3 : ((2 ^ k : Nat) : Int) = (2 : Int) ^ k := by rw [Int.natCast_pow]; rfl
    have h4 : (2 : Int) ^ k % 256 = 2 ^ k := by rw [← h3]; omega
    exact h4
  rw [h2]
  rw [u8_or_nat a (2 ^ k) (by omega) (by omega), Nat.or_comm, nat_join k (2 ^ k) a (Nat.mod_self _) h, Nat.add_comm]
end Go.Proofs.Ytobmjlnficdmlaa
