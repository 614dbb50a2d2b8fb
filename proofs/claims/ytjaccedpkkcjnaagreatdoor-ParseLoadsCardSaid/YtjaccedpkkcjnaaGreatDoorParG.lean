/- Layer 14: the document's words: a text's words, between blanks and line feeds. -/
import Derived.Test.YtjaccedpkkcjnaaGreatDoorParE
import Derived.Laws.AppendOwn
import Derived.OwnWalk
import Derived.Maps.AppendAt
import Derived.Deep.Onto
import Derived.Deep.WholeRow
namespace Go.Proofs.YtjaccedpkkcjnaaGreatDoor
open Go.RowKit Go.Shelf Go.Lib Go.Maps

theorem info_str : (Tryz.prog.info? 9).map (fun i => (i.zero, i.size, i.bytes)) = some (some (.string ByteArray.empty), 1, 16) := by kernel_rfl
theorem info_i64 : (Tryz.prog.info? 2).map (fun i => (i.zero, i.size, i.bytes)) = some (some (.int .i64 0), 1, 8) := by kernel_rfl
/-- Texts as strings of the program. -/
def SL (ls : List (List UInt8)) : List Value := ls.map fun l => .string ⟨l.toArray⟩
theorem sl_len (ls : List (List UInt8)) : (SL ls).length = ls.length := by simp [SL]
theorem sl_snoc (ls : List (List UInt8)) (l : List UInt8) : SL (ls ++ [l]) = SL ls ++ [.string ⟨l.toArray⟩] := by simp [SL]
/-- The call hands back a slice of its own that holds these cells; of what was there nothing has changed. -/
def RetR (t : TypeId) (xs : List Value) (w : World) (e : Ending) (w' : World) : Prop := ∃ v, e = .returned v ∧ w'.ownsRow w.heap.size t 1 v xs.length xs ∧ Below w.heap.size w w'

theorem own_empty (w : World) (t : TypeId) : (w.alloc (Obj.cells #[] t)).ownsRow w.heap.size t 1 (.slice (some ⟨w.heap.size, 0, none⟩) 0 0) 0 [] :=
  ⟨rfl, Or.inr ⟨w.heap.size, 0, #[], rfl, Nat.le_refl _, heap_alloc_last w _, Nat.le_refl _, Nat.zero_le _, rfl, rfl⟩⟩
theorem own_part {w : World} {B : Nat} {t : TypeId} {v : Value} {n : Nat} {xs : List Value} (h : w.ownsRow B t 1 v n xs) : ∀ q, v.ownBlock = some q → B ≤ q := fun q hq => (h.lt q hq).1

/-- What stands of words at byte k: those that are done, where the open one began. -/
def WR (s : ByteArray) (k f : Nat) (done : List (List UInt8)) : Prop := f ≤ k ∧ done.length ≤ k ∧ wds [] s.data.toList = done ++ wds ((s.data.toList.take k).drop f) (s.data.toList.drop k)
theorem wr_start (s : ByteArray) : WR s 0 0 [] := ⟨Nat.le_refl _, Nat.le_refl _, rfl⟩
theorem drop_at (s : ByteArray) (k : Nat) (h : k < s.size) : s.data.toList.drop k = s[k] :: s.data.toList.drop (k + 1) := by
  rw [List.drop_eq_getElem_cons (by simpa using h)]; rfl
theorem wr_sep {s : ByteArray} {k f : Nat} {done : List (List UInt8)} (h : WR s k f done) (hk : k < s.size) (hb : Sep s[k]) : WR s (k + 1) (k + 1) (done ++ [(s.extract f k).data.toList]) := by
  obtain ⟨h1, h2, h3⟩ := h
  refine ⟨Nat.le_refl _, by rw [List.length_append]; simp; omega, ?_⟩
  rw [drop_at s k hk, wds, if_pos hb] at h3
  have e : (s.data.toList.take (k + 1)).drop (k + 1) = [] := List.drop_eq_nil_of_le (List.length_take_le _ _)
  rw [h3, Lib.extract_data, e, List.drop_take, List.append_assoc, List.singleton_append]
theorem wr_no {s : ByteArray} {k f : Nat} {done : List (List UInt8)} (h : WR s k f done) (hk : k < s.size) (hb : ¬ Sep s[k]) : WR s (k + 1) f done := by
  obtain ⟨h1, h2, h3⟩ := h
  refine ⟨by omega, by omega, ?_⟩
  rw [drop_at s k hk, wds, if_neg hb] at h3
  rw [h3, take_snoc s k hk, List.drop_append_of_le_length (by rw [List.length_take, ← Lib.size_eq]; omega)]
theorem wr_end {s : ByteArray} {f : Nat} {done : List (List UInt8)} (h : WR s s.size f done) : wds [] s.data.toList = done := by
  have e : s.data.toList.drop s.size = [] := List.drop_eq_nil_of_le (by rw [← Lib.size_eq]; exact Nat.le_refl _)
  rw [h.2.2, e, wds, List.append_nil]

set_option maxHeartbeats 4000000 in
set_option maxRecDepth 20000 in
theorem words_any (s : ByteArray) (hs : s.size ≤ 3000) (w : World) : Calls Tryz.prog 14 #[.string s] w (RetR 9 (SL (wds [] s.data.toList)) w) := by
  obtain ⟨i0, hi, hz0, hz1, hz2⟩ := info_parts info_str
  go_enter Tryz.func14, Tryz.ntmps14
  go_wp2
  go_loopw [3, 4, 5] (fun ov fv iv wr => ∃ (k f : Nat) (done : List (List UInt8)), k ≤ s.size ∧ iv = .int .i64 k ∧ fv = .int .i64 f ∧ WR s k f done ∧ wr.ownsRow w.heap.size 9 1 ov done.length (SL done) ∧ Below w.heap.size w wr) (fun _ _ iv _ => s.size - (intOf iv).toNat)
  case atStart =>
    exact ⟨0, 0, [], Nat.zero_le _, rfl, rfl, wr_start s, own_empty w 9, b_alloc (Below.refl _ _)⟩
  case round =>
    obtain ⟨k, f, done, hk, rfl, rfl, hw, hown, hb⟩ := hrel
    have hsz := hb.size
    have hfk := hw.1
    have hdk := hw.2.1
    have e5 : IntKind.i64.wrap ((k : Int) + 1) = (k : Int) + 1 := by rw [IntKind.wrap_i64]; omega
    by_cases hlt : k < s.size
    · by_cases hs : Sep s[k]
      · obtain ⟨d, hd⟩ : ∃ d, s.extract f k = d := ⟨_, rfl⟩
        have hn := wr_sep hw hlt hs
        rw [hd] at hn
        have HW := Lib.hid hn
        have HO := Lib.hid hown
        have HB := Lib.hid hb
        clear hw hn hown hb
        rcases (show s[k].toNat = 32 ∨ (¬ s[k].toNat = 32 ∧ s[k].toNat = 10) by rcases hs with h | h <;> rw [h] <;> decide) with q | ⟨q1, q2⟩
        · have f1 : ((s[k].toNat : Int) == 32) = true := by rw [beq_iff_eq]; omega
          clear q hs
          go_wp2_with (at_builtin; refine wpList_append_own _ rfl _ _ 40 rfl w.heap.size 9 i0 (.string ByteArray.empty) 1 16 Tryz.underlying40 hi hz0 hz1 hz2 rfl (by decide) _ _ _ rfl (HO.out.alloc _) ⟨wr.heap.size, 0, none⟩ 1 1 [.string d] rfl rfl (cell_one_new _ _ _) (fun x hx => by simp at hx; subst hx; rfl) (by unfold maxLen; omega) (by omega) (by simp; omega) ?_; intro v' w3 hown' hgrow3 hnil3)
          have hB3 := Below.grown (b_alloc HB.out) hgrow3 (by simp; omega) (own_part HO.out)
          have HO3 := Lib.hid hown'
          have HB3 := Lib.hid hB3
          clear hown' hgrow3 hnil3 hB3
          go_wp2
          go_roundw
          case rel => exact ⟨k + 1, k + 1, done ++ [d.data.toList], by omega, by go_num, by go_num, HW.out, by rw [sl_snoc, List.length_append]; exact HO3.out, HB3.out⟩
          case measure => simp [intOf]; omega
        · have f1 : ((s[k].toNat : Int) == 32) = false := by rw [beq_eq_false_iff_ne]; omega
          have f2 : ((s[k].toNat : Int) == 10) = true := by rw [beq_iff_eq]; omega
          clear q1 q2 hs
          go_wp2_with (at_builtin; refine wpList_append_own _ rfl _ _ 40 rfl w.heap.size 9 i0 (.string ByteArray.empty) 1 16 Tryz.underlying40 hi hz0 hz1 hz2 rfl (by decide) _ _ _ rfl (HO.out.alloc _) ⟨wr.heap.size, 0, none⟩ 1 1 [.string d] rfl rfl (cell_one_new _ _ _) (fun x hx => by simp at hx; subst hx; rfl) (by unfold maxLen; omega) (by omega) (by simp; omega) ?_; intro v' w3 hown' hgrow3 hnil3)
          have hB3 := Below.grown (b_alloc HB.out) hgrow3 (by simp; omega) (own_part HO.out)
          have HO3 := Lib.hid hown'
          have HB3 := Lib.hid hB3
          clear hown' hgrow3 hnil3 hB3
          go_wp2
          go_roundw
          case rel => exact ⟨k + 1, k + 1, done ++ [d.data.toList], by omega, by go_num, by go_num, HW.out, by rw [sl_snoc, List.length_append]; exact HO3.out, HB3.out⟩
          case measure => simp [intOf]; omega
      · have hn := wr_no hw hlt hs
        have q : ¬ s[k].toNat = 32 ∧ ¬ s[k].toNat = 10 := ⟨fun h => hs (Or.inl (UInt8.toNat_inj.1 h)), fun h => hs (Or.inr (UInt8.toNat_inj.1 h))⟩
        have f1 : ((s[k].toNat : Int) == 32) = false := by rw [beq_eq_false_iff_ne]; omega
        have f2 : ((s[k].toNat : Int) == 10) = false := by rw [beq_eq_false_iff_ne]; omega
        have HW := Lib.hid hn
        have HO := Lib.hid hown
        have HB := Lib.hid hb
        clear hw hn hown hb q hs
        go_wp2
        go_roundw
        case rel => exact ⟨k + 1, f, done, by omega, by go_num, rfl, HW.out, HO.out, HB.out⟩
        case measure => simp [intOf]; omega
    · obtain rfl : k = s.size := by omega
      have HE := Lib.hid (wr_end hw)
      clear hw
      go_wp2
      go_ret
      exact ⟨u3, rfl, by rw [HE.out, sl_len]; exact hown, hb⟩
end Go.Proofs.YtjaccedpkkcjnaaGreatDoor

