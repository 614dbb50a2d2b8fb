/- Layer 14: what the library's calls need of the package-level variables, and what they answer here: strings.CutPrefix, ParseInt, FormatInt, AppendInt, Contains, HasSuffix. -/
import Derived.Test.YtjaccedpkkcjnaaGreatDoorShelf
import Derived.Test.YtjaccedpkkcjnaaGreatDoorParA
import Derived.Test.YtjaccedpkkcjnaaGreatDoorParC
import Derived.Test.YtjaccedpkkcjnaaGreatDoorWideA
import Derived.Lib.AppendIntMem
import Derived.Lib.ItoaLen
import Derived.Lib.Slices
namespace Go.Proofs.YtjaccedpkkcjnaaGreatDoor
open Go.RowKit Go.Shelf Go.Lib

/-- Above the four variables that are read. -/
def GN : Nat := max (max (0 + 1) (1 + 1)) (max (2 + 1) (3 + 1))
theorem gTab : Tryz.prog.globalNamed "internal/strconv.uint64pow10" = some 1 := by kernel_rfl
theorem gSyn : Tryz.prog.globalNamed "strconv.ErrSyntax" = some 2 := by kernel_rfl
theorem gRan : Tryz.prog.globalNamed "strconv.ErrRange" = some 3 := by kernel_rfl
/-- What the variables hold. -/
def Vars (w : World) : Prop :=
  (∃ m, w.cell? ⟨0, 0, none⟩ = some (.int .i64 m)) ∧ Lib.TabIs Tryz.prog w "internal/strconv.uint64pow10" .u64 Lib.pow10Tab ∧
  (∃ tp p, w.var? Tryz.prog "strconv.ErrSyntax" = some #[.iface tp p]) ∧ ∃ tp p, w.var? Tryz.prog "strconv.ErrRange" = some #[.iface tp p]
/-- They hold it, whatever is done from GN on. -/
def EV (w : World) : Prop := GN ≤ w.heap.size ∧ ∀ w', Below GN w w' → Vars w'
theorem var_keep {w w' : World} {name : String} {g : Nat} (hg : Tryz.prog.globalNamed name = some g) (hl : g < GN) (hb : Below GN w w') : w'.var? Tryz.prog name = w.var? Tryz.prog name := by
  unfold World.var?
  rw [hg]
  simp only [Option.bind_some]
  rw [hb.block g hl]
theorem ev_of {w : World} (h : Vars w) : EV w := by
  have lt : ∀ {name : String} {g : Nat} {x : Array Value}, Tryz.prog.globalNamed name = some g → w.var? Tryz.prog name = some x → g < w.heap.size := by
    intro name g x hg hv
    unfold World.var? at hv
    rw [hg] at hv
    simp only [Option.bind_some] at hv
    rcases Nat.lt_or_ge g w.heap.size with h' | h'
    · exact h'
    · rw [Array.getElem?_eq_none h'] at hv
      cases hv
  have v := h
  obtain ⟨⟨m, hm⟩, ht, ⟨t1, p1, h1⟩, ⟨t2, p2, h2⟩⟩ := h
  have l0 : 0 < w.heap.size := World.block_lt_of_cell? w _ hm
  have l1 := lt gTab ht
  have l2 := lt gSyn h1
  have l3 := lt gRan h2
  refine ⟨by unfold GN; omega, fun w' hb => ?_⟩
  have g0 : 0 < GN := by unfold GN; omega
  have g1 : 1 < GN := by unfold GN; omega
  have g2 : 2 < GN := by unfold GN; omega
  have g3 : 3 < GN := by unfold GN; omega
  refine ⟨⟨m, (hb.cell (p := ⟨_, 0, none⟩) g0).trans hm⟩, ?_, ⟨t1, p1, (var_keep gSyn g2 hb).trans h1⟩, ⟨t2, p2, (var_keep gRan g3 hb).trans h2⟩⟩
  unfold Lib.TabIs at ht ⊢
  exact (var_keep gTab g1 hb).trans ht
theorem EV.here {w : World} (h : EV w) : Vars w := h.2 w (Below.refl _ _)
theorem ev_on {w w' : World} (h : EV w) (hb : Below GN w w') : EV w' := ⟨Nat.le_trans h.1 hb.size, fun w2 h2 => h.2 w2 (hb.trans h2)⟩
theorem ev_keep {w w' : World} (hb : Below w.heap.size w w') (h : EV w) : EV w' := ev_on h (hb.mono h.1)
theorem ev_set {w : World} {b o : Nat} {v : Value} (h : EV w) (hb : GN ≤ b) : EV (w.setCell ⟨b, o, none⟩ v) := ev_on h ((Below.refl _ _).setCell hb v)
theorem ev_alloc {w : World} {o : Obj} (h : EV w) : EV (w.alloc o) := ev_keep (b_alloc (Below.refl _ _)) h
theorem ev_tab {w : World} (h : EV w) {B : Nat} (hB : GN ≤ B) : Lib.TabBelow Tryz.prog B w "internal/strconv.uint64pow10" .u64 Lib.pow10Tab := fun w' hb => (h.2 w' (hb.mono hB)).2.1

/- What the library answers. -/

theorem bytes_ext {s t : ByteArray} (h : s.data.toList = t.data.toList) : s = t := by
  rw [← Lib.mk_data s, ← Lib.mk_data t, h]
theorem mk_list (l : List UInt8) : (⟨l.toArray⟩ : ByteArray).data.toList = l := by simp

theorem cut_ok (s p : ByteArray) (r : List UInt8) (w : World) (h : s.data.toList = p.data.toList ++ r) :
    Calls Tryz.prog 61 #[.string s, .string p] w fun e w' => e = .returned (.tuple #[.string ⟨r.toArray⟩, .bool true]) ∧ w' = w := by
  have hp : Lib.hasPrefix s.data.toList p.data.toList = true := by
    unfold Lib.hasPrefix
    rw [h]
    simp
  have ht : Lib.trimPrefix s.data.toList p.data.toList = r := by
    unfold Lib.trimPrefix
    rw [if_pos hp, h]
    simp
  refine (Tryz.strings_CutPrefix s p w).mono fun e w' ⟨he, hw⟩ => ⟨?_, hw⟩
  rw [he, hp, ht]
theorem cut_bad (s p : ByteArray) (w : World) (h : ∀ r, s.data.toList ≠ p.data.toList ++ r) :
    Calls Tryz.prog 61 #[.string s, .string p] w fun e w' => ∃ x, e = .returned (.tuple #[.string x, .bool false]) ∧ w' = w := by
  have hp : Lib.hasPrefix s.data.toList p.data.toList = false := by
    rw [Bool.eq_false_iff]
    intro h1
    unfold Lib.hasPrefix at h1
    rw [List.isPrefixOf_iff_prefix] at h1
    obtain ⟨t, ht⟩ := h1
    exact h t ht.symm
  refine (Tryz.strings_CutPrefix s p w).mono fun e w' ⟨he, hw⟩ => ⟨⟨(Lib.trimPrefix s.data.toList p.data.toList).toArray⟩, ?_, hw⟩
  rw [he, hp]

theorem below_bytes (w : World) (t : TypeId) (s : ByteArray) : Below w.heap.size w (Lib.bytesWorld w t s) := by
  exact Lib.bytesWorld_below w t s

theorem parse_ok (s : ByteArray) (v : Int) (w : World) (hs : s.size ≤ 3000) (h : Lib.parseIntB 64 s.data.toList = .ok v) :
    Calls Tryz.prog 63 #[.string s, .int .i64 10, .int .i64 64] w (RetV (.tuple #[.int .i64 v, .nilIface]) w) := by
  refine (Tryz.strconv_ParseInt_10_at64_ok s (by omega) v h w).mono fun e w' ⟨he, hw⟩ => ⟨he, ?_⟩
  rcases hw with rfl | ⟨t, rfl⟩
  · exact Below.refl _ _
  · exact below_bytes _ _ _
theorem parse_bad (s : ByteArray) (w : World) (hs : s.size ≤ 3000) (ev : EV w) (h : ∀ v, Lib.parseIntB 64 s.data.toList ≠ .ok v) :
    Calls Tryz.prog 63 #[.string s, .int .i64 10, .int .i64 64] w fun e w' => ∃ x N, e = .returned (.tuple #[.int .i64 x, .iface 116 (.pointer (some ⟨N, 0, none⟩))]) ∧ Below w.heap.size w w' := by
  obtain ⟨_, _, ⟨t1, p1, h1⟩, ⟨t2, p2, h2⟩⟩ := ev.here
  by_cases hr : Lib.parseIntB 64 s.data.toList = .range
  · exact (Tryz.strconv_ParseInt_10_at64_range_var s (by omega) hr t2 p2 w h2).mono fun e w' ⟨N, he, _, _, hb⟩ => ⟨_, N, he, hb⟩
  · exact (Tryz.strconv_ParseInt_10_at64_syntax_var s (by omega) h hr t1 p1 w h1).mono fun e w' ⟨N, he, _, _, hb⟩ => ⟨_, N, he, hb⟩

theorem format_int (v : Int) (w : World) (hv : R64 v) (ev : EV w) : Calls Tryz.prog 64 #[.int .i64 v, .int .i64 10] w (RetV (.string ⟨(Lib.itoa v).toArray⟩) w) :=
  (Tryz.strconv_FormatInt_10 v hv.1 hv.2 w ev.here.2.1).mono fun e w' ⟨he, k, os, hw⟩ => ⟨he, by rw [hw]; exact Lib.below_grow _ w (Nat.le_refl _) k os⟩

theorem append_int (B n : Nat) (i : Int) (sv : Value) (xs : List Value) (w : World) (hi : R64 i) (ev : EV w) (hB : GN ≤ B) (hBw : B ≤ w.heap.size) (hown : w.ownsRow B 5 1 sv n xs) (hlim : n ≤ 3000) :
    Calls Tryz.prog 23 #[sv, .int .i64 i, .int .i64 10] w fun e w' => ∃ v', e = .returned v' ∧ w'.ownsRow B 5 1 v' (n + (Lib.itoa i).length) (xs ++ Lib.byteCells (Lib.itoa i)) ∧ Below B w w' :=
  (Tryz.strconv_AppendInt_10 B n i hi.1 hi.2 sv xs w hown hBw (by omega) (ev_tab ev hB)).mono fun e w' ⟨v', he, ho, hb, _⟩ => ⟨v', he, ho, hb⟩

theorem contains_any (s sub : ByteArray) (w : World) (ev : EV w) (hs : s.size ≤ 3000) :
    Calls Tryz.prog 12 #[.string s, .string sub] w (RetV (.bool (Lib.contains s.data.toList sub.data.toList)) w) := by
  obtain ⟨⟨m, hm⟩, _⟩ := ev.here
  exact (Tryz.strings_Contains s sub m w (by omega) hm).mono fun e w' ⟨he, hw⟩ => ⟨he, by rw [hw]; exact Below.refl _ _⟩
theorem suffix_any (s sub : ByteArray) (w : World) (hs : s.size ≤ 3000) :
    Calls Tryz.prog 13 #[.string s, .string sub] w (RetV (.bool (Lib.hasSuffix s.data.toList sub.data.toList)) w) :=
  (Tryz.strings_HasSuffix s sub w (by omega)).mono fun e w' ⟨he, hw⟩ => ⟨he, by rw [hw]; exact Below.refl _ _⟩
end Go.Proofs.YtjaccedpkkcjnaaGreatDoor
