/- Layer 14: where the first blank or line feed of a text stands: strings.IndexAny at these two, whatever the text's bytes. -/
import Derived.Test.YtjaccedpkkcjnaaGreatDoorShelf
import Derived.Test.YtjaccedpkkcjnaaGreatDoorWideA
import Derived.Test.YtjaccedpkkcjnaaGreatDoorParA
import Derived.Deep.LoopGhost
import Derived.BigQuiet
import Derived.Deep.QuietTactic
import Derived.Laws.RangeAny
import Derived.Laws.Runes
import Derived.Lib.OthersKept
import Derived.Lib.Hide
import Derived.Lib.TrimU
import Derived.WalkSpells
import Derived.Outline
import Derived.WalkLawsBesides
namespace Go.Proofs.YtjaccedpkkcjnaaGreatDoor
open Go.RowKit Go.Shelf Go.Lib

/-- A rune of two bytes or more as text. -/
theorem enc_more (r : Int) (h : 128 ≤ r) : (∃ a b : UInt8, Utf8.encode r = ⟨#[a, b]⟩ ∧ 128 ≤ b.toNat) ∨ (∃ a b c : UInt8, Utf8.encode r = ⟨#[a, b, c]⟩) ∨ (∃ a b c d : UInt8, Utf8.encode r = ⟨#[a, b, c, d]⟩) := by
  unfold Utf8.encode
  simp only
  have h0 : ¬ (if Utf8.valid r then r.toNat else Utf8.runeError) < 128 := by
    split
    · omega
    · decide
  generalize (if Utf8.valid r then r.toNat else Utf8.runeError) = c at h0
  rw [if_neg h0]
  split
  · refine Or.inl ⟨_, _, rfl, ?_⟩
    simp
    omega
  · split
    · exact Or.inr (Or.inl ⟨_, _, _, rfl⟩)
    · exact Or.inr (Or.inr ⟨_, _, _, _, rfl⟩)

/-- What stands behind a rune's first byte. -/
theorem dec_cont (s : ByteArray) (pos j : Nat) (h : j < (Utf8.decode s pos).2) (h1 : 1 ≤ j) : 128 ≤ (s.get! (pos + j)).toNat := by
  unfold Utf8.decode at h
  simp only at h
  split at h
  · omega
  · split at h
    · rename_i g
      simp only [Bool.and_eq_true, beq_iff_eq, decide_eq_true_eq] at g
      split at h
      · obtain rfl : j = 1 := by simp only at h; omega
        omega
      · simp only at h; omega
    · split at h
      · rename_i g
        simp only [Bool.and_eq_true, beq_iff_eq, decide_eq_true_eq] at g
        split at h
        · simp only at h
          rcases (show j = 1 ∨ j = 2 by omega) with rfl | rfl <;> omega
        · simp only at h; omega
      · split at h
        · rename_i g
          simp only [Bool.and_eq_true, beq_iff_eq, decide_eq_true_eq] at g
          split at h
          · simp only at h
            rcases (show j = 1 ∨ j = 2 ∨ j = 3 by omega) with rfl | rfl | rfl <;> omega
          · simp only at h; omega
        · simp only at h; omega

/-- The blank and the line feed. -/
abbrev bl : ByteArray := ⟨#[32, 10]⟩

theorem b_iter (w : World) (s : ByteArray) (pos : Nat) : Below w.heap.size w (w.iter s pos) := (Below.refl _ _).alloc (Nat.le_refl _) _

set_option maxHeartbeats 2000000 in
set_option maxRecDepth 100000 in
theorem rune_error (w : World) : Calls Tryz.prog 74 #[.string bl, .int .i32 65533] w (RetV (.int .i64 (-1)) w) := by
  have h0 : bl.size = 2 := rfl
  have n0 := fun ty => run_next_ascii (P := Tryz.prog) w bl 0 ty (by decide) (by decide)
  have n1 := fun ty => run_next_ascii (P := Tryz.prog) w bl 1 ty (by decide) (by decide)
  have n2 := fun ty => run_next_end (P := Tryz.prog) w bl 2 ty (by decide)
  have e0 : bl[0].toNat = 32 := rfl
  have e1 : bl[1].toNat = 10 := rfl
  rw [e0] at n0
  rw [e1] at n1
  clear e0 e1 h0
  go_enter Tryz.func74, Tryz.ntmps74
  go_wp2
  refine wp_loop_rounds 3 ?_
  rw [rounds_succ]
  go_wp2
  rw [rounds_succ]
  go_wp2
  rw [rounds_succ]
  go_wp2
  go_ret
  exact ⟨rfl, b_iter _ _ _⟩

set_option maxHeartbeats 2000000 in
set_option maxRecDepth 100000 in
theorem rune_more (r : Int) (w : World) (h : 128 ≤ r) (h1 : r ≤ 1114111) (hn : r ≠ 65533) : Calls Tryz.prog 74 #[.string bl, .int .i32 r] w (RetV (.int .i64 (-1)) w) := by
  have h0 : bl.size = 2 := rfl
  have hl : ¬ r < 128 := by omega
  have hp : 0 ≤ r := by omega
  rcases enc_more r h with ⟨a, b, e, hb⟩ | ⟨a, b, c, e⟩ | ⟨a, b, c, d, e⟩
  · have hb1 : ((10 : Int) == (b.toNat : Int)) = false := beq_eq_false_iff_ne.2 (by omega)
    have k2 : IntKind.i64.wrap 2 = 2 := by decide
    have cI : ∀ w, Calls Tryz.prog 89 #[.string ByteArray.empty, .int .u8 (b.toNat : Int)] w fun e w' => e = .returned (.int .i64 (-1)) ∧ w' = w := fun w => Tryz.strings_IndexByte ByteArray.empty (b.toNat : Int) w
    have hb2 : ((10 : Int) = (b.toNat : Int)) = False := eq_false (by omega)
    have g1 : bl[1].toNat = 10 := rfl
    have g2 : ((⟨#[a, b]⟩ : ByteArray)[1]'(show (1 : Nat) < 2 by decide)).toNat = b.toNat := rfl
    have g3 : (⟨#[a, b]⟩ : ByteArray).size = 2 := rfl
    go_enter Tryz.func74, Tryz.ntmps74
    go_wp2_with (go_at_call 90; refine (Tryz.utf8_ValidRune _ _).mono ?_; rintro e w' ⟨rfl, rfl⟩)
    · go_ret
      exact ⟨rfl, Below.refl _ _⟩
    · go_step3
      go_wp2
      refine wp_loop_rounds 1 ?_
      rw [rounds_succ]
      go_wp2
      go_step3
      go_wp2
      go_quiet (fail)
      go_wp2
      have hq : Below w'.heap.size w' (w'.drewN nq) := ⟨rfl, rfl, rfl, Nat.le_refl _, fun _ _ => rfl⟩
      have HQ := Lib.hid hq
      clear hq
      generalize w'.drewN nq = wq at *
      go_quiet ((go_at_call 89; exact Calls.quiet_of_same (cI _)))
      go_wp2
      rw [Exit.noGoto_ret]
      go_ret
      exact ⟨rfl, HQ.out.trans ⟨rfl, rfl, rfl, Nat.le_refl _, fun _ _ => rfl⟩⟩
  · go_enter Tryz.func74, Tryz.ntmps74
    go_wp2_with (go_at_call 90; refine (Tryz.utf8_ValidRune _ _).mono ?_; rintro e w' ⟨rfl, rfl⟩)
    · go_ret
      exact ⟨rfl, Below.refl _ _⟩
    · go_step3
      go_wp2
      refine wp_loop_rounds 1 ?_
      rw [rounds_succ]
      go_wp2
      rw [Exit.noGoto_ret]
      go_ret
      exact ⟨rfl, Below.refl _ _⟩
  · go_enter Tryz.func74, Tryz.ntmps74
    go_wp2_with (go_at_call 90; refine (Tryz.utf8_ValidRune _ _).mono ?_; rintro e w' ⟨rfl, rfl⟩)
    · go_ret
      exact ⟨rfl, Below.refl _ _⟩
    · go_step3
      go_wp2
      refine wp_loop_rounds 1 ?_
      rw [rounds_succ]
      go_wp2
      rw [Exit.noGoto_ret]
      go_ret
      exact ⟨rfl, Below.refl _ _⟩

theorem rune_high (r : Int) (w : World) (h : 128 ≤ r) (h1 : r ≤ 1114111) : Calls Tryz.prog 74 #[.string bl, .int .i32 r] w (RetV (.int .i64 (-1)) w) := by
  by_cases hn : r = 65533
  · subst hn
    exact rune_error w
  · exact rune_more r w h h1 hn
theorem rune_low (x : UInt8) (w : World) (h : x.toNat < 128) (hs : ¬ Sep x) : Calls Tryz.prog 74 #[.string bl, .int .i32 x.toNat] w (RetV (.int .i64 (-1)) w) :=
  (Tryz.strings_IndexRune_ascii bl x.toNat w (by omega) (by omega)).mono fun e w' ⟨he, hw⟩ => by
    subst hw
    refine ⟨?_, Below.refl _ _⟩
    rw [he]
    have e1 : ((x.toNat : Int)).toNat.toUInt8 = x := by simp
    rw [e1]
    have e2 : Lib.indexByte [32, 10] x = -1 := by
      have a1 : ¬ (32 : UInt8) = x := fun e => hs (Or.inl e.symm)
      have a2 : ¬ (10 : UInt8) = x := fun e => hs (Or.inr e.symm)
      simp [Lib.indexByte, a1, a2]
    exact congrArg (fun z => Ending.returned (.int .i64 z)) e2
theorem rune_sep (x : UInt8) (w : World) (hs : Sep x) : Calls Tryz.prog 74 #[.string bl, .int .i32 x.toNat] w fun e w' => ∃ k : Int, 0 ≤ k ∧ e = .returned (.int .i64 k) ∧ w' = w := by
  refine (Tryz.strings_IndexRune_ascii bl x.toNat w (by omega) (by rcases hs with rfl | rfl <;> decide)).mono fun e w' ⟨he, hw⟩ => ⟨_, ?_, he, hw⟩
  rcases hs with rfl | rfl <;> decide
theorem sep_in (x : UInt8) : ([32, 10] : List UInt8).contains x = true ↔ Sep x := by simp [Sep]
theorem sep_out (x : UInt8) : ([32, 10] : List UInt8).contains x = false ↔ ¬ Sep x := by rw [← sep_in]; simp

/-- The bytes of a rune that is no ASCII are no separators. -/
theorem rune_nosep (s : ByteArray) (pos j : Nat) (hp : pos < s.size) (h0 : 128 ≤ (s[pos]'hp).toNat) (hj : pos ≤ j) (hk : j < pos + (Utf8.decode s pos).2) (x : UInt8) (hx : s.data.toList[j]? = some x) : ¬ Sep x := by
  have hlt : j < s.size := by
    have := (List.getElem?_eq_some_iff.1 hx).1
    rw [← Lib.size_eq] at this
    exact this
  have e : s[j]'hlt = x := by
    have := Lib.data_getElem? s j hlt
    rw [this] at hx
    exact Option.some.inj hx
  have h128 : 128 ≤ x.toNat := by
    by_cases hj0 : j = pos
    · subst hj0; rw [← e]; exact h0
    · have := dec_cont s pos (j - pos) (by omega) (by omega)
      rw [show pos + (j - pos) = j by omega] at this
      have g : s.get! j = s[j]'hlt := by simpa using get_at s j hlt
      rw [g, e] at this
      exact this
  rintro (rfl | rfl) <;> revert h128 <;> decide

set_option maxHeartbeats 4000000 in
set_option maxRecDepth 100000 in
theorem index_short (s : ByteArray) (w : World) (h8 : s.size ≤ 8) : Calls Tryz.prog 62 #[.string s, .string bl] w (RetV (.int .i64 (Lib.indexAny s.data.toList [32, 10])) w) := by
  have hemp : bl.toList.isEmpty = false := by rw [Lib.toList_data]; rfl
  have hn1 : bl.size = 2 := rfl
  have h8z : decide ((8 : Int) < (s.size : Int)) = false := decide_eq_false (by omega)
  go_enter Tryz.func62, Tryz.ntmps62
  go_wp2_with (first | (go_at_call 75; refine (Tryz.strings_shouldUseASCIISet _ _).mono ?_; rintro e w' ⟨rfl, hw⟩; rw [hw, h8z]))
  go_loopg [9, 10] s.size (fun g _ _ wx => ∃ pos, s.size - pos ≤ g ∧ wx.heap[w.heap.size]? = some (.stringIter s pos) ∧ Below w.heap.size w wx ∧ Lib.NoAny s.data.toList [32, 10] pos)
  case atStart => exact ⟨0, by omega, by simp [World.iter_heap], b_iter _ _ _, Lib.NoAny.zero _ _⟩
  case round =>
    obtain ⟨pos, hg, hk, hb, hno⟩ := hrel
    have HN := Lib.hid hno
    have HB := Lib.hid hb
    clear hno hb
    by_cases hp : pos < s.size
    · obtain ⟨g, rfl⟩ : ∃ g, gk = g + 1 := ⟨gk - 1, by omega⟩
      have hkl : w.heap.size < wr.heap.size := (Array.getElem?_eq_some_iff.1 hk).1
      obtain ⟨x, hx⟩ : ∃ x : UInt8, s[pos]'hp = x := ⟨_, rfl⟩
      have hxl : s.data.toList[pos]? = some x := by rw [← hx]; exact Lib.data_getElem? s pos hp
      have HX := Lib.hid hxl
      clear hxl
      by_cases h128 : x.toNat < 128
      · have hnx := fun ty => run_next_ascii_at (P := Tryz.prog) wr w.heap.size s pos ty hk hp (by rw [hx]; exact h128)
        rw [hx] at hnx
        have k1 := Lib.iterAt_heap wr w.heap.size s pos (pos + 1) hk
        have hb1 := Lib.below_iterAt HB.out (Nat.le_refl w.heap.size) s (pos + 1)
        have hs1 := Lib.iterAt_size wr w.heap.size s (pos + 1)
        generalize wr.iterAt w.heap.size s (pos + 1) = w1 at *
        have HB1 := Lib.hid hb1
        have HK1 := Lib.hid k1
        have HS1 := Lib.hid hs1
        have HX0 := Lib.hid hx
        clear hb1 k1 hs1 hx
        by_cases hs : Sep x
        · go_wp2_with (first | (go_at_call 74; refine (rune_sep x _ hs).mono ?_; rintro e w2 ⟨k, hk0, rfl, hw2⟩))
          go_ret
          exact ⟨by rw [Lib.indexAny_hit HN.out HX.out ((sep_in x).2 hs)]; rfl, HB1.out⟩
        · go_wp2_with (first | (go_at_call 74; refine (rune_low x _ h128 hs).mono ?_; rintro e w2 ⟨rfl, hb2⟩))
          have hb2' := Lib.hid hb2
          clear hb2
          go_roundg g
          case measure => omega
          case rel =>
            refine ⟨pos + 1, by omega, ?_, ?_, HN.out.succ HX.out ((sep_out x).2 hs)⟩
            · rw [hb2'.out.block _ (by rw [HS1.out]; exact hkl)]; exact HK1.out
            · exact HB1.out.trans (hb2'.out.mono (by rw [HS1.out]; omega))
      · have hnx := fun ty => run_next_any_at (P := Tryz.prog) wr w.heap.size s pos ty hk hp
        have hwd := decode_high s pos hp (by rw [hx]; omega)
        have hle := Lib.rune_le s pos
        have hnn := rune_nosep s pos
        obtain ⟨rn, hrn⟩ : ∃ rn, (Utf8.decode s pos).1 = rn := ⟨_, rfl⟩
        obtain ⟨wd, hwd2⟩ : ∃ wd, (Utf8.decode s pos).2 = wd := ⟨_, rfl⟩
        rw [hrn, hwd2] at hnx
        rw [hrn, hwd2] at hwd
        rw [hrn] at hle
        rw [hwd2] at hnn
        have k1 := Lib.iterAt_heap wr w.heap.size s pos (pos + wd) hk
        have hb1 := Lib.below_iterAt HB.out (Nat.le_refl w.heap.size) s (pos + wd)
        have hs1 := Lib.iterAt_size wr w.heap.size s (pos + wd)
        generalize wr.iterAt w.heap.size s (pos + wd) = w1 at *
        have HB1 := Lib.hid hb1
        have HK1 := Lib.hid k1
        have HS1 := Lib.hid hs1
        have HX0 := Lib.hid hx
        have HR := Lib.hid hrn
        have HW := Lib.hid hwd2
        have HNN := Lib.hid hnn
        clear hb1 k1 hs1 hx hrn hwd2 hnn
        go_wp2_with (first | (go_at_call 74; refine (rune_high (rn : Int) _ (by omega) (by omega)).mono ?_; rintro e w2 ⟨rfl, hb2⟩))
        have hb2' := Lib.hid hb2
        clear hb2
        go_roundg g
        case measure => omega
        case rel =>
          refine ⟨pos + wd, by omega, ?_, ?_, fun j b hj hb => ?_⟩
          · rw [hb2'.out.block _ (by rw [HS1.out]; exact hkl)]; exact HK1.out
          · exact HB1.out.trans (hb2'.out.mono (by rw [HS1.out]; omega))
          · by_cases hjp : j < pos
            · exact HN.out j b hjp hb
            · exact (sep_out b).2 (HNN.out j hp (by rw [HX0.out]; omega) (by omega) (by omega) b hb)
    · have hnx := fun ty => run_next_end_at (P := Tryz.prog) wr w.heap.size s pos ty hk hp
      go_wp2
      go_ret
      exact ⟨by rw [Lib.indexAny_none (fun j b hj hb => HN.out j b (by rw [← Lib.size_eq] at hj; omega) hb)]; rfl, HB.out⟩

/-- Where the first blank or line feed of a text stands, whatever its bytes. -/
theorem index_any (s : ByteArray) (w : World) (hs : s.size < 4294967281) : Calls Tryz.prog 62 #[.string s, .string bl] w (RetV (.int .i64 (Lib.indexAny s.data.toList [32, 10])) w) := by
  by_cases h8 : s.size ≤ 8
  · exact index_short s w h8
  · refine (Tryz.strings_IndexAny_long (fun w => by kernel_rfl) s bl w (by decide) (by omega) hs (by decide) ?_).mono fun e w' ⟨he, hw⟩ => ⟨he, ?_⟩
    · intro j b hb
      match j, hb with
      | 0, hb => simp at hb; subst hb; decide
      | 1, hb => simp at hb; subst hb; decide
      | j + 2, hb => simp at hb
    · rw [hw]
      exact ((Below.refl _ _).alloc (Nat.le_refl _) _).alloc (by simp) _
end Go.Proofs.YtjaccedpkkcjnaaGreatDoor
