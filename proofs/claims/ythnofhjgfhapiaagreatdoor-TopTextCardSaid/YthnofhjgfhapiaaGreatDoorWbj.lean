import Derived.Test.YthnofhjgfhapiaaGreatDoorShelf
import Derived.Lib.ItoaNum
import Derived.Lib.ItoaLen
import Derived.Lib.AtoiAllCases
import Derived.Lib.ParseIntBTie
import Derived.Lib.IndexAny
import Derived.Deep.LoopGhost
import Derived.BigQuiet
import Derived.Deep.QuietTactic
import Derived.Laws.RangeAny
import Derived.Laws.Runes
import Derived.Lib.OthersKept
import Derived.Lib.Hide
import Derived.Lib.TrimU
import Derived.WalkSpells
import Derived.Outline
import Derived.WalkLawsBesides
import Derived.Test.YthnofhjgfhapiaaGreatDoorWaa
import Derived.StillTactics
import Derived.Laws.Pointers
import Derived.Deep.RegionHeld3
import Derived.RowKit3
import Derived.Lib.QuietBelow
import Derived.Laws.Bits64b
import Derived.Test.YthnofhjgfhapiaaGreatDoorProg
import Derived.Shelf.Spec.BitsCarry
import Derived.Shelf.Bits.Mul64
import Derived.WalkKit
import Derived.Test.YthnofhjgfhapiaaGreatDoorWbi
import Derived.Lib.AppendIntMem
import Derived.Lib.Slices
set_option maxHeartbeats 4000000
set_option maxRecDepth 100000
namespace Go.Proofs.YthnofhjgfhapiaaGreatDoor
open Go.RowKit Go.Shelf Go.Lib
abbrev bl:ByteArray:=⟨#[32,10]⟩
end Go.Proofs.YthnofhjgfhapiaaGreatDoor
namespace Go.Proofs.YthnofhjgfhapiaaGreatDoor
open Go.RowKit Go.Shelf Go.Lib
theorem enc_more (r:Int) (h:128≤r):(∃ a b:UInt8,Utf8.encode r=⟨#[a,b]⟩∧128≤b.toNat)∨(∃ a b c:UInt8,Utf8.encode r=⟨#[a,b,c]⟩)∨(∃ a b c d:UInt8,Utf8.encode r=⟨#[a,b,c,d]⟩):=by
 unfold Utf8.encode
 simp only
 have h0:¬ (if Utf8.valid r then r.toNat else Utf8.runeError)<128:=by
  split
  ·omega
  ·decide
 generalize (if Utf8.valid r then r.toNat else Utf8.runeError)=c at h0
 rw [if_neg h0]
 split
 ·refine Or.inl ⟨_,_,rfl,?_⟩
  simp
  omega
 ·split
  ·exact Or.inr (Or.inl ⟨_,_,_,rfl⟩)
  ·exact Or.inr (Or.inr ⟨_,_,_,_,rfl⟩)
theorem dec_cont (s:ByteArray) (pos j:Nat) (h:j<(Utf8.decode s pos).2) (h1:1≤j):128≤(s.get! (pos+j)).toNat:=by
 unfold Utf8.decode at h
 simp only at h
 split at h
 ·omega
 ·split at h
  ·rename_i g
   simp only [Bool.and_eq_true,beq_iff_eq,decide_eq_true_eq] at g
   split at h
   ·obtain rfl:j=1:=by simp only at h; omega
    omega
   ·simp only at h; omega
  ·split at h
   ·rename_i g
    simp only [Bool.and_eq_true,beq_iff_eq,decide_eq_true_eq] at g
    split at h
    ·simp only at h
     rcases (show j=1∨j=2 by omega) with rfl | rfl <;> omega
    ·simp only at h; omega
   ·split at h
    ·rename_i g
     simp only [Bool.and_eq_true,beq_iff_eq,decide_eq_true_eq] at g
     split at h
     ·simp only at h
      rcases (show j=1∨j=2∨j=3 by omega) with rfl | rfl | rfl <;> omega
     ·simp only at h; omega
    ·simp only at h; omega
theorem b_iter (w:World) (s:ByteArray) (pos:Nat):Below w.heap.size w (w.iter s pos):=(Below.refl _ _).alloc (Nat.le_refl _) _
theorem rune_error (w:World):Calls Tryz.prog 156 #[.string bl,.int .i32 65533] w (RetV (.int .i64 (-1)) w):=by
 have h0:bl.size=2:=rfl
 have n0:=fun ty=>run_next_ascii (P:=Tryz.prog) w bl 0 ty (by decide) (by decide)
 have n1:=fun ty=>run_next_ascii (P:=Tryz.prog) w bl 1 ty (by decide) (by decide)
 have n2:=fun ty=>run_next_end (P:=Tryz.prog) w bl 2 ty (by decide)
 have e0:bl[0].toNat=32:=rfl
 have e1:bl[1].toNat=10:=rfl
 rw [e0] at n0
 rw [e1] at n1
 clear e0 e1 h0
 go_enter Tryz.func156,Tryz.ntmps156
 go_wp2
 refine wp_loop_rounds 3 ?_
 rw [rounds_succ]
 go_wp2
 rw [rounds_succ]
 go_wp2
 rw [rounds_succ]
 go_wp2
 go_ret
 exact ⟨rfl,b_iter _ _ _⟩
theorem rune_more (r:Int) (w:World) (h:128≤r) (h1:r≤1114111) (hn:r≠65533):Calls Tryz.prog 156 #[.string bl,.int .i32 r] w (RetV (.int .i64 (-1)) w):=by
 have h0:bl.size=2:=rfl
 have hl:¬ r<128:=by omega
 have hp:0≤r:=by omega
 rcases enc_more r h with ⟨a,b,e,hb⟩ | ⟨a,b,c,e⟩ | ⟨a,b,c,d,e⟩
 ·have hb1:((10:Int) == (b.toNat:Int))=false:=beq_eq_false_iff_ne.2 (by omega)
  have k2:IntKind.i64.wrap 2=2:=by decide
  have cI:∀ w,Calls Tryz.prog 179 #[.string ByteArray.empty,.int .u8 (b.toNat:Int)] w fun e w'=>e=.returned (.int .i64 (-1))∧w'=w:=fun w=>Tryz.strings_IndexByte ByteArray.empty (b.toNat:Int) w
  have hb2:((10:Int)=(b.toNat:Int))=False:=eq_false (by omega)
  have g1:bl[1].toNat=10:=rfl
  have g2:((⟨#[a,b]⟩:ByteArray)[1]'(show (1:Nat)<2 by decide)).toNat=b.toNat:=rfl
  have g3:(⟨#[a,b]⟩:ByteArray).size=2:=rfl
  go_enter Tryz.func156,Tryz.ntmps156
  go_wp2_with (go_at_call 180; refine (Tryz.utf8_ValidRune _ _).mono ?_; rintro e w' ⟨rfl,rfl⟩)
  ·go_ret
   exact ⟨rfl,Below.refl _ _⟩
  ·go_step3
   go_wp2
   refine wp_loop_rounds 1 ?_
   rw [rounds_succ]
   go_wp2
   go_step3
   go_wp2
   go_quiet (fail)
   go_wp2
   have hq:Below w'.heap.size w' (w'.drewN nq):=⟨rfl,rfl,rfl,Nat.le_refl _,fun _ _=>rfl⟩
   have HQ:=Lib.hid hq
   clear hq
   generalize w'.drewN nq=wq at *
   go_quiet ((go_at_call 179; exact Calls.quiet_of_same (cI _)))
   go_wp2
   rw [Exit.noGoto_ret]
   go_ret
   exact ⟨rfl,HQ.out.trans ⟨rfl,rfl,rfl,Nat.le_refl _,fun _ _=>rfl⟩⟩
 ·go_enter Tryz.func156,Tryz.ntmps156
  go_wp2_with (go_at_call 180; refine (Tryz.utf8_ValidRune _ _).mono ?_; rintro e w' ⟨rfl,rfl⟩)
  ·go_ret
   exact ⟨rfl,Below.refl _ _⟩
  ·go_step3
   go_wp2
   refine wp_loop_rounds 1 ?_
   rw [rounds_succ]
   go_wp2
   rw [Exit.noGoto_ret]
   go_ret
   exact ⟨rfl,Below.refl _ _⟩
 ·go_enter Tryz.func156,Tryz.ntmps156
  go_wp2_with (go_at_call 180; refine (Tryz.utf8_ValidRune _ _).mono ?_; rintro e w' ⟨rfl,rfl⟩)
  ·go_ret
   exact ⟨rfl,Below.refl _ _⟩
  ·go_step3
   go_wp2
   refine wp_loop_rounds 1 ?_
   rw [rounds_succ]
   go_wp2
   rw [Exit.noGoto_ret]
   go_ret
   exact ⟨rfl,Below.refl _ _⟩
theorem rune_high (r:Int) (w:World) (h:128≤r) (h1:r≤1114111):Calls Tryz.prog 156 #[.string bl,.int .i32 r] w (RetV (.int .i64 (-1)) w):=by
 by_cases hn:r=65533
 ·subst hn
  exact rune_error w
 ·exact rune_more r w h h1 hn
theorem rune_low (x:UInt8) (w:World) (h:x.toNat<128) (hs:¬ Sep x):Calls Tryz.prog 156 #[.string bl,.int .i32 x.toNat] w (RetV (.int .i64 (-1)) w) :=
 (Tryz.strings_IndexRune_ascii bl x.toNat w (by omega) (by omega)).mono fun e w' ⟨he,hw⟩=>by
  subst hw
  refine ⟨?_,Below.refl _ _⟩
  rw [he]
  have e1:((x.toNat:Int)).toNat.toUInt8=x:=by simp
  rw [e1]
  have e2:Lib.indexByte [32,10] x=-1:=by
   have a1:¬ (32:UInt8)=x:=fun e=>hs (Or.inl e.symm)
   have a2:¬ (10:UInt8)=x:=fun e=>hs (Or.inr e.symm)
   simp [Lib.indexByte,a1,a2]
  exact congrArg (fun z=>Ending.returned (.int .i64 z)) e2
theorem rune_sep (x:UInt8) (w:World) (hs:Sep x):Calls Tryz.prog 156 #[.string bl,.int .i32 x.toNat] w fun e w'=>∃ k:Int,0≤k∧e=.returned (.int .i64 k)∧w'=w:=by
 refine (Tryz.strings_IndexRune_ascii bl x.toNat w (by omega) (by rcases hs with rfl | rfl <;> decide)).mono fun e w' ⟨he,hw⟩=>⟨_,?_,he,hw⟩
 rcases hs with rfl | rfl <;> decide
theorem sep_in (x:UInt8):([32,10]:List UInt8).contains x=true↔Sep x:=by simp [Sep]
theorem sep_out (x:UInt8):([32,10]:List UInt8).contains x=false↔¬ Sep x:=by rw [← sep_in]; simp
theorem rune_nosep (s:ByteArray) (pos j:Nat) (hp:pos<s.size) (h0:128≤(s[pos]'hp).toNat) (hj:pos≤j) (hk:j<pos+(Utf8.decode s pos).2) (x:UInt8) (hx:s.data.toList[j]?=some x):¬ Sep x:=by
 have hlt:j<s.size:=by
  have:=(List.getElem?_eq_some_iff.1 hx).1
  rw [← Lib.size_eq] at this
  exact this
 have e:s[j]'hlt=x:=by
  have:=Lib.data_getElem? s j hlt
  rw [this] at hx
  exact Option.some.inj hx
 have h128:128≤x.toNat:=by
  by_cases hj0:j=pos
  ·subst hj0; rw [← e]; exact h0
  ·have:=dec_cont s pos (j - pos) (by omega) (by omega)
   rw [show pos+(j - pos)=j by omega] at this
   have g:s.get! j=s[j]'hlt:=by simpa using get_at s j hlt
   rw [g,e] at this
   exact this
 rintro (rfl | rfl) <;> revert h128 <;> decide
theorem index_short (s:ByteArray) (w:World) (h8:s.size≤8):Calls Tryz.prog 121 #[.string s,.string bl] w (RetV (.int .i64 (Lib.indexAny s.data.toList [32,10])) w):=by
 have hemp:bl.toList.isEmpty=false:=by rw [Lib.toList_data]; rfl
 have hn1:bl.size=2:=rfl
 have h8z:decide ((8:Int)<(s.size:Int))=false:=decide_eq_false (by omega)
 go_enter Tryz.func121,Tryz.ntmps121
 go_wp2_with (first | (go_at_call 157; refine (Tryz.strings_shouldUseASCIISet _ _).mono ?_; rintro e w' ⟨rfl,hw⟩; rw [hw,h8z]))
 go_loopg [9,10] s.size (fun g _ _ wx=>∃ pos,s.size - pos≤g∧wx.heap[w.heap.size]?=some (.stringIter s pos)∧Below w.heap.size w wx∧Lib.NoAny s.data.toList [32,10] pos)
 case atStart=>exact ⟨0,by omega,by simp [World.iter_heap],b_iter _ _ _,Lib.NoAny.zero _ _⟩
 case round =>
  obtain ⟨pos,hg,hk,hb,hno⟩:=hrel
  have HN:=Lib.hid hno
  have HB:=Lib.hid hb
  clear hno hb
  by_cases hp:pos<s.size
  ·obtain ⟨g,rfl⟩:∃ g,gk=g+1:=⟨gk - 1,by omega⟩
   have hkl:w.heap.size<wr.heap.size:=(Array.getElem?_eq_some_iff.1 hk).1
   obtain ⟨x,hx⟩:∃ x:UInt8,s[pos]'hp=x:=⟨_,rfl⟩
   have hxl:s.data.toList[pos]?=some x:=by rw [← hx]; exact Lib.data_getElem? s pos hp
   have HX:=Lib.hid hxl
   clear hxl
   by_cases h128:x.toNat<128
   ·have hnx:=fun ty=>run_next_ascii_at (P:=Tryz.prog) wr w.heap.size s pos ty hk hp (by rw [hx]; exact h128)
    rw [hx] at hnx
    have k1:=Lib.iterAt_heap wr w.heap.size s pos (pos+1) hk
    have hb1:=Lib.below_iterAt HB.out (Nat.le_refl w.heap.size) s (pos+1)
    have hs1:=Lib.iterAt_size wr w.heap.size s (pos+1)
    generalize wr.iterAt w.heap.size s (pos+1)=w1 at *
    have HB1:=Lib.hid hb1
    have HK1:=Lib.hid k1
    have HS1:=Lib.hid hs1
    have HX0:=Lib.hid hx
    clear hb1 k1 hs1 hx
    by_cases hs:Sep x
    ·go_wp2_with (first | (go_at_call 156; refine (rune_sep x _ hs).mono ?_; rintro e w2 ⟨k,hk0,rfl,hw2⟩))
     go_ret
     exact ⟨by rw [Lib.indexAny_hit HN.out HX.out ((sep_in x).2 hs)]; rfl,HB1.out⟩
    ·go_wp2_with (first | (go_at_call 156; refine (rune_low x _ h128 hs).mono ?_; rintro e w2 ⟨rfl,hb2⟩))
     have hb2':=Lib.hid hb2
     clear hb2
     go_roundg g
     case measure=>omega
     case rel =>
      refine ⟨pos+1,by omega,?_,?_,HN.out.succ HX.out ((sep_out x).2 hs)⟩
      ·rw [hb2'.out.block _ (by rw [HS1.out]; exact hkl)]; exact HK1.out
      ·exact HB1.out.trans (hb2'.out.mono (by rw [HS1.out]; omega))
   ·have hnx:=fun ty=>run_next_any_at (P:=Tryz.prog) wr w.heap.size s pos ty hk hp
    have hwd:=decode_high s pos hp (by rw [hx]; omega)
    have hle:=Lib.rune_le s pos
    have hnn:=rune_nosep s pos
    obtain ⟨rn,hrn⟩:∃ rn,(Utf8.decode s pos).1=rn:=⟨_,rfl⟩
    obtain ⟨wd,hwd2⟩:∃ wd,(Utf8.decode s pos).2=wd:=⟨_,rfl⟩
    rw [hrn,hwd2] at hnx
    rw [hrn,hwd2] at hwd
    rw [hrn] at hle
    rw [hwd2] at hnn
    have k1:=Lib.iterAt_heap wr w.heap.size s pos (pos+wd) hk
    have hb1:=Lib.below_iterAt HB.out (Nat.le_refl w.heap.size) s (pos+wd)
    have hs1:=Lib.iterAt_size wr w.heap.size s (pos+wd)
    generalize wr.iterAt w.heap.size s (pos+wd)=w1 at *
    have HB1:=Lib.hid hb1
    have HK1:=Lib.hid k1
    have HS1:=Lib.hid hs1
    have HX0:=Lib.hid hx
    have HR:=Lib.hid hrn
    have HW:=Lib.hid hwd2
    have HNN:=Lib.hid hnn
    clear hb1 k1 hs1 hx hrn hwd2 hnn
    go_wp2_with (first | (go_at_call 156; refine (rune_high (rn:Int) _ (by omega) (by omega)).mono ?_; rintro e w2 ⟨rfl,hb2⟩))
    have hb2':=Lib.hid hb2
    clear hb2
    go_roundg g
    case measure=>omega
    case rel =>
     refine ⟨pos+wd,by omega,?_,?_,fun j b hj hb=>?_⟩
     ·rw [hb2'.out.block _ (by rw [HS1.out]; exact hkl)]; exact HK1.out
     ·exact HB1.out.trans (hb2'.out.mono (by rw [HS1.out]; omega))
     ·by_cases hjp:j<pos
      ·exact HN.out j b hjp hb
      ·exact (sep_out b).2 (HNN.out j hp (by rw [HX0.out]; omega) (by omega) (by omega) b hb)
  ·have hnx:=fun ty=>run_next_end_at (P:=Tryz.prog) wr w.heap.size s pos ty hk hp
   go_wp2
   go_ret
   exact ⟨by rw [Lib.indexAny_none (fun j b hj hb=>HN.out j b (by rw [← Lib.size_eq] at hj; omega) hb)]; rfl,HB.out⟩
theorem index_any (s:ByteArray) (w:World) (hs:s.size<4294967281):Calls Tryz.prog 121 #[.string s,.string bl] w (RetV (.int .i64 (Lib.indexAny s.data.toList [32,10])) w):=by
 by_cases h8:s.size≤8
 ·exact index_short s w h8
 ·refine (Tryz.strings_IndexAny_long (fun w=>by kernel_rfl) s bl w (by decide) (by omega) hs (by decide) ?_).mono fun e w' ⟨he,hw⟩=>⟨he,?_⟩
  ·intro j b hb
   match j,hb with
   | 0,hb=>simp at hb; subst hb; decide
   | 1,hb=>simp at hb; subst hb; decide
   | j+2,hb=>simp at hb
  ·rw [hw]
   exact ((Below.refl _ _).alloc (Nat.le_refl _) _).alloc (by simp) _
end Go.Proofs.YthnofhjgfhapiaaGreatDoor
namespace Go.Proofs.YthnofhjgfhapiaaGreatDoor
open Go.RowKit Go.Shelf Go.Lib
def GN:Nat:=max (max (4+1) (2+1)) (max (5+1) (6+1))
theorem gTab : Tryz.prog.globalNamed "internal/strconv.uint64pow10" = some 2 := by kernel_rfl
theorem gSyn : Tryz.prog.globalNamed "strconv.ErrSyntax" = some 5 := by kernel_rfl
theorem gRan : Tryz.prog.globalNamed "strconv.ErrRange" = some 6 := by kernel_rfl
def Vars (w:World):Prop :=
 (∃ m, w.cell? ⟨4, 0, none⟩ = some (.int .i64 m)) ∧ Lib.TabIs Tryz.prog w "internal/strconv.uint64pow10" .u64 Lib.pow10Tab ∧
 (∃ tp p, w.var? Tryz.prog "strconv.ErrSyntax" = some #[.iface tp p]) ∧ ∃ tp p, w.var? Tryz.prog "strconv.ErrRange" = some #[.iface tp p]
def EV (w:World):Prop:=GN≤w.heap.size∧∀ w',Below GN w w'→Vars w'
theorem var_keep {w w':World} {name:String} {g:Nat} (hg:Tryz.prog.globalNamed name=some g) (hl:g<GN) (hb:Below GN w w'):w'.var? Tryz.prog name=w.var? Tryz.prog name:=by
 unfold World.var?
 rw [hg]
 simp only [Option.bind_some]
 rw [hb.block g hl]
theorem ev_of {w:World} (h:Vars w):EV w:=by
 have lt:∀ {name:String} {g:Nat} {x:Array Value},Tryz.prog.globalNamed name=some g→w.var? Tryz.prog name=some x→g<w.heap.size:=by
  intro name g x hg hv
  unfold World.var? at hv
  rw [hg] at hv
  simp only [Option.bind_some] at hv
  rcases Nat.lt_or_ge g w.heap.size with h' | h'
  ·exact h'
  ·rw [Array.getElem?_eq_none h'] at hv
   cases hv
 have v:=h
 obtain ⟨⟨m,hm⟩,ht,⟨t1,p1,h1⟩,⟨t2,p2,h2⟩⟩:=h
 have l0:4<w.heap.size:=World.block_lt_of_cell? w _ hm
 have l1:=lt gTab ht
 have l2:=lt gSyn h1
 have l3:=lt gRan h2
 refine ⟨by unfold GN; omega,fun w' hb=>?_⟩
 have g0:4<GN:=by unfold GN; omega
 have g1:2<GN:=by unfold GN; omega
 have g2:5<GN:=by unfold GN; omega
 have g3:6<GN:=by unfold GN; omega
 refine ⟨⟨m,(hb.cell (p:=⟨_,0,none⟩) g0).trans hm⟩,?_,⟨t1,p1,(var_keep gSyn g2 hb).trans h1⟩,⟨t2,p2,(var_keep gRan g3 hb).trans h2⟩⟩
 unfold Lib.TabIs at ht ⊢
 exact (var_keep gTab g1 hb).trans ht
theorem EV.here {w:World} (h:EV w):Vars w:=h.2 w (Below.refl _ _)
theorem ev_on {w w':World} (h:EV w) (hb:Below GN w w'):EV w':=⟨Nat.le_trans h.1 hb.size,fun w2 h2=>h.2 w2 (hb.trans h2)⟩
theorem ev_keep {w w':World} (hb:Below w.heap.size w w') (h:EV w):EV w':=ev_on h (hb.mono h.1)
theorem ev_tab {w : World} (h : EV w) {B : Nat} (hB : GN ≤ B) : Lib.TabBelow Tryz.prog B w "internal/strconv.uint64pow10" .u64 Lib.pow10Tab := fun w' hb => (h.2 w' (hb.mono hB)).2.1
theorem bytes_ext {s t:ByteArray} (h:s.data.toList=t.data.toList):s=t:=by
 rw [← Lib.mk_data s,← Lib.mk_data t,h]
theorem mk_list (l:List UInt8):(⟨l.toArray⟩:ByteArray).data.toList=l:=by simp
theorem cut_ok (s p:ByteArray) (r:List UInt8) (w:World) (h:s.data.toList=p.data.toList ++ r) :
  Calls Tryz.prog 120 #[.string s,.string p] w fun e w'=>e=.returned (.tuple #[.string ⟨r.toArray⟩,.bool true])∧w'=w:=by
 have hp:Lib.hasPrefix s.data.toList p.data.toList=true:=by
  unfold Lib.hasPrefix
  rw [h]
  simp
 have ht:Lib.trimPrefix s.data.toList p.data.toList=r:=by
  unfold Lib.trimPrefix
  rw [if_pos hp,h]
  simp
 refine (Tryz.strings_CutPrefix s p w).mono fun e w' ⟨he,hw⟩=>⟨?_,hw⟩
 rw [he,hp,ht]
theorem cut_bad (s p:ByteArray) (w:World) (h:∀ r,s.data.toList≠p.data.toList ++ r) :
  Calls Tryz.prog 120 #[.string s,.string p] w fun e w'=>∃ x,e=.returned (.tuple #[.string x,.bool false])∧w'=w:=by
 have hp:Lib.hasPrefix s.data.toList p.data.toList=false:=by
  rw [Bool.eq_false_iff]
  intro h1
  unfold Lib.hasPrefix at h1
  rw [List.isPrefixOf_iff_prefix] at h1
  obtain ⟨t,ht⟩:=h1
  exact h t ht.symm
 refine (Tryz.strings_CutPrefix s p w).mono fun e w' ⟨he,hw⟩=>⟨⟨(Lib.trimPrefix s.data.toList p.data.toList).toArray⟩,?_,hw⟩
 rw [he,hp]
theorem below_bytes (w:World) (t:TypeId) (s:ByteArray):Below w.heap.size w (Lib.bytesWorld w t s):=by
 exact Lib.bytesWorld_below w t s
theorem parse_ok (s:ByteArray) (v:Int) (w:World) (hs:s.size≤3000) (h:Lib.parseIntB 64 s.data.toList=.ok v) :
  Calls Tryz.prog 122 #[.string s,.int .i64 10,.int .i64 64] w (RetV (.tuple #[.int .i64 v,.nilIface]) w):=by
 refine (Tryz.strconv_ParseInt_10_at64_ok s (by omega) v h w).mono fun e w' ⟨he,hw⟩=>⟨he,?_⟩
 rcases hw with rfl | ⟨t,rfl⟩
 ·exact Below.refl _ _
 ·exact below_bytes _ _ _
theorem parse_bad (s:ByteArray) (w:World) (hs:s.size≤3000) (ev:EV w) (h:∀ v,Lib.parseIntB 64 s.data.toList≠.ok v) :
  Calls Tryz.prog 122 #[.string s,.int .i64 10,.int .i64 64] w fun e w'=>∃ x N,e=.returned (.tuple #[.int .i64 x,.iface 236 (.pointer (some ⟨N,0,none⟩))])∧Below w.heap.size w w':=by
 obtain ⟨_,_,⟨t1,p1,h1⟩,⟨t2,p2,h2⟩⟩:=ev.here
 by_cases hr:Lib.parseIntB 64 s.data.toList=.range
 ·exact (Tryz.strconv_ParseInt_10_at64_range_var s (by omega) hr t2 p2 w h2).mono fun e w' ⟨N,he,_,_,hb⟩=>⟨_,N,he,hb⟩
 ·exact (Tryz.strconv_ParseInt_10_at64_syntax_var s (by omega) h hr t1 p1 w h1).mono fun e w' ⟨N,he,_,_,hb⟩=>⟨_,N,he,hb⟩
theorem format_int (v:Int) (w:World) (hv:R64 v) (ev:EV w):Calls Tryz.prog 123 #[.int .i64 v,.int .i64 10] w (RetV (.string ⟨(Lib.itoa v).toArray⟩) w) :=
 (Tryz.strconv_FormatInt_10 v hv.1 hv.2 w ev.here.2.1).mono fun e w' ⟨he,k,os,hw⟩=>⟨he,by rw [hw]; exact Lib.below_grow _ w (Nat.le_refl _) k os⟩
theorem append_int (B n:Nat) (i:Int) (sv:Value) (xs:List Value) (w:World) (hi:R64 i) (ev:EV w) (hB:GN≤B) (hBw:B≤w.heap.size) (hown:w.ownsRow B 5 1 sv n xs) (hlim:n≤3000) :
  Calls Tryz.prog 19 #[sv,.int .i64 i,.int .i64 10] w fun e w'=>∃ v',e=.returned v'∧w'.ownsRow B 5 1 v' (n+(Lib.itoa i).length) (xs ++ Lib.byteCells (Lib.itoa i))∧Below B w w' :=
 (Tryz.strconv_AppendInt_10 B n i hi.1 hi.2 sv xs w hown hBw (by omega) (ev_tab ev hB)).mono fun e w' ⟨v',he,ho,hb,_⟩=>⟨v',he,ho,hb⟩
end Go.Proofs.YthnofhjgfhapiaaGreatDoor
