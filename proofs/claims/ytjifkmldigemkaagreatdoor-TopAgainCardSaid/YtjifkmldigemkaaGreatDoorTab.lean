import Derived.Test.YtjifkmldigemkaaGreatDoorProg
import Derived.Shelf.Spec.BitsCarry
import Derived.Shelf.Bits.Mul64
import Derived.WalkKit
import Derived.WalkSpells
import Derived.StillTactics
import Derived.Laws.Pointers
import Derived.Deep.RegionHeld3
import Derived.Deep.QuietTactic
import Derived.BigQuiet
import Derived.RowKit3
import Derived.Lib.Hide
import Derived.Lib.QuietBelow
import Derived.Laws.Bits64b
import Derived.Test.YtjifkmldigemkaaGreatDoorTaa
import Derived.Orders
import Derived.RegionTactic
import Derived.Below
set_option maxHeartbeats 1000000
set_option maxRecDepth 10000
namespace Go.Proofs.YtjifkmldigemkaaGreatDoor
open Go.RowKit Go.Shelf
theorem b_alloc {a w:World} {o:Obj} (h:Below a.heap.size a w):Below a.heap.size a (w.alloc o):=h.alloc h.size o
theorem b_trans {a b c:World} (h:Below a.heap.size a b) (k:Below b.heap.size b c):Below a.heap.size a c:=h.trans (k.mono h.size)
theorem b_drew {a w:World} (h:Below a.heap.size a w):Below a.heap.size a w.drew:=h.drew
theorem b_set {a w:World} {p:Addr} {v:Value} (h:Below a.heap.size a w) (hp:a.heap.size≤p.block):Below a.heap.size a (w.setCell p v):=h.setCell hp v
theorem bcell {W w1:World} (hb:Below W.heap.size W w1):(∀ b o,b<W.heap.size→w1.cell? ⟨b,o,none⟩=W.cell? ⟨b,o,none⟩)∧(∀ b o,b<W.heap.size→w1.frozen? ⟨b,o,none⟩=W.frozen? ⟨b,o,none⟩) :=
 ⟨fun b o h=>hb.cell (p:=⟨b,o,none⟩) h,fun b o h=>hb.frozen (p:=⟨b,o,none⟩) h⟩
theorem cell_keep {w w':World} (hb:Below w.heap.size w w') {p:Addr} {v:Value} (h:w.cell? p=some v):w'.cell? p=some v:=by
 rw [hb.cell (World.block_lt_of_cell? w p h)]; exact h
abbrev WC (w:World) (b:Nat) (h l:Int):Prop:=w.cell? ⟨b,0,none⟩=some (.int .i64 h)∧w.cell? ⟨b,1,none⟩=some (.int .u64 l)
theorem wc_keep {w w':World} (hb:Below w.heap.size w w') {b:Nat} {h l:Int} (c:WC w b h l):WC w' b h l:=⟨cell_keep hb c.1,cell_keep hb c.2⟩
theorem wc_alloc {w:World} {o:Obj} {b:Nat} {h l:Int} (c:WC w b h l):WC (w.alloc o) b h l:=wc_keep (b_alloc (Below.refl _ _)) c
theorem wc_keep2 {w w':World} (hb:Below w.heap.size w w') {b0 b1:Nat} {x0 y0 x1 y1:Int} (h:WC w b0 x0 y0∧WC w b1 x1 y1):WC w' b0 x0 y0∧WC w' b1 x1 y1:=by
 obtain ⟨h0,h1⟩:=h
 exact ⟨wc_keep hb h0,wc_keep hb h1⟩
abbrev wv (h l:Int):Value:=.agg #[.int .i64 h,.int .u64 l]
def RetW (z:Int) (w:World) (e:Ending) (w':World):Prop :=
 ∃ h l:Int,e=.returned (wv h l)∧IsW h l z∧Below w.heap.size w w'
abbrev WF (w:World) (b:Nat):Prop:=w.frozen? ⟨b,0,none⟩=false∧w.frozen? ⟨b,1,none⟩=false
theorem wf_keep {w w':World} (hb:Below w.heap.size w w') {b:Nat} {h l:Int} (c:WC w b h l) (f:WF w b):WF w' b:=by
 have h1:=World.block_lt_of_cell? w _ c.1
 have h2:=World.block_lt_of_cell? w _ c.2
 exact ⟨by rw [hb.frozen h1]; exact f.1,by rw [hb.frozen h2]; exact f.2⟩
theorem wc_regrown {w:World} {b:Nat} {h l:Int} (c:WC w b h l):∀ d os,WC (Sort.grow (redrawn w d) os) b h l:=fun d os=>⟨cell_regrown c.1 d os,cell_regrown c.2 d os⟩
def RetV (v:Value) (w:World) (e:Ending) (w':World):Prop:=e=.returned v∧Below w.heap.size w w'
theorem retV_regrown {f:FuncId} {args:Array Value} {v:Value} {w:World} (h:∀ w,Calls Tryz.prog f args w (RetV v w)):∀ d os,Calls Tryz.prog f args (Sort.grow (redrawn w d) os) fun e w''=>e=.returned v∧∃ p:Regrown,w''=Sort.grow (redrawn w p.d) p.os :=
 fun _ _=>Calls.regrown_of (h _)
theorem wc_set {w:World} {b b1 o:Nat} {h l:Int} {v:Value} (c:WC w b h l) (hb:b1≠b):WC (w.setCell ⟨b1,o,none⟩ v) b h l :=
 ⟨by rw [World.cell?_setCell_far _ _ _ _ hb]; exact c.1,by rw [World.cell?_setCell_far _ _ _ _ hb]; exact c.2⟩
theorem s1_keep {W w w':World} {b0:Nat} {h0 l0:Int} (h:Below W.heap.size W w∧WC w b0 h0 l0) (hb:Below w.heap.size w w'):Below W.heap.size W w'∧WC w' b0 h0 l0:=⟨b_trans h.1 hb,wc_keep hb h.2⟩
theorem s1_set {W w:World} {b0 b1:Nat} {h0 l0:Int} {u v:Value} (h:Below W.heap.size W w∧WC w b0 h0 l0) (hb:W.heap.size≤b1) (hn:b1≠b0) :
  Below W.heap.size W ((w.setCell ⟨b1,0,none⟩ u).setCell ⟨b1,1,none⟩ v)∧WC ((w.setCell ⟨b1,0,none⟩ u).setCell ⟨b1,1,none⟩ v) b0 h0 l0 :=
 ⟨b_set (b_set h.1 hb) hb,wc_set (wc_set h.2 hn) hn⟩
theorem s2_keep {W w w':World} {b0 b1:Nat} {h0 l0 h1 l1:Int} (h:Below W.heap.size W w∧WC w b0 h0 l0∧WC w b1 h1 l1) (hb:Below w.heap.size w w'):Below W.heap.size W w'∧WC w' b0 h0 l0∧WC w' b1 h1 l1:=⟨b_trans h.1 hb,wc_keep hb h.2.1,wc_keep hb h.2.2⟩
def RetWE (z c:Int) (w:World) (e:Ending) (w':World):Prop :=
 ∃ h l:Int,e=.returned (.tuple #[wv h l,.int .i64 c])∧IsW h l z∧Below w.heap.size w w'
abbrev S21 (W:World) (b0:Nat) (h0 l0:Int) (b1:Nat) (h1 l1:Int) (b2:Nat) (w:World):Prop :=
 Below W.heap.size W w∧WC w b0 h0 l0∧WC w b1 h1 l1∧WC w b2 0 0∧WF w b2
theorem wf_set {w:World} {b b1 o:Nat} {v:Value} (c:WF w b):WF (w.setCell ⟨b1,o,none⟩ v) b :=
 ⟨by rw [World.frozen?_setCell]; exact c.1,by rw [World.frozen?_setCell]; exact c.2⟩
theorem wc_lt {w:World} {b:Nat} {h l:Int} (c:WC w b h l):b<w.heap.size:=World.block_lt_of_cell? w _ c.1
theorem wc_mine {w:World} {b:Nat} {h l h' l':Int} (c:WC w b h l):WC ((w.setCell ⟨b,0,none⟩ (.int .i64 h')).setCell ⟨b,1,none⟩ (.int .u64 l')) b h' l':=by
 obtain ⟨c0,c1⟩:=c
 simp [WC,go_sem,c0,c1]
end Go.Proofs.YtjifkmldigemkaaGreatDoor
namespace Go.Proofs.YtjifkmldigemkaaGreatDoor
open Go.RowKit Go.Shelf
theorem wrapu (x:Int):IntKind.u64.wrap x=x % 18446744073709551616:=IntKind.wrap_u64 x
theorem of_num (x:Int) (h0:-9223372036854775808≤x) (h1:x≤9223372036854775807):IsW (x / 9223372036854775808) (IntKind.u64.wrap x) x:=by
 rw [wrapu]
 exact ⟨by omega,by omega,by omega,by omega,by omega⟩
theorem of_any (x:Int) (h0:-9223372036854775808≤x) (h1:x≤9223372036854775807) (w:World) :
  Calls Tryz.prog 127 #[.int .i64 x] w (RetW x w):=by
 go_enter Tryz.func127,Tryz.ntmps127
 go_wp2
 refine bodyPost_ret (v:=wv (x / 9223372036854775808) (IntKind.u64.wrap x)) (by simp [results,Tryz.results127,go_sem]) rfl ⟨_,_,rfl,of_num x h0 h1,?_⟩
 exact (Below.refl _ _).alloc (Nat.le_refl _) _
theorem neg_any (h l z:Int) (x:IsW h l z) (w:World) :
  Calls Tryz.prog 213 #[wv h l] w (RetV (.bool (decide (z<0))) w):=by
 have hd:=Lib.hid (show decide (z<0)=decide (h<0) by simp [x.neg])
 go_enter Tryz.func213,Tryz.ntmps213
 go_wp2
 go_ret
 exact ⟨by rw [hd.out]; rfl,(Below.refl _ _).alloc (Nat.le_refl _) _⟩
theorem size_num {x:Int} (h0:-9223372036854775808≤x) (h:x<0):IntKind.u64.wrap (-IntKind.u64.wrap x)=(x.natAbs:Int):=by
 rw [wrapu,wrapu]; omega
theorem size_any (x:Int) (h0:-9223372036854775808≤x) (h1:x≤9223372036854775807) (w:World) :
  Calls Tryz.prog 229 #[.int .i64 x] w fun e w'=>e=.returned (.int .u64 (x.natAbs:Int))∧w=w':=by
 by_cases h:x<0
 ·have e:=Lib.hid (size_num h0 h)
  go_enter Tryz.func229,Tryz.ntmps229
  go_wp2
  go_ret
  exact ⟨by rw [← e.out]; rfl,rfl⟩
 ·have e:=Lib.hid (show x=(x.natAbs:Int) by omega)
  go_enter Tryz.func229,Tryz.ntmps229
  go_wp2
  go_ret
  exact ⟨by rw [← e.out]; rfl,rfl⟩
theorem wrapi (x:Int):wrap64 x=s64 x:=by unfold wrap64 s64; rfl
theorem plus_num {ah al a bh bl b:Int} (x:IsW ah al a) (y:IsW bh bl b) :
  IsW (wrap64 ((IntKind.u64.wrap ah+IntKind.u64.wrap bh+(al+bl) / 18446744073709551616) % 18446744073709551616)) ((al+bl) % 18446744073709551616) (w128 (a+b)):=by
 have h:=isW_mk (ah+bh) (al+bl) (a+b) (by rw [← x.e,← y.e]; omega)
 rw [wrapi,wrapu,wrapu,s64_mod _ (ah+bh+(al+bl) / 18446744073709551616) (by omega)]
 exact h
theorem plus_any (ah al a bh bl b:Int) (x:IsW ah al a) (y:IsW bh bl b) (w:World) :
  Calls Tryz.prog 212 #[wv ah al,wv bh bl] w (RetW (w128 (a+b)) w):=by
 have x2:=x.l0; have x3:=x.l1
 have y2:=y.l0; have y3:=y.l1
 have k0:0≤(al+bl) / 18446744073709551616:=by omega
 have k1:(al+bl) / 18446744073709551616≤1:=by omega
 have k2:0≤IntKind.u64.wrap ah:=by rw [wrapu]; omega
 have k3:0≤IntKind.u64.wrap bh:=by rw [wrapu]; omega
 go_enter Tryz.func212,Tryz.ntmps212
 go_wp2_with (first | simp only [add64_0 al bl x2 y2] | simp only [add64 _ _ _ k2 k3 k0 k1])
 refine bodyPost_ret (v:=wv (wrap64 ((IntKind.u64.wrap ah+IntKind.u64.wrap bh+(al+bl) / 18446744073709551616) % 18446744073709551616)) ((al+bl) % 18446744073709551616)) (by simp [results,Tryz.results212,go_sem]) rfl ⟨_,_,rfl,plus_num x y,?_⟩
 exact b_alloc (b_alloc (b_alloc (Below.refl _ _)))
theorem minus_num {ah al a bh bl b:Int} (x:IsW ah al a) (y:IsW bh bl b) :
  IsW (wrap64 ((IntKind.u64.wrap ah - IntKind.u64.wrap bh - bor al bl) % 18446744073709551616)) ((al - bl) % 18446744073709551616) (w128 (a - b)):=by
 have h:=isW_mk (ah - bh) (al - bl) (a - b) (by rw [← x.e,← y.e]; omega)
 have hb:bor al bl=-((al - bl) / 18446744073709551616):=by
  obtain ⟨_,_,x2,x3,_⟩:=x; obtain ⟨_,_,y2,y3,_⟩:=y
  unfold bor; split <;> omega
 rw [wrapi,wrapu,wrapu,hb,s64_mod _ (ah - bh+(al - bl) / 18446744073709551616) (by omega)]
 exact h
theorem minus_any (ah al a bh bl b:Int) (x:IsW ah al a) (y:IsW bh bl b) (w:World) :
  Calls Tryz.prog 204 #[wv ah al,wv bh bl] w (RetW (w128 (a - b)) w):=by
 have x2:=x.l0; have x3:=x.l1
 have y2:=y.l0; have y3:=y.l1
 obtain ⟨k0,k1⟩:=bor_01 al bl
 have k2:0≤IntKind.u64.wrap ah:=by rw [wrapu]; omega
 have k3:0≤IntKind.u64.wrap bh:=by rw [wrapu]; omega
 have k4:IntKind.u64.wrap bh≤18446744073709551615:=by rw [wrapu]; omega
 go_enter Tryz.func204,Tryz.ntmps204
 go_wp2_with (first | simp only [sub64_0 al bl x2 y2 y3] | simp only [sub64_b _ _ _ k2 k3 k4 k0 k1])
 refine bodyPost_ret (v:=wv (wrap64 ((IntKind.u64.wrap ah - IntKind.u64.wrap bh - bor al bl) % 18446744073709551616)) ((al - bl) % 18446744073709551616)) (by simp [results,Tryz.results204,go_sem]) rfl ⟨_,_,rfl,minus_num x y,?_⟩
 exact b_alloc (b_alloc (b_alloc (Below.refl _ _)))
def cmp3 (a b:Int):Int:=if a=b then 0 else if a<b then -1 else 1
theorem cmp3_eq (a:Int):cmp3 a a=0:=by simp [cmp3]
theorem cmp3_lt {a b:Int} (h:a<b):cmp3 a b=-1:=by unfold cmp3; rw [if_neg (by omega),if_pos h]
theorem cmp3_gt {a b:Int} (h:b<a):cmp3 a b=1:=by unfold cmp3; rw [if_neg (by omega),if_neg (by omega)]
theorem cmp_any (ah al a bh bl b:Int) (x:IsW ah al a) (y:IsW bh bl b) (w:World) :
  Calls Tryz.prog 143 #[wv ah al,wv bh bl] w (RetV (.int .i64 (cmp3 a b)) w):=by
 by_cases e:a=b
 ·obtain ⟨rfl,rfl⟩:=(x.inj y).2 e
  subst e
  rw [cmp3_eq]
  clear x y
  go_enter Tryz.func143,Tryz.ntmps143
  go_wp2
  go_ret
  exact ⟨rfl,((Below.refl _ _).alloc (Nat.le_refl _) _).alloc (by simp) _⟩
 ·by_cases g:ah=bh
  ·subst g
   by_cases k:al<bl
   ·rw [cmp3_lt ((x.ltw y).1 (Or.inr ⟨rfl,k⟩))]
    clear x y e
    have k':(al == bl)=false:=by rw [beq_eq_false_iff_ne]; omega
    go_enter Tryz.func143,Tryz.ntmps143
    go_wp2
    go_ret
    exact ⟨rfl,((Below.refl _ _).alloc (Nat.le_refl _) _).alloc (by simp) _⟩
   ·have k2:bl<al:=by
     have:=(x.inj y).1
     by_cases z:al=bl
     ·exact absurd (this ⟨rfl,z⟩) e
     ·omega
    rw [cmp3_gt ((y.ltw x).1 (Or.inr ⟨rfl,k2⟩))]
    clear x y e k
    have k':(al == bl)=false:=by rw [beq_eq_false_iff_ne]; omega
    go_enter Tryz.func143,Tryz.ntmps143
    go_wp2
    go_ret
    exact ⟨rfl,((Below.refl _ _).alloc (Nat.le_refl _) _).alloc (by simp) _⟩
  ·by_cases k:ah<bh
   ·rw [cmp3_lt ((x.ltw y).1 (Or.inl k))]
    clear x y e
    have k':(ah == bh)=false:=by rw [beq_eq_false_iff_ne]; omega
    go_enter Tryz.func143,Tryz.ntmps143
    go_wp2
    go_ret
    exact ⟨rfl,((Below.refl _ _).alloc (Nat.le_refl _) _).alloc (by simp) _⟩
   ·have k2:bh<ah:=by omega
    rw [cmp3_gt ((y.ltw x).1 (Or.inl k2))]
    clear x y e k
    have k':(ah == bh)=false:=by rw [beq_eq_false_iff_ne]; omega
    go_enter Tryz.func143,Tryz.ntmps143
    go_wp2
    go_ret
    exact ⟨rfl,((Below.refl _ _).alloc (Nat.le_refl _) _).alloc (by simp) _⟩
theorem or_i64 (x y:Int) (n:Nat) (hn:n≤64) (k:Int) (hx:x % 18446744073709551616=k*2 ^ n % 18446744073709551616) (y0:0≤y) (y1:y<2 ^ n) :
  bits .or .i64 x y=s64 (k*2 ^ n+y):=by
 have e0:(18446744073709551616:Int)=2 ^ n*2 ^ (64 - n):=by rw [← Int.pow_add,show n+(64 - n)=64 by omega]; rfl
 obtain ⟨y,rfl⟩:=Int.eq_ofNat_of_zero_le y0
 have yl:y<2 ^ n:=by
  have:((2:Int) ^ n)=((2 ^ n:Nat):Int):=by norm_cast
  omega
 have p64:2 ^ n≤2 ^ 64:=Nat.pow_le_pow_right (by decide) hn
 have h2:(BitVec.ofInt 64 (y:Int)).toNat=y:=by
  rw [BitVec.ofInt_natCast,BitVec.toNat_ofNat]; exact Nat.mod_eq_of_lt (by omega)
 have h1:(BitVec.ofInt 64 x).toNat=(x % 18446744073709551616).toNat:=by
  rw [BitVec.toNat_ofInt]; rfl
 have h3:∃ m:Nat,(x % 18446744073709551616).toNat=m <<< n:=by
  have:x % 18446744073709551616=(k % 2 ^ (64 - n))*2 ^ n:=by
   rw [hx,e0,Int.mul_comm k,Int.mul_emod_mul_of_pos _ _ (Int.pow_pos (by decide)),Int.mul_comm]
  have k0:0≤k % 2 ^ (64 - n):=Int.emod_nonneg _ (by have:(0:Int)<2 ^ (64 - n):=Int.pow_pos (by decide); omega)
  obtain ⟨m,hm⟩:=Int.eq_ofNat_of_zero_le k0
  refine ⟨m,?_⟩
  rw [this,hm,Nat.shiftLeft_eq]
  norm_cast
 obtain ⟨m,hm⟩:=h3
 show IntKind.i64.wrap ((BitVec.ofInt 64 x ||| BitVec.ofInt 64 (y:Int)).toNat:Int)=_
 rw [BitVec.toNat_or,h1,h2,hm,← Nat.shiftLeft_add_eq_or_of_lt yl,← hm]
 rw [show ∀ z,IntKind.i64.wrap z=s64 z from fun z=>IntKind.wrap_i64 z]
 apply s64_mod
 omega
theorem or_u64 (x y:Int) (n:Nat) (hn:n≤64) (k:Int) (hx:x=k*2 ^ n % 18446744073709551616) (y0:0≤y) (y1:y<2 ^ n) :
  bits .or .u64 y x=y+x:=by
 have e0:(18446744073709551616:Int)=2 ^ n*2 ^ (64 - n):=by rw [← Int.pow_add,show n+(64 - n)=64 by omega]; rfl
 obtain ⟨y,rfl⟩:=Int.eq_ofNat_of_zero_le y0
 have yl:y<2 ^ n:=by
  have:((2:Int) ^ n)=((2 ^ n:Nat):Int):=by norm_cast
  omega
 have p64:2 ^ n≤2 ^ 64:=Nat.pow_le_pow_right (by decide) hn
 have x0:0≤x:=by omega
 have x1:x<18446744073709551616:=by omega
 have h3:∃ m:Nat,x=((m <<< n:Nat):Int):=by
  have:x=(k % 2 ^ (64 - n))*2 ^ n:=by
   rw [hx,e0,Int.mul_comm k,Int.mul_emod_mul_of_pos _ _ (Int.pow_pos (by decide)),Int.mul_comm]
  have k0:0≤k % 2 ^ (64 - n):=Int.emod_nonneg _ (by have:(0:Int)<2 ^ (64 - n):=Int.pow_pos (by decide); omega)
  obtain ⟨m,hm⟩:=Int.eq_ofNat_of_zero_le k0
  refine ⟨m,?_⟩
  rw [this,hm,Nat.shiftLeft_eq]
  norm_cast
 obtain ⟨m,hm⟩:=h3
 rw [hm,bits_or_u64_nat y (m <<< n) (by omega) (by omega),Nat.or_comm,← Nat.shiftLeft_add_eq_or_of_lt yl]
 omega
theorem pow_nat (n:Int):(2:Int) ^ n.toNat=((2 ^ n.toNat:Nat):Int):=by norm_cast
theorem up_num {ah al a n:Int} (x:IsW ah al a) (n0:0≤n) (n1:n≤63) :
  IsW (bits .or .i64 (wrap64 (ah*2 ^ n.toNat)) (wrap64 (al / 2 ^ (64 - n).toNat))) (IntKind.u64.wrap (al*2 ^ n.toNat)) (w128 (a*2 ^ n.toNat)):=by
 have h:=pq_of n n0 (by omega)
 have u:=h.isW_up x
 have l1:=h.up_lt al x.l1
 have l0:=(h.up al x.l0).2
 have p63:(2:Int) ^ n.toNat≤9223372036854775808:=by
  rw [pow_nat]
  have:2 ^ n.toNat≤2 ^ 63:=Nat.pow_le_pow_right (by decide) (by omega)
  omega
 rw [wrapi,wrapi,wrapu]
 rw [show s64 (al / 2 ^ (64 - n).toNat)=al / 2 ^ (64 - n).toNat by unfold s64; omega]
 rw [or_i64 (s64 (ah*2 ^ n.toNat)) (al / 2 ^ (64 - n).toNat) n.toNat (by omega) ah (by unfold s64; omega) l0 l1]
 exact u
theorem up_low (ah al a n:Int) (x:IsW ah al a) (n0:0≤n) (n1:n≤63) (w:World) :
  Calls Tryz.prog 192 #[wv ah al,.int .i64 n] w (RetW (w128 (a*2 ^ n.toNat)) w):=by
 have hn:=Lib.hid (up_num x n0 n1)
 have x0:=x.l0; have x1:=x.l1
 clear x
 go_enter Tryz.func192,Tryz.ntmps192
 go_wp2
 go_region
 go_wp2
 refine bodyPost_ret (v:=wv (bits BinOp.or IntKind.i64 (wrap64 (ah*2 ^ n.toNat)) (wrap64 (al / 2 ^ (64 - n).toNat))) (IntKind.u64.wrap (al*2 ^ n.toNat))) (by simp [results,Tryz.results192,go_sem]) rfl ⟨_,_,rfl,hn.out,?_⟩
 exact b_drew (b_alloc (b_alloc (Below.refl _ _)))
theorem up_high (ah al a n:Int) (x:IsW ah al a) (n0:64≤n) (n1:n≤127) (w:World) :
  Calls Tryz.prog 192 #[wv ah al,.int .i64 n] w (RetW (w128 (a*2 ^ n.toNat)) w):=by
 have hn:=isW_upHigh x (2 ^ (n - 64).toNat)
 rw [← pow_high n n0,s64_mod _ (al*2 ^ (n - 64).toNat % 18446744073709551616) (by omega),← wrapu,← wrapi] at hn
 go_enter Tryz.func192,Tryz.ntmps192
 go_wp2
 refine bodyPost_ret (v:=wv (wrap64 (IntKind.u64.wrap (al*2 ^ (n - 64).toNat))) 0) (by simp [results,Tryz.results192,go_sem]) rfl ⟨_,_,rfl,hn,?_⟩
 exact b_alloc (b_alloc (Below.refl _ _))
theorem down_num {ah al a n:Int} (x:IsW ah al a) (n0:0≤n) (n1:n≤63) :
  IsW (ah / 2 ^ n.toNat) (bits .or .u64 (al / 2 ^ n.toNat) (IntKind.u64.wrap (IntKind.u64.wrap ah*2 ^ (64 - n).toNat))) (a / 2 ^ n.toNat):=by
 have h:=pq_of n n0 (by omega)
 have u:=h.down x
 have h':Pq (2 ^ (64 - n).toNat) (2 ^ n.toNat):=⟨h.q0,h.p0,by rw [Int.mul_comm]; exact h.e⟩
 have l0:=(h'.up al x.l0).2
 have l1:=h'.up_lt al x.l1
 have e:IntKind.u64.wrap (IntKind.u64.wrap ah*2 ^ (64 - n).toNat)=ah*2 ^ (64 - n).toNat % 18446744073709551616:=by
  rw [wrapu,wrapu,Int.mul_emod,Int.emod_emod,← Int.mul_emod]
 rw [e,or_u64 _ (al / 2 ^ n.toNat) (64 - n).toNat (by omega) ah rfl l0 l1]
 exact u
theorem down_low (ah al a n:Int) (x:IsW ah al a) (n0:0≤n) (n1:n≤63) (w:World) :
  Calls Tryz.prog 193 #[wv ah al,.int .i64 n] w (RetW (a / 2 ^ n.toNat) w):=by
 have hn:=Lib.hid (down_num x n0 n1)
 have x0:=x.l0; have x1:=x.l1
 clear x
 go_enter Tryz.func193,Tryz.ntmps193
 go_wp2
 go_region
 go_wp2
 refine bodyPost_ret (v:=wv (ah / 2 ^ n.toNat) (bits BinOp.or IntKind.u64 (al / 2 ^ n.toNat) (IntKind.u64.wrap (IntKind.u64.wrap ah*2 ^ (64 - n).toNat)))) (by simp [results,Tryz.results193,go_sem]) rfl ⟨_,_,rfl,hn.out,?_⟩
 exact b_drew (b_alloc (b_alloc (Below.refl _ _)))
theorem down_high (ah al a n:Int) (x:IsW ah al a) (n0:64≤n) (n1:n≤127) (w:World) :
  Calls Tryz.prog 193 #[wv ah al,.int .i64 n] w (RetW (a / 2 ^ n.toNat) w):=by
 obtain ⟨e,e0,e1⟩:=downHigh x (2 ^ (n - 64).toNat) (by have:(0:Int)<2 ^ (n - 64).toNat:=Int.pow_pos (by decide); omega)
 rw [← pow_high n n0] at e
 have E:=Lib.hid e; clear e
 go_enter Tryz.func193,Tryz.ntmps193
 go_wp2_with (go_at_call 127; refine (of_any _ e0 e1 _).mono ?_; rintro e w' ⟨rh,rl,rfl,hr,hb⟩; obtain ⟨hc,hf⟩:=bcell hb)
 refine bodyPost_ret (v:=wv rh rl) (by simp [results,Tryz.results193,go_sem,hc]) rfl ⟨_,_,rfl,by rw [E.out]; exact hr,?_⟩
 exact b_set (b_set (b_trans (b_alloc (b_alloc (Below.refl _ _))) hb) (Nat.le_add_right _ _)) (Nat.le_add_right _ _)
theorem up_any (ah al a n:Int) (x:IsW ah al a) (n0:0≤n) (n1:n≤127) (w:World) :
  Calls Tryz.prog 192 #[wv ah al,.int .i64 n] w (RetW (w128 (a*2 ^ n.toNat)) w):=by
 by_cases h:n≤63
 ·exact up_low ah al a n x n0 h w
 ·exact up_high ah al a n x (by omega) n1 w
theorem down_any (ah al a n:Int) (x:IsW ah al a) (n0:0≤n) (n1:n≤127) (w:World) :
  Calls Tryz.prog 193 #[wv ah al,.int .i64 n] w (RetW (a / 2 ^ n.toNat) w):=by
 by_cases h:n≤63
 ·exact down_low ah al a n x n0 h w
 ·exact down_high ah al a n x (by omega) n1 w
end Go.Proofs.YtjifkmldigemkaaGreatDoor
namespace Go.Proofs.YtjifkmldigemkaaGreatDoor
open Go.RowKit Go.Shelf
def iz (z:Int):Int:=if -9223372036854775808≤z∧z≤9223372036854775807 then z else 0
def ie (z:Int):Int:=if -9223372036854775808≤z∧z≤9223372036854775807 then 0 else 3
theorem iz_of {z:Int} (f:-9223372036854775808≤z∧z≤9223372036854775807):iz z=z∧ie z=0:=⟨if_pos f,if_pos f⟩
theorem iz_no {z:Int} (f:¬ (-9223372036854775808≤z∧z≤9223372036854775807)):iz z=0∧ie z=3:=⟨if_neg f,if_neg f⟩
theorem retW_det {z h l:Int} (x:IsW h l z) {w:World} {e:Ending} {w':World} (r:RetW z w e w'):RetV (wv h l) w e w':=by
 obtain ⟨h',l',he,y,hb⟩:=r
 obtain ⟨rfl,rfl⟩:=(x.inj y).2 rfl
 exact ⟨he,hb⟩
theorem int_fits {h l z:Int} (x:IsW h l z) (f:-9223372036854775808≤z∧z≤9223372036854775807):wrap64 l=z:=by
 obtain ⟨a,b,c,d,e⟩:=x
 rw [wrapi]; unfold s64; omega
theorem int_not {h l z oh ol:Int} (x:IsW h l z) (f:¬ (-9223372036854775808≤z∧z≤9223372036854775807)) (y:IsW oh ol (wrap64 l)):oh≠h∧ol=l:=by
 obtain ⟨a,b,c,d,e⟩:=x; obtain ⟨a',b',c',d',e'⟩:=y
 rw [wrapi] at e'; unfold s64 at e'; omega
theorem int_any (h l z:Int) (x:IsW h l z) (w:World) :
  Calls Tryz.prog 154 #[wv h l] w (RetV (.tuple #[.int .i64 (iz z),.int .i64 (ie z)]) w):=by
 have b0:-9223372036854775808≤wrap64 l∧wrap64 l≤9223372036854775807:=by rw [wrapi]; unfold s64; omega
 have x0:=x.l0; have x1:=x.l1
 obtain ⟨oh,ol,y⟩:∃ oh ol,IsW oh ol (wrap64 l):=⟨_,_,IsW.mk' ⟨by omega,by omega⟩⟩
 have cO:=fun w=>(of_any (wrap64 l) b0.1 b0.2 w).mono fun _ _=>retW_det y
 by_cases f:-9223372036854775808≤z∧z≤9223372036854775807
 ·have e1:=int_fits x f
  obtain ⟨rfl,rfl⟩:=(x.inj y).2 e1.symm
  have E:=Lib.hid (And.intro (iz_of f).1 (And.intro (iz_of f).2 e1))
  clear e1 x y f b0
  go_enter Tryz.func154,Tryz.ntmps154
  go_wp2
  have cO1:=retV_regrown (w:=w.alloc (Obj.cells #[.int .i64 h,.int .u64 l] 187)) cO
  have g0:∀ d os,WC (Sort.grow (redrawn (w.alloc (Obj.cells #[.int .i64 h,.int .u64 l] 187)) d) os) w.heap.size h l:=wc_regrown (by simp [WC,go_sem])
  clear cO
  refine wp_region_quiet_below (by kernel_rfl) (by kernel_rfl) ?_
  repeat (quiet_step (first | exact cO1 _ _))
  refine wpQuiet_nil ?_
  intro _ hw'
  obtain ⟨⟨dq,osq⟩,hw''⟩:=hw'
  subst hw''
  have B:=b_trans (b_alloc (Below.refl _ w)) (below_regrown (w.alloc (Obj.cells #[.int .i64 h,.int .u64 l] 187)) dq osq)
  clear g0 cO1
  go_wp2
  go_ret2
  exact ⟨by rw [E.out.1,E.out.2.1,← E.out.2.2]; rfl,B⟩
 ·obtain ⟨e1,rfl⟩:=int_not x f y
  have E:=Lib.hid (iz_no f)
  have e2:(oh == h)=false:=by rw [beq_eq_false_iff_ne]; exact e1
  clear e1 x y f b0
  go_enter Tryz.func154,Tryz.ntmps154
  go_wp2
  have cO1:=retV_regrown (w:=w.alloc (Obj.cells #[.int .i64 h,.int .u64 ol] 187)) cO
  have g0:∀ d os,WC (Sort.grow (redrawn (w.alloc (Obj.cells #[.int .i64 h,.int .u64 ol] 187)) d) os) w.heap.size h ol:=wc_regrown (by simp [WC,go_sem])
  clear cO
  refine wp_region_quiet_below (by kernel_rfl) (by kernel_rfl) ?_
  repeat (quiet_step (first | exact cO1 _ _))
  refine wpQuiet_nil ?_
  intro _ hw'
  obtain ⟨⟨dq,osq⟩,hw''⟩:=hw'
  subst hw''
  have B:=b_trans (b_alloc (Below.refl _ w)) (below_regrown (w.alloc (Obj.cells #[.int .i64 h,.int .u64 ol] 187)) dq osq)
  clear g0 cO1
  go_wp2
  go_ret2
  exact ⟨by rw [E.out.1,E.out.2]; rfl,B⟩
theorem mul_fits {x y:Int} (x0:-9223372036854775808≤x) (x1:x≤9223372036854775807) (y0:-9223372036854775808≤y) (y1:y≤9223372036854775807):Fits (x*y):=by
 have h1:x.natAbs*y.natAbs≤9223372036854775808*9223372036854775808:=Nat.mul_le_mul (by omega) (by omega)
 have h2:(x*y).natAbs=x.natAbs*y.natAbs:=Int.natAbs_mul x y
 generalize x.natAbs*y.natAbs=m at *
 generalize x*y=p at *
 exact ⟨by omega,by omega⟩
theorem mul_num {x y u v h l:Int} (X:Fits (x*y)) (e:h*18446744073709551616+l=u*v) (l0:0≤l) (l1:l≤18446744073709551615)
  (c d:Int) (hu:u=x+c*18446744073709551616) (hv:v=y+d*18446744073709551616) (k:Int) (hk:k % 18446744073709551616=(h - c*y - d*x) % 18446744073709551616):IsW (s64 k) l (x*y):=by
 have e2:(h - c*y - d*x - c*d*18446744073709551616)*18446744073709551616+l=x*y:=by
  have:u*v=x*y+(c*y+d*x+c*d*18446744073709551616)*18446744073709551616:=by
   rw [hu,hv]; simp only [Int.add_mul,Int.mul_add,Int.mul_assoc,Int.mul_comm,Int.mul_left_comm]; omega
  rw [this] at e
  simp only [Int.sub_mul,Int.add_mul] at *
  omega
 have q:=isW_mk (h - c*y - d*x - c*d*18446744073709551616) l (x*y) e2
 rw [w128_of X,show l / 18446744073709551616=0 by omega,show l % 18446744073709551616=l by omega] at q
 rw [s64_mod k (h - c*y - d*x - c*d*18446744073709551616+0) (by omega)]
 exact q
theorem mul_any (x y:Int) (x0:-9223372036854775808≤x) (x1:x≤9223372036854775807) (y0:-9223372036854775808≤y) (y1:y≤9223372036854775807) (w:World) :
  Calls Tryz.prog 126 #[.int .i64 x,.int .i64 y] w (RetW (x*y) w):=by
 have X:=Lib.hid (mul_fits x0 x1 y0 y1)
 have U:=fun x=>Lib.hid (wrapu x)
 have k0:0≤IntKind.u64.wrap x∧IntKind.u64.wrap x≤18446744073709551615:=by rw [wrapu]; omega
 have k1:0≤IntKind.u64.wrap y∧IntKind.u64.wrap y≤18446744073709551615:=by rw [wrapu]; omega
 by_cases c:x<0 <;> by_cases d:y<0
 ·go_enter Tryz.func126,Tryz.ntmps126
  go_wp2_with (go_at_call 177; refine (mul64 _ _ (by omega) (by omega) (by omega) (by omega) _).mono ?_; rintro e w1 ⟨rh,rl,rfl,a0,a1,b0,b1,E,rfl⟩)
  refine bodyPost_ret (v:=wv (wrap64 (IntKind.u64.wrap (IntKind.u64.wrap (rh - IntKind.u64.wrap y) - IntKind.u64.wrap x))) rl) (by simp [results,Tryz.results126,go_sem]) rfl ⟨_,_,rfl,?_,b_alloc (Below.refl _ _)⟩
  have e1:=(U x).out; have e2:=(U y).out
  rw [wrapi]
  exact mul_num X.out E.out b0 b1 1 1 (by omega) (by omega) _ (by rw [wrapu,wrapu]; omega)
 ·go_enter Tryz.func126,Tryz.ntmps126
  go_wp2_with (go_at_call 177; refine (mul64 _ _ (by omega) (by omega) (by omega) (by omega) _).mono ?_; rintro e w1 ⟨rh,rl,rfl,a0,a1,b0,b1,E,rfl⟩)
  refine bodyPost_ret (v:=wv (wrap64 (IntKind.u64.wrap (rh - y))) rl) (by simp [results,Tryz.results126,go_sem]) rfl ⟨_,_,rfl,?_,b_alloc (Below.refl _ _)⟩
  have e1:=(U x).out; have e2:=(U y).out
  rw [wrapi]
  exact mul_num X.out E.out b0 b1 1 0 (by omega) (by omega) _ (by rw [wrapu]; omega)
 ·go_enter Tryz.func126,Tryz.ntmps126
  go_wp2_with (go_at_call 177; refine (mul64 _ _ (by omega) (by omega) (by omega) (by omega) _).mono ?_; rintro e w1 ⟨rh,rl,rfl,a0,a1,b0,b1,E,rfl⟩)
  refine bodyPost_ret (v:=wv (wrap64 (IntKind.u64.wrap (rh - x))) rl) (by simp [results,Tryz.results126,go_sem]) rfl ⟨_,_,rfl,?_,b_alloc (Below.refl _ _)⟩
  have e1:=(U x).out; have e2:=(U y).out
  rw [wrapi]
  exact mul_num X.out E.out b0 b1 0 1 (by omega) (by omega) _ (by rw [wrapu]; omega)
 ·go_enter Tryz.func126,Tryz.ntmps126
  go_wp2_with (go_at_call 177; refine (mul64 _ _ (by omega) (by omega) (by omega) (by omega) _).mono ?_; rintro e w1 ⟨rh,rl,rfl,a0,a1,b0,b1,E,rfl⟩)
  refine bodyPost_ret (v:=wv (wrap64 rh) rl) (by simp [results,Tryz.results126,go_sem]) rfl ⟨_,_,rfl,?_,b_alloc (Below.refl _ _)⟩
  rw [wrapi]
  exact mul_num X.out E.out b0 b1 0 0 (by omega) (by omega) _ (by omega)
theorem wsize_neg (h l z:Int) (x:IsW h l z) (z0:z<0) (w:World) :
  Calls Tryz.prog 231 #[wv h l] w (RetW (w128 (-z)) w):=by
 have d1:decide (z<0)=true:=by simpa using z0
 go_enter Tryz.func231,Tryz.ntmps231
 go_wp2_with (go_at_call 213; refine (neg_any h l z x _).mono ?_; rintro e w1 ⟨rfl,hb⟩; have k:WC w1 w.heap.size h l:=wc_keep hb (by simp [WC,go_sem,World.cell?_alloc_past]); have r1:WC w1 (w.heap.size+1) 0 0:=wc_keep hb (by simp [WC,go_sem]); have f1:WF w1 (w.heap.size+1):=wf_keep hb (h:=0) (l:=0) (by simp [WC,go_sem]) (by simp [WF,go_sem]))
 have B1:Below w.heap.size w w1:=b_trans (b_alloc (b_alloc (Below.refl _ _))) hb
 go_region_held3 (fun w'=>Below w.heap.size w w'∧WC w' w.heap.size h l) (first | assumption | exact s1_keep (by assumption) (by assumption) | exact s1_set (by assumption) (by omega) (by omega) | exact s1_keep ⟨B1,k⟩ (b_drew (Below.refl _ _)))
  (first
   | (go_at_call 127; refine (of_any 0 (by decide) (by decide) _).mono ?_; rintro e w2 ⟨oh,ol,rfl,ho,hb2⟩; have r2:=wc_keep hb2 r1; have f2:=wf_keep hb2 r1 f1)
   | (go_at_call 204; refine (minus_any _ _ _ _ _ _ ho x _).mono ?_; rintro e w3 ⟨rh,rl,rfl,hr,hb3⟩; have r3:=wc_keep hb3 r2; have f3:=wf_keep hb3 r2 f2))
 rename_i hS
 go_wp2
 refine bodyPost_ret (v:=wv rh rl) (by simp [results,Tryz.results231,go_sem,r3]) rfl ⟨_,_,rfl,by rw [Int.zero_sub] at hr; exact hr,hS.1⟩
theorem wsize_pos (h l z:Int) (x:IsW h l z) (z0:0≤z) (w:World) :
  Calls Tryz.prog 231 #[wv h l] w (RetW z w):=by
 have d1:decide (z<0)=false:=by simpa using z0
 go_enter Tryz.func231,Tryz.ntmps231
 go_wp2_with (go_at_call 213; refine (neg_any h l z x _).mono ?_; rintro e w1 ⟨rfl,hb⟩; have k:WC w1 w.heap.size h l:=wc_keep hb (by simp [WC,go_sem,World.cell?_alloc_past]); have r1:WC w1 (w.heap.size+1) 0 0:=wc_keep hb (by simp [WC,go_sem]); have f1:WF w1 (w.heap.size+1):=wf_keep hb (h:=0) (l:=0) (by simp [WC,go_sem]) (by simp [WF,go_sem]))
 have B1:Below w.heap.size w w1:=b_trans (b_alloc (b_alloc (Below.refl _ _))) hb
 refine bodyPost_ret (v:=wv h l) (by simp [results,Tryz.results231,go_sem,r1]) rfl ⟨_,_,rfl,x,b_set (b_set B1 (by simp)) (by simp)⟩
def near (q side:Int):Int:=if 0<side∨(side=0∧q % 2=1) then q+1 else q
theorem odd_num {h l q:Int} (x:IsW h l q):bits .and .u64 l 1=q % 2:=by
 obtain ⟨a,b,c,d,e⟩:=x
 obtain ⟨l,rfl⟩:=Int.eq_ofNat_of_zero_le c
 have:=bits_and_u64_nat l 1 (by omega) (by decide)
 rw [Nat.and_one_is_mod] at this
 have h2:bits .and .u64 (l:Int) 1=((l % 2:Nat):Int):=this
 rw [h2]; omega
theorem near_up {q side:Int} (h:0<side∨(side=0∧q % 2=1)):near q side=q+1:=if_pos h
theorem near_stay {q side:Int} (h:¬ (0<side∨(side=0∧q % 2=1))):near q side=q:=if_neg h
theorem near_stays (h l q side:Int) (x:IsW h l q) (c:¬ (0<side∨(side=0∧q % 2=1))) (w:World) :
  Calls Tryz.prog 205 #[wv h l,.int .i64 side] w (RetW (near q side) w):=by
 rw [near_stay c]
 by_cases s0:side=0
 ·subst s0
  have o1:(bits .and .u64 l 1 == 1)=false:=by rw [odd_num x,beq_eq_false_iff_ne]; omega
  clear c
  go_enter Tryz.func205,Tryz.ntmps205
  go_wp2
  refine bodyPost_ret (v:=wv h l) (by simp [results,Tryz.results205,go_sem]) rfl ⟨_,_,rfl,x,b_alloc (b_alloc (Below.refl _ _))⟩
 ·have s1:(side == 0)=false:=by rw [beq_eq_false_iff_ne]; exact s0
  have s2:¬ 0<side:=by omega
  clear c s0
  generalize ho:(bits .and .u64 l 1 == 1)=o
  have O:=Lib.hid ho; clear ho
  go_enter Tryz.func205,Tryz.ntmps205
  go_wp2
  refine bodyPost_ret (v:=wv h l) (by simp [results,Tryz.results205,go_sem]) rfl ⟨_,_,rfl,x,b_alloc (b_alloc (Below.refl _ _))⟩
theorem near_ups (h l q side:Int) (x:IsW h l q) (c:0<side∨(side=0∧q % 2=1)) (f:Fits (q+1)) (w:World) :
  Calls Tryz.prog 205 #[wv h l,.int .i64 side] w (RetW (near q side) w):=by
 rw [near_up c]
 have E:=Lib.hid (w128_of f)
 have c':(0<side)∨(side=0∧(bits .and .u64 l 1 == 1)=true):=by rw [odd_num x]; simpa using c
 clear c f
 rcases c' with c1 | ⟨rfl,c1⟩
 all_goals
  go_enter Tryz.func205,Tryz.ntmps205
  go_wp2
  have k:WC ((w.alloc (Obj.cells #[.int .i64 h,.int .u64 l] 187)).alloc (Obj.cells #[.int .i64 0,.int .u64 0] 187)) w.heap.size h l:=by simp [WC,go_sem,World.cell?_alloc_past]
  have r1:WC ((w.alloc (Obj.cells #[.int .i64 h,.int .u64 l] 187)).alloc (Obj.cells #[.int .i64 0,.int .u64 0] 187)) (w.heap.size+1) 0 0:=by simp [WC,go_sem]
  have f1:WF ((w.alloc (Obj.cells #[.int .i64 h,.int .u64 l] 187)).alloc (Obj.cells #[.int .i64 0,.int .u64 0] 187)) (w.heap.size+1):=by simp [WF,go_sem]
  go_region_held3 (fun w'=>Below w.heap.size w w'∧WC w' w.heap.size h l) (first | assumption | exact s1_keep (by assumption) (by assumption) | exact s1_set (by assumption) (by omega) (by omega) | exact s1_keep ⟨b_alloc (b_alloc (Below.refl _ _)),k⟩ (b_drew (Below.refl _ _)))
   (first
    | (go_at_call 127; refine (of_any 1 (by decide) (by decide) _).mono ?_; rintro e w2 ⟨oh,ol,rfl,ho,hb2⟩; have r2:=wc_keep hb2 r1; have f2:=wf_keep hb2 r1 f1)
    | (go_at_call 212; refine (plus_any _ _ _ _ _ _ x ho _).mono ?_; rintro e w3 ⟨rh,rl,rfl,hr,hb3⟩; have r3:=wc_keep hb3 r2; have f3:=wf_keep hb3 r2 f2))
  rename_i hS
  go_wp2
  refine bodyPost_ret (v:=wv rh rl) (by simp [results,Tryz.results205,go_sem,r3]) rfl ⟨_,_,rfl,by rw [E.out] at hr; exact hr,hS.1⟩
end Go.Proofs.YtjifkmldigemkaaGreatDoor
namespace Go.Proofs.YtjifkmldigemkaaGreatDoor
open Go.RowKit Go.Shelf
abbrev FitP (x:Int):Prop:=-288230376151711744≤x∧x≤288230376151711744
def fitb (x:Int):Bool:=decide (FitP x)
theorem fitb_yes {x:Int} (h:FitP x):fitb x=true:=decide_eq_true h
theorem fitb_no {x:Int} (h:¬ FitP x):fitb x=false:=decide_eq_false h
theorem fits_any (x:Int) (x0:-9223372036854775808≤x) (x1:x≤9223372036854775807) (w:World) :
  Calls Tryz.prog 138 #[.int .i64 x] w fun e w'=>e=.returned (.bool (fitb x))∧w=w':=by
 by_cases c:-288230376151711744≤x
 ·by_cases d:x≤288230376151711744
  ·have e:=Lib.hid (fitb_yes ⟨c,d⟩)
   go_enter Tryz.func138,Tryz.ntmps138
   go_wp2
   go_ret
   exact ⟨by rw [e.out]; rfl,rfl⟩
  ·have e:=Lib.hid (fitb_no (x:=x) (by omega))
   go_enter Tryz.func138,Tryz.ntmps138
   go_wp2
   go_ret
   exact ⟨by rw [e.out]; rfl,rfl⟩
 ·have e:=Lib.hid (fitb_no (x:=x) (by omega))
  go_enter Tryz.func138,Tryz.ntmps138
  go_wp2
  go_ret
  exact ⟨by rw [e.out]; rfl,rfl⟩
def nz (x:Int):Int:=if FitP x then x else 0
def ne (x:Int):Int:=if FitP x then 0 else 3
theorem nz_of {x:Int} (h:FitP x):nz x=x∧ne x=0:=⟨if_pos h,if_pos h⟩
theorem nz_no {x:Int} (h:¬ FitP x):nz x=0∧ne x=3:=⟨if_neg h,if_neg h⟩
theorem fitting_any (x:Int) (x0:-9223372036854775808≤x) (x1:x≤9223372036854775807) (w:World) :
  Calls Tryz.prog 175 #[.int .i64 x] w fun e w'=>e=.returned (.tuple #[.int .i64 (nz x),.int .i64 (ne x)])∧w=w':=by
 by_cases c:FitP x
 ·have E:=Lib.hid (nz_of c)
  have ex:=Lib.hid (fitb_yes c)
  clear c
  go_enter Tryz.func175,Tryz.ntmps175
  go_wp2_with fail
  refine (fits_any x x0 x1 _).mono ?_
  rintro e w9 ⟨rfl,rfl⟩
  rw [ex.out]
  go_wp2
  go_ret2
  exact ⟨by rw [E.out.1,E.out.2]; rfl,rfl⟩
 ·have E:=Lib.hid (nz_no c)
  have ex:=Lib.hid (fitb_no c)
  clear c
  go_enter Tryz.func175,Tryz.ntmps175
  go_wp2_with fail
  refine (fits_any x x0 x1 _).mono ?_
  rintro e w9 ⟨rfl,rfl⟩
  rw [ex.out]
  go_wp2
  go_ret2
  exact ⟨by rw [E.out.1,E.out.2]; rfl,rfl⟩
theorem taken_bad (a b:Int) (a0:-9223372036854775808≤a) (a1:a≤9223372036854775807) (b0:-9223372036854775808≤b) (b1:b≤9223372036854775807) (c:¬ (FitP a∧FitP b)) (fs fe:Value) (w:World) :
  Calls Tryz.prog 173 #[.int .i64 a,.int .i64 b,fs,fe] w (RetV (.tuple #[.int .i64 0,.int .i64 1]) w):=by
 by_cases d:FitP a
 ·have ea:=Lib.hid (fitb_yes d)
  have eb:=Lib.hid (fitb_no (fun h=>c ⟨d,h⟩))
  clear c d
  go_enter Tryz.func173,Tryz.ntmps173
  go_wp2_with fail
  refine (fits_any a a0 a1 _).mono ?_
  rintro e w9 ⟨rfl,rfl⟩
  rw [ea.out]
  go_wp2_with fail
  refine (fits_any b b0 b1 _).mono ?_
  rintro e w9 ⟨rfl,rfl⟩
  rw [eb.out]
  go_wp2
  go_ret2
  exact ⟨rfl,Below.refl _ _⟩
 ·have ea:=Lib.hid (fitb_no d)
  clear c d
  go_enter Tryz.func173,Tryz.ntmps173
  go_wp2_with fail
  refine (fits_any a a0 a1 _).mono ?_
  rintro e w9 ⟨rfl,rfl⟩
  rw [ea.out]
  go_wp2
  go_ret2
  exact ⟨rfl,Below.refl _ _⟩
theorem takew_bad (a b:Int) (a0:-9223372036854775808≤a) (a1:a≤9223372036854775807) (b0:-9223372036854775808≤b) (b1:b≤9223372036854775807) (c:¬ (FitP a∧FitP b)) (fs fe:Value) (w:World) :
  Calls Tryz.prog 217 #[.int .i64 a,.int .i64 b,fs,fe] w (RetV (.tuple #[.int .i64 0,.int .i64 1]) w):=by
 by_cases d:FitP a
 ·have ea:=Lib.hid (fitb_yes d)
  have eb:=Lib.hid (fitb_no (fun h=>c ⟨d,h⟩))
  clear c d
  go_enter Tryz.func217,Tryz.ntmps217
  go_wp2_with fail
  refine (fits_any a a0 a1 _).mono ?_
  rintro e w9 ⟨rfl,rfl⟩
  rw [ea.out]
  go_wp2_with fail
  refine (fits_any b b0 b1 _).mono ?_
  rintro e w9 ⟨rfl,rfl⟩
  rw [eb.out]
  go_wp2
  go_ret2
  exact ⟨rfl,Below.refl _ _⟩
 ·have ea:=Lib.hid (fitb_no d)
  clear c d
  go_enter Tryz.func217,Tryz.ntmps217
  go_wp2_with fail
  refine (fits_any a a0 a1 _).mono ?_
  rintro e w9 ⟨rfl,rfl⟩
  rw [ea.out]
  go_wp2
  go_ret2
  exact ⟨rfl,Below.refl _ _⟩
theorem taken_sum (a b:Int) (a0:-9223372036854775808≤a) (a1:a≤9223372036854775807) (b0:-9223372036854775808≤b) (b1:b≤9223372036854775807) (ca:FitP a) (cb:FitP b) (x y e':Int)
  (hs:∀ w,Calls Tryz.prog 191 #[.int .i64 a,.int .i64 b] w fun e w'=>e=.returned (.tuple #[.int .i64 x,.int .i64 0])∧w=w')
  (he:∀ w,Calls Tryz.prog 175 #[.int .i64 x] w fun e w'=>e=.returned (.tuple #[.int .i64 y,.int .i64 e'])∧w=w') (w:World) :
  Calls Tryz.prog 173 #[.int .i64 a,.int .i64 b,.func (.func 191) #[] #[],.func (.func 175) #[] #[]] w (RetV (.tuple #[.int .i64 y,.int .i64 e']) w):=by
 have ea:=Lib.hid (fitb_yes ca)
 have eb:=Lib.hid (fitb_yes cb)
 clear ca cb
 go_enter Tryz.func173,Tryz.ntmps173
 go_wp2_with fail
 refine (fits_any a a0 a1 _).mono ?_
 rintro e w9 ⟨rfl,rfl⟩
 rw [ea.out]
 go_wp2_with fail
 refine (fits_any b b0 b1 _).mono ?_
 rintro e w9 ⟨rfl,rfl⟩
 rw [eb.out]
 go_wp2_with fail
 refine (hs _).mono ?_
 rintro e w9 ⟨rfl,rfl⟩
 go_wp2_with fail
 refine (he _).mono ?_
 rintro e w9 ⟨rfl,rfl⟩
 go_wp2
 go_ret2
 exact ⟨rfl,Below.refl _ _⟩
theorem taken_difference (a b:Int) (a0:-9223372036854775808≤a) (a1:a≤9223372036854775807) (b0:-9223372036854775808≤b) (b1:b≤9223372036854775807) (ca:FitP a) (cb:FitP b) (x y e':Int)
  (hs:∀ w,Calls Tryz.prog 174 #[.int .i64 a,.int .i64 b] w fun e w'=>e=.returned (.tuple #[.int .i64 x,.int .i64 0])∧w=w')
  (he:∀ w,Calls Tryz.prog 175 #[.int .i64 x] w fun e w'=>e=.returned (.tuple #[.int .i64 y,.int .i64 e'])∧w=w') (w:World) :
  Calls Tryz.prog 173 #[.int .i64 a,.int .i64 b,.func (.func 174) #[] #[],.func (.func 175) #[] #[]] w (RetV (.tuple #[.int .i64 y,.int .i64 e']) w):=by
 have ea:=Lib.hid (fitb_yes ca)
 have eb:=Lib.hid (fitb_yes cb)
 clear ca cb
 go_enter Tryz.func173,Tryz.ntmps173
 go_wp2_with fail
 refine (fits_any a a0 a1 _).mono ?_
 rintro e w9 ⟨rfl,rfl⟩
 rw [ea.out]
 go_wp2_with fail
 refine (fits_any b b0 b1 _).mono ?_
 rintro e w9 ⟨rfl,rfl⟩
 rw [eb.out]
 go_wp2_with fail
 refine (hs _).mono ?_
 rintro e w9 ⟨rfl,rfl⟩
 go_wp2_with fail
 refine (he _).mono ?_
 rintro e w9 ⟨rfl,rfl⟩
 go_wp2
 go_ret2
 exact ⟨rfl,Below.refl _ _⟩
theorem takew_product (a b:Int) (a0:-9223372036854775808≤a) (a1:a≤9223372036854775807) (b0:-9223372036854775808≤b) (b1:b≤9223372036854775807) (ca:FitP a) (cb:FitP b) (h l y e':Int)
  (hs:∀ w,Calls Tryz.prog 218 #[.int .i64 a,.int .i64 b] w (RetV (.tuple #[wv h l,.int .i64 0]) w))
  (he:∀ w,Calls Tryz.prog 219 #[wv h l] w (RetV (.tuple #[.int .i64 y,.int .i64 e']) w)) (w:World) :
  Calls Tryz.prog 217 #[.int .i64 a,.int .i64 b,.func (.func 218) #[] #[],.func (.func 219) #[] #[]] w (RetV (.tuple #[.int .i64 y,.int .i64 e']) w):=by
 have ea:=Lib.hid (fitb_yes ca)
 have eb:=Lib.hid (fitb_yes cb)
 clear ca cb
 go_enter Tryz.func217,Tryz.ntmps217
 go_wp2_with fail
 refine (fits_any a a0 a1 _).mono ?_
 rintro e w9 ⟨rfl,rfl⟩
 rw [ea.out]
 go_wp2_with fail
 refine (fits_any b b0 b1 _).mono ?_
 rintro e w9 ⟨rfl,rfl⟩
 rw [eb.out]
 go_wp2_with fail
 refine (hs _).mono ?_
 rintro e w1 ⟨rfl,hb1⟩
 go_wp2_with fail
 refine (he _).mono ?_
 rintro e w2 ⟨rfl,hb2⟩
 have B:=b_trans (b_alloc hb1) hb2
 clear hb1 hb2
 go_wp2
 go_ret2
 exact ⟨rfl,B⟩
theorem takew_quotient (a b:Int) (a0:-9223372036854775808≤a) (a1:a≤9223372036854775807) (b0:-9223372036854775808≤b) (b1:b≤9223372036854775807) (ca:FitP a) (cb:FitP b) (h l y e':Int)
  (hs:∀ w,Calls Tryz.prog 226 #[.int .i64 a,.int .i64 b] w (RetV (.tuple #[wv h l,.int .i64 0]) w))
  (he:∀ w,Calls Tryz.prog 219 #[wv h l] w (RetV (.tuple #[.int .i64 y,.int .i64 e']) w)) (w:World) :
  Calls Tryz.prog 217 #[.int .i64 a,.int .i64 b,.func (.func 226) #[] #[],.func (.func 219) #[] #[]] w (RetV (.tuple #[.int .i64 y,.int .i64 e']) w):=by
 have ea:=Lib.hid (fitb_yes ca)
 have eb:=Lib.hid (fitb_yes cb)
 clear ca cb
 go_enter Tryz.func217,Tryz.ntmps217
 go_wp2_with fail
 refine (fits_any a a0 a1 _).mono ?_
 rintro e w9 ⟨rfl,rfl⟩
 rw [ea.out]
 go_wp2_with fail
 refine (fits_any b b0 b1 _).mono ?_
 rintro e w9 ⟨rfl,rfl⟩
 rw [eb.out]
 go_wp2_with fail
 refine (hs _).mono ?_
 rintro e w1 ⟨rfl,hb1⟩
 go_wp2_with fail
 refine (he _).mono ?_
 rintro e w2 ⟨rfl,hb2⟩
 have B:=b_trans (b_alloc hb1) hb2
 clear hb1 hb2
 go_wp2
 go_ret2
 exact ⟨rfl,B⟩
theorem takew_quotient_err (a b:Int) (a0:-9223372036854775808≤a) (a1:a≤9223372036854775807) (b0:-9223372036854775808≤b) (b1:b≤9223372036854775807) (ca:FitP a) (cb:FitP b) (fe:Value) (h l e':Int) (e0:(e' == 0)=false)
  (hs:∀ w,Calls Tryz.prog 226 #[.int .i64 a,.int .i64 b] w (RetV (.tuple #[wv h l,.int .i64 e']) w)) (w:World) :
  Calls Tryz.prog 217 #[.int .i64 a,.int .i64 b,.func (.func 226) #[] #[],fe] w (RetV (.tuple #[.int .i64 0,.int .i64 e']) w):=by
 have ea:=Lib.hid (fitb_yes ca)
 have eb:=Lib.hid (fitb_yes cb)
 clear ca cb
 go_enter Tryz.func217,Tryz.ntmps217
 go_wp2_with fail
 refine (fits_any a a0 a1 _).mono ?_
 rintro e w9 ⟨rfl,rfl⟩
 rw [ea.out]
 go_wp2_with fail
 refine (fits_any b b0 b1 _).mono ?_
 rintro e w9 ⟨rfl,rfl⟩
 rw [eb.out]
 go_wp2_with fail
 refine (hs _).mono ?_
 rintro e w1 ⟨rfl,hb1⟩
 have B:=b_alloc (o:=Obj.cells #[.int .i64 h,.int .u64 l] 187) hb1
 clear hb1
 go_wp2
 go_ret2
 exact ⟨rfl,B⟩
theorem narrow_any (h l z:Int) (x:IsW h l z) (w:World) :
  Calls Tryz.prog 219 #[wv h l] w (RetV (.tuple #[.int .i64 (nz z),.int .i64 (ne z)]) w):=by
 by_cases c:-9223372036854775808≤z∧z≤9223372036854775807
 ·have E:=Lib.hid (iz_of c)
  go_enter Tryz.func219,Tryz.ntmps219
  go_wp2_with fail
  refine (int_any h l z x _).mono ?_
  rintro e w1 ⟨rfl,hb1⟩
  rw [E.out.1,E.out.2]
  go_wp2_with fail
  refine (fitting_any z c.1 c.2 _).mono ?_
  rintro e w2 ⟨rfl,rfl⟩
  have B:=b_trans (b_alloc (Below.refl _ _)) hb1
  clear hb1
  go_wp2
  go_ret2
  exact ⟨rfl,B⟩
 ·have E:=Lib.hid (iz_no c)
  have N:=Lib.hid (nz_no (x:=z) (by omega))
  clear c
  go_enter Tryz.func219,Tryz.ntmps219
  go_wp2_with fail
  refine (int_any h l z x _).mono ?_
  rintro e w1 ⟨rfl,hb1⟩
  rw [E.out.1,E.out.2]
  have B:=b_trans (b_alloc (Below.refl _ _)) hb1
  clear hb1
  go_wp2
  go_ret2
  exact ⟨by rw [N.out.1,N.out.2]; rfl,B⟩
end Go.Proofs.YtjifkmldigemkaaGreatDoor
