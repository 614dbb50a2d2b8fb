import Derived.ScopeJumps
import Derived.WalkMore
import Derived.Test.YthnofhjgfhapiaaGreatDoorWab
import Derived.Test.YthnofhjgfhapiaaGreatDoorWaa
import Derived.Test.YthnofhjgfhapiaaGreatDoorWae
import Derived.Test.YthnofhjgfhapiaaGreatDoorWai
import Derived.Test.YthnofhjgfhapiaaGreatDoorWaj
import Derived.Lib.SmallJoins
import Derived.Deep.WholeRow
import Derived.Test.YthnofhjgfhapiaaGreatDoorWag
set_option maxHeartbeats 8000000
set_option maxRecDepth 20000
namespace Go.Proofs.YthnofhjgfhapiaaGreatDoor
open Go.RowKit Go.Shelf
theorem sq_words {h l x:Int} (e:h*18446744073709551616+l=x*x) (l0:0≤l) (l1:l≤18446744073709551615) (h0:0≤h) (h1:h≤9223372036854775807):IsW h l (x*x) :=
 ⟨by omega,h1,l0,l1,by omega⟩
theorem sq_above {h l x a ah al:Int} (e:h*18446744073709551616+l=x*x) (l0:0≤l) (h1:9223372036854775807<h) (y:IsW ah al a):cmp3 (x*x) a=1:=by
 have:=y.fits.2
 exact cmp3_gt (by omega)
theorem square_cmp (x ah al a:Int) (x0:0≤x) (x1:x≤18446744073709551615) (y:IsW ah al a) (w:World) :
  Calls Tryz.prog 191 #[.int .u64 x,wv ah al] w (RetV (.int .i64 (cmp3 (x*x) a)) w):=by
 generalize hg:cmp3 (x*x) a=g
 replace hg:=Lib.hid hg
 go_enter Tryz.func191,Tryz.ntmps191
 go_wp2_with (go_at_call 83; refine (mul64 _ _ (by omega) (by omega) (by omega) (by omega) _).mono ?_; rintro e w1 ⟨rh,rl,rfl,a0,a1,b0,b1,E,rfl⟩)
 ·rename_i big
  have:g=1:=by rw [← hg.out]; exact sq_above E.out b0 big y
  subst this
  go_ret
  exact ⟨rfl,b_alloc (Below.refl _ _)⟩
 ·rename_i le _ _ _ _
  refine (cmp_any _ _ _ _ _ _ (sq_words E.out b0 b1 a0 le) y _).mono ?_
  rintro e w2 ⟨rfl,hb⟩
  rw [hg.out]
  have B:=b_trans (b_alloc (o:=(Obj.cells #[Value.int IntKind.i64 ah,Value.int IntKind.u64 al] 96)) (Below.refl w.heap.size w)) hb
  go_wp2
  go_ret
  exact ⟨rfl,B⟩
structure RR (a n p:Int):Prop where
 n0:0≤n
 p1:1≤p
 n1:n+p≤18446744073709551616
 lo:n*n≤a
 hi:a<(n+p)*(n+p)
theorem rr_start {ah al a:Int} (y:IsW ah al a) (a0:0≤a):RR a 0 18446744073709551616:=by
 have:=y.fits.2
 exact ⟨by decide,by decide,by decide,by omega,by omega⟩
theorem rr_step {a n p:Int} (h:RR a n (2*p)) (p1:1≤p):((n+p)*(n+p)≤a→RR a (n+p) p)∧(a<(n+p)*(n+p)→RR a n p):=by
 obtain ⟨h0,h1,h2,h3,h4⟩:=h
 have t:=bit_take h0 p1 h3 h4
 exact ⟨fun k=>⟨by omega,p1,by omega,(t.1 k).2.1,(t.1 k).2.2⟩,fun k=>⟨h0,p1,by omega,h3,k⟩⟩
theorem rr_end {a n r:Int} (h:RR a n 1) (x:IsRoot a r):n=r:=IsRoot.uniq ⟨h.n0,h.lo,h.hi⟩ x
theorem or_bit {n:Int} (m:Nat) (n0:0≤n) (n1:n+2 ^ (m+1)≤18446744073709551616) (hm:m+1≤64) (d:(2:Int) ^ (m+1) ∣ n):bits .or .u64 n (2 ^ m)=n+2 ^ m:=by
 obtain ⟨c,rfl⟩:=d
 have e:(2:Int) ^ (m+1)=2*2 ^ m:=by rw [Int.pow_succ,Int.mul_comm]
 have p0:(0:Int)<2 ^ m:=Int.pow_pos (by decide)
 rw [bits_or_comm,or_u64 _ _ (m+1) hm c (by rw [Int.mul_comm c,Int.emod_eq_of_lt n0 (by omega)]) (by omega) (by omega)]
 omega
theorem root_of (ah al a r:Int) (x:IsW ah al a) (n:0≤a) (R:IsRoot a r) (w:World) :
  Calls Tryz.prog 171 #[wv ah al] w (RetV (.tuple #[.int .u64 r,.int .i64 0]) w):=by
 have cO:=retV_regrown (w:=w.alloc (Obj.cells #[.int .i64 ah,.int .u64 al] 96)) (fun w=>(of_any 0 (by decide) (by decide) w).mono fun _ _ h=>retW_det isW_zero h)
 have cC:=retV_regrown (w:=w.alloc (Obj.cells #[.int .i64 ah,.int .u64 al] 96)) (cmp_any _ _ _ _ _ _ x isW_zero)
 have cz:¬ cmp3 a 0<0:=by unfold cmp3; split <;> omega
 have g:=wc_regrown (w:=w.alloc (Obj.cells #[.int .i64 ah,.int .u64 al] 96)) (b:=w.heap.size) (h:=ah) (l:=al) (by simp [WC,go_sem])
 have r0:=rr_start x n
 generalize cmp3 a 0=c0 at *
 go_enter Tryz.func171,Tryz.ntmps171
 go_wp2
 go_step3
 go_wp2
 refine wp_region_quiet_below (by kernel_rfl) (by kernel_rfl) ?_
 repeat (quiet_step (first | exact cO _ _ | exact cC _ _))
 refine wpQuiet_nil ?_
 intro _ hw'
 obtain ⟨⟨dq,osq⟩,hw''⟩:=hw'
 subst hw''
 have B:=b_trans (b_alloc (o:=(Obj.cells #[Value.int IntKind.i64 ah,Value.int IntKind.u64 al] 96)) (Below.refl w.heap.size w)) (below_regrown _ dq osq)
 have k:=g dq osq
 clear g cO cC
 generalize Sort.grow (redrawn (w.alloc (Obj.cells #[Value.int IntKind.i64 ah,Value.int IntKind.u64 al] 96)) dq) osq=w2 at *
 go_wp2
 go_step3
 go_wp2
 go_loopw [4,5] (fun nv bv wr=>∃ (n p:Int) (m:Nat),nv=.int .u64 n∧bv=.int .u64 p∧RR a n (2 ^ m)∧(2:Int) ^ m ∣ n∧p=2 ^ m / 2∧m≤64∧WC wr w.heap.size ah al∧Below w.heap.size w wr) (fun nv bv _=>(intOf bv).toNat)
 case atStart=>exact ⟨0,9223372036854775808,64,rfl,rfl,r0,⟨0,by decide⟩,by decide,by decide,k,B⟩
 case round =>
  obtain ⟨n,p,m,rfl,rfl,rr,dv,hp,hm,k,B⟩:=hrel
  have n0:=rr.n0
  have nn:=rr.n1
  cases m with
  | zero =>
   obtain rfl:p=0:=by simpa using hp
   obtain rfl:=rr_end (by simpa using rr) R
   clear rr dv hp
   go_wp2
   try rw [Exit.noGoto_ret]
   go_ret2
   exact ⟨rfl,B⟩
  | succ m =>
   have e:(2:Int) ^ (m+1)=2*2 ^ m:=by rw [Int.pow_succ,Int.mul_comm]
   have p0:(0:Int)<2 ^ m:=Int.pow_pos (by decide)
   obtain rfl:p=2 ^ m:=by rw [hp,e]; omega
   have ho:=or_bit m n0 nn hm dv
   have ST:=Lib.hid (rr_step (e ▸ rr) (by omega))
   have EQ:Hid ((n+2 ^ m)*(n+2 ^ m)=a→n+2 ^ m=r):=Lib.hid (fun h=>IsRoot.uniq (root_square (by omega)) (h ▸ R))
   have DV:Hid ((2:Int) ^ m ∣ n∧(2:Int) ^ m ∣ n+2 ^ m):=Lib.hid (by
    have:(2:Int) ^ m ∣ n:=Int.dvd_trans ⟨2,by omega⟩ dv
    exact ⟨this,(Int.dvd_add_right this).2 (Int.dvd_refl _)⟩)
   rw [e] at nn
   clear rr dv hp e r0
   generalize hP:(2:Int) ^ m=P at *
   replace hP:=Lib.hid hP
   generalize hT:n+P=T at *
   replace hT:=Lib.hid hT
   have T0:0≤T∧T≤18446744073709551615:=by have:=hT.out; omega
   clear nn
   go_wp2_with fail
   refine (square_cmp T ah al a T0.1 T0.2 x _).mono ?_
   rintro e w3 ⟨rfl,hb⟩
   replace k:=wc_keep hb k
   replace B:=b_trans B hb
   clear hb
   by_cases lt:a<T*T
   ·rw [cmp3_gt lt]
    go_wp2
    refine ⟨⟨n,_,m,rfl,rfl,?_,?_,?_,by omega,k,B⟩,by simp [intOf]; omega⟩
    ·rw [hP.out]; exact ST.out.2 lt
    ·rw [hP.out]; exact DV.out.1
    ·rw [hP.out]
   ·by_cases eq:T*T=a
    ·rw [← eq,cmp3_eq]
     obtain rfl:=EQ.out eq
     go_wp2
     try rw [Exit.noGoto_ret]
     go_ret2
     exact ⟨rfl,B⟩
    ·rw [cmp3_lt (by omega)]
     go_wp2
     refine ⟨⟨T,_,m,rfl,rfl,?_,?_,?_,by omega,k,B⟩,by simp [intOf]; omega⟩
     ·rw [hP.out]; exact ST.out.1 (by omega)
     ·rw [hP.out]; exact DV.out.2
     ·rw [hP.out]
theorem mean_of (x y r:Int) (x0:0≤x) (x1:x≤9223372036854775807) (y0:0≤y) (y1:y≤9223372036854775807) (R:IsRoot (x*y) r) (w:World) :
  Calls Tryz.prog 137 #[.int .i64 x,.int .i64 y] w (RetV (.int .i64 r) w):=by
 have r0:=R.r0
 have r1:=root_i64 x0 y0 x1 y1 R
 have c:¬ x<0:=by omega
 have d:¬ y<0:=by omega
 go_enter Tryz.func137,Tryz.ntmps137
 go_wp2_with fail
 refine (mul_any x y (by omega) x1 (by omega) y1 _).mono ?_
 rintro e w1 ⟨mh,ml,rfl,hm,hb1⟩
 go_wp2_with fail
 refine (root_of mh ml (x*y) r hm (Int.mul_nonneg x0 y0) R _).mono ?_
 rintro e w2 ⟨rfl,hb2⟩
 have B:=b_trans hb1 hb2
 clear hb1 hb2 hm R
 go_wp2
 go_ret
 exact ⟨rfl,B⟩
end Go.Proofs.YthnofhjgfhapiaaGreatDoor
namespace Go.Proofs.YthnofhjgfhapiaaGreatDoor
open Go.RowKit Go.Shelf Go.Joins
abbrev FR (w:World) (b:Nat) (x:Nat→Int) (l r:Int):Prop:=w.heap[b]?=some (.cells #[.int .i64 (x 0),.int .i64 (x 1),.int .i64 (x 2),.int .i64 (x 3),.int .i64 (x 4),.int .i64 (x 5),.int .i64 (x 6),.int .i64 (x 7),.int .i64 (x 8),.int .i64 (x 9),.int .i64 (x 10),.int .i64 (x 11),.int .i64 (x 12),.int .i64 (x 13),.int .i64 (x 14),.int .i64 (x 15),.int .i64 (x 16),.int .i64 (x 17),.int .i64 (x 18),.int .i64 (x 19),.int .i64 (x 20),.int .i64 (x 21),.int .i64 (x 22),.int .i64 (x 23),.int .i64 (x 24),.int .i64 (x 25),.int .i64 (x 26),.int .i64 (x 27),.int .i64 (x 28),.int .i64 (x 29),.int .i64 (x 30),.int .i64 l,.int .i64 r] 109 (0,0))
theorem fr_31 {w:World} {b:Nat} {x:Nat→Int} {l r v:Int} (h:FR w b x l r):FR (w.setCell ⟨b,31,none⟩ (.int .i64 v)) b x v r:=(heap_setCell_same w b 31 _ _ _ h).trans rfl
theorem fr_32 {w:World} {b:Nat} {x:Nat→Int} {l r v:Int} (h:FR w b x l r):FR (w.setCell ⟨b,32,none⟩ (.int .i64 v)) b x l v:=(heap_setCell_same w b 32 _ _ _ h).trans rfl
theorem fr_part {x:Nat→Int} {l r:Int}:(#[.int .i64 (x 0),.int .i64 (x 1),.int .i64 (x 2),.int .i64 (x 3),.int .i64 (x 4),.int .i64 (x 5),.int .i64 (x 6),.int .i64 (x 7),.int .i64 (x 8),.int .i64 (x 9),.int .i64 (x 10),.int .i64 (x 11),.int .i64 (x 12),.int .i64 (x 13),.int .i64 (x 14),.int .i64 (x 15),.int .i64 (x 16),.int .i64 (x 17),.int .i64 (x 18),.int .i64 (x 19),.int .i64 (x 20),.int .i64 (x 21),.int .i64 (x 22),.int .i64 (x 23),.int .i64 (x 24),.int .i64 (x 25),.int .i64 (x 26),.int .i64 (x 27),.int .i64 (x 28),.int .i64 (x 29),.int .i64 (x 30),.int .i64 l,.int .i64 r]:Array Value).extract 0 (0+(#[.int .i64 (x 0),.int .i64 (x 1),.int .i64 (x 2),.int .i64 (x 3),.int .i64 (x 4),.int .i64 (x 5),.int .i64 (x 6),.int .i64 (x 7),.int .i64 (x 8),.int .i64 (x 9),.int .i64 (x 10),.int .i64 (x 11),.int .i64 (x 12),.int .i64 (x 13),.int .i64 (x 14),.int .i64 (x 15),.int .i64 (x 16),.int .i64 (x 17),.int .i64 (x 18),.int .i64 (x 19),.int .i64 (x 20),.int .i64 (x 21),.int .i64 (x 22),.int .i64 (x 23),.int .i64 (x 24),.int .i64 (x 25),.int .i64 (x 26),.int .i64 (x 27),.int .i64 (x 28),.int .i64 (x 29),.int .i64 (x 30)]:Array Value).size)=#[.int .i64 (x 0),.int .i64 (x 1),.int .i64 (x 2),.int .i64 (x 3),.int .i64 (x 4),.int .i64 (x 5),.int .i64 (x 6),.int .i64 (x 7),.int .i64 (x 8),.int .i64 (x 9),.int .i64 (x 10),.int .i64 (x 11),.int .i64 (x 12),.int .i64 (x 13),.int .i64 (x 14),.int .i64 (x 15),.int .i64 (x 16),.int .i64 (x 17),.int .i64 (x 18),.int .i64 (x 19),.int .i64 (x 20),.int .i64 (x 21),.int .i64 (x 22),.int .i64 (x 23),.int .i64 (x 24),.int .i64 (x 25),.int .i64 (x 26),.int .i64 (x 27),.int .i64 (x 28),.int .i64 (x 29),.int .i64 (x 30)]:=by kernel_rfl
def ap (x:Nat→Int) (l n:Int):Int:=if the x n=0 then thv x n else l
def ah (x:Nat→Int) (n:Int):Bool:=!decide (the x n=0)
def ar (x:Nat→Int) (r n:Int):Int:=if the x n=0 then 0 else r+1
def aq (x:Nat→Int) (r n:Int):Bool:=ah x n && decide (x 27<r+1)
theorem a_ok {x:Nat→Int} {n:Int} (h:the x n=0) (l r:Int):ap x l n=thv x n∧ah x n=false∧ar x r n=0∧aq x r n=false:=by
 unfold aq ap ah ar
 rw [if_pos h,if_pos h,decide_eq_true h]
 exact ⟨rfl,rfl,rfl,rfl⟩
theorem a_no {x:Nat→Int} {n:Int} (h:¬ the x n=0) (l r:Int):ap x l n=l∧ah x n=true∧ar x r n=r+1∧aq x r n=decide (x 27<r+1):=by
 unfold aq ap ah ar
 rw [if_neg h,if_neg h,decide_eq_false h]
 exact ⟨rfl,rfl,rfl,rfl⟩
theorem the_or {x:Nat→Int} (c:cks x=0) (n:Int):the x n=0∨the x n=2:=by
 cases i:inb n (1 - x 26) (x 26 - 1)
 ·exact Or.inr (th_out c i).2
 ·exact Or.inl (th_ok c i).2
theorem new_ok (x:Nat→Int) (hx:C64 x) (c:cks x=0) (w:World):Calls Tryz.prog 16 #[cv x] w fun e w'=>∃ b,e=.returned (.tuple #[.pointer (some ⟨b,0,none⟩),.int .i64 0])∧w.heap.size≤b∧FR w' b x 0 0∧Below w.heap.size w w':=by
 have ck:=check_any x hx
 rw [c] at ck
 clear c
 have E:Below w.heap.size w (w.alloc (Obj.cells #[.int .i64 (x 0),.int .i64 (x 1),.int .i64 (x 2),.int .i64 (x 3),.int .i64 (x 4),.int .i64 (x 5),.int .i64 (x 6),.int .i64 (x 7),.int .i64 (x 8),.int .i64 (x 9),.int .i64 (x 10),.int .i64 (x 11),.int .i64 (x 12),.int .i64 (x 13),.int .i64 (x 14),.int .i64 (x 15),.int .i64 (x 16),.int .i64 (x 17),.int .i64 (x 18),.int .i64 (x 19),.int .i64 (x 20),.int .i64 (x 21),.int .i64 (x 22),.int .i64 (x 23),.int .i64 (x 24),.int .i64 (x 25),.int .i64 (x 26),.int .i64 (x 27),.int .i64 (x 28),.int .i64 (x 29),.int .i64 (x 30)] 27)):=b_alloc (Below.refl _ _)
 have cr:CR (w.alloc (Obj.cells #[.int .i64 (x 0),.int .i64 (x 1),.int .i64 (x 2),.int .i64 (x 3),.int .i64 (x 4),.int .i64 (x 5),.int .i64 (x 6),.int .i64 (x 7),.int .i64 (x 8),.int .i64 (x 9),.int .i64 (x 10),.int .i64 (x 11),.int .i64 (x 12),.int .i64 (x 13),.int .i64 (x 14),.int .i64 (x 15),.int .i64 (x 16),.int .i64 (x 17),.int .i64 (x 18),.int .i64 (x 19),.int .i64 (x 20),.int .i64 (x 21),.int .i64 (x 22),.int .i64 (x 23),.int .i64 (x 24),.int .i64 (x 25),.int .i64 (x 26),.int .i64 (x 27),.int .i64 (x 28),.int .i64 (x 29),.int .i64 (x 30)] 27)) w.heap.size x:=cr_new
 go_enter Tryz.func16,Tryz.ntmps16
 go_wp2_with (with_reducible refine stop_at (some 4) rfl ?_)
 generalize (w.alloc (Obj.cells #[.int .i64 (x 0),.int .i64 (x 1),.int .i64 (x 2),.int .i64 (x 3),.int .i64 (x 4),.int .i64 (x 5),.int .i64 (x 6),.int .i64 (x 7),.int .i64 (x 8),.int .i64 (x 9),.int .i64 (x 10),.int .i64 (x 11),.int .i64 (x 12),.int .i64 (x 13),.int .i64 (x 14),.int .i64 (x 15),.int .i64 (x 16),.int .i64 (x 17),.int .i64 (x 18),.int .i64 (x 19),.int .i64 (x 20),.int .i64 (x 21),.int .i64 (x 22),.int .i64 (x 23),.int .i64 (x 24),.int .i64 (x 25),.int .i64 (x 26),.int .i64 (x 27),.int .i64 (x 28),.int .i64 (x 29),.int .i64 (x 30)] 27))=z0 at *
 refine unstop ?_
 refine wpList_load_row rfl 27 (.tmp 1) rfl w.heap.size rfl 27 _ (0,0) _ cr Tryz.underlying27 rfl (by kernel_rfl) ?_
 go_wp2_with fail
 refine (ck _).mono ?_
 rintro e y0 ⟨rfl,hb⟩
 replace cr:=cr_keep hb cr
 replace E:=b_trans E hb
 clear hb ck
 go_wp2_with (with_reducible refine stop_at (some 7) rfl ?_)
 refine unstop ?_
 refine wpList_load_row rfl 27 (.tmp 1) rfl w.heap.size rfl 27 _ (0,0) _ cr Tryz.underlying27 rfl (by kernel_rfl) ?_
 go_wp2
 go_ret2
 exact ⟨_,rfl,E.size,heap_alloc_last _ _,b_alloc E⟩
theorem new_bad (x:Nat→Int) (hx:C64 x) (c:¬ cks x=0) (w:World):Calls Tryz.prog 16 #[cv x] w (RetV (.tuple #[.pointer none,.int .i64 1]) w):=by
 have ck:=check_any x hx
 generalize cks x=m at *
 have E:Below w.heap.size w (w.alloc (Obj.cells #[.int .i64 (x 0),.int .i64 (x 1),.int .i64 (x 2),.int .i64 (x 3),.int .i64 (x 4),.int .i64 (x 5),.int .i64 (x 6),.int .i64 (x 7),.int .i64 (x 8),.int .i64 (x 9),.int .i64 (x 10),.int .i64 (x 11),.int .i64 (x 12),.int .i64 (x 13),.int .i64 (x 14),.int .i64 (x 15),.int .i64 (x 16),.int .i64 (x 17),.int .i64 (x 18),.int .i64 (x 19),.int .i64 (x 20),.int .i64 (x 21),.int .i64 (x 22),.int .i64 (x 23),.int .i64 (x 24),.int .i64 (x 25),.int .i64 (x 26),.int .i64 (x 27),.int .i64 (x 28),.int .i64 (x 29),.int .i64 (x 30)] 27)):=b_alloc (Below.refl _ _)
 have cr:CR (w.alloc (Obj.cells #[.int .i64 (x 0),.int .i64 (x 1),.int .i64 (x 2),.int .i64 (x 3),.int .i64 (x 4),.int .i64 (x 5),.int .i64 (x 6),.int .i64 (x 7),.int .i64 (x 8),.int .i64 (x 9),.int .i64 (x 10),.int .i64 (x 11),.int .i64 (x 12),.int .i64 (x 13),.int .i64 (x 14),.int .i64 (x 15),.int .i64 (x 16),.int .i64 (x 17),.int .i64 (x 18),.int .i64 (x 19),.int .i64 (x 20),.int .i64 (x 21),.int .i64 (x 22),.int .i64 (x 23),.int .i64 (x 24),.int .i64 (x 25),.int .i64 (x 26),.int .i64 (x 27),.int .i64 (x 28),.int .i64 (x 29),.int .i64 (x 30)] 27)) w.heap.size x:=cr_new
 go_enter Tryz.func16,Tryz.ntmps16
 go_wp2_with (with_reducible refine stop_at (some 4) rfl ?_)
 generalize (w.alloc (Obj.cells #[.int .i64 (x 0),.int .i64 (x 1),.int .i64 (x 2),.int .i64 (x 3),.int .i64 (x 4),.int .i64 (x 5),.int .i64 (x 6),.int .i64 (x 7),.int .i64 (x 8),.int .i64 (x 9),.int .i64 (x 10),.int .i64 (x 11),.int .i64 (x 12),.int .i64 (x 13),.int .i64 (x 14),.int .i64 (x 15),.int .i64 (x 16),.int .i64 (x 17),.int .i64 (x 18),.int .i64 (x 19),.int .i64 (x 20),.int .i64 (x 21),.int .i64 (x 22),.int .i64 (x 23),.int .i64 (x 24),.int .i64 (x 25),.int .i64 (x 26),.int .i64 (x 27),.int .i64 (x 28),.int .i64 (x 29),.int .i64 (x 30)] 27))=z0 at *
 refine unstop ?_
 refine wpList_load_row rfl 27 (.tmp 1) rfl w.heap.size rfl 27 _ (0,0) _ cr Tryz.underlying27 rfl (by kernel_rfl) ?_
 go_wp2_with fail
 refine (ck _).mono ?_
 rintro e y0 ⟨rfl,hb⟩
 replace E:=b_trans E hb
 clear hb ck cr
 go_wp2
 go_ret2
 exact ⟨rfl,E⟩
theorem add_held (b:Nat) (x:Nat→Int) (l r:Int) (w:World) (h:FR w b x l r):Calls Tryz.prog 71 #[.pointer (some ⟨b,0,none⟩),.bool true] w (RetV (tv (x 3) (x 4) (x 5)) w):=by
 have g0:(w.alloc (Obj.cells #[.int .i64 0,.int .i64 0,.int .i64 0] 25)).cell? ⟨b,3,none⟩=some (.int .i64 (x 3)):=(cell_of_row _ _ 3 _ _ _ (row_keep (b_alloc (Below.refl _ _)) h)).trans rfl
 have g1:(w.alloc (Obj.cells #[.int .i64 0,.int .i64 0,.int .i64 0] 25)).cell? ⟨b,4,none⟩=some (.int .i64 (x 4)):=(cell_of_row _ _ 4 _ _ _ (row_keep (b_alloc (Below.refl _ _)) h)).trans rfl
 have g2:(w.alloc (Obj.cells #[.int .i64 0,.int .i64 0,.int .i64 0] 25)).cell? ⟨b,5,none⟩=some (.int .i64 (x 5)):=(cell_of_row _ _ 5 _ _ _ (row_keep (b_alloc (Below.refl _ _)) h)).trans rfl
 clear h
 go_enter Tryz.func71,Tryz.ntmps71
 go_wp2
 exact bodyPost_ret (v:=tv (x 3) (x 4) (x 5)) (by simp [results,Tryz.results71,go_sem]) rfl ⟨rfl,b_alloc (Below.refl _ _)⟩
theorem add_not (b:Nat) (x:Nat→Int) (l r:Int) (w:World) (h:FR w b x l r):Calls Tryz.prog 71 #[.pointer (some ⟨b,0,none⟩),.bool false] w (RetV (tv (x 0) (x 1) (x 2)) w):=by
 have g0:(w.alloc (Obj.cells #[.int .i64 0,.int .i64 0,.int .i64 0] 25)).cell? ⟨b,0,none⟩=some (.int .i64 (x 0)):=(cell_of_row _ _ 0 _ _ _ (row_keep (b_alloc (Below.refl _ _)) h)).trans rfl
 have g1:(w.alloc (Obj.cells #[.int .i64 0,.int .i64 0,.int .i64 0] 25)).cell? ⟨b,1,none⟩=some (.int .i64 (x 1)):=(cell_of_row _ _ 1 _ _ _ (row_keep (b_alloc (Below.refl _ _)) h)).trans rfl
 have g2:(w.alloc (Obj.cells #[.int .i64 0,.int .i64 0,.int .i64 0] 25)).cell? ⟨b,2,none⟩=some (.int .i64 (x 2)):=(cell_of_row _ _ 2 _ _ _ (row_keep (b_alloc (Below.refl _ _)) h)).trans rfl
 clear h
 go_enter Tryz.func71,Tryz.ntmps71
 go_wp2
 exact bodyPost_ret (v:=tv (x 0) (x 1) (x 2)) (by simp [results,Tryz.results71,go_sem]) rfl ⟨rfl,b_alloc (Below.refl _ _)⟩
theorem in_ok (b:Nat) (x:Nat→Int) (hx:C64 x) (l r n:Int) (_c:cks x=0) (t:the x n=0) (w:World) (h:FR w b x l r):Calls Tryz.prog 21 #[.pointer (some ⟨b,0,none⟩),.int .i64 n] w fun e w'=>e=.returned (.tuple #[.int .i64 (thv x n),.bool false,.bool false])∧FR w' b x (thv x n) 0∧But b w w':=by
 have ct:=thrust_any x hx n
 rw [t] at ct
 clear _c t
 have B:=but_refl b w
 generalize thv x n=p at *
 go_enter Tryz.func21,Tryz.ntmps21
 go_wp2_with (with_reducible refine stop_at (some 12) rfl ?_)
 refine unstop ?_
 refine wpList_load_part rfl 27 (.tmp 11) rfl b 0 rfl 109 _ _ (0,0) _ h fr_part Tryz.underlying27 rfl (by kernel_rfl) ?_
 go_wp2_with fail
 refine (ct _).mono ?_
 rintro e y0 ⟨rfl,hb⟩
 replace h:=row_keep hb h
 replace B:=but_trans B (but_below hb)
 clear hb ct
 have g31:y0.cell? ⟨b,31,none⟩=some (.int .i64 l):=(cell_of_row _ _ 31 _ _ _ h).trans rfl
 have g32:y0.cell? ⟨b,32,none⟩=some (.int .i64 r):=(cell_of_row _ _ 32 _ _ _ h).trans rfl
 have z31:=frozen_of_row y0 b 31 _ _ h
 have z32:=frozen_of_row y0 b 32 _ _ h
 go_wp2
 go_ret3
 exact ⟨rfl,fr_32 (fr_31 h),but_trans B (but_trans but_set but_set)⟩
theorem in_held (b:Nat) (x:Nat→Int) (hx:C64 x) (l r n:Int) (_c:cks x=0) (t:the x n=2) (r0:0≤r) (r1:r≤1000000) (w:World) (h:FR w b x l r):Calls Tryz.prog 21 #[.pointer (some ⟨b,0,none⟩),.int .i64 n] w fun e w'=>e=.returned (.tuple #[.int .i64 l,.bool true,.bool (decide (x 27<r+1))])∧FR w' b x l (r+1)∧But b w w':=by
 have ct:=thrust_any x hx n
 rw [t] at ct
 clear _c t
 have B:=but_refl b w
 generalize thv x n=p at *
 have ws:IntKind.i64.wrap (r+1)=r+1:=by rw [IntKind.wrap_i64]; omega
 go_enter Tryz.func21,Tryz.ntmps21
 go_wp2_with (with_reducible refine stop_at (some 12) rfl ?_)
 refine unstop ?_
 refine wpList_load_part rfl 27 (.tmp 11) rfl b 0 rfl 109 _ _ (0,0) _ h fr_part Tryz.underlying27 rfl (by kernel_rfl) ?_
 go_wp2_with fail
 refine (ct _).mono ?_
 rintro e y0 ⟨rfl,hb⟩
 replace h:=row_keep hb h
 replace B:=but_trans B (but_below hb)
 clear hb ct
 have g32:y0.cell? ⟨b,32,none⟩=some (.int .i64 r):=(cell_of_row _ _ 32 _ _ _ h).trans rfl
 have z32:=frozen_of_row y0 b 32 _ _ h
 go_wp2_with fail
 replace h:=fr_32 (v:=r+1) h
 replace B:=but_trans B (but_set (i:=32) (v:=.int .i64 (r+1)))
 clear g32 z32 ws
 generalize y0.setCell ⟨b,32,none⟩ (.int .i64 (r+1))=y1 at *
 have g27:=cell_regrown (show y1.cell? ⟨b,27,none⟩=some (.int .i64 (x 27)) from (cell_of_row _ _ 27 _ _ _ h).trans rfl)
 have g31:=cell_regrown (show y1.cell? ⟨b,31,none⟩=some (.int .i64 l) from (cell_of_row _ _ 31 _ _ _ h).trans rfl)
 have g32:=cell_regrown (show y1.cell? ⟨b,32,none⟩=some (.int .i64 (r+1)) from (cell_of_row _ _ 32 _ _ _ h).trans rfl)
 refine wp_region_quiet_below (by kernel_rfl) (by kernel_rfl) ?_
 repeat (with_reducible refine wpQuiet_step (fun KQ hKQ=>?_); go_simp; with_reducible refine hKQ _ ?_; clear hKQ KQ)
 refine wpQuiet_nil ?_
 intro _ hw'
 obtain ⟨⟨dq,osq⟩,hw''⟩:=hw'
 subst hw''
 replace B:=but_trans B (but_below (below_regrown _ dq osq))
 replace h:=row_keep (below_regrown _ dq osq) h
 clear g27 g31 g32
 generalize Sort.grow (redrawn y1 dq) osq=y2 at *
 go_wp2
 go_ret3
 exact ⟨rfl,h,B⟩
end Go.Proofs.YthnofhjgfhapiaaGreatDoor
