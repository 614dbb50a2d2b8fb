import Derived.Test.YthnofhjgfhapiaaGreatDoorWaw
import Derived.Test.YthnofhjgfhapiaaGreatDoorWao
import Derived.Test.YthnofhjgfhapiaaGreatDoorWan
import Derived.Test.YthnofhjgfhapiaaGreatDoorWag
import Derived.Test.YthnofhjgfhapiaaGreatDoorWbc
import Derived.Test.YthnofhjgfhapiaaGreatDoorWai
import Derived.Test.YthnofhjgfhapiaaGreatDoorWam
import Derived.Test.YthnofhjgfhapiaaGreatDoorWae
import Derived.Test.YthnofhjgfhapiaaGreatDoorWaa
import Derived.Test.YthnofhjgfhapiaaGreatDoorWax
import Derived.Test.YthnofhjgfhapiaaGreatDoorWaf
set_option maxHeartbeats 8000000
set_option maxRecDepth 10000
namespace Go.Proofs.YthnofhjgfhapiaaGreatDoor
open Go.RowKit Go.Shelf Go.Joins
def HS (w:World) (v:Value) (n:Nat) (z:Nat→Int):Prop:=w.ownsRow 0 2 1 v n (ints z n)
def Ow (b fb gb:Nat) (hl:Value) (k:Nat):Prop:=k=b∨k=fb∨k=gb∨hl.ownBlock=some k
def Og (b gb:Nat) (hl:Value) (k:Nat):Prop:=k=b∨k=gb∨hl.ownBlock=some k
theorem hs_chs {w w':World} {S:Nat→Prop} {v:Value} {n:Nat} {z:Nat→Int} (h:Chs S w w') (hn:∀ k,v.ownBlock=some k→¬ S k) (c:HS w v n z):HS w' v n z:=by
 refine ⟨c.1,?_⟩
 rcases c.2 with q | ⟨g,cap,cur,rfl,h1,h2,h3⟩
 ·exact Or.inl q
 ·exact Or.inr ⟨g,cap,cur,rfl,h1,chs_row h (hn g rfl) h2,h3⟩
theorem hs_keep {w w':World} {v:Value} {n:Nat} {z:Nat→Int} (h:Below w.heap.size w w') (c:HS w v n z):HS w' v n z:=hs_chs (S:=fun _=>False) (chs_below h) (fun _ _ q=>q) c
theorem hs_but {w w':World} {b:Nat} {v:Value} {n:Nat} {z:Nat→Int} (h:But b w w') (hn:∀ k,v.ownBlock=some k→k≠b) (c:HS w v n z):HS w' v n z:=hs_chs (S:=fun k=>k=b) (chs_of_but h rfl) hn c
theorem hs_lt {w:World} {v:Value} {n:Nat} {z:Nat→Int} (c:HS w v n z):∀ k,v.ownBlock=some k→k<w.heap.size:=fun k hk=>(World.ownsRow.lt c k hk).2
theorem hs_nil {w:World} {z:Nat→Int}:HS w (.slice none 0 0) 0 z:=⟨rfl,Or.inl ⟨rfl,rfl⟩⟩
theorem own_new {w w':World} {v v':Value} (hs:w.heap.size≤w'.heap.size) (h:v'.ownBlock=v.ownBlock∨v'.ownBlock=some w'.heap.size):∀ k,v'.ownBlock=some k→v.ownBlock=some k∨w.heap.size≤k:=fun k hk=>by
 rcases h with e | e
 ·exact Or.inl (e ▸ hk)
 ·rw [e] at hk
  injection hk with hk
  exact Or.inr (by omega)
theorem gather_lo (b fb gb:Nat) (hl:Value) (x:Nat→Int) (m s:Int) (a u:Nat→Int) (n:Nat) (z:Nat→Int) (p c md n0 n1:Int) (hn:n<15) (w:World) (h:CB w b fb gb hl x m s a u) (hs:HS w hl n z) (gr:GR w gb c md n0 n1) (T:Tb3 w) (nb:∀ k,hl.ownBlock=some k→k≠b∧k≠gb) (nu:∀ k,hl.ownBlock=some k→Up k) (nf:gb≠b) (ub:Up b) :
  Calls Tryz.prog 24 #[.pointer (some ⟨b,0,none⟩),.int .i64 p] w fun e_ w'=>e_=.returned (.int .i64 2)∧∃ h1,CB w' b fb gb h1 x m s a u∧HS w' h1 (n+1) (more z n p)∧GR w' gb c md n0 n1∧(∀ k,h1.ownBlock=some k→hl.ownBlock=some k∨w.heap.size≤k)∧Chs (Og b gb hl) w w':=by
 have hn16:((n+1:Nat):Int)<16:=by omega
 have hn17:((n:Nat):Int)+1<16:=by omega
 have B0:=chs_refl (Og b gb hl) w
 have he:=cb_he h
 have zh:=cb_fz h 32
 obtain ⟨i0,hi,hz0,hz1,hz2⟩:=info_whole
 have HO:Hid (w.ownsRow 0 2 1 hl n (ints z n)):=Lib.hid hs
 have hl0:=hs_lt hs
 have HM:Hid (ints (more z n p) (n+1)=ints z n ++ [.int .i64 p]):=Lib.hid (ints_more z n p)
 have lb:=cb_lt h
 have lg:=(Array.getElem?_eq_some_iff.1 gr).1
 clear hs
 generalize ints z n=ls at *
 go_enter Tryz.func24,Tryz.ntmps24
 go_wp2_with (with_reducible refine stop_at (some 16) rfl ?_)
 refine unstop ?_
 refine wpList_append_own_at _ rfl (.tmp 13) (.tmp 15) 59 rfl 0 2 i0 (.int .i64 0) 1 8 Tryz.underlying59 hi hz0 hz1 hz2 rfl (by decide) _ _ _ rfl (HO.out.alloc _) ⟨w.heap.size,0,none⟩ 1 1 [.int .i64 p] rfl rfl (cell_one_new _ _ _) (fun x hx=>by simp at hx; subst hx; rfl) (by unfold maxLen; omega) (by omega) (Nat.zero_le _) ?_
 intro v1 w1 ho hg hnil hat
 have ba:Below w.heap.size w (w.alloc (Obj.cells #[.int .i64 p] 2)):=b_alloc (Below.refl _ _)
 have q1:∀ k,v1.ownBlock=some k→hl.ownBlock=some k∨w.heap.size≤k:=own_new ba.size hat
 rw [← HM.out] at ho
 replace ho:HS w1 v1 (n+1) (more z n p):=ho
 have c1:Chs (Og b gb hl) w w1:=chs_trans (chs_below ba) (chs_grown hg (fun k hk=>Or.inr (Or.inr hk)))
 have h1:CB w1 b fb gb hl x m s a u:=chs_row (chs_grown (S:=fun k=>hl.ownBlock=some k) hg (fun _ h=>h)) (fun c=>(nb _ c).1 rfl) (row_keep ba h)
 have gr1:GR w1 gb c md n0 n1:=chs_row (chs_grown (S:=fun k=>hl.ownBlock=some k) hg (fun _ h=>h)) (fun c=>(nb _ c).2 rfl) (row_keep ba gr)
 have T1:=t3_chs (chs_trans (chs_below ba) (chs_grown (S:=fun k=>hl.ownBlock=some k) hg (fun _ h=>h))) (fun k hk=>nu k hk) T
 have nb1:∀ k,v1.ownBlock=some k→k≠b∧k≠gb:=fun k hk=>(q1 k hk).elim (nb k) (fun _=>⟨by omega,by omega⟩)
 have h2:=cb_puth (hw:=v1) h1
 have B2:=chs_trans c1 (chs_of_but (S:=Og b gb hl) (but_set (b:=b) (i:=32) (v:=v1) (w:=w1)) (Or.inl rfl))
 have ho2:=hs_but (but_set (b:=b) (i:=32) (v:=v1)) (fun k hk=>(nb1 k hk).1) ho
 have gr2:=but_row (but_set (b:=b) (i:=32) (v:=v1)) nf gr1
 have T2:=t3_but (but_set (b:=b) (i:=32) (v:=v1)) ub T1
 have he1:=cb_he h1
 have zh1:=cb_fz h1 32
 have he2:=cb_he h2
 obtain ⟨sa,cap,rfl,hc⟩:=is_own ho2
 have KK:=Lib.hid (And.intro h2 (And.intro B2 (And.intro ho2 (And.intro gr2 (And.intro T2 hc)))))
 have N1:=Lib.hid nb1
 have Q1:=Lib.hid q1
 clear ho hg hnil hat ba c1 h1 gr1 T1 h2 B2 ho2 gr2 T2 hc h T gr B0 he zh HO HM nb nu hl0 nb1 q1
 go_wp2
 go_ret
 generalize (w1.setCell ⟨b,32,none⟩ (.slice sa (n+1) cap))=y1 at *
 obtain ⟨h2,B2,ho2,gr2,T2,-⟩:=KK.out
 exact ⟨rfl,_,h2,ho2,gr2,Q1.out,B2⟩
theorem but_g9 {w:World} {b:Nat} {v0 v1 v2 v3 v4 v5 v6 v7 v8:Value}:But b w (((((((((w.setCell ⟨b,36,none⟩ v0).setCell ⟨b,37,none⟩ (v1)).setCell ⟨b,38,none⟩ (v2)).setCell ⟨b,39,none⟩ (v3)).setCell ⟨b,40,none⟩ (v4)).setCell ⟨b,41,none⟩ (v5)).setCell ⟨b,42,none⟩ (v6)).setCell ⟨b,43,none⟩ (v7)).setCell ⟨b,44,none⟩ (v8)):=but_trans (but_trans (but_trans (but_trans (but_trans (but_trans (but_trans (but_trans but_set but_set) but_set) but_set) but_set) but_set) but_set) but_set) but_set
theorem gather_hi (b fb gb:Nat) (hl:Value) (x:Nat→Int) (m s:Int) (a u:Nat→Int) (n:Nat) (z:Nat→Int) (p c md n0 n1:Int) (M:Int) (hn:n=15) (eM:mv (more z n p) (n+1)=M) (w:World) (h:CB w b fb gb hl x m s a u) (hs:HS w hl n z) (gr:GR w gb c md n0 n1) (T:Tb3 w) (nb:∀ k,hl.ownBlock=some k→k≠b∧k≠gb) (nu:∀ k,hl.ownBlock=some k→Up k) (nf:gb≠b) (ub:Up b) :
  Calls Tryz.prog 24 #[.pointer (some ⟨b,0,none⟩),.int .i64 p] w fun e_ w'=>e_=.returned (.int .i64 0)∧∃ h1,CB w' b fb gb h1 x m s (tri (az M) 0 0) (dgm (x 8) (x 9) (x 10))∧HS w' h1 (n+1) (more z n p)∧GR w' gb (sc c M) md n0 n1∧(∀ k,h1.ownBlock=some k→hl.ownBlock=some k∨w.heap.size≤k)∧Chs (Og b gb hl) w w':=by
 have hn16:¬ ((n+1:Nat):Int)<16:=by omega
 have hn17:¬ ((n:Nat):Int)+1<16:=by omega
 have n15:n≤15:=by omega
 clear hn
 have B0:=chs_refl (Og b gb hl) w
 have he:=cb_he h
 have zh:=cb_fz h 32
 obtain ⟨i0,hi,hz0,hz1,hz2⟩:=info_whole
 have HO:Hid (w.ownsRow 0 2 1 hl n (ints z n)):=Lib.hid hs
 have hl0:=hs_lt hs
 have HM:Hid (ints (more z n p) (n+1)=ints z n ++ [.int .i64 p]):=Lib.hid (ints_more z n p)
 have lb:=cb_lt h
 have lg:=(Array.getElem?_eq_some_iff.1 gr).1
 clear hs
 generalize ints z n=ls at *
 go_enter Tryz.func24,Tryz.ntmps24
 go_wp2_with (with_reducible refine stop_at (some 16) rfl ?_)
 refine unstop ?_
 refine wpList_append_own_at _ rfl (.tmp 13) (.tmp 15) 59 rfl 0 2 i0 (.int .i64 0) 1 8 Tryz.underlying59 hi hz0 hz1 hz2 rfl (by decide) _ _ _ rfl (HO.out.alloc _) ⟨w.heap.size,0,none⟩ 1 1 [.int .i64 p] rfl rfl (cell_one_new _ _ _) (fun x hx=>by simp at hx; subst hx; rfl) (by unfold maxLen; omega) (by omega) (Nat.zero_le _) ?_
 intro v1 w1 ho hg hnil hat
 have ba:Below w.heap.size w (w.alloc (Obj.cells #[.int .i64 p] 2)):=b_alloc (Below.refl _ _)
 have q1:∀ k,v1.ownBlock=some k→hl.ownBlock=some k∨w.heap.size≤k:=own_new ba.size hat
 rw [← HM.out] at ho
 replace ho:HS w1 v1 (n+1) (more z n p):=ho
 have c1:Chs (Og b gb hl) w w1:=chs_trans (chs_below ba) (chs_grown hg (fun k hk=>Or.inr (Or.inr hk)))
 have h1:CB w1 b fb gb hl x m s a u:=chs_row (chs_grown (S:=fun k=>hl.ownBlock=some k) hg (fun _ h=>h)) (fun c=>(nb _ c).1 rfl) (row_keep ba h)
 have gr1:GR w1 gb c md n0 n1:=chs_row (chs_grown (S:=fun k=>hl.ownBlock=some k) hg (fun _ h=>h)) (fun c=>(nb _ c).2 rfl) (row_keep ba gr)
 have T1:=t3_chs (chs_trans (chs_below ba) (chs_grown (S:=fun k=>hl.ownBlock=some k) hg (fun _ h=>h))) (fun k hk=>nu k hk) T
 have nb1:∀ k,v1.ownBlock=some k→k≠b∧k≠gb:=fun k hk=>(q1 k hk).elim (nb k) (fun _=>⟨by omega,by omega⟩)
 have h2:=cb_puth (hw:=v1) h1
 have B2:=chs_trans c1 (chs_of_but (S:=Og b gb hl) (but_set (b:=b) (i:=32) (v:=v1) (w:=w1)) (Or.inl rfl))
 have ho2:=hs_but (but_set (b:=b) (i:=32) (v:=v1)) (fun k hk=>(nb1 k hk).1) ho
 have gr2:=but_row (but_set (b:=b) (i:=32) (v:=v1)) nf gr1
 have T2:=t3_but (but_set (b:=b) (i:=32) (v:=v1)) ub T1
 have he1:=cb_he h1
 have zh1:=cb_fz h1 32
 have he2:=cb_he h2
 obtain ⟨sa,cap,rfl,hc⟩:=is_own ho2
 have KK:=Lib.hid (And.intro h2 (And.intro B2 (And.intro ho2 (And.intro gr2 (And.intro T2 hc)))))
 have N1:=Lib.hid nb1
 have Q1:=Lib.hid q1
 clear ho hg hnil hat ba c1 h1 gr1 T1 h2 B2 ho2 gr2 T2 hc h T gr B0 he zh HO HM nb nu hl0 nb1 q1
 obtain ⟨H,eH⟩:∃ H,az M=H:=⟨_,rfl⟩
 obtain ⟨y,ey⟩:∃ y,dgm (x 8) (x 9) (x 10)=y:=⟨_,rfl⟩
 have cM:=fun w (hw:IS w 0 sa (n+1) (more z n p))=>heap_of 0 (more z n p) sa (n+1) cap (by omega) w hw
 rw [eM] at cM
 clear eM
 have cA:=altitude_any M
 rw [eH] at cA
 have cD:=diag_any (x 8) (x 9) (x 10)
 rw [ey] at cD
 replace eH:=Lib.hid eH
 replace ey:=Lib.hid ey
 generalize me (more z n p) (n+1)=E1 at *
 generalize ae M=E2 at *
 go_wp2_with fail
 generalize (w1.setCell ⟨b,32,none⟩ (.slice sa (n+1) cap))=y1 at *
 obtain ⟨h,B,ho,gr,T,hc⟩:=KK.out
 clear KK he1 zh1 he2
 refine (cM _ hc).mono ?_
 rintro e_ y2 ⟨rfl,hb1⟩
 replace h:=row_keep hb1 h
 replace B:=chs_trans B (chs_below hb1)
 replace ho:=hs_keep hb1 ho
 replace gr:=row_keep hb1 gr
 replace T:=t3_keep hb1 T
 clear hb1 hc cM
 go_wp2_with fail
 refine (cA _ T.2.2).mono ?_
 rintro e_ y3 ⟨rfl,hb1⟩
 replace h:=row_keep hb1 h
 replace B:=chs_trans B (chs_below hb1)
 replace ho:=hs_keep hb1 ho
 replace gr:=row_keep hb1 gr
 replace T:=t3_keep hb1 T
 clear hb1 cA
 have be:=cb_be h
 go_wp2_with fail
 refine (cD _ T.1).mono ?_
 rintro e_ y4 ⟨rfl,hb1⟩
 replace h:=row_keep hb1 h
 replace B:=chs_trans B (chs_below hb1)
 replace ho:=hs_keep hb1 ho
 replace gr:=row_keep hb1 gr
 replace T:=t3_keep hb1 T
 clear hb1 cD be
 have st:=cb_st h
 have db:=cb_db h
 have z36:=cb_fz h 36
 have z37:=cb_fz h 37
 have z38:=cb_fz h 38
 have z39:=cb_fz h 39
 have z40:=cb_fz h 40
 have z41:=cb_fz h 41
 have z42:=cb_fz h 42
 have z43:=cb_fz h 43
 have z44:=cb_fz h 44
 have KK:=Lib.hid (show CB (((((((((y4.setCell ⟨b,36,none⟩ (.int .i64 H)).setCell ⟨b,37,none⟩ (.int .i64 0)).setCell ⟨b,38,none⟩ (.int .i64 0)).setCell ⟨b,39,none⟩ (.int .i64 (y 0))).setCell ⟨b,40,none⟩ (.int .i64 (y 1))).setCell ⟨b,41,none⟩ (.int .i64 (y 2))).setCell ⟨b,42,none⟩ (.int .i64 (y 3))).setCell ⟨b,43,none⟩ (.int .i64 (y 4))).setCell ⟨b,44,none⟩ (.int .i64 (y 5))) b fb gb (.slice sa (n+1) cap) x m s (tri H 0 0) y∧Chs (Og b gb hl) w (((((((((y4.setCell ⟨b,36,none⟩ (.int .i64 H)).setCell ⟨b,37,none⟩ (.int .i64 0)).setCell ⟨b,38,none⟩ (.int .i64 0)).setCell ⟨b,39,none⟩ (.int .i64 (y 0))).setCell ⟨b,40,none⟩ (.int .i64 (y 1))).setCell ⟨b,41,none⟩ (.int .i64 (y 2))).setCell ⟨b,42,none⟩ (.int .i64 (y 3))).setCell ⟨b,43,none⟩ (.int .i64 (y 4))).setCell ⟨b,44,none⟩ (.int .i64 (y 5)))∧HS (((((((((y4.setCell ⟨b,36,none⟩ (.int .i64 H)).setCell ⟨b,37,none⟩ (.int .i64 0)).setCell ⟨b,38,none⟩ (.int .i64 0)).setCell ⟨b,39,none⟩ (.int .i64 (y 0))).setCell ⟨b,40,none⟩ (.int .i64 (y 1))).setCell ⟨b,41,none⟩ (.int .i64 (y 2))).setCell ⟨b,42,none⟩ (.int .i64 (y 3))).setCell ⟨b,43,none⟩ (.int .i64 (y 4))).setCell ⟨b,44,none⟩ (.int .i64 (y 5))) (.slice sa (n+1) cap) (n+1) (more z n p)∧GR (((((((((y4.setCell ⟨b,36,none⟩ (.int .i64 H)).setCell ⟨b,37,none⟩ (.int .i64 0)).setCell ⟨b,38,none⟩ (.int .i64 0)).setCell ⟨b,39,none⟩ (.int .i64 (y 0))).setCell ⟨b,40,none⟩ (.int .i64 (y 1))).setCell ⟨b,41,none⟩ (.int .i64 (y 2))).setCell ⟨b,42,none⟩ (.int .i64 (y 3))).setCell ⟨b,43,none⟩ (.int .i64 (y 4))).setCell ⟨b,44,none⟩ (.int .i64 (y 5))) gb c md n0 n1 from ⟨cb_putg (v':=tri H 0 0) h,chs_trans B (chs_of_but but_g9 (Or.inl rfl)),hs_but but_g9 (fun k hk=>(N1.out k hk).1) ho,but_row but_g9 nf gr⟩)
 have gp:=cb_gr KK.out.1
 clear h B ho gr T
 go_wp2_with fail
 generalize (((((((((y4.setCell ⟨b,36,none⟩ (.int .i64 H)).setCell ⟨b,37,none⟩ (.int .i64 0)).setCell ⟨b,38,none⟩ (.int .i64 0)).setCell ⟨b,39,none⟩ (.int .i64 (y 0))).setCell ⟨b,40,none⟩ (.int .i64 (y 1))).setCell ⟨b,41,none⟩ (.int .i64 (y 2))).setCell ⟨b,42,none⟩ (.int .i64 (y 3))).setCell ⟨b,43,none⟩ (.int .i64 (y 4))).setCell ⟨b,44,none⟩ (.int .i64 (y 5)))=y5 at *
 obtain ⟨h,B,ho,gr⟩:=KK.out
 clear KK gp st db z36 z37 z38 z39 z40 z41 z42 z43 z44
 refine (set_any gb c md n0 n1 M _ gr).mono ?_
 rintro e_ y6 ⟨rfl,gr1,hb1⟩
 replace h:=but_row hb1 (Ne.symm nf) h
 replace ho:=hs_but hb1 (fun k hk=>(N1.out k hk).2) ho
 replace B:=chs_trans B (chs_of_but hb1 (Or.inr (Or.inl rfl)))
 clear hb1 gr
 go_wp2
 go_ret
 exact ⟨rfl,_,by rw [eH.out,ey.out]; exact h,ho,gr1,Q1.out,B⟩
end Go.Proofs.YthnofhjgfhapiaaGreatDoor
