import Derived.Lib.ItoaNum
import Derived.Lib.ItoaLen
import Derived.Lib.AtoiAllCases
import Derived.Lib.ParseIntBTie
import Derived.Lib.IndexAny
namespace Go.Proofs.YthnofhjgfhapiaaGreatDoor
open Go.Lib
abbrev R64 (v:Int):Prop:=-9223372036854775808≤v∧v≤9223372036854775807
abbrev Sep (b:UInt8):Prop:=b=32∨b=10
abbrev Dgt (b:UInt8):Prop:=48≤b.toNat∧b.toNat≤57
theorem dgt_dec (u:Nat):∀ b ∈ decDigits u,Dgt b:=by
 induction u using Nat.strongRecOn with
 | _ u ih =>
  intro b hb
  rw [decDigits] at hb
  split at hb
  ·simp at hb; subst hb; simp [Dgt]; omega
  ·rcases List.mem_append.1 hb with h | h
   ·exact ih _ (by omega) b h
   ·simp at h; subst h; simp [Dgt]; omega
theorem dec_ne (u:Nat):decDigits u≠[]:=fun h=>by
 have:=decDigits_length u
 have h1:=nDigits_pos u
 rw [h] at this
 simp at this
 omega
def vln (a:Nat) (l:List UInt8):Nat:=l.foldl (fun a b=>10*a+(b.toNat - 48)) a
theorem vln_nil (a:Nat):vln a []=a:=rfl
theorem vln_cons (a:Nat) (b:UInt8) (l:List UInt8):vln a (b :: l)=vln (10*a+(b.toNat - 48)) l:=by unfold vln; rw [List.foldl_cons]
theorem vln_snoc (a:Nat) (l:List UInt8) (b:UInt8):vln a (l ++ [b])=10*vln a l+(b.toNat - 48):=by simp [vln]
theorem vln_ge:∀ (l:List UInt8) (a:Nat),a≤vln a l
 | [],a=>Nat.le_refl _
 | b :: l,a=>Nat.le_trans (by omega) (vln_ge l (10*a+(b.toNat - 48)))
theorem vln_dec (u:Nat):vln 0 (decDigits u)=u:=by
 induction u using Nat.strongRecOn with
 | _ u ih =>
  rw [decDigits]
  split
  ·rw [show ([UInt8.ofNat (48+u)]:List UInt8)=[] ++ [UInt8.ofNat (48+u)] from rfl,vln_snoc]
   simp [vln_nil]; omega
  ·rw [vln_snoc,ih _ (by omega)]
   simp; omega
theorem parse10_vln:∀ (l:List UInt8) (a:Nat),(∀ b ∈ l,Dgt b)→vln a l<18446744073709551616→parseUint10 a l=.ok (vln a l)
 | [],a,_,_=>rfl
 | c :: r,a,hd,h=>by
  have hc:Dgt c:=hd c (by simp)
  rw [vln_cons] at h
  have hg:=vln_ge r (10*a+(c.toNat - 48))
  have e:a*10+(c.toNat - 48)=10*a+(c.toNat - 48):=by omega
  simp only [parseUint10]
  rw [if_pos hc,if_neg (by omega),if_neg (by omega),e,parse10_vln r _ (fun b hb=>hd b (by simp [hb])) h]
  rfl
theorem parseMag_dec (u:Nat) (h:u<18446744073709551616):parseMag (decDigits u)=.ok u:=by
 unfold parseMag
 rw [if_neg (dec_ne u),parse10_vln _ _ (dgt_dec u) (by rw [vln_dec]; exact h),vln_dec]
theorem dec_cons (u:Nat):∃ c r,decDigits u=c :: r∧Dgt c:=by
 cases h:decDigits u with
 | nil=>exact absurd h (dec_ne u)
 | cons c r=>exact ⟨c,r,rfl,dgt_dec u c (by rw [h]; simp)⟩
theorem atoi_itoa (v:Int) (h:R64 v):atoiAll (itoa v)=.ok v:=by
 unfold itoa
 split
 ·rw [atoiAll_minus,parseMag_dec _ (by omega)]
  simp only [signed]
  rw [if_neg (by omega)]
  congr 1
  omega
 ·obtain ⟨c,r,e,hc⟩:=dec_cons v.toNat
  rw [e,atoiAll_plain c r (by unfold Dgt at hc; omega) (by unfold Dgt at hc; omega),← e,parseMag_dec _ (by omega)]
  simp only [signless]
  rw [if_neg (by omega)]
  congr 1
  omega
theorem parse_itoa (v:Int) (h:R64 v):parseIntB 64 (itoa v)=.ok v:=by rw [parseIntB_64,atoi_itoa v h]
theorem itoa_inj {v u:Int} (hv:R64 v) (hu:R64 u) (h:itoa v=itoa u):v=u:=by
 have h1:=atoi_itoa v hv
 rw [h,atoi_itoa u hu] at h1
 injection h1 with h1
 exact h1.symm
theorem itoa_byte (v:Int):∀ b ∈ itoa v,Dgt b∨b=45:=by
 intro b hb
 unfold itoa at hb
 split at hb
 ·rcases List.mem_cons.1 hb with h | h
  ·exact Or.inr h
  ·exact Or.inl (dgt_dec _ b h)
 ·exact Or.inl (dgt_dec _ b hb)
theorem itoa_nosep (v:Int):∀ b ∈ itoa v,¬ Sep b:=by
 intro b hb hs
 rcases itoa_byte v b hb with h | h <;> rcases hs with e | e <;> subst e <;> revert h <;> decide
def nmL:Nat→List UInt8
 | 0=>[113]
 | 1=>[108,111,111,115,101]
 | 2=>[114]
 | 3=>[114,103,114,111,117,110,100]
 | 4=>[115,116,97,114,116]
 | 5=>[102,108,111,111,114]
 | 6=>[99,101,105,108]
 | 7=>[98,111,117,110,100]
 | 8=>[103,97,116,101]
 | 9=>[116,97,98,108,101]
 | 10=>[115,99,97,108,101]
 | 11=>[114,101,115,116]
 | 12=>[99,108,105,112]
 | 13=>[104,111,108,100]
 | 14=>[99,111,97,115,116]
 | 15=>[111,117,116]
 | 16=>[98,97,110,100]
 | _=>[101,110,100]
def cntL:Nat→Nat
 | 0=>3 | 1=>3 | 2=>1 | 3=>1 | 4=>3 | 5=>3 | 6=>3 | 7=>3 | 8=>1 | 9=>3 | 10=>1 | 11=>1 | 12=>1 | 13=>1 | 14=>1 | 15=>1 | 16=>1 | _=>0
def offL:Nat→Nat
 | 0=>0 | 1=>3 | 2=>6 | 3=>7 | 4=>8 | 5=>11 | 6=>14 | 7=>17 | 8=>20 | 9=>21 | 10=>24 | 11=>25 | 12=>26 | 13=>27 | 14=>28 | 15=>29 | 16=>30 | _=>31
theorem off_next:∀ i,i<18→offL (i+1)=offL i+cntL i:=by decide
theorem off_le:∀ i,i<18→offL i+cntL i≤31:=by decide
theorem cnt_le:∀ i,i<18→cntL i≤3:=by decide
theorem nm_nosep:∀ i,i<18→∀ b ∈ nmL i,¬ Sep b:=by decide
theorem nm_len:∀ i,i<18→(nmL i).length≤7:=by decide
theorem nm_head:∀ i,i<18→∃ c r,nmL i=c :: r∧97≤c.toNat:=by
 intro i hi
 match i,hi with
 | 0,_ | 1,_ | 2,_ | 3,_ | 4,_ | 5,_ | 6,_ | 7,_ | 8,_ | 9,_ | 10,_ | 11,_ | 12,_ | 13,_ | 14,_ | 15,_ | 16,_ | 17,_=>exact ⟨_,_,rfl,by decide⟩
 | n+18,h=>exact absurd h (by omega)
def nums (o:Nat):Nat→(Nat→Int)→List UInt8
 | 0,_=>[]
 | k+1,y=>32 :: (itoa (y o) ++ nums (o+1) k y)
theorem nums_snoc (y:Nat→Int):∀ (k o:Nat),nums o (k+1) y=nums o k y ++ 32 :: itoa (y (o+k))
 | 0,o=>by simp [nums]
 | k+1,o=>by rw [nums,nums_snoc y k (o+1),nums]; simp [Nat.add_assoc,Nat.add_comm 1 k]
theorem nums_congr {x y:Nat→Int}:∀ (k o:Nat),(∀ j,o≤j→j<o+k→x j=y j)→nums o k x=nums o k y
 | 0,_,_=>rfl
 | k+1,o,h=>by rw [nums,nums,h o (by omega) (by omega),nums_congr k (o+1) (fun j h1 h2=>h j (by omega) (by omega))]
def lnL (i:Nat) (y:Nat→Int):List UInt8:=nmL i ++ (nums (offL i) (cntL i) y ++ [10])
def suf (i:Nat):Nat→(Nat→Int)→List UInt8
 | 0,_=>[]
 | n+1,y=>lnL i y ++ suf (i+1) n y
theorem suf_snoc (y:Nat→Int):∀ (n i:Nat),suf i (n+1) y=suf i n y ++ lnL (i+n) y
 | 0,i=>by simp [suf]
 | n+1,i=>by rw [suf,suf_snoc y n (i+1),suf]; simp [Nat.add_assoc,Nat.add_comm 1 n]
def txt (y:Nat→Int):List UInt8:=suf 0 18 y
theorem lnL_congr {x y:Nat→Int} (i:Nat) (h:∀ j,offL i≤j→j<offL i+cntL i→x j=y j):lnL i x=lnL i y:=by rw [lnL,lnL,nums_congr _ _ h]
theorem pre_congr {x y:Nat→Int}:∀ n,n≤18→(∀ j,j<offL n→x j=y j)→suf 0 n x=suf 0 n y
 | 0,_,_=>rfl
 | n+1,h,e=>by
  have h1:=off_next n (by omega)
  rw [suf_snoc,suf_snoc,pre_congr n (by omega) (fun j hj=>e j (by omega)),Nat.zero_add,lnL_congr n (fun j _ h2=>e j (by omega))]
theorem split_num {v u:Int} {c d:UInt8} {r s:List UInt8} (hv:R64 v) (hu:R64 u) (hc:Sep c) (hd:Sep d) (h:itoa v ++ c :: r=itoa u ++ d :: s):v=u∧c=d∧r=s:=by
 have key:∀ (l m:List UInt8),(∀ b ∈ l,¬ Sep b)→(∀ b ∈ m,¬ Sep b)→l ++ c :: r=m ++ d :: s→l=m∧c :: r=d :: s:=by
  intro l
  induction l with
  | nil =>
   intro m _ hm e
   cases m with
   | nil=>exact ⟨rfl,e⟩
   | cons a m=>simp at e; exact absurd (e.1 ▸ hc) (hm a (by simp))
  | cons a l ih =>
   intro m hl hm e
   cases m with
   | nil=>simp at e; exact absurd (e.1 ▸ hd) (hl a (by simp))
   | cons b m =>
    simp at e
    obtain ⟨e1,e2⟩:=ih m (fun x hx=>hl x (by simp [hx])) (fun x hx=>hm x (by simp [hx])) e.2
    exact ⟨by rw [e.1,e1],e2⟩
 obtain ⟨e1,e2⟩:=key _ _ (itoa_nosep v) (itoa_nosep u) h
 injection e2 with e3 e4
 exact ⟨itoa_inj hv hu e1,e3,e4⟩
def wds (c:List UInt8):List UInt8→List (List UInt8)
 | []=>[]
 | b :: l=>if b=32∨b=10 then c :: wds [] l else wds (c ++ [b]) l
theorem wds_word (w:List UInt8):∀ (c:List UInt8) (b:UInt8) (l:List UInt8),(∀ b ∈ w,¬ Sep b)→Sep b→wds c (w ++ b :: l)=(c ++ w) :: wds [] l:=by
 induction w with
 | nil=>intro c b l _ hb; simp only [List.nil_append,wds]; rw [if_pos hb,List.append_nil]
 | cons a w ih =>
  intro c b l hw hb
  rw [List.cons_append,wds,if_neg (hw a (by simp)),ih _ b l (fun x hx=>hw x (by simp [hx])) hb,List.append_assoc]
  rfl
noncomputable def numL (l:List UInt8):Option Int:=by
 classical exact if h:∃ v,R64 v∧itoa v=l then some h.choose else none
theorem numL_some {l:List UInt8} {v:Int} (hv:R64 v) (h:itoa v=l):numL l=some v:=by
 unfold numL
 have hx:∃ v,R64 v∧itoa v=l:=⟨v,hv,h⟩
 rw [dif_pos hx]
 have:=hx.choose_spec
 congr 1
 exact itoa_inj this.1 hv (this.2.trans h.symm)
theorem numL_none {l:List UInt8} (h:∀ v,R64 v→itoa v≠l):numL l=none:=by
 unfold numL
 rw [dif_neg (fun ⟨v,hv,e⟩=>h v hv e)]
theorem numL_name (i:Nat) (hi:i<18):numL (nmL i)=none:=numL_none fun v _ h=>by
 obtain ⟨c,r,e,hc⟩:=nm_head i hi
 have:=itoa_byte v c (by rw [h,e]; simp)
 rcases this with h1 | h1
 ·unfold Dgt at h1; omega
 ·subst h1; revert hc; decide
noncomputable abbrev nml (ls:List (List UInt8)):List Int:=ls.filterMap numL
theorem nml_nums (y:Nat→Int) (l:List UInt8):∀ (k o:Nat),(∀ j,o≤j→j<o+k→R64 (y j))→∀ w:List UInt8,(∀ b ∈ w,¬ Sep b) →
  nml (wds [] (w ++ (nums o k y ++ 10 :: l)))=nml [w] ++ ((List.range k).map (fun j=>y (o+j)) ++ nml (wds [] l))
 | 0,o,_,w,hw=>by
  rw [nums,List.nil_append,wds_word w [] 10 l hw (Or.inr rfl),List.nil_append]
  simp [nml,List.filterMap_cons]
  cases numL w <;> simp
 | k+1,o,h,w,hw=>by
  rw [nums,List.cons_append,List.append_assoc,wds_word w [] 32 _ hw (Or.inl rfl),List.nil_append]
  have ih:=nml_nums y l k (o+1) (fun j h1 h2=>h j (by omega) (by omega)) (itoa (y o)) (itoa_nosep _)
  have e1:nml [itoa (y o)]=[y o]:=by
   simp only [nml,List.filterMap_cons,List.filterMap_nil]
   rw [numL_some (h o (by omega) (by omega)) rfl]
  rw [show nml (w :: wds [] (itoa (y o) ++ (nums (o+1) k y ++ 10 :: l)))=nml [w] ++ nml (wds [] (itoa (y o) ++ (nums (o+1) k y ++ 10 :: l))) from by
   simp [nml,List.filterMap_cons]; cases numL w <;> simp,ih,e1,List.range_succ_eq_map]
  simp [List.map_map,Function.comp_def,Nat.add_assoc,Nat.add_comm 1]
theorem nml_suf (y:Nat→Int) (hy:∀ j,j<31→R64 (y j)):∀ (n i:Nat),i+n=18→nml (wds [] (suf i n y))=(List.range (31 - offL i)).map (fun j=>y (offL i+j))
 | 0,i,h=>by
  obtain rfl:i=18:=by omega
  simp [suf,wds,offL]
 | n+1,i,h=>by
  have h1:=off_next i (by omega)
  have h2:=off_le i (by omega)
  rw [suf,lnL,List.append_assoc,List.append_assoc,List.singleton_append,nml_nums y _ _ _ (fun j _ hj=>hy j (by omega)) _ (nm_nosep i (by omega)),nml_suf y hy n (i+1) (by omega),h1]
  have e1:nml [nmL i]=[]:=by
   simp only [nml,List.filterMap_cons,List.filterMap_nil]
   rw [numL_name i (by omega)]
  rw [e1,List.nil_append,show 31 - offL i=cntL i+(31 - (offL i+cntL i)) by omega,List.range_add,List.map_append,List.map_map]
  congr 1
  refine List.map_congr_left fun j _=>?_
  simp [Nat.add_assoc]
theorem nml_txt (y:Nat→Int) (hy:∀ j,j<31→R64 (y j)):nml (wds [] (txt y))=(List.range 31).map y:=by
 rw [txt,nml_suf y hy 18 0 (by omega)]
 simp [offL]
theorem txt_inj {x y:Nat→Int} (hx:∀ j,j<31→R64 (x j)) (hy:∀ j,j<31→R64 (y j)) (h:txt x=txt y):∀ j,j<31→x j=y j:=by
 have h1:=nml_txt x hx
 rw [h,nml_txt y hy] at h1
 intro j hj
 have h2:=congrArg (fun l=>l.getD j 0) h1
 simpa [List.getD,hj] using h2.symm
def Reads (l:List UInt8) (x:Nat→Int):Prop:=(∀ j,j<31→R64 (x j))∧txt x=l
def NoConf (l:List UInt8):Prop:=∀ y:Nat→Int,(∀ j,j<31→R64 (y j))→txt y≠l
def AtLine (l r:List UInt8) (i:Nat) (x:Nat→Int):Prop :=
 l=suf 0 i x ++ r∧∀ y:Nat→Int,(∀ j,j<31→R64 (y j))→txt y=l→r=suf i (18 - i) y∧∀ k,k<offL i→x k=y k
def AtNum (l r:List UInt8) (i j:Nat) (x:Nat→Int):Prop :=
 l=suf 0 i x ++ (nmL i ++ (nums (offL i) j x ++ r))∧∀ y:Nat→Int,(∀ j,j<31→R64 (y j))→txt y=l →
  r=nums (offL i+j) (cntL i - j) y ++ 10 :: suf (i+1) (17 - i) y∧∀ k,k<offL i+j→x k=y k
theorem at_start (l:List UInt8) (x:Nat→Int):AtLine l l 0 x:=⟨rfl,fun y _ h=>⟨h.symm,fun k hk=>by simp [offL] at hk⟩⟩
theorem at_name {l r:List UInt8} {i:Nat} {x:Nat→Int} (hi:i<18) (h:AtLine l (nmL i ++ r) i x):AtNum l r i 0 x:=by
 refine ⟨h.1,fun y hy e=>?_⟩
 obtain ⟨h1,h2⟩:=h.2 y hy e
 rw [show 18 - i=17 - i+1 by omega,suf,lnL,List.append_assoc,List.append_assoc] at h1
 exact ⟨List.append_cancel_left h1,h2⟩
theorem no_name {l r:List UInt8} {i:Nat} {x:Nat→Int} (hi:i<18) (h:AtLine l r i x) (hn:∀ s,r≠nmL i ++ s):NoConf l:=fun y hy e=>by
 obtain ⟨h1,_⟩:=h.2 y hy e
 rw [show 18 - i=17 - i+1 by omega,suf,lnL,List.append_assoc] at h1
 exact hn _ h1
theorem no_blank {l r:List UInt8} {i j:Nat} {x:Nat→Int} (hj:j<cntL i) (h:AtNum l r i j x) (hn:∀ s,r≠32 :: s):NoConf l:=fun y hy e=>by
 obtain ⟨h1,_⟩:=h.2 y hy e
 rw [show cntL i - j=cntL i - j - 1+1 by omega,nums,List.cons_append] at h1
 exact hn _ h1
theorem nums_sep (o k:Nat) (y:Nat→Int) (l:List UInt8):∃ c r,Sep c∧nums o k y ++ 10 :: l=c :: r:=by
 cases k with
 | zero=>exact ⟨10,l,Or.inr rfl,rfl⟩
 | succ k=>exact ⟨32,_,Or.inl rfl,rfl⟩
theorem no_num {l r:List UInt8} {i j:Nat} {x:Nat→Int} (hi:i<18) (hj:j<cntL i) (h:AtNum l (32 :: r) i j x) (hn:∀ v c s,R64 v→Sep c→r≠itoa v ++ c :: s):NoConf l:=fun y hy e=>by
 obtain ⟨h1,_⟩:=h.2 y hy e
 have h2:=off_le i hi
 obtain ⟨c,s,hc,es⟩:=nums_sep (offL i+j+1) (cntL i - j - 1) y (suf (i+1) (17 - i) y)
 rw [show cntL i - j=cntL i - j - 1+1 by omega,nums,List.cons_append,List.append_assoc,es] at h1
 injection h1 with _ h1
 exact hn _ c s (hy _ (by omega)) hc h1
def ipd (x:Nat→Int) (k:Nat) (v:Int):Nat→Int:=fun j=>if j=k then v else x j
theorem ipd_at (x:Nat→Int) (k:Nat) (v:Int):ipd x k v k=v:=by simp [ipd]
theorem ipd_other (x:Nat→Int) {k j:Nat} (v:Int) (h:j≠k):ipd x k v j=x j:=by simp [ipd,h]
theorem at_num {l s:List UInt8} {i j:Nat} {x:Nat→Int} {v:Int} {c:UInt8} (hi:i<18) (hj:j<cntL i) (hv:R64 v) (hc:Sep c) (h:AtNum l (32 :: (itoa v ++ c :: s)) i j x) :
  AtNum l (c :: s) i (j+1) (ipd x (offL i+j) v):=by
 have h3:=off_le i hi
 refine ⟨?_,fun y hy e=>?_⟩
 ·rw [nums_snoc,ipd_at,pre_congr (x:=ipd x (offL i+j) v) (y:=x) i (by omega) (fun k hk=>ipd_other _ _ (by omega)),nums_congr (x:=ipd x (offL i+j) v) (y:=x) j _ (fun k _ hk=>ipd_other _ _ (by omega))]
  refine h.1.trans ?_
  simp
 ·obtain ⟨h1,h2⟩:=h.2 y hy e
  obtain ⟨d,t,hd,es⟩:=nums_sep (offL i+j+1) (cntL i - j - 1) y (suf (i+1) (17 - i) y)
  rw [show cntL i - j=cntL i - j - 1+1 by omega,nums,List.cons_append,List.append_assoc,es] at h1
  injection h1 with _ h1
  obtain ⟨e1,e2,e3⟩:=split_num hv (hy _ (by omega)) hc hd h1
  refine ⟨?_,fun k hk=>?_⟩
  ·rw [e2,e3,← es,show cntL i - (j+1)=cntL i - j - 1 by omega]
   rfl
  ·by_cases hk2:k=offL i+j
   ·rw [hk2,ipd_at,e1]
   ·rw [ipd_other _ _ hk2]
    exact h2 k (by omega)
theorem at_end {l s:List UInt8} {i:Nat} {x:Nat→Int} (hi:i<18) (h:AtNum l (10 :: s) i (cntL i) x):AtLine l s (i+1) x:=by
 have h3:=off_next i hi
 refine ⟨?_,fun y hy e=>?_⟩
 ·rw [suf_snoc,Nat.zero_add,lnL]
  refine h.1.trans ?_
  simp
 ·obtain ⟨h1,h2⟩:=h.2 y hy e
  rw [Nat.sub_self,nums,List.nil_append] at h1
  injection h1 with _ h1
  refine ⟨by rw [h1,show 18 - (i+1)=17 - i by omega],?_⟩
  rw [h3]
  exact h2
theorem no_end {l r:List UInt8} {i:Nat} {x:Nat→Int} (h:AtNum l r i (cntL i) x) (hn:∀ s,r≠10 :: s):NoConf l:=fun y hy e=>by
 obtain ⟨h1,_⟩:=h.2 y hy e
 rw [Nat.sub_self,nums,List.nil_append] at h1
 exact hn _ h1
theorem at_last {l:List UInt8} {x:Nat→Int} (h:AtLine l [] 18 x):txt x=l:=by
 rw [h.1,List.append_nil]
 rfl
theorem no_last {l r:List UInt8} {x:Nat→Int} (h:AtLine l r 18 x) (hn:r≠[]):NoConf l:=fun y hy e=>hn (h.2 y hy e).1
theorem nums_len (y:Nat→Int):∀ (k o:Nat),(∀ j,o≤j→j<o+k→R64 (y j))→(nums o k y).length≤22*k
 | 0,_,_=>Nat.le_refl _
 | k+1,o,h=>by
  have h1:=nums_len y k (o+1) (fun j h1 h2=>h j (by omega) (by omega))
  have h2:=itoa_length_le (y o) (h o (by omega) (by omega)).1 (h o (by omega) (by omega)).2
  simp only [nums,List.length_cons,List.length_append]
  omega
theorem suf_len (y:Nat→Int) (hy:∀ j,j<31→R64 (y j)):∀ n,n≤18→(suf 0 n y).length≤74*n
 | 0,_=>Nat.le_refl _
 | n+1,h=>by
  have h1:=suf_len y hy n (by omega)
  have h2:=nm_len n (by omega)
  have h3:=cnt_le n (by omega)
  have h4:=off_le n (by omega)
  have h5:=nums_len y (cntL n) (offL n) (fun j _ hj=>hy j (by omega))
  rw [suf_snoc,Nat.zero_add,lnL]
  simp only [List.length_append,List.length_singleton]
  omega
theorem txt_len (y:Nat→Int) (hy:∀ j,j<31→R64 (y j)):(txt y).length≤1332:=suf_len y hy 18 (Nat.le_refl _)
end Go.Proofs.YthnofhjgfhapiaaGreatDoor
