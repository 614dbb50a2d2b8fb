namespace Go.Proofs.YtjifkmldigemkaaGreatDoor
def val:List Int→Int
 | []=>0
 | d :: r=>d+65536*val r
def Dig (l:List Int):Prop:=∀ d,d ∈ l→0≤d∧d≤65535
def Norm (l:List Int):Prop:=∀ d,l.getLast?=some d→d≠0
theorem val_append (l m:List Int):val (l ++ m)=val l+65536 ^ l.length*val m:=by
 induction l with
 | nil=>simp [val]
 | cons d r ih =>
  simp only [List.cons_append,val,ih,List.length_cons,Int.pow_succ]
  rw [Int.mul_add,← Int.mul_assoc,Int.mul_comm 65536 (65536 ^ r.length)]
  omega
theorem val_snoc (l:List Int) (d:Int):val (l ++ [d])=val l+65536 ^ l.length*d:=by
 rw [val_append]; simp [val]
theorem val_zeros (n:Nat):val (List.replicate n 0)=0:=by
 induction n with
 | zero=>rfl
 | succ n ih=>simp [List.replicate_succ,val,ih]
theorem pow_pos65 (n:Nat):(0:Int)<65536 ^ n:=Int.pow_pos (by decide)
theorem dig_nil:Dig []:=fun _ h=>absurd h (by simp)
theorem dig_app {l m:List Int} (h:Dig l) (k:Dig m):Dig (l ++ m):=fun d hd=>by
 rcases List.mem_append.1 hd with e | e
 ·exact h d e
 ·exact k d e
theorem dig_one {d:Int} (h0:0≤d) (h1:d≤65535):Dig [d]:=fun e he=>by
 simp at he; subst he; exact ⟨h0,h1⟩
theorem dig_zeros (n:Nat):Dig (List.replicate n 0):=fun d hd=>by
 have:=List.eq_of_mem_replicate hd; subst this; exact ⟨by decide,by decide⟩
theorem dig_take {l:List Int} (h:Dig l) (n:Nat):Dig (l.take n):=fun d hd=>h d (List.mem_of_mem_take hd)
theorem dig_getD {l:List Int} (h:Dig l) (i:Nat):0≤l.getD i 0∧l.getD i 0≤65535:=by
 rw [List.getD_eq_getElem?_getD]
 cases e:l[i]? with
 | none=>simp
 | some d=>exact h d (List.mem_of_getElem? e)
theorem val_nonneg {l:List Int} (h:Dig l):0≤val l:=by
 induction l with
 | nil=>simp [val]
 | cons d r ih =>
  have:=(h d (by simp)).1
  have:=ih (fun e he=>h e (by simp [he]))
  simp only [val]; omega
theorem val_lt {l:List Int} (h:Dig l):val l<65536 ^ l.length:=by
 induction l with
 | nil=>simp [val]
 | cons d r ih =>
  have h1:=(h d (by simp)).2
  have h2:=ih (fun e he=>h e (by simp [he]))
  simp only [val,List.length_cons,Int.pow_succ]
  omega
theorem val_take_succ (l:List Int) (i:Nat):val (l.take (i+1))=val (l.take i)+65536 ^ i*l.getD i 0:=by
 by_cases h:i<l.length
 ·rw [List.take_succ_eq_append_getElem h,val_snoc,List.length_take,Nat.min_eq_left (by omega),List.getD_eq_getElem?_getD,List.getElem?_eq_getElem h]
  rfl
 ·rw [List.take_of_length_le (by omega),List.take_of_length_le (by omega),List.getD_eq_getElem?_getD,List.getElem?_eq_none (by omega)]
  simp
theorem val_take_all {l:List Int} {i:Nat} (h:l.length≤i):val (l.take i)=val l:=by rw [List.take_of_length_le h]
theorem val_ge {l:List Int} (h:Dig l) (n:Norm l) (e:l≠[]):(65536:Int) ^ (l.length - 1)≤val l:=by
 obtain ⟨r,d,rfl⟩:∃ r d,l=r ++ [d]:=⟨l.dropLast,l.getLast e,(List.dropLast_concat_getLast e).symm⟩
 have hd:d≠0:=n d (by simp)
 have h1:=(h d (by simp)).1
 have h2:=val_nonneg (l:=r) (fun x hx=>h x (by simp [hx]))
 rw [val_snoc]
 have h3:(65536:Int) ^ r.length*1≤65536 ^ r.length*d:=Int.mul_le_mul_of_nonneg_left (by omega) (Int.le_of_lt (pow_pos65 _))
 simp only [List.length_append,List.length_cons,List.length_nil]
 simp only [Nat.zero_add,Nat.add_sub_cancel]
 omega
theorem val_zero {l:List Int} (h:Dig l) (n:Norm l):val l=0↔l=[]:=by
 constructor
 ·intro e
  apply Classical.byContradiction
  intro c
  have:=val_ge h n c
  have:=pow_pos65 (l.length - 1)
  omega
 ·rintro rfl; rfl
theorem pow_mono65 {m n:Nat} (h:m≤n):(65536:Int) ^ m≤65536 ^ n:=by
 have:(65536:Nat) ^ m≤65536 ^ n:=Nat.pow_le_pow_right (by decide) h
 have e:∀ k:Nat,(65536:Int) ^ k=((65536 ^ k:Nat):Int):=fun k=>(Int.natCast_pow 65536 k).symm
 rw [e,e]; omega
theorem len_le {l:List Int} (h:Dig l) (n:Norm l) {k:Nat} (b:val l<65536 ^ k):l.length≤k:=by
 apply Nat.le_of_not_lt
 intro c
 have e:l≠[]:=by rintro rfl; simp at c
 have h1:=val_ge h n e
 have h2:=pow_mono65 (show k≤l.length - 1 by omega)
 omega
theorem len_mono {a b:List Int} (ha:Dig a) (na:Norm a) (hb:Dig b) (h:val a≤val b):a.length≤b.length:=by
 exact len_le ha na (by have:=val_lt hb; omega)
theorem val_top {a b:List Int} (ha:Dig a) (hb:Dig b) (i:Nat) (e:a.drop (i+1)=b.drop (i+1)) (hl:i<a.length) (hm:i<b.length) (h:a.getD i 0<b.getD i 0):val a<val b:=by
 have sa:val a=val (a.take (i+1))+65536 ^ (i+1)*val (a.drop (i+1)):=by
  conv=>lhs; rw [← List.take_append_drop (i+1) a,val_append,List.length_take,Nat.min_eq_left (by omega)]
 have sb:val b=val (b.take (i+1))+65536 ^ (i+1)*val (b.drop (i+1)):=by
  conv=>lhs; rw [← List.take_append_drop (i+1) b,val_append,List.length_take,Nat.min_eq_left (by omega)]
 rw [sa,sb,e,val_take_succ,val_take_succ]
 have h1:=val_lt (dig_take ha i)
 rw [List.length_take,Nat.min_eq_left (by omega)] at h1
 have h2:=val_nonneg (dig_take hb i)
 have h3:(65536:Int) ^ i*(a.getD i 0+1)≤65536 ^ i*b.getD i 0:=Int.mul_le_mul_of_nonneg_left (by omega) (Int.le_of_lt (pow_pos65 _))
 rw [Int.mul_add] at h3
 omega
theorem len_lt {a b:List Int} (ha:Dig a) (hb:Dig b) (nb:Norm b) (h:a.length<b.length):val a<val b:=by
 have h1:=val_lt ha
 have e:b≠[]:=by rintro rfl; simp at h
 have h2:=val_ge hb nb e
 have h3:=pow_mono65 (show a.length≤b.length - 1 by omega)
 omega
theorem sum_step {a b out:List Int} {i:Nat} {c:Int} (ha:Dig a) (hb:Dig b) (hl:out.length=i) (h:val (a.take i)+val (b.take i)=val out+65536 ^ i*c) (c0:0≤c) (c1:c≤1) :
  val (a.take (i+1))+val (b.take (i+1))=val (out ++ [(a.getD i 0+b.getD i 0+c) % 65536])+65536 ^ (i+1)*((a.getD i 0+b.getD i 0+c) / 65536)∧0≤(a.getD i 0+b.getD i 0+c) / 65536∧(a.getD i 0+b.getD i 0+c) / 65536≤1:=by
 have ga:=dig_getD ha i
 have gb:=dig_getD hb i
 refine ⟨?_,by omega,by omega⟩
 rw [val_take_succ,val_take_succ,val_snoc,hl,Int.pow_succ]
 generalize a.getD i 0=x at *
 generalize b.getD i 0=y at *
 have e:x+y+c=(x+y+c) % 65536+65536*((x+y+c) / 65536):=by omega
 generalize (x+y+c) % 65536=r at *
 generalize (x+y+c) / 65536=q at *
 have e2:(65536:Int) ^ i*(x+y+c)=65536 ^ i*(r+65536*q):=by rw [e]
 rw [Int.mul_add,Int.mul_add,Int.mul_add,← Int.mul_assoc] at e2
 omega
theorem rest_step {a b out:List Int} {i:Nat} {c:Int} (ha:Dig a) (hb:Dig b) (hl:out.length=i) (h:val (a.take i) - val (b.take i)=val out - 65536 ^ i*c) (c0:0≤c) (c1:c≤1) :
  val (a.take (i+1)) - val (b.take (i+1))=val (out ++ [(65536+a.getD i 0 - b.getD i 0 - c) % 65536]) - 65536 ^ (i+1)*(1 - (65536+a.getD i 0 - b.getD i 0 - c) / 65536)∧0≤1 - (65536+a.getD i 0 - b.getD i 0 - c) / 65536∧1 - (65536+a.getD i 0 - b.getD i 0 - c) / 65536≤1:=by
 have ga:=dig_getD ha i
 have gb:=dig_getD hb i
 refine ⟨?_,by omega,by omega⟩
 rw [val_take_succ,val_take_succ,val_snoc,hl,Int.pow_succ]
 generalize a.getD i 0=x at *
 generalize b.getD i 0=y at *
 have e:65536+x - y - c=(65536+x - y - c) % 65536+65536*((65536+x - y - c) / 65536):=by omega
 generalize (65536+x - y - c) % 65536=r at *
 generalize (65536+x - y - c) / 65536=q at *
 have e2:(65536:Int) ^ i*(x - y - c)=65536 ^ i*(r+65536*(q - 1)):=by rw [show x - y - c=r+65536*(q - 1) by omega]
 rw [Int.mul_sub,Int.mul_sub,Int.mul_add,← Int.mul_assoc,Int.mul_sub] at e2
 rw [Int.mul_sub]
 omega
theorem rest_end {a b out:List Int} {c:Int} (ha:Dig a) (hb:Dig b) (nb:Norm b) (ho:Dig out) (hl:out.length=a.length) (h:val (a.take a.length) - val (b.take a.length)=val out - 65536 ^ a.length*c) (c0:0≤c) (c1:c≤1) (hle:val b≤val a):val out=val a - val b:=by
 rw [val_take_all (Nat.le_refl _),val_take_all (len_mono hb nb ha hle)] at h
 have h1:=val_lt ho
 rw [hl] at h1
 have:c=0∨c=1:=by omega
 rcases this with rfl | rfl <;> omega
theorem row_step {b row:List Int} {i k:Nat} {x c:Int} (hb:Dig b) (hl:row.length=i+k) (x0:0≤x) (x1:x≤65535) (h:65536 ^ i*(x*val (b.take k))=val row+65536 ^ (i+k)*c) (c0:0≤c) (c1:c≤65535) :
  65536 ^ i*(x*val (b.take (k+1)))=val (row ++ [(x*b.getD k 0+c) % 65536])+65536 ^ (i+(k+1))*((x*b.getD k 0+c) / 65536)∧0≤(x*b.getD k 0+c) / 65536∧(x*b.getD k 0+c) / 65536≤65535∧0≤x*b.getD k 0∧x*b.getD k 0≤4294836225:=by
 have gb:=dig_getD hb k
 have m0:0≤x*b.getD k 0:=Int.mul_nonneg x0 gb.1
 have m1:x*b.getD k 0≤4294836225:=Int.le_trans (Int.mul_le_mul x1 gb.2 gb.1 (by decide)) (by decide)
 refine ⟨?_,by omega,by omega,m0,m1⟩
 rw [val_take_succ,val_snoc,hl,show i+(k+1)=i+k+1 by omega,Int.pow_succ,Int.mul_add,Int.mul_add,h]
 generalize hy:b.getD k 0=y at *
 have e3:(65536:Int) ^ i*(x*(65536 ^ k*y))=65536 ^ (i+k)*(x*y):=by
  rw [Int.pow_add,Int.mul_left_comm x,← Int.mul_assoc]
 rw [e3]
 generalize x*y=m at *
 have e:m+c=(m+c) % 65536+65536*((m+c) / 65536):=by omega
 generalize (m+c) % 65536=r at *
 generalize (m+c) / 65536=q at *
 have e2:(65536:Int) ^ (i+k)*(m+c)=65536 ^ (i+k)*(r+65536*q):=by rw [e]
 rw [Int.mul_add,Int.mul_add,← Int.mul_assoc] at e2
 omega
end Go.Proofs.YtjifkmldigemkaaGreatDoor
