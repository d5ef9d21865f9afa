import Derived.Test.YtffgpepngcnjeabGreatSaq
namespace Go.Proofs.YtffgpepngcnjeabGreat
section
open Go.RowKit
variable {l:List Nat} {f:Nat->Int} {cs:List CoinD} {x y:CoinD} {n b off:Nat} {w w':World} {E N:NPr} {ao:OAd} {xs:LII}
def worthZ (r:Int) (c:CoinD):Int:=c.val-7*r
def ordStep (r:Int) (acc:List CoinD) (c:CoinD):List CoinD:=if 1<=worthZ r c then insZ true acc c else acc
def orderZ (r:Int) (l:List CoinD):List CoinD:=l.foldl (ordStep r) []
def bitN (m n i:Nat):Bool:=m / 2 ^ (n-1-i) % 2== 1
def sumP (r:Int) (cs:List CoinD) (m:Nat):Int:=((List.range 8).map fun i=>if decide (i<cs.length)&&bitN m 8 i then worthZ r (cs.getD i dN) else 0).sum
def memP (cs:List CoinD) (m:Nat):List CoinD:=((List.range 8).filter fun i=>decide (i<cs.length)&&bitN m 8 i).map fun i=>cs.getD i dN
def sumD (r:Int) (cs:List CoinD) (n m:Nat):Int:=((List.range n).map fun i=>if bitN m n i then worthZ r (cs.getD i dN) else 0).sum
def memD (cs:List CoinD) (n m:Nat):List CoinD:=((List.range n).filter fun i=>bitN m n i).map fun i=>cs.getD i dN
def nearZ (f:Nat->Int) (lo:Int):Nat->Nat×Int->Nat×Int
 |0,s=>s
 |m+1,s=>nearZ f lo m (if lo<=f (m+1)/\f (m+1)<s.2 then(m+1,f (m+1)) else s)
def fitZD (f:Nat->Int) (lo hi:Int):Nat->Nat×Int->Nat×Int
 |0,s=>s
 |m+1,s=>fitZD f lo hi m (if lo<=f (m+1)/\f (m+1)<=hi/\(s.1=0\/f (m+1)<s.2) then(m+1,f (m+1)) else s)
structure Best (f:Nat->Int) (lo hi:Int) (M b:Nat):Prop where
 no:b=0->∀ m,1<=m->m<=M->¬(lo<=f m/\f m<=hi)
 yes:b≠0->b<=M/\lo<=f b/\f b<=hi/\∀ m,1<=m->m<=M->lo<=f m->f b<=f m/\(f m=f b->m<=b)
theorem near_best (f:Nat->Int) (lo hi:Int) (M:Nat):∀ (k:Nat) (s:Nat×Int),k<=M->(s.1=0->s.2=hi+1/\∀ m,k<m->m<=M->¬(lo<=f m/\f m<=hi))->
 (s.1≠0->s.2=f s.1/\k<s.1/\s.1<=M/\lo<=f s.1/\f s.1<=hi/\∀ m,k<m->m<=M->lo<=f m->f s.1<=f m/\(f m=f s.1->m<=s.1))->Best f lo hi M (nearZ f lo k s).1:=by
 intro k
 induction k with
 |zero=>
  intro s _ h1 h2
  rw[nearZ]
  exact⟨fun e m hm hM=>(h1 e).2 m (by omega) hM,fun e=>by
   obtain⟨a,b,c,d,e1,e2⟩:=h2 e
   exact⟨c,d,e1,fun m hm hM hl=>e2 m (by omega) hM hl⟩⟩
 |succ k ih=>
  intro s hk h1 h2
  rw[nearZ]
  by_cases hc:lo<=f (k+1)/\f (k+1)<s.2
  ·rw[if_pos hc]
   refine ih _ (by omega) (fun e=>by simp at e) (fun _=>?_)
   simp only
   by_cases e0:s.1=0
   ·obtain⟨a,b⟩:=h1 e0
    refine⟨trivial,by omega,hk,hc.1,by omega,fun m hm hM hl=>?_⟩
    by_cases em:m=k+1
    ·subst em;omega
    ·have hb:=b m (by omega) hM
     have:hi<f m:=by
      by_cases hq:f m<=hi
      ·exact absurd ⟨hl,hq⟩ hb
      ·omega
     omega
   ·obtain⟨a,b,c,d,e1,e2⟩:=h2 e0
    refine⟨trivial,by omega,hk,hc.1,by omega,fun m hm hM hl=>?_⟩
    by_cases em:m=k+1
    ·subst em;omega
    ·have:=e2 m (by omega) hM hl
     omega
  ·rw[if_neg hc]
   refine ih _ (by omega) (fun e=>⟨(h1 e).1,fun m hm hM hf=>?_⟩) (fun e=>?_)
   ·by_cases em:m=k+1
    ·subst em;have:=(h1 e).1;exact hc ⟨hf.1,by omega⟩
    ·exact(h1 e).2 m (by omega) hM hf
   ·obtain⟨a,b,c,d,e1,e2⟩:=h2 e
    refine⟨a,by omega,c,d,e1,fun m hm hM hl=>?_⟩
    by_cases em:m=k+1
    ·subst em
     have:¬f (k+1)<s.2:=fun h=>hc ⟨hl,h⟩
     omega
    ·exact e2 m (by omega) hM hl
theorem fit_best (f:Nat->Int) (lo hi:Int) (M:Nat):∀ (k:Nat) (s:Nat×Int),k<=M->(s.1=0->∀ m,k<m->m<=M->¬(lo<=f m/\f m<=hi))->
 (s.1≠0->s.2=f s.1/\k<s.1/\s.1<=M/\lo<=f s.1/\f s.1<=hi/\∀ m,k<m->m<=M->lo<=f m->f s.1<=f m/\(f m=f s.1->m<=s.1))->Best f lo hi M (fitZD f lo hi k s).1:=by
 intro k
 induction k with
 |zero=>
  intro s _ h1 h2
  rw[fitZD]
  exact⟨fun e m hm hM=>h1 e m (by omega) hM,fun e=>by
   obtain⟨a,b,c,d,e1,e2⟩:=h2 e
   exact⟨c,d,e1,fun m hm hM hl=>e2 m (by omega) hM hl⟩⟩
 |succ k ih=>
  intro s hk h1 h2
  rw[fitZD]
  by_cases hc:lo<=f (k+1)/\f (k+1)<=hi/\(s.1=0\/f (k+1)<s.2)
  ·rw[if_pos hc]
   refine ih _ (by omega) (fun e=>by simp at e) (fun _=>?_)
   simp only
   obtain⟨c1,c2,c3⟩:=hc
   by_cases e0:s.1=0
   ·refine⟨trivial,by omega,hk,c1,c2,fun m hm hM hl=>?_⟩
    by_cases em:m=k+1
    ·subst em;omega
    ·have hb:=h1 e0 m (by omega) hM
     have:hi<f m:=by
      by_cases hq:f m<=hi
      ·exact absurd ⟨hl,hq⟩ hb
      ·omega
     omega
   ·obtain⟨a,b,c,d,e1,e2⟩:=h2 e0
    have c4:f (k+1)<s.2:=c3.resolve_left e0
    refine⟨trivial,by omega,hk,c1,c2,fun m hm hM hl=>?_⟩
    by_cases em:m=k+1
    ·subst em;omega
    ·have:=e2 m (by omega) hM hl
     omega
  ·rw[if_neg hc]
   refine ih _ (by omega) (fun e=>fun m hm hM hf=>?_) (fun e=>?_)
   ·by_cases em:m=k+1
    ·subst em;exact hc ⟨hf.1,hf.2,Or.inl e⟩
    ·exact h1 e m (by omega) hM hf
   ·obtain⟨a,b,c,d,e1,e2⟩:=h2 e
    refine⟨a,by omega,c,d,e1,fun m hm hM hl=>?_⟩
    by_cases em:m=k+1
    ·subst em
     by_cases hq:f (k+1)<=hi
     ·have:¬f (k+1)<s.2:=fun h=>hc ⟨hl,hq,Or.inr h⟩
      omega
     ·omega
    ·exact e2 m (by omega) hM hl
def bestP (r:Int) (cs:List CoinD) (lo hi:Int):Nat:=(nearZ (sumP r cs) lo 255 (0,hi+1)).1
def bestD (r:Int) (cs:List CoinD) (n:Nat) (lo hi:Int):Nat:=(fitZD (sumD r cs n) lo hi (2 ^ n-1) (0,0)).1
theorem bit_shift (m j n i:Nat) (hn:n<=8) (hi:i<n) (hj:j<2 ^ (8-n)):bitN (m*2 ^ (8-n)+j) 8 i=bitN m n i:=by
 unfold bitN
 have e:8-1-i=(8-n)+(n-1-i):=by omega
 rw[e,Nat.pow_add,<-Nat.div_div_eq_div_mul]
 have e2:(m*2 ^ (8-n)+j) / 2 ^ (8-n)=m:=by
  rw[Nat.mul_comm,Nat.mul_add_div (Nat.two_pow_pos _),Nat.div_eq_of_lt hj]
  omega
 rw[e2]
theorem range_split (a b:Nat):List.range (a+b)=List.range a++(List.range b).map (a + ·):=List.range_add ..
theorem sum_zero (h:∀ i∈l,f i=0):(l.map f).sum=0:=by
 induction l with
 |nil=>rfl
 |cons x r ih=>rw[List.map_cons,List.sum_cons,h x List.mem_cons_self,ih (fun i hi=>h i (List.mem_cons_of_mem _ hi))];rfl
theorem sumP_D (r:Int) (cs:List CoinD) (n:Nat) (hn:n=min 8 cs.length) (S:Nat):sumP r cs S=sumD r cs n (S / 2 ^ (8-n)):=by
 unfold sumP sumD
 rw[show(8:Nat)=n+(8-n) by omega,range_split,List.map_append,List.sum_append]
 have e0:(((List.range (8-n)).map (n + ·)).map fun i=>if decide (i<cs.length)&&bitN S (n+(8-n)) i then worthZ r (cs.getD i dN) else 0).sum=0:=by
  refine sum_zero (fun i hi=>?_)
  obtain⟨j,hj,rfl⟩:=List.mem_map.1 hi
  have hj:=List.mem_range.1 hj
  rw[decide_eq_false (by omega),Bool.false_and,if_neg (by simp)]
 rw[e0,Int.add_zero]
 congr 1
 refine List.map_congr_left (fun i hi=>?_)
 have hi:=List.mem_range.1 hi
 rw[decide_eq_true (by omega),Bool.true_and]
 have hb:=bit_shift (S / 2 ^ (8-n)) (S % 2 ^ (8-n)) n i (by omega) hi (Nat.mod_lt _ (Nat.two_pow_pos _))
 rw[Nat.div_add_mod'] at hb
 rw[show n+(8-n)=8 by omega,hb]
theorem memP_D (cs:List CoinD) (n:Nat) (hn:n=min 8 cs.length) (S:Nat):memP cs S=memD cs n (S / 2 ^ (8-n)):=by
 unfold memP memD
 rw[show(8:Nat)=n+(8-n) by omega,range_split,List.filter_append]
 have e0:((List.range (8-n)).map (n + ·)).filter (fun i=>decide (i<cs.length)&&bitN S (n+(8-n)) i)=[]:=by
  rw[List.filter_eq_nil_iff]
  intro i hi
  obtain⟨j,hj,rfl⟩:=List.mem_map.1 hi
  have hj:=List.mem_range.1 hj
  rw[decide_eq_false (by omega),Bool.false_and]
  simp
 rw[e0,List.append_nil]
 congr 1
 refine List.filter_congr (fun i hi=>?_)
 have hi:=List.mem_range.1 hi
 rw[decide_eq_true (by omega),Bool.true_and]
 have hb:=bit_shift (S / 2 ^ (8-n)) (S % 2 ^ (8-n)) n i (by omega) hi (Nat.mod_lt _ (Nat.two_pow_pos _))
 rw[Nat.div_add_mod'] at hb
 rw[show n+(8-n)=8 by omega,hb]
theorem best_same (r:Int) (cs:List CoinD) (n:Nat) (hn:n=min 8 cs.length) (lo hi:Int) (hlo:0<lo):bestP r cs lo hi / 2 ^ (8-n)=bestD r cs n lo hi/\(bestP r cs lo hi=0↔bestD r cs n lo hi=0):=by
 have hP:Best (sumP r cs) lo hi 255 (bestP r cs lo hi):=near_best _ lo hi 255 255 (0,hi+1) leR (fun _=>⟨rfl,fun m h1 h2=>by omega⟩) (fun h=>absurd rfl h)
 have hD:Best (sumD r cs n) lo hi (2 ^ n-1) (bestD r cs n lo hi):=fit_best _ lo hi (2 ^ n-1) (2 ^ n-1) (0,0) leR (fun _=>fun m h1 h2=>by omega) (fun h=>absurd rfl h)
 generalize bestP r cs lo hi=bp at *
 generalize bestD r cs n lo hi=bd at *
 have hq:2 ^ n*2 ^ (8-n)=256:=by rw[<-Nat.pow_add,show n+(8-n)=8 by omega]
 have hq0:0<2 ^ (8-n):=Nat.two_pow_pos _
 have hn0:0<2 ^ n:=Nat.two_pow_pos _
 have hz:sumD r cs n 0=0:=by
  unfold sumD
  refine sum_zero (fun i _=>?_)
  unfold bitN
  rw[Nat.zero_div]
  rfl
 have up:∀ S,S<=255->S / 2 ^ (8-n)<=2 ^ n-1:=by
  intro S hS
  have:S / 2 ^ (8-n)<2 ^ n:=by
   rw[Nat.div_lt_iff_lt_mul hq0,hq]
   exact Nat.lt_succ_of_le hS
  exact Nat.le_sub_one_of_lt this
 have pos:∀ S,lo<=sumP r cs S->1<=S / 2 ^ (8-n):=by
  intro S hS
  rw[sumP_D r cs n hn S] at hS
  by_cases e:S / 2 ^ (8-n)=0
  ·rw[e,hz] at hS;omega
  ·exact Nat.pos_of_ne_zero e
 have back:∀ m,1<=m->m<=2 ^ n-1->1<=m*2 ^ (8-n)+(2 ^ (8-n)-1)/\m*2 ^ (8-n)+(2 ^ (8-n)-1)<=255/\(m*2 ^ (8-n)+(2 ^ (8-n)-1)) / 2 ^ (8-n)=m:=by
  intro m h1 h2
  have h3:(m+1)*2 ^ (8-n)<=2 ^ n*2 ^ (8-n):=Nat.mul_le_mul_right _ (by omega)
  rw[Nat.add_mul] at h3
  have h4:1*2 ^ (8-n)<=m*2 ^ (8-n):=Nat.mul_le_mul_right _ h1
  refine⟨by omega,by omega,?_⟩
  rw[Nat.mul_comm,Nat.mul_add_div hq0,Nat.div_eq_of_lt (by omega)]
  omega
 by_cases ed:bd=0
 ·have ep:bp=0:=by
   by_cases ep:bp=0
   ·exact ep
   ·obtain⟨a,b,c,_⟩:=hP.yes ep
    have h1:=pos bp b
    rw[sumP_D r cs n hn bp] at b c
    exact absurd ⟨b,c⟩ (hD.no ed _ h1 (up bp a))
  rw[ed,ep,Nat.zero_div]
  exact⟨rfl,Iff.rfl⟩
 ·obtain⟨a,b,c,d⟩:=hD.yes ed
  obtain⟨s1,s2,s3⟩:=back bd (by omega) a
  have hs:sumP r cs (bd*2 ^ (8-n)+(2 ^ (8-n)-1))=sumD r cs n bd:=by rw[sumP_D r cs n hn,s3]
  have ep:bp≠0:=fun ep=>hP.no ep _ s1 s2 (by rw[hs];exact⟨b,c⟩)
  obtain⟨a',b',c',d'⟩:=hP.yes ep
  have h1:=pos bp b'
  have h2:=d' _ s1 s2 (by rw[hs];exact b)
  rw[hs] at h2
  rw[sumP_D r cs n hn bp] at b' h2
  have h3:=d _ h1 (up bp a') b'
  have e:sumD r cs n bd=sumD r cs n (bp / 2 ^ (8-n)):=by omega
  have h4:=h2.2 e
  have h5:=h3.2 e.symm
  have h6:bd<=bp / 2 ^ (8-n):=by
   have:=Nat.div_le_div_right (c:=2 ^ (8-n)) h4
   rw[s3] at this
   exact this
  exact⟨by omega,⟨fun h=>absurd h ep,fun h=>absurd h ed⟩⟩
theorem insI_cons (m:CoinD) (acc:List CoinD) (y:CoinD) (h:aheadG true y m=false):∀ k,insI true (m::acc) y (k+1)=insI true acc y k+1:=by
 intro k
 induction k with
 |zero=>rw[insI_succ];simp only[List.getD_cons_zero];rw[h];rfl
 |succ k ih=>
  rw[insI_succ true (m::acc),insI_succ true acc,List.getD_cons_succ]
  split
  ·exact ih
  ·rfl
theorem insZ_cons (m:CoinD) (acc:List CoinD) (y:CoinD) (h:aheadG true y m=false):insZ true (m::acc) y=m::insZ true acc y:=by
 unfold insZ
 rw[List.length_cons,insI_cons m acc y h]
 rfl
theorem insI_front (acc:List CoinD) (m:CoinD) (h:∀ y∈acc,aheadG true m y=true):∀ k,k<=acc.length->insI true acc m k=0:=by
 intro k
 induction k with
 |zero=>intro _;rfl
 |succ k ih=>
  intro hk
  have hm:acc.getD k dN∈acc:=by
   rw[List.getD,List.getElem?_eq_getElem (by omega)]
   exact List.getElem_mem _
  rw[insI_succ,h _ hm,if_pos rfl]
  exact ih (by omega)
theorem insZ_front (acc:List CoinD) (m:CoinD) (h:∀ y∈acc,aheadG true m y=true):insZ true acc m=m::acc:=by
 unfold insZ
 rw[insI_front acc m h _ leR]
 rfl
theorem insG_mem (h:y∈insZ true cs x):y=x\/y∈cs:=by
 unfold insZ insAt at h
 simp only[List.mem_append,List.mem_cons] at h
 rcases h with h|h|h
 ·exact Or.inr (List.mem_of_mem_take h)
 ·exact Or.inl h
 ·exact Or.inr (List.mem_of_mem_drop h)
theorem insF_mem:∀ (l acc:List CoinD) {y:CoinD},y∈l.foldl (insZ true) acc->y∈l\/y∈acc:=by
 intro l
 induction l with
 |nil=>intro acc y h;exact Or.inr h
 |cons x r ih=>
  intro acc y h
  rw[List.foldl_cons] at h
  rcases ih _ h with h|h
  ·exact Or.inl (List.mem_cons_of_mem _ h)
  ·rcases insG_mem h with h|h
   ·exact Or.inl (h▸List.mem_cons_self)
   ·exact Or.inr h
theorem insF_cons (m:CoinD):∀ (l acc:List CoinD),(∀ y∈l,aheadG true y m=false)->l.foldl (insZ true) (m::acc)=m::l.foldl (insZ true) acc:=by
 intro l
 induction l with
 |nil=>intro acc _;rfl
 |cons x r ih=>
  intro acc h
  rw[List.foldl_cons,List.foldl_cons,insZ_cons m acc x (h x List.mem_cons_self)]
  exact ih _ (fun y hy=>h y (List.mem_cons_of_mem _ hy))
theorem ins_head (R1 R2:List CoinD) (m:CoinD) (h1:∀ y∈R1,y.val<m.val) (h2:∀ y∈R2,y.val<m.val\/(y.val=m.val/\aheadZ y m=false)):(R1++m::R2).foldl (insZ true) []=m::(R1++R2).foldl (insZ true) []:=by
 rw[List.foldl_append,List.foldl_append,List.foldl_cons]
 rw[insZ_front _ m (fun y hy=>?_)]
 ·refine insF_cons m R2 _ (fun y hy=>?_)
  unfold aheadG
  rcases h2 y hy with h|⟨h,h'⟩
  ·rw[if_pos ⟨rfl,by omega⟩]
   exact decide_eq_false (by omega)
  ·rw[if_neg (by simp[h])]
   exact h'
 ·rcases insF_mem R1 [] hy with h|h
  ·have:=h1 y h
   unfold aheadG
   rw[if_pos ⟨rfl,by omega⟩]
   exact decide_eq_true (by omega)
  ·cases h
theorem orderZ_filter (r:Int) (l:List CoinD):orderZ r l=(l.filter fun c=>decide (1<=worthZ r c)).foldl (insZ true) []:=by
 unfold orderZ
 have:∀ (l acc:List CoinD),l.foldl (ordStep r) acc=(l.filter fun c=>decide (1<=worthZ r c)).foldl (insZ true) acc:=by
  intro l
  induction l with
  |nil=>intro acc;rfl
  |cons x t ih=>
   intro acc
   rw[List.foldl_cons,ih]
   unfold ordStep
   by_cases h:1<=worthZ r x
   ·rw[if_pos h,List.filter_cons_of_pos (by simp[h]),List.foldl_cons]
   ·rw[if_neg h,List.filter_cons_of_neg (by simp[h])]
 exact this l []
def enZ (r want:Int):List CoinD->Nat->Int->Nat×Int
 |[],_,_=>(0,0)
 |c::t,i,s=>if want<=s+worthZ r c then(i+1,s+worthZ r c) else enZ r want t (i+1) (s+worthZ r c)
def seD (r:Int):List CoinD->List CoinD->Int->Option (List CoinD×Int)
 |[],_,_=>none
 |c::t,out,left=>if 0<=left+worthZ r c then some (out++[c],left+worthZ r c) else seD r t (out++[c]) (left+worthZ r c)
theorem enZ_ge (r want:Int):∀ (t:List CoinD) (i:Nat) (s:Int),(enZ r want t i s).1=0\/(i<(enZ r want t i s).1/\(enZ r want t i s).1<=i+t.length):=by
 intro t
 induction t with
 |nil=>intro i s;exact Or.inl rfl
 |cons c t ih=>
  intro i s
  rw[enZ]
  split
  ·right
   simp only[List.length_cons]
   omega
  ·rcases ih (i+1) (s+worthZ r c) with h|h
   ·exact Or.inl h
   ·right
    simp only[List.length_cons]
    omega
theorem en_se (r want:Int):∀ (t pre:List CoinD) (s:Int),pre.length<=10->seD r (t.take (10-pre.length)) pre (s-want) =
 if (enZ r want t pre.length s).1=0\/10<(enZ r want t pre.length s).1 then none else some ((pre++t).take (enZ r want t pre.length s).1,(enZ r want t pre.length s).2-want):=by
 intro t
 induction t with
 |nil=>
  intro pre s _
  rw[List.take_nil,seD,enZ,if_pos (Or.inl rfl)]
 |cons c t ih=>
  intro pre s hp
  by_cases h10:pre.length=10
  ·rw[h10,Nat.sub_self,List.take_zero,seD]
   rcases enZ_ge r want (c::t) 10 s with h|h
   ·rw[if_pos (Or.inl h)]
   ·rw[if_pos (Or.inr h.1)]
  ·rw[show 10-pre.length=(10-(pre.length+1))+1 by omega,List.take_succ_cons,seD,enZ]
   by_cases hw:want<=s+worthZ r c
   ·rw[if_pos (by omega),if_pos hw,if_neg (by simp only;omega)]
    simp only
    congr 2
    ·rw[List.take_append,List.take_of_length_le (by omega),show pre.length+1-pre.length=1 by omega]
     rfl
    ·omega
   ·rw[if_neg (by omega),if_neg hw]
    have:=ih (pre++[c]) (s+worthZ r c) (by simp;omega)
    rw[List.length_append,List.length_singleton,List.append_assoc,List.singleton_append] at this
    rw[<-this]
    congr 1
    omega
def slackZ (r:Int):Int:=2*r+9
def chooseZ (r:Int) (cs:List CoinD) (want:Int):Option (List CoinD×Int):=
 if bestP r cs want (want+slackZ r)≠0 then some (memP cs (bestP r cs want (want+slackZ r)),0)
 else if (enZ r want cs 0 0).1=0\/10<(enZ r want cs 0 0).1 then none
 else some (cs.take (enZ r want cs 0 0).1,if (enZ r want cs 0 0).2-want<=slackZ r then 0 else(enZ r want cs 0 0).2-want-2*r)
def chosenD (r:Int) (cs:List CoinD) (want:Int):List CoinD×Int:=
 if 0<bestD r cs (min 8 cs.length) want (want+2*r+10-1) then(memD cs (min 8 cs.length) (bestD r cs (min 8 cs.length) want (want+2*r+10-1)),0)
 else match seD r (cs.take 10) [] (-want) with
  |none=>([],0)
  |some (out,left)=>(out,if 10<=left-2*r then left-2*r else 0)
theorem sum_none {b:Nat->Bool} (h:(List.range n).filter b=[]):((List.range n).map fun i=>if b i then f i else 0).sum=0:=by
 refine sum_zero (fun i hi=>?_)
 have:=List.filter_eq_nil_iff.1 h i hi
 rw[if_neg (by simpa using this)]
theorem choose_same (r:Int) (cs:List CoinD) (want:Int) (hw:0<want):(chooseZ r cs want=none/\chosenD r cs want=([],0))\/∃ l c,chooseZ r cs want=some (l,c)/\chosenD r cs want=(l,c)/\l≠[]/\0<=c/\(0<c->10<=c):=by
 have hs:want+2*r+10-1=want+slackZ r:=by unfold slackZ;omega
 obtain⟨b1,b2⟩:=best_same r cs (min 8 cs.length) rfl want (want+slackZ r) hw
 unfold chooseZ chosenD
 rw[hs]
 have hD:Best (sumD r cs (min 8 cs.length)) want (want+slackZ r) (2 ^ (min 8 cs.length)-1) (bestD r cs (min 8 cs.length) want (want+slackZ r)):=fit_best _ _ _ (2 ^ (min 8 cs.length)-1) (2 ^ (min 8 cs.length)-1) (0,0) leR (fun _=>fun m h1 h2=>by omega) (fun h=>absurd rfl h)
 by_cases e:bestP r cs want (want+slackZ r)=0
 ·have e2:=b2.1 e
  rw[e,e2,if_neg (fun h=>h rfl),if_neg (Nat.lt_irrefl 0)]
  have h:=en_se r want cs [] 0 (by simp)
  simp only[List.length_nil,Nat.sub_zero,List.nil_append] at h
  rw[show(0:Int)-want=-want by omega] at h
  rw[h]
  by_cases hc:(enZ r want cs 0 0).1=0\/10<(enZ r want cs 0 0).1
  ·rw[if_pos hc,if_pos hc]
   exact Or.inl ⟨rfl,rfl⟩
  ·rw[if_neg hc,if_neg hc]
   refine Or.inr ⟨_,_,rfl,?_,?_,?_,?_⟩
   ·simp only
    congr 1
    unfold slackZ
    split<;>split<;>omega
   ·intro hn
    rcases enZ_ge r want cs 0 0 with h|h
    ·exact hc (Or.inl h)
    ·have:=congrArg List.length hn
     rw[List.length_take,List.length_nil] at this
     omega
   ·unfold slackZ
    split<;>omega
   ·unfold slackZ
    split<;>omega
 ·have e2:bestD r cs (min 8 cs.length) want (want+slackZ r)≠0:=fun h=>e (b2.2 h)
  rw[if_pos e,if_pos (Nat.pos_of_ne_zero e2)]
  refine Or.inr ⟨_,_,rfl,?_,?_,Int.le_refl _,fun h=>absurd h (by simp)⟩
  ·rw[memP_D cs (min 8 cs.length) rfl,b1]
  ·rw[memP_D cs (min 8 cs.length) rfl,b1]
   intro hn
   have h0:(List.range (min 8 cs.length)).filter (fun i=>bitN (bestD r cs (min 8 cs.length) want (want+slackZ r)) (min 8 cs.length) i)=[]:=by
    unfold memD at hn
    exact List.map_eq_nil_iff.1 hn
   have h1:=(hD.yes e2).2.1
   unfold sumD at h1
   rw[sum_none h0] at h1
   omega
structure PayD where
 num:Int
 ac:OAd
 nc:Nat
 cc:Nat
 ap:OAd
 m:Nat
 d:Nat
 tag:Int
 sg:Bool
 cs:List CoinD
 ys:LII
def dP:PayD:=⟨0,none,0,0,none,0,0,0,false,[],[]⟩
def PayD.v (x:PayD):List Value:=[.int .i64 x.num,.slice x.ac x.nc x.cc,.slice x.ap x.m x.d,.int .i64 x.tag,.bool x.sg]
theorem pay5 (x:PayD):x.v.length=5:=rfl
theorem pay_one (x:PayD):∀ u∈x.v,u.oneCell'=true:=by
 intro u hu
 simp only[PayD.v,List.mem_cons,List.not_mem_nil,or_false] at hu
 rcases hu with rfl|rfl|rfl|rfl|rfl<;>rfl
structure PayCells (w:World) (b off:Nat) (x:PayD):Prop where
 c0:w.cell? ⟨b,off,none⟩=some (.int .i64 x.num)
 c1:w.cell? ⟨b,off+1,none⟩=some (.slice x.ac x.nc x.cc)
 c2:w.cell? ⟨b,off+2,none⟩=some (.slice x.ap x.m x.d)
 c3:w.cell? ⟨b,off+3,none⟩=some (.int .i64 x.tag)
 c4:w.cell? ⟨b,off+4,none⟩=some (.bool x.sg)
theorem payCells {xs:List PayD} (h:VRow w b off (xs.flatMap PayD.v)) (j:Nat) (hj:j<xs.length):PayCells w b (off+j*5) (xs.getD j dP):=
 ⟨rcell pay5 dP h j hj 0 (by omega),rcell pay5 dP h j hj 1 (by omega),rcell pay5 dP h j hj 2 (by omega),rcell pay5 dP h j hj 3 (by omega),rcell pay5 dP h j hj 4 (by omega)⟩
structure PayOk (N:NPr) (w:World) (x:PayD):Prop where
 co:RecAt CoinD.l w x.ac x.cs
 cl:x.cs.length=x.nc
 ou:OutsAt w x.ap x.ys
 ol:x.ys.length=x.m
 nc:x.cs≠[]->∀ a,x.ac=some a->N a.block
 np:x.ys≠[]->∀ a,x.ap=some a->N a.block
 b1:x.nc<=10
 b2:x.m<=8
theorem rec_fr {α:Type} {f:α->List Value} (hf:Fr E w w') {l:List α} (h:RecAt f w ao l) (hn:l≠[]->∀ a,ao=some a->¬E a.block):RecAt f w' ao l:=by
 by_cases he:l=[]
 ·exact Or.inl he
 ·rcases h with h|⟨b,off,rfl,hr⟩
  ·exact Or.inl h
  ·exact Or.inr ⟨b,off,rfl,hf.vrow hr (hn he _ rfl)⟩
theorem outsAt_fr (hf:Fr E w w') {l:LII} (h:OutsAt w ao l) (hn:l≠[]->∀ a,ao=some a->¬E a.block):OutsAt w' ao l:=by
 by_cases he:l=[]
 ·exact Or.inl he
 ·rcases h with h|⟨b,off,rfl,hr⟩
  ·exact Or.inl h
  ·exact Or.inr ⟨b,off,rfl,fun j hj=>⟨hf.cell (hr j hj).1 (hn he _ rfl),hf.cell (hr j hj).2 (hn he _ rfl)⟩⟩
theorem PayOk.fr (hf:Fr E w w') {x:PayD} (h:PayOk N w x) (hn:∀ k,N k->¬E k):PayOk N w' x:=
 ⟨rec_fr hf h.co (fun e a ha=>hn _ (h.nc e a ha)),h.cl,outsAt_fr hf h.ou (fun e a ha=>hn _ (h.np e a ha)),h.ol,h.nc,h.np,h.b1,h.b2⟩
theorem PayOk.grown {x:PayD} (h:PayOk N w x) (hb:Below w.heap.size w w'):PayOk N w' x:=h.fr (Fr.of_below hb (fun _=>False)) (fun _ _ h=>h)
def kV (k:Int×Int):List Value:=[.int .i64 k.1,.int .i64 k.2]
theorem kv2 (k:Int×Int):(kV k).length=2:=rfl
theorem kv_one (k:Int×Int):∀ u∈kV k,u.oneCell'=true:=by
 intro u hu
 simp only[kV,List.mem_cons,List.not_mem_nil,or_false] at hu
 rcases hu with rfl|rfl<;>rfl
def KvCells (w:World) (b off:Nat) (k:Int×Int):Prop:=w.cell? ⟨b,off,none⟩=some (.int .i64 k.1)/\w.cell? ⟨b,off+1,none⟩=some (.int .i64 k.2)
theorem kvCells (h:VRow w b off (xs.flatMap kV)) (j:Nat) (hj:j<xs.length):KvCells w b (off+j*2) (xs.getD j (0,0)):=
 ⟨rcell kv2 (0,0) h j hj 0 (by omega),rcell kv2 (0,0) h j hj 1 (by omega)⟩
def heldB (ps:List PayD) (id pos:Int):Bool:=ps.any fun p=>p.cs.any fun x=>x.id== id&&x.pos== pos
def usedB (ks:LII) (k:Int×Int):Bool:=ks.any fun x=>x.1== k.1&&x.2== k.2
def freeB (ps:List PayD) (ks:LII) (x:CoinD):Bool:=!heldB ps x.id x.pos&&!usedB ks (x.br,x.ix)
end
end Go.Proofs.YtffgpepngcnjeabGreat
