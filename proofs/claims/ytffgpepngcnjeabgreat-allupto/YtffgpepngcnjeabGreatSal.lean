import Derived.Test.YtffgpepngcnjeabGreatSai
import Derived.Test.YtffgpepngcnjeabGreatSak
namespace Go.Proofs.YtffgpepngcnjeabGreat
section
open Go.RowKit
variable {bls:List (List TxD)} {pos id' pos':Int} {x:Cel} {xs:List Cel} {i j:InD} {ins:List InD} {k n:Nat} {l:List RCel} {r:Int×Bool} {bl:List TxD}
def toR (x:Cel):RCel:=⟨x.id,x.pos,x.to,x.val,!(x.spent== -1)⟩
theorem idxOf_vals {α:Type} (p:α->Bool):∀ (l:List α) (k:Nat),idxOf p l k=idxOf (fun b:Bool=>b) (l.map p) k:=by
 intro l
 induction l with
 |nil=>intro k;rfl
 |cons x r ih=>intro k;rw[List.map_cons,idxOf,idxOf,ih]
theorem isRC_toR (id pos:Int) (x:Cel):isRC id pos (toR x)=isCoin id pos x:=by
 simp[isRC,isCoin,toR]
theorem find_toR (xs:List Cel) (id pos:Int):rfindZ (xs.map toR) id pos=findZ xs id pos:=by
 unfold rfindZ findZ
 rw[idxOf_vals (isRC id pos),idxOf_vals (isCoin id pos),List.map_map]
 congr 2
 funext x
 exact isRC_toR id pos x
theorem toR_get (xs:List Cel) (j:Nat) (h:j<xs.length):(xs.map toR).getD j dR=toR (xs.getD j dC):=by
 simp[List.getD,h]
def anyId (l:List RCel) (a:Int):Bool:=l.any fun x=>x.id== a
theorem anyId_toR (xs:List Cel) (a:Int):anyId (xs.map toR) a=hasId xs a:=by
 unfold anyId hasId
 rw[List.any_map]
 rfl
theorem any_vals {α:Type} (p:α->Bool) (l:List α):l.any p=(l.map p).any (fun b=>b):=by
 rw[List.any_map];rfl
theorem set_vals {α β:Type} (f:α->β) (l:List α) (q:Nat) (d y:α) (hq:q<l.length) (hy:f y=f (l.getD q d)):(l.set q y).map f=l.map f:=set_map_same f l q y d hq hy
theorem markI_vals {β:Type} (f:RCel->β) (l:List RCel) (i:InD) (hf:∀ x,isRC i.id i.pos x=true->f x.mark=f x):(markI l i).map f=l.map f:=by
 unfold markI
 rcases rfindZ_cases l i.id i.pos with hz|⟨j,hj,hz,hc⟩
 ·rw[hz,if_pos (by omega)]
 ·rw[hz,if_neg (by omega),show((j:Int)).toNat=j from Int.toNat_natCast j]
  exact set_vals f l j dR _ hj (hf _ hc)
theorem anyId_mark (l:List RCel) (i:InD) (a:Int):anyId (markI l i) a=anyId l a:=by
 unfold anyId
 rw[any_vals,any_vals (fun x:RCel=>x.id== a),markI_vals _ l i (fun x _=>rfl)]
theorem anyId_ins (ins:List InD) (a:Int):∀ l,anyId (insR l ins) a=anyId l a:=by
 unfold insR
 induction ins with
 |nil=>intro l;rfl
 |cons x r ih=>intro l;rw[List.foldl_cons,ih,anyId_mark]
theorem anyId_out (id a:Int) (ys:LII) (k:Nat) (hk:0<k):anyId (outR id ys k) a=(id== a):=by
 unfold anyId outR
 rw[List.any_map]
 cases h:(id== a)
 ·rw[List.any_eq_false]
  intro x _
  simp only[Function.comp,h]
  simp
 ·rw[List.any_eq_true]
  exact⟨0,List.mem_range.2 hk,h⟩
theorem anyId_app (l m:List RCel) (a:Int):anyId (l++m) a=(anyId l a || anyId m a):=by unfold anyId;rw[List.any_append]
theorem anyId_tx (l:List RCel) (t:TxD) (a:Int) (ht:t.ok):anyId (txR l t) a=(anyId l a || (t.id== a)):=by
 obtain⟨_,_,_,h8,_⟩:=rTx_parts ht
 rw[txR,anyId_app,anyId_ins,anyId_out _ _ _ _ (by omega)]
theorem anyId_blk (bl:List TxD) (a:Int):∀ l,(∀ t∈bl,t.ok)->anyId (blkR l bl) a=(anyId l a || standsB a bl):=by
 unfold blkR standsB
 induction bl with
 |nil=>intro l _;simp
 |cons x r ih=>
  intro l ht
  rw[List.foldl_cons,ih _ (fun t h=>ht t (by simp[h])),anyId_tx _ _ _ (ht x (by simp)),List.any_cons,Bool.or_assoc]
theorem anyId_cells (hg:Good bls) (a:Int):anyId (cellsR bls) a=standsZ bls a:=by
 have:∀ (bls:List (List TxD)) (l:List RCel),Good bls->anyId (bls.foldl blkR l) a=(anyId l a || standsZ bls a):=by
  intro bls
  induction bls with
  |nil=>intro l _;simp[standsZ]
  |cons x r ih=>
   intro l hg
   rw[List.foldl_cons,ih _ (fun b hb=>hg b (by simp[hb])),anyId_blk x a l (hg x (by simp)).2]
   simp only[standsZ,List.any_cons,Bool.or_assoc]
 have h:=this bls [] hg
 simpa [anyId,cellsR] using h
def spOf (xs:List Cel) (i:InD):SpD:=⟨findZ xs i.id i.pos,(xs.getD (findZ xs i.id i.pos).toNat dC).to,(xs.getD (findZ xs i.id i.pos).toNat dC).val,i.ao,i.n,i.c,i.l⟩
theorem spZ_cons (xs:List Cel) (i:InD) (r:List InD) (acc:List SpD):spZ xs (i::r) acc=if findZ xs i.id i.pos<0\/isSp acc (findZ xs i.id i.pos)=true then none else spZ xs r (acc++[spOf xs i]):=rfl
theorem spZ_app (xs:List Cel):∀ (a b:List InD) (acc:List SpD),spZ xs (a++b) acc=match spZ xs a acc with|none=>none|some s=>spZ xs b s:=by
 intro a
 induction a with
 |nil=>intro b acc;rfl
 |cons i r ih=>
  intro b acc
  rw[List.cons_append,spZ_cons,spZ_cons]
  by_cases h:findZ xs i.id i.pos<0\/isSp acc (findZ xs i.id i.pos)=true
  ·rw[if_pos h,if_pos h]
  ·rw[if_neg h,if_neg h,ih]
theorem isCoin_same {id:Int} (h:isCoin id pos x=true) (h':isCoin id' pos' x=true):id'=id/\pos'=pos:=by
 simp only[isCoin,Bool.and_eq_true,beq_iff_eq] at h h'
 exact⟨h'.1.symm.trans h.1,h'.2.1.symm.trans h.2.1⟩
theorem find_same (h:0<=findZ xs i.id i.pos) (e:findZ xs j.id j.pos=findZ xs i.id i.pos):j.id=i.id/\j.pos=i.pos:=by
 rcases findZ_cases xs i.id i.pos with hf|⟨q,_,hf,hc⟩
 ·omega
 ·rcases findZ_cases xs j.id j.pos with hf'|⟨q',_,hf',hc'⟩
  ·omega
  ·have:q'=q:=by omega
   subst this
   exact isCoin_same hc hc'
theorem sp_sync (xs:List Cel) (id:Int) (ins:List InD):∀ k,k<=ins.length->
 (spZ xs (ins.take k) []=none/\spR (xs.map toR) id ins k=none)\/
 (spZ xs (ins.take k) []=some ((ins.take k).map (spOf xs))/\spR (xs.map toR) id ins k=some (sumSp ((ins.take k).map (spOf xs)),((ins.take k).map (spOf xs)).all (opens id))/\∀ i∈ins.take k,0<=findZ xs i.id i.pos):=by
 intro k
 induction k with
 |zero=>intro _;right;simp[spZ,spR,sumSp]
 |succ k ih=>
  intro hk
  have hlt:k<ins.length:=by omega
  have et:ins.take (k+1)=ins.take k++[ins.getD k dIn]:=by
   rw[List.take_succ_eq_append_getElem hlt]
   simp[List.getD,hlt]
  rcases ih (by omega) with⟨h1,h2⟩|⟨h1,h2,h3⟩
  ·left
   rw[et,spZ_app,h1,spR,h2]
   exact⟨rfl,rfl⟩
  ·have hd:0<=findZ xs (ins.getD k dIn).id (ins.getD k dIn).pos->isSp ((ins.take k).map (spOf xs)) (findZ xs (ins.getD k dIn).id (ins.getD k dIn).pos)=doubleZ ins k:=by
    intro h0
    unfold isSp doubleZ
    rw[List.any_map]
    apply Bool.eq_iff_iff.2
    rw[List.any_eq_true,List.any_eq_true]
    constructor
    ·rintro⟨j,hj,e⟩
     simp only[Function.comp,spOf,beq_iff_eq] at e
     have:=find_same h0 e
     exact⟨j,hj,by simp[sameIn,this.1,this.2]⟩
    ·rintro⟨j,hj,e⟩
     simp only[sameIn,Bool.and_eq_true,beq_iff_eq] at e
     exact⟨j,hj,by simp[Function.comp,spOf,e.1,e.2]⟩
   rw[et,spZ_app,h1,spR,h2]
   simp only
   rw[spZ_cons,find_toR]
   by_cases hb:findZ xs (ins.getD k dIn).id (ins.getD k dIn).pos<0\/doubleZ ins k=true
   ·left
    rw[if_pos hb]
    refine⟨?_,rfl⟩
    by_cases h0:findZ xs (ins.getD k dIn).id (ins.getD k dIn).pos<0
    ·rw[if_pos (Or.inl h0)]
    ·rw[if_pos (Or.inr (by rw[hd (by omega)];exact hb.resolve_left h0))]
   ·right
    have h0:0<=findZ xs (ins.getD k dIn).id (ins.getD k dIn).pos:=Classical.byContradiction fun h=>hb (Or.inl (by omega))
    rw[if_neg hb,if_neg (fun h=>hb (h.imp (fun h=>h) (fun h=>by rw[<-hd h0];exact h)))]
    rcases findZ_cases xs (ins.getD k dIn).id (ins.getD k dIn).pos with hf|⟨q,hq,hf,hc⟩
    ·omega
    ·refine⟨by rw[List.map_append];rfl,?_,fun i hi=>?_⟩
     ·rw[List.map_append,List.map_singleton,List.all_append]
      simp only[sumSp,List.map_append,List.map_singleton,List.sum_append_int,List.sum_singleton,List.all_cons,List.all_nil,Bool.and_true,spOf,opens]
      rw[hf,show((q:Int)).toNat=q from Int.toNat_natCast q,toR_get xs q hq]
      rfl
     ·rcases List.mem_append.1 hi with hi|hi
      ·exact h3 i hi
      ·rw[List.mem_singleton] at hi
       rw[hi];exact h0
theorem rfind_mark (l:List RCel) (i:InD) (id pos:Int) (h:¬(i.id=id/\i.pos=pos)):rfindZ (markI l i) id pos=rfindZ l id pos:=by
 unfold rfindZ
 rw[idxOf_vals,idxOf_vals (isRC id pos) l,markI_vals]
 intro x hx
 simp only[isRC,Bool.and_eq_true,beq_iff_eq] at hx
 have hn:(x.id== id&&x.pos== pos)=false:=by
  cases e:(x.id== id&&x.pos== pos)
  ·rfl
  ·simp only[Bool.and_eq_true,beq_iff_eq] at e
   exact absurd ⟨hx.1.symm.trans e.1,hx.2.1.symm.trans e.2⟩ h
 simp only[isRC,RCel.mark]
 cases e1:(x.id== id)
 ·rfl
 ·rw[e1] at hn
  simp only[Bool.true_and] at hn
  simp[hn]
theorem rfind_ins (l:List RCel) (ins:List InD) (id pos:Int):∀ k,k<=ins.length->(∀ j,j<k->¬((ins.getD j dIn).id=id/\(ins.getD j dIn).pos=pos))->rfindZ (insR l (ins.take k)) id pos=rfindZ l id pos:=by
 intro k
 induction k with
 |zero=>intro _ _;rfl
 |succ k ih=>
  intro hk h
  rw[insR_take l ins k (by omega),rfind_mark _ _ _ _ (h k (by omega)),ih (by omega) (fun j hj=>h j (by omega))]
theorem double_no (hk:k<=ins.length) (h:doubleZ ins k=false):∀ j,j<k->¬((ins.getD j dIn).id=(ins.getD k dIn).id/\(ins.getD j dIn).pos=(ins.getD k dIn).pos):=by
 intro j hj e
 have:doubleZ ins k=true:=take_take_any ins (sameIn (ins.getD k dIn)) dIn j k hj hk (by unfold sameIn;rw[e.1,e.2];simp)
 rw[h] at this
 cases this
theorem spR_double {id:Int} (h:spR l id ins (k+1)=some r):doubleZ ins k=false/\∃ r',spR l id ins k=some r':=by
 rw[spR] at h
 cases e:spR l id ins k with
 |none=>rw[e] at h;cases h
 |some r'=>
  rw[e] at h
  obtain⟨a,b⟩:=r'
  simp only at h
  split at h
  ·cases h
  ·rename_i hc
   refine⟨?_,_,rfl⟩
   cases hd:doubleZ ins k
   ·rfl
   ·exact absurd (Or.inr hd) hc
theorem spR_all {id:Int}:∀ {k:Nat} {r:Int×Bool},spR l id ins k=some r->∀ j,j<k->doubleZ ins j=false:=by
 intro k
 induction k with
 |zero=>intro r _ j hj;omega
 |succ k ih=>
  intro r h j hj
  obtain⟨h1,r',h2⟩:=spR_double h
  by_cases e:j=k
  ·rw[e];exact h1
  ·exact ih h2 j (by omega)
theorem mark_sync (xs:List Cel) (h:Int) (hh:0<=h) (ins:List InD) (hdb:∀ j,j<ins.length->doubleZ ins j=false) (hpos:∀ i∈ins,0<=findZ xs i.id i.pos):∀ k,k<=ins.length->(markZ h xs ((ins.take k).map (spOf xs))).map toR=insR (xs.map toR) (ins.take k):=by
 intro k
 induction k with
 |zero=>intro _;rfl
 |succ k ih=>
  intro hk
  have hlt:k<ins.length:=by omega
  have et:ins.take (k+1)=ins.take k++[ins.getD k dIn]:=by
   rw[List.take_succ_eq_append_getElem hlt]
   simp[List.getD,hlt]
  have h0:=hpos _ (getD_mem ins dIn k hlt)
  have hf0:rfindZ (insR (xs.map toR) (ins.take k)) (ins.getD k dIn).id (ins.getD k dIn).pos=findZ xs (ins.getD k dIn).id (ins.getD k dIn).pos:=by
   rw[rfind_ins _ _ _ _ k (by omega) (double_no (by omega) (hdb k hlt)),find_toR]
  rcases findZ_cases xs (ins.getD k dIn).id (ins.getD k dIn).pos with hf|⟨q,hq,hf,_⟩
  ·omega
  ·have hm:=ih (by omega)
   have hl:q<(markZ h xs ((ins.take k).map (spOf xs))).length:=by rw[markZ_len];exact hq
   rw[insR_take _ ins k hlt,et,List.map_append,List.map_singleton,markZ_snoc,markI,hf0,hf,if_neg (by omega),show((q:Int)).toNat=q from Int.toNat_natCast q]
   have e1:(spOf xs (ins.getD k dIn)).pl.toNat=q:=by
    show(findZ xs (ins.getD k dIn).id (ins.getD k dIn).pos).toNat=q
    rw[hf];exact Int.toNat_natCast q
   rw[e1,List.map_set,hm]
   congr 1
   rw[<-hm,toR_get _ q hl]
   generalize (markZ h xs ((ins.take k).map (spOf xs))).getD q dC=z
   have hne:(h== -1)=false:=by rw[beq_eq_false_iff_ne];omega
   simp[toR,Cel.sp,RCel.mark,hne]
theorem new_sync (id h:Int) (ys:LII) (k:Nat):(newC id h ys k).map toR=outR id ys k:=by
 unfold newC outR
 rw[List.map_map]
 rfl
theorem add_sync (xs:List Cel) (h:Int) (hh:0<=h) (bls:List (List TxD)) (bl:List TxD) (i:Nat) (hi:i<bl.length) (hg:Good (bls++[bl.take i])) (hx:xs.map toR=cellsR (bls++[bl.take i])):
 (addZ xs h (bl.getD i dT).t (bl.getD i dT).ins (bl.getD i dT).ys (i== 0)).1=judgedR bls bl i/\
 (judgedR bls bl i=0->(addZ xs h (bl.getD i dT).t (bl.getD i dT).ins (bl.getD i dT).ys (i== 0)).2.map toR=cellsR (bls++[bl.take (i+1)])):=by
 have et:bl.take (i+1)=bl.take i++[bl.getD i dT]:=by
  rw[List.take_succ_eq_append_getElem hi]
  simp[List.getD,hi]
 have hcell:cellsR (bls++[bl.take (i+1)])=txR (cellsR (bls++[bl.take i])) (bl.getD i dT):=by
  rw[et]
  simp only[cellsR,List.foldl_append,List.foldl_cons,List.foldl_nil,blkR]
 have hst:∀ a,hasId xs a=standsZ (bls++[bl.take i]) a:=fun a=>by rw[<-anyId_toR,hx,anyId_cells hg]
 rw[hcell,<-hx]
 have hJ:judgedR bls bl i=if rTx (bl.getD i dT).t (bl.getD i dT).ins (bl.getD i dT).ys=false\/((bl.getD i dT).ins=[]/\0<i) then 2 else if standsZ (bls++[bl.take i]) (bl.getD i dT).id=true then 4 else spendsR (xs.map toR) (bl.getD i dT):=by rw[hx];rfl
 rw[hJ]
 generalize bl.getD i dT=t
 have hi0:(0<i)↔(i== 0)=false:=by
  constructor
  ·intro h;rw[beq_eq_false_iff_ne];omega
  ·intro h;have:=beq_eq_false_iff_ne.1 h;omega
 have hsh:(rTx t.t t.ins t.ys=false\/(t.ins=[]/\0<i))↔(rTx t.t t.ins t.ys=false\/(t.ins=[]/\(i== 0)=false)):=by rw[hi0]
 by_cases h1:rTx t.t t.ins t.ys=false\/(t.ins=[]/\(i== 0)=false)
 ·rw[addZ_shape h1,if_pos (hsh.2 h1)]
  exact⟨rfl,fun h=>by simp at h⟩
 ·rw[if_neg (fun h=>h1 (hsh.1 h))]
  cases h2:hasId xs (idZ t.t t.ins t.ys)
  ·have h2':standsZ (bls++[bl.take i]) t.id=false:=by rw[<-hst];exact h2
   rw[if_neg (by rw[h2'];simp)]
   have hsy:=sp_sync xs t.id t.ins t.ins.length leR
   rw[List.take_of_length_le leR] at hsy
   unfold spendsR
   rcases hsy with⟨a1,a2⟩|⟨a1,a2,a3⟩
   ·rw[addZ_coin h1 h2 a1,a2]
    exact⟨rfl,fun h=>by simp at h⟩
   ·rw[a2]
    simp only
    have hid:t.id=idZ t.t t.ins t.ys:=rfl
    cases h4:(t.ins.map (spOf xs)).all (opens (idZ t.t t.ins t.ys))
    ·rw[addZ_seal h1 h2 a1 h4,hid,h4,if_pos rfl]
     exact⟨rfl,fun h=>by simp at h⟩
    ·rw[hid,h4,if_neg (by simp)]
     have hiff:(t.ins.map (spOf xs)≠[]/\sumSp (t.ins.map (spOf xs))<sumOu t.ys)↔(0<t.ins.length/\sumSp (t.ins.map (spOf xs))-sumOu t.ys<0):=by
      have e1:t.ins.map (spOf xs)≠[]↔0<t.ins.length:=by rw[ne_eq,List.map_eq_nil_iff,List.length_pos_iff]
      rw[e1]
      constructor
      ·rintro⟨a,b⟩;exact⟨a,by omega⟩
      ·rintro⟨a,b⟩;exact⟨a,by omega⟩
     by_cases h5:t.ins.map (spOf xs)≠[]/\sumSp (t.ins.map (spOf xs))<sumOu t.ys
     ·rw[addZ_sum h1 h2 a1 h4 h5,if_pos (hiff.1 h5)]
      exact⟨rfl,fun h=>by simp at h⟩
     ·rw[addZ_ok h1 h2 a1 h4 h5,if_neg (fun h=>h5 (hiff.2 h))]
      refine⟨rfl,fun _=>?_⟩
      have hm:=mark_sync xs h hh t.ins (fun j hj=>spR_all a2 j hj) (fun i hi=>a3 i hi) t.ins.length leR
      rw[List.take_of_length_le leR] at hm
      simp only
      rw[List.map_append,hm,new_sync]
      rfl
  ·have h2':standsZ (bls++[bl.take i]) t.id=true:=by rw[<-hst];exact h2
   rw[addZ_twice h1 h2,if_pos h2']
   exact⟨rfl,fun h=>by simp at h⟩
theorem go_sync (h:Int) (hh:0<=h) (bls:List (List TxD)) (bl:List TxD) (hg:Good bls) (h6:bl.length<=6):∀ (f k:Nat) (xk:List Cel),k+f=bl.length->(∀ j,j<k->judgedR bls bl j=0)->xk.map toR=cellsR (bls++[bl.take k])->
 (connGo h xk (bl.drop k) k).1=(verdGo bls bl f k).1/\(connGo h xk (bl.drop k) k).2.1=(verdGo bls bl f k).2/\((verdGo bls bl f k).1=0->(connGo h xk (bl.drop k) k).2.2.map toR=cellsR (bls++[bl])):=by
 intro f
 induction f with
 |zero=>
  intro k xk hk _ hx
  rw[List.drop_of_length_le (by omega)]
  rw[List.take_of_length_le (by omega)] at hx
  exact⟨rfl,rfl,fun _=>hx⟩
 |succ f ih=>
  intro k xk hk hp hx
  have hlt:k<bl.length:=by omega
  have hs:=add_sync xk h hh bls bl k hlt (hg.snoc (by rw[List.length_take];omega) (pre_ok (by omega) hp)) hx
  rw[connGo_drop h xk bl k hlt,verdGo]
  generalize addZ xk h (bl.getD k dT).t (bl.getD k dT).ins (bl.getD k dT).ys (k== 0)=A at hs
  obtain⟨s1,s2⟩:=hs
  rw[s1]
  by_cases h0:judgedR bls bl k=0
  ·rw[if_neg (by simp[h0]),if_neg (by simp[h0])]
   exact ih (k+1) A.2 (by omega) (fun j hj=>by
    by_cases e:j=k
    ·rw[e];exact h0
    ·exact hp j (by omega)) (s2 h0)
  ·rw[if_pos h0,if_pos h0]
   exact⟨rfl,rfl,fun h=>absurd h h0⟩
theorem verdGo_zero (bls:List (List TxD)) (bl:List TxD):∀ f k,(verdGo bls bl f k).1=0->(verdGo bls bl f k).2=0:=by
 intro f
 induction f with
 |zero=>intro k _;rfl
 |succ f ih=>
  intro k h
  rw[verdGo] at h ⊢
  by_cases h0:judgedR bls bl k=0
  ·rw[if_neg (by simp[h0])] at h ⊢
   exact ih (k+1) h
  ·rw[if_pos h0] at h
   exact absurd h h0
theorem cellsR_nil (bls:List (List TxD)):cellsR (bls++[[]])=cellsR bls:=by
 simp only[cellsR,List.foldl_append,List.foldl_cons,List.foldl_nil,blkR]
theorem conn_sync (bls:List (List TxD)) (xs:List Cel) (bl:List TxD) (hg:Good bls) (hx:xs.map toR=cellsR bls):
 (connZ (bls.length:Nat) xs bl).1=(verdictR bls bl).1/\(connZ (bls.length:Nat) xs bl).2.1=(verdictR bls bl).2/\((verdictR bls bl).1=0->(connZ (bls.length:Nat) xs bl).2.2.2.map toR=cellsR (bls++[bl])):=by
 unfold connZ verdictR
 by_cases h40:40<=bls.length
 ·rw[if_pos (by omega),if_pos h40]
  exact⟨rfl,rfl,fun h=>by simp at h⟩
 ·rw[if_neg (by omega),if_neg h40]
  by_cases h6:6<bl.length
  ·rw[if_pos h6,if_pos h6]
   exact⟨rfl,rfl,fun h=>by simp at h⟩
  ·rw[if_neg h6,if_neg h6]
   have hs:=go_sync (bls.length:Nat) (by omega) bls bl hg (by omega) bl.length 0 xs (by omega) (fun j hj=>by omega) (by rw[List.take_zero,cellsR_nil];exact hx)
   rw[List.drop_zero] at hs
   have hvz:=verdGo_zero bls bl bl.length 0
   generalize connGo (bls.length:Nat) xs bl 0=C at hs
   generalize verdGo bls bl bl.length 0=V at hs hvz
   obtain⟨s1,s2,s3⟩:=hs
   by_cases h0:C.1≠0
   ·rw[if_pos h0]
    exact⟨s1,s2,fun h=>absurd (s1.trans h) h0⟩
   ·have h0:C.1=0:=Classical.byContradiction h0
    rw[if_neg (by simp[h0])]
    have hv:V.1=0:=by rw[<-s1,h0]
    exact⟨by rw[hv],by rw[hvz hv],fun h=>s3 h⟩
structure Lk (bls:List (List TxD)) (xs:List Cel):Prop where
 ex:∃ T:Nat->List Cel,T bls.length=xs/\(∀ k,k<bls.length->Over (k:Nat) (T k) (T (k+1)))/\(∀ k,k<=bls.length->(T k).map toR=cellsR (bls.take k)/\Und (k:Nat) (T k)/\Vals (T k)/\(T k).length<=48*k)
 good:Good bls
 len:bls.length<=40
theorem Lk.nil:Lk [] []:=by
 refine⟨⟨fun _=>[],rfl,fun k hk=>by simp at hk,fun k hk=>?_⟩,fun x hx=>by simp at hx,by simp⟩
 refine⟨?_,fun x hx=>by simp at hx,fun x hx=>by simp at hx,by simp⟩
 have:k=0:=by simpa using hk
 subst this
 rfl
theorem Lk.here (h:Lk bls xs):xs.map toR=cellsR bls/\Und (bls.length:Nat) xs/\Vals xs/\xs.length<=48*bls.length:=by
 obtain⟨T,rfl,_,h2⟩:=h.ex
 have:=h2 bls.length leR
 rw[List.take_of_length_le leR] at this
 exact this
theorem Lk.conn (h:Lk bls xs) (h0:(verdictR bls bl).1=0) (h40:bls.length<40) (h6:bl.length<=6) (hok:∀ t∈bl,t.ok):(connZ (bls.length:Nat) xs bl).2.2.1=((bls.length+1:Nat):Int)/\Lk (bls++[bl]) (connZ (bls.length:Nat) xs bl).2.2.2:=by
 obtain⟨m1,m2,m3,m4⟩:=h.here
 obtain⟨s1,_,s3⟩:=conn_sync bls xs bl h.good m1
 have hc:(connZ (bls.length:Nat) xs bl).1=0:=s1.trans h0
 rcases conn_cases (bls.length:Nat) xs bl m2 (by omega) with⟨c1,_⟩|⟨_,_,_,c4,c5⟩
 ·exact absurd hc c1
 ·refine⟨by rw[c4];omega,⟨?_,h.good.snoc h6 hok,by simp;omega⟩⟩
  obtain⟨T,e0,e1,e2⟩:=h.ex
  have hl:=conn_len (bls.length:Nat) xs bl m3 hc
  refine⟨fun k=>if k<=bls.length then T k else(connZ (bls.length:Nat) xs bl).2.2.2,?_,fun k hk=>?_,fun k hk=>?_⟩
  ·simp only[List.length_append,List.length_cons,List.length_nil]
   rw[if_neg (by omega)]
  ·simp only[List.length_append,List.length_cons,List.length_nil] at hk
   by_cases e:k<bls.length
   ·simp only
    rw[if_pos (by omega),if_pos (by omega)]
    exact e1 k e
   ·have e:k=bls.length:=by omega
    subst e
    simp only
    rw[if_pos leR,if_neg (by omega),e0]
    exact c5
  ·simp only[List.length_append,List.length_cons,List.length_nil] at hk
   simp only
   by_cases e:k<=bls.length
   ·rw[if_pos e,List.take_append_of_le_length e]
    exact e2 k e
   ·have e':k=bls.length+1:=by omega
    subst e'
    rw[if_neg e,List.take_of_length_le (by simp)]
    refine⟨s3 h0,?_,hl.1,by omega⟩
    have:=m2.over c5 (by omega)
    rw[show((bls.length+1:Nat):Int)=(bls.length:Int)+1 by omega]
    exact this
theorem Lk.dis (h:Lk bls xs) (hn:bls.length=n+1):Lk (bls.take n) (tbZ (n:Nat) xs):=by
 obtain⟨T,e0,e1,e2⟩:=h.ex
 have ht:tbZ (n:Nat) xs=T n:=by
  rw[<-e0,hn]
  exact tb_over (e1 n (by omega))
 have hl:(bls.take n).length=n:=by rw[List.length_take];omega
 refine⟨⟨T,by rw[hl,ht],fun k hk=>e1 k (by omega),fun k hk=>?_⟩,h.good.take n,by rw[hl];have:=h.len;omega⟩
 rw[hl] at hk
 rw[List.take_take,Nat.min_eq_left hk]
 exact e2 k (by omega)
end
end Go.Proofs.YtffgpepngcnjeabGreat
