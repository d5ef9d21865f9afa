import Derived.Test.YtffgpepngcnjeabGreatSbh
import Derived.Test.YtffgpepngcnjeabGreatSbc
namespace Go.Proofs.YtffgpepngcnjeabGreat
set_option maxRecDepth 100000
set_option maxHeartbeats 4000000
section
open Go.RowKit
variable {ks ys:LII} {r tag nx:Int} {bls:List (List TxD)} {xs:List Cel} {n D base g c j:Nat} {Nd:NPr} {w:World}
abbrev PK:Type:=Int×List CoinD×LII×Int×Bool
def PayD.k (p:PayD):PK:=(p.num,p.cs,p.ys,p.tag,p.sg)
def MadeD.k (a:MadeD):PK:=(a.num,a.cs,a.zs,a.tag,a.sg)
structure LkP (ps:List PayD) (ks:LII) (ms:List MadeD):Prop where
 live:ps.map PayD.k=(ms.filter MadeD.lv).map MadeD.k
 num:∀ i,i<ms.length->(ms.getD i dM).num=(i:Nat)
 used:∀ b i,usedB ks (b,i)=usedR ms b i
theorem LkP.nil:LkP [] [] []:=⟨rfl,fun _ hi=>absurd hi (Nat.not_lt_zero _),fun _ _=>rfl⟩
theorem any_and (b:Bool) (l:List CoinD) (f:CoinD->Bool):(b&&l.any f)=l.any fun x=>b&&f x:=by
 cases b
 ·induction l with
  |nil=>rfl
  |cons x r ih=>simp at ih ⊢
 ·simp
theorem LkP.held {ps:List PayD} {ms:List MadeD} (h:LkP ps ks ms) (id pos:Int):heldB ps id pos=takenB ms id pos:=by
 have e1:heldB ps id pos=(ps.map PayD.k).any fun t=>t.2.1.any fun x=>x.id== id&&x.pos== pos:=by
  unfold heldB;rw[List.any_map];rfl
 have e2:takenB ms id pos=((ms.filter MadeD.lv).map MadeD.k).any fun t=>t.2.1.any fun x=>x.id== id&&x.pos== pos:=by
  unfold takenB
  rw[List.any_map,List.any_filter]
  congr 1
  funext a
  exact(any_and a.lv a.cs _).symm
 rw[e1,e2,h.live]
theorem LkP.free {ps:List PayD} {ms:List MadeD} (h:LkP ps ks ms) (x:CoinD):freeB ps ks x=(!takenB ms x.id x.pos&&!usedR ms x.br x.ix):=by
 unfold freeB
 rw[h.held,h.used]
theorem ckF_find (hs:List Bool):∀ (f i:Nat),ckF hs f i=match (List.range' i f).find? (fun j=>!hs.getD j false) with|none=>-1|some j=>(j:Int):=by
 intro f
 induction f with
 |zero=>intro i;rfl
 |succ f ih=>
  intro i
  rw[ckF,List.range'_succ,List.find?_cons]
  cases h:hs.getD i false
  ·simp
  ·simp only[Bool.not_true,if_true]
   exact ih (i+1)
theorem range_find (p:Nat->Bool) (nx:Nat):∀ (n a:Nat),a<=nx->(List.range' a n).find? (fun i=>decide (nx<=i)&&p i)=(List.range' nx (a+n-nx)).find? p:=by
 intro n
 induction n with
 |zero=>
  intro a ha
  rw[show a+0-nx=0 by omega]
  rfl
 |succ n ih=>
  intro a ha
  by_cases e:a=nx
  ·subst e
   rw[show a+(n+1)-a=n+1 by omega]
   have:∀ i∈List.range' a (n+1),(decide (a<=i)&&p i)=p i:=fun i hi=>by
    have:=(List.mem_range'_1.1 hi).1
    rw[decide_eq_true this];rfl
   clear ih
   generalize List.range' a (n+1)=l at this
   induction l with
   |nil=>rfl
   |cons x r ih2=>
    rw[List.find?_cons,List.find?_cons,this x (List.mem_cons_self ..),ih2 (fun i hi=>this i (List.mem_cons_of_mem _ hi))]
  ·rw[List.range'_succ,List.find?_cons,decide_eq_false (show ¬nx<=a by omega)]
   simp only[Bool.false_and]
   rw[ih (a+1) (by omega),show a+1+n-nx=a+(n+1)-nx by omega]
theorem paid_toR (xs:List Cel) (a:Int):hitR (xs.map toR) a=paidTo xs a:=by
 unfold hitR paidTo
 rw[List.any_map]
 rfl
theorem hits_get (xs:List Cel) (s:Int) (j:Nat) (h:j<100):(hitsR (xs.map toR) (adrs s 1 100)).getD j false=paidTo xs (Mk.adr s 1 j):=by
 have hl:j<(adrs s 1 100).length:=by simp[adrs];exact h
 unfold hitsR
 rw[List.getD,List.getElem?_map,List.getElem?_eq_getElem hl,Option.map_some,Option.getD_some,paid_toR]
 congr 1
 simp[adrs]
theorem unp_sync (xs:List Cel) (s:Int) (g nx:Nat) (hg:g<=20):
 (unpZ xs s g nx=none/\ckR (xs.map toR) s g nx=-1)\/∃ k:Nat,k<100/\unpZ xs s g nx=some ⟨1,(k:Nat),Mk.adr s 1 k⟩/\ckR (xs.map toR) s g nx=(k:Nat):=by
 have hw:winZ xs s g 1<=100:=winZ_le xs s g 1
 have e0:(keysB s 0 (winZ xs s g 0)).find? (unpB xs nx)=none:=by
  rw[List.find?_eq_none]
  intro k hk
  unfold keysB at hk
  obtain⟨i,_,rfl⟩:=List.mem_map.1 hk
  simp[unpB]
 have e1:unpZ xs s g nx=((List.range' nx (winZ xs s g 1-nx)).find? fun i:Nat=>!paidTo xs (Mk.adr s 1 i)).map fun i:Nat=>(⟨1,(i:Nat),Mk.adr s 1 i⟩:KeyD):=by
  unfold unpZ keysZ
  rw[List.find?_append,e0,Option.none_or]
  unfold keysB
  rw[List.find?_map,List.range_eq_range']
  have:(unpB xs (nx:Nat)∘fun i:Nat=>(⟨1,(i:Nat),Mk.adr s 1 i⟩:KeyD))=fun i:Nat=>decide (nx<=i)&&!paidTo xs (Mk.adr s 1 i):=by
   funext i
   simp[unpB,Function.comp]
  rw[this,range_find _ nx _ 0 (Nat.zero_le _),Nat.zero_add]
 have e2:ckR (xs.map toR) s g nx=match (List.range' nx (winZ xs s g 1-nx)).find? (fun i:Nat=>!paidTo xs (Mk.adr s 1 i)) with|none=>-1|some j=>(j:Int):=by
  unfold ckR
  rw[win_sync xs s g 1 hg,ckF_find]
  have:∀ i∈List.range' nx (winZ xs s g 1-nx),(!(hitsR (xs.map toR) (adrs s 1 100)).getD i false)=!paidTo xs (Mk.adr s 1 i):=fun i hi=>by
   have:=(List.mem_range'_1.1 hi)
   rw[hits_get xs s i (by omega)]
  rw[show(List.range' nx (winZ xs s g 1-nx)).find? (fun j=>!(hitsR (xs.map toR) (adrs s 1 100)).getD j false)=(List.range' nx (winZ xs s g 1-nx)).find? (fun i:Nat=>!paidTo xs (Mk.adr s 1 i)) by
   generalize List.range' nx (winZ xs s g 1-nx)=l at this
   induction l with
   |nil=>rfl
   |cons x r ih=>rw[List.find?_cons,List.find?_cons,this x (List.mem_cons_self ..),ih (fun i hi=>this i (List.mem_cons_of_mem _ hi))]]
 rw[e1,e2]
 cases h:(List.range' nx (winZ xs s g 1-nx)).find? (fun i:Nat=>!paidTo xs (Mk.adr s 1 i)) with
 |none=>exact Or.inl ⟨rfl,rfl⟩
 |some k=>
  have:=List.mem_range'_1.1 (List.mem_of_find?_eq_some h)
  exact Or.inr ⟨k,by omega,rfl,rfl⟩
theorem sumOu_pos:∀ (ys:LII),(∀ y∈ys,10<=y.2)->10*(ys.length:Int)<=sumOu ys:=by
 intro ys
 induction ys with
 |nil=>intro _;simp[sumOu]
 |cons y r ih=>
  intro h
  have h1:=ih (fun z hz=>h z (List.mem_cons_of_mem _ hz))
  have h2:=h y (List.mem_cons_self ..)
  simp[sumOu] at h1 ⊢
  omega
theorem target_posA (h:askedZ ys r tag=0):0<targetZ ys r:=by
 obtain⟨h1,h2,h3⟩:=asked_zero h
 have h4:=sumOu_pos ys (fun y hy=>by
  have:=List.all_eq_true.1 h3 y hy
  simp[rOut] at this
  omega)
 unfold targetZ
 have:0<=r*(3+2*(ys.length:Int)):=Int.mul_nonneg h1.1 (by omega)
 omega
theorem pay_sync {ps:List PayD} {ms:List MadeD} (hl:Lk bls xs) (hp:LkP ps ks ms) (s:Int) (g nx:Nat) (hg:g<=20) (ys:LII) (r tag:Int):
 payZ xs s g ps ks nx ys r tag=payD bls s g (ownOf xs s g) ms nx ys r tag:=by
 have hc:=hl.here.1
 have hid:∀ a,hasId xs a=standsZ bls a:=fun a=>by rw[<-anyId_toR,hc,anyId_cells hl.good]
 have hfin:∀ cs zs ch,payFin xs tag cs zs ch=payFinD bls tag cs zs ch:=fun cs zs ch=>by unfold payFin payFinD;rw[hid]
 unfold payZ payD
 by_cases h1:r<0\/1000<r\/¬(0<=tag/\tag<=1099511627776)
 ·rw[if_pos h1,asked_arg h1,if_pos (by decide)]
 ·rw[if_neg h1]
  by_cases h2:7<ys.length\/rOuts ys=false
  ·rw[if_pos h2,asked_shape h1 h2,if_pos (by decide)]
  ·have ha:=asked_ok h1 h2
   have hpos:=target_posA ha
   rw[if_neg h2,ha,if_neg (fun h=>h rfl)]
   have hor:orderZ r ((ownOf xs s g).filter (freeB ps ks))=candD ms r (ownOf xs s g):=by
    rw[candD_order]
    congr 2
    funext x
    exact hp.free x
   rw[hor]
   rcases choose_same r (candD ms r (ownOf xs s g)) (targetZ ys r) hpos with⟨e1,e2⟩|⟨l,c,e1,e2,h3,h4,_⟩
   ·rw[e1,e2]
    rfl
   ·rw[e1,e2]
    simp only
    rw[if_neg h3]
    by_cases h5:0<c
    ·rw[if_pos h5,if_pos h5,<-hc]
     rcases unp_sync xs s g nx hg with⟨e3,e4⟩|⟨k,_,e3,e4⟩
     ·rw[e3,e4]
      rfl
     ·rw[e3,e4,if_neg (show ¬((k:Nat):Int)<0 by omega)]
      simp only
      exact hfin _ _ _
    ·rw[if_neg h5,if_neg h5]
     exact hfin _ _ _
theorem LkP.push {ps:List PayD} {ms:List MadeD} (h:LkP ps ks ms) {p:PayD} {a:MadeD} (hk:p.k=a.k) (hl:a.lv=true) (hs:a.sg=false) (hn:a.num=(ms.length:Nat)):LkP (ps++[p]) ks (ms++[a]):=by
 refine⟨?_,fun i hi=>?_,fun b i=>?_⟩
 ·rw[List.map_append,List.filter_append,List.map_append,h.live]
  congr 1
  rw[List.filter_cons,if_pos hl]
  simp[hk]
 ·rw[List.length_append,List.length_singleton] at hi
  by_cases e:i<ms.length
  ·rw[List.getD,List.getElem?_append_left e]
   exact h.num i e
  ·have:i=ms.length:=by omega
   subst this
   rw[List.getD,List.getElem?_append_right leR,Nat.sub_self]
   exact hn
 ·rw[h.used]
  unfold usedR
  rw[List.any_append]
  have:([a].any fun a=>a.cs.any fun x=>a.sg&&(x.br== b&&x.ix== i))=false:=by
   rw[List.any_cons,List.any_nil,Bool.or_false,hs]
   simp
  rw[this,Bool.or_false]
def MadeD.off (a:MadeD):MadeD:={ a with lv:=false }
def offD (ms:List MadeD) (n:Nat):List MadeD:=ms.set n (ms.getD n dM).off
theorem live_num {ps:List PayD} {ms:List MadeD} (h:LkP ps ks ms) (k:Int):(∃ p∈ps,p.num=k)↔∃ i:Nat,k=(i:Int)/\i<ms.length/\(ms.getD i dM).lv=true:=by
 constructor
 ·rintro⟨p,hp,rfl⟩
  have h1:p.k∈ps.map PayD.k:=List.mem_map_of_mem hp
  rw[h.live] at h1
  obtain⟨a,ha,e⟩:=List.mem_map.1 h1
  obtain⟨ha1,ha2⟩:=List.mem_filter.1 ha
  obtain⟨i,hi,rfl⟩:=List.mem_iff_getElem.1 ha1
  refine⟨i,?_,hi,?_⟩
  ·have h2:(ms[i]).num=p.num:=congrArg Prod.fst e
   have h3:=h.num i hi
   simp[List.getD,hi] at h3
   rw[<-h2,h3]
  ·simpa [List.getD,hi] using ha2
 ·rintro⟨i,rfl,hi,hl⟩
  have h1:ms[i]∈ms.filter MadeD.lv:=List.mem_filter.2 ⟨List.getElem_mem hi,by simpa [List.getD,hi] using hl⟩
  have h2:(ms[i]).k∈(ms.filter MadeD.lv).map MadeD.k:=List.mem_map_of_mem h1
  rw[<-h.live] at h2
  obtain⟨p,hp,e⟩:=List.mem_map.1 h2
  refine⟨p,hp,?_⟩
  have h3:=h.num i hi
  simp[List.getD,hi] at h3
  have h4:p.num=(ms[i]).num:=congrArg Prod.fst e
  rw[h4,h3]
theorem left_same (ps:List PayD) (k:Int):(leftZ ps k).length=ps.length↔¬∃ p∈ps,p.num=k:=by
 unfold leftZ
 rw[List.length_filter_eq_length_iff]
 constructor
 ·rintro h ⟨p,hp,e⟩
  have:=h p hp
  simp[e] at this
 ·intro h p hp
  simp
  exact fun e=>h ⟨p,hp,e⟩
theorem filter_off (ms:List MadeD) (f:MadeD->Int) (k:Int):∀ (off:Nat),(∀ i,i<ms.length->f (ms.getD i dM)=((off+i:Nat):Int))->∀ n,n<ms.length->k=((off+n:Nat):Int)->(ms.filter fun a=>a.lv&&f a !=k)=(offD ms n).filter MadeD.lv:=by
 induction ms with
 |nil=>intro off _ n hn;exact absurd hn (Nat.not_lt_zero _)
 |cons a r ih=>
  intro off h n hn hk
  have h0:f a=((off:Nat):Int):=by simpa using h 0 (by simp)
  have hr:∀ i,i<r.length->f (r.getD i dM)=((off+1+i:Nat):Int):=fun i hi=>by
   have:=h (i+1) (by simp;omega)
   rw[show off+(i+1)=off+1+i by omega] at this
   simpa using this
  cases n with
  |zero=>
   have e1:offD (a::r) 0=a.off::r:=rfl
   rw[e1,List.filter_cons,List.filter_cons]
   rw[if_neg (by simp[h0,hk]),if_neg (by simp[MadeD.off])]
   refine List.filter_congr (fun b hb=>?_)
   obtain⟨i,hi,rfl⟩:=List.mem_iff_getElem.1 hb
   have h1:=hr i hi
   simp[List.getD,hi] at h1
   have:f r[i]≠k:=by rw[h1,hk];omega
   simp[this]
  |succ n=>
   have e1:offD (a::r) (n+1)=a::offD r n:=rfl
   have hne:f a≠k:=by rw[h0,hk];omega
   have:=ih (off+1) hr n (by simpa using hn) (by rw[hk];congr 1;omega)
   rw[e1,List.filter_cons,List.filter_cons,this]
   simp[hne]
theorem offD_len (ms:List MadeD) (n:Nat):(offD ms n).length=ms.length:=by simp[offD]
theorem offD_get (ms:List MadeD) (n i:Nat):(offD ms n).getD i dM=if i=n/\n<ms.length then(ms.getD n dM).off else ms.getD i dM:=by
 unfold offD
 rw[List.getD,List.getElem?_set]
 split
 ·rename_i e
  subst e
  split
  ·rename_i h;rw[if_pos ⟨rfl,h⟩];rfl
  ·rename_i h
   rw[if_neg (fun e=>h e.2)]
   simp[List.getD,h]
 ·rename_i e
  rw[if_neg (fun h=>e h.1.symm)]
  rfl
theorem any_set {α:Type} (f:α->Bool) (l:List α) (d:α) (n:Nat) (x:α) (hx:n<l.length->f x=f (l.getD n d)):(l.set n x).any f=l.any f:=by
 induction l generalizing n with
 |nil=>rfl
 |cons a r ih=>
  cases n with
  |zero=>
   have:=hx (by simp)
   simp at this
   simp[this]
  |succ n=>
   have:=ih n (fun h=>by simpa using hx (by simpa using h))
   simp[this]
theorem LkP.off {ps:List PayD} {ms:List MadeD} (h:LkP ps ks ms) (hn:n<ms.length):LkP (leftZ ps (n:Nat)) ks (offD ms n):=by
 refine⟨?_,fun i hi=>?_,fun b i=>?_⟩
 ·have e1:(leftZ ps (n:Nat)).map PayD.k=(ps.map PayD.k).filter fun t=>t.1 !=((n:Nat):Int):=by
   unfold leftZ
   rw[List.filter_map]
   rfl
  rw[e1,h.live,List.filter_map,List.filter_filter]
  congr 1
  rw[<-filter_off ms MadeD.num (n:Nat) 0 (fun i hi=>by rw[Nat.zero_add];exact h.num i hi) n hn (by rw[Nat.zero_add])]
  refine List.filter_congr (fun a _=>?_)
  show((a.num !=(n:Nat))&&a.lv)=_
  rw[Bool.and_comm]
 ·rw[offD_len] at hi
  rw[offD_get]
  split
  ·rename_i e
   obtain⟨rfl,_⟩:=e
   exact h.num _ hn
  ·exact h.num i hi
 ·rw[h.used]
  unfold usedR offD
  exact(any_set (fun a:MadeD=>a.cs.any fun x=>a.sg&&(x.br== b&&x.ix== i)) ms dM n (ms.getD n dM).off (fun _=>rfl)).symm
def liveB (ms:List MadeD) (k:Int):Bool:=decide (0<=k)&&(decide (k<(ms.length:Nat))&&(ms.getD k.toNat dM).lv)
theorem live_any (D:Nat) (ao:OAd) (n c:Nat) (ms:List MadeD) (k:Int) (w:World) (hp:w.cell? ⟨D,5,none⟩=some (.slice ao n c)) (hx:RecAt MadeD.v w ao ms) (hn:ms.length=n):
 Calls Tryz.prog 118 #[.pointer (some ⟨D,0,none⟩),.int .i64 k] w fun e w'=>e=.returned (.bool (liveB ms k))/\w=w':=by
 by_cases h0:0<=k
 ·have d0:decide (0<=k)=true:=decide_eq_true h0
  obtain⟨j,rfl⟩:∃ j:Nat,k=(j:Int):=⟨k.toNat,by omega⟩
  by_cases h1:j<n
  ·have HL:Hid (liveB ms (j:Int)=(ms.getD j dM).lv):=by
    show _=_
    unfold liveB
    rw[decide_eq_true h0,decide_eq_true (show(j:Int)<(ms.length:Nat) by omega)]
    rfl
   rcases hx with hnil|⟨g,off,rfl,hrow⟩
   ·rw[hnil] at hn;simp at hn;omega
   have hM:=madeCells hrow j (by rw[hn];exact h1)
   have c7:=hM.c7
   clear hM hrow hn
   generalize (ms.getD j dM).lv=b at *
   have d1:decide ((j:Int)<(n:Int))=true:=decide_eq_true (by omega)
   have e1:(j:Int)<(n:Int):=by omega
   go_enter Tryz.func118,Tryz.ntmps118
   go_wp2
   go_ret
   exact⟨ret_bool HL.out.symm,rfl⟩
  ·have HL:Hid (liveB ms (j:Int)=false):=by
    show _=_
    unfold liveB
    rw[decide_eq_false (show ¬(j:Int)<(ms.length:Nat) by omega)]
    simp
   have d1:decide ((j:Int)<(n:Int))=false:=decide_eq_false (by omega)
   clear hx
   go_enter Tryz.func118,Tryz.ntmps118
   go_wp2
   go_ret
   exact⟨ret_bool HL.out.symm,rfl⟩
 ·have HL:Hid (liveB ms k=false):=by
   show _=_
   unfold liveB
   rw[decide_eq_false h0]
   rfl
  have d0:decide (0<=k)=false:=decide_eq_false h0
  clear hx
  go_enter Tryz.func118,Tryz.ntmps118
  go_wp2
  go_ret
  exact⟨ret_bool HL.out.symm,rfl⟩
theorem liveB_true {ms:List MadeD} {k:Int} (h:liveB ms k=true):∃ n:Nat,k=(n:Int)/\n<ms.length/\(ms.getD n dM).lv=true:=by
 unfold liveB at h
 rw[Bool.and_eq_true,Bool.and_eq_true,decide_eq_true_iff,decide_eq_true_iff] at h
 obtain⟨h1,h2,h3⟩:=h
 exact⟨k.toNat,by omega,by omega,h3⟩
theorem liveB_iff (ms:List MadeD) (k:Int):liveB ms k=true↔∃ n:Nat,k=(n:Int)/\n<ms.length/\(ms.getD n dM).lv=true:=by
 refine⟨liveB_true,?_⟩
 rintro⟨n,rfl,h1,h2⟩
 unfold liveB
 rw[decide_eq_true (show(0:Int)<=(n:Int) by omega),decide_eq_true (show(n:Int)<(ms.length:Nat) by omega)]
 exact h2
def DAbOk (Nd:NPr) (D base:Nat) (vm:Value) (nx:Int) (ms:List MadeD) (k:Int) (er:Int) (w w':World):Prop:=
 (liveB ms k=false/\er=11/\w=w')\/(∃ n:Nat,k=(n:Int)/\n<ms.length/\(ms.getD n dM).lv=true/\er=0/\DPy Nd w' D base vm nx (offD ms n)/\Fr (fun q=>vm.ownBlock=some q) w w')
theorem DPy.put {ms:List MadeD} (hd:DPy Nd w D base (.slice (some ⟨g,0,none⟩) ms.length c) nx ms) (n i:Nat) (hn:n<ms.length) (hi:i<9) (u:Value) (y:MadeD) (hy:(MadeD.v ms[n]).set i u=y.v) (hok:MadeOk Nd w y):DPy Nd (w.setCell ⟨g,n*9+i,none⟩ u) D base (.slice (some ⟨g,0,none⟩) ms.length c) nx (ms.set n y):=by
 have hf:Fr (fun k=>k=g) w (w.setCell ⟨g,n*9+i,none⟩ u):=(Fr.refl _ w).set g _ _ (fun _=>rfl)
 have hgD:D≠g:=fun e=>by have:=(hd.ow.blk g rfl).1;have:=hd.nb;omega
 have ho:=OwnRec.put made9 hd.ow n i hn hi u y hy
 refine⟨hf.cell hd.c5 hgD,hf.cell hd.c6 hgD,by rw[World.frozen?_setCell];exact hd.f5,by rw[World.frozen?_setCell];exact hd.f6,ho,fun a ha=>?_,hd.nb,fun k hk=>⟨by simpa using (hd.nN k hk).1,(hd.nN k hk).2⟩⟩
 have hNg:∀ k,Nd k->¬k=g:=fun k hk e=>(hd.nN k hk).2.2 (by rw[e];rfl)
 rcases List.mem_or_eq_of_mem_set ha with ha|ha
 ·exact(hd.ok a ha).fr hf hNg
 ·rw[ha];exact hok.fr hf hNg
theorem dAbandon_any (Nd:NPr) (D base:Nat) (vm:Value) (nx:Int) (ms:List MadeD) (k:Int) (w:World) (hd:DPy Nd w D base vm nx ms) (hml:ms.length<=100000000):
 Calls Tryz.prog 69 #[.pointer (some ⟨D,0,none⟩),.int .i64 k] w fun e w'=>∃ er,e=.returned (.int .i64 er)/\DAbOk Nd D base vm nx ms k er w w':=by
 obtain⟨am,cm,em,hat⟩:=OwnRec.at made9 hd.ow
 subst em
 have HD:=hiD hd
 have HAT:=hiD hat
 have d5:=hd.c5
 clear hd hat
 cases hl:liveB ms k
 ·generalize hn:ms.length=n at *
  have HN:=hiD hn
  have HL:=hiD hl
  clear hn
  go_enter Tryz.func69,Tryz.ntmps69
  go_wp2_with (go_at_call 118;refine(live_any D am n cm ms k _ d5 HAT HN).mono ?_;rintro e w' ⟨rfl,rfl⟩;rw[hl])
  go_ret
  exact⟨11,rfl,Or.inl ⟨HL,rfl,rfl⟩⟩
 ·obtain⟨j,rfl,hj,hlv⟩:=liveB_true hl
  obtain⟨g,eg,_,hgl,_,hgf⟩:=own_some made9 HD.out.ow rfl (by omega)
  subst eg
  have hf7:=hgf (j*9+7)
  rcases HAT.out with hnil|⟨b,off,eb,hrow⟩
  ·rw[hnil] at hj;simp at hj
  injection eb with eb
  injection eb with eb1 eb2 _
  subst eb1
  subst eb2
  have c7:=(madeCells hrow j hj).c7
  rw[Nat.zero_add] at c7
  clear hrow
  have HP:Hid (DPy Nd (w.setCell ⟨g,j*9+7,none⟩ (.bool false)) D base (.slice (some ⟨g,0,none⟩) ms.length cm) nx (offD ms j)):=by
   have hok:=HD.out.ok (ms.getD j dM) (getD_mem ms dM j hj)
   exact HD.out.put j 7 hj (by omega) (.bool false) (ms.getD j dM).off (by simp[MadeD.v,MadeD.off,List.getD,hj]) ⟨hok.ins,hok.outs,hok.keys,hok.coins,hok.ln,hok.lm,hok.lq,hok.lx,hok.b1,hok.b2,hok.ni,hok.no⟩
  have HF:Hid (Fr (fun q=>(Value.slice (some ⟨g,0,none⟩) ms.length cm).ownBlock=some q) w (w.setCell ⟨g,j*9+7,none⟩ (.bool false))):=(Fr.refl _ w).set g _ _ (fun _=>rfl)
  have HLV:=hiD hlv
  have HJ:=hiD hj
  have hjI:(j:Int)<((ms.length:Nat):Int):=by omega
  have hj0:(0:Int)<=(j:Int):=by omega
  have HAK:Hid (∀ er w',DAbOk Nd D base (.slice (some ⟨g,0,none⟩) ms.length cm) nx ms (j:Int) er w w'↔((liveB ms (j:Int)=false/\er=11/\w=w')\/(∃ n:Nat,(j:Int)=(n:Int)/\n<ms.length/\(ms.getD n dM).lv=true/\er=0/\DPy Nd w' D base (.slice (some ⟨g,0,none⟩) ms.length cm) nx (offD ms n)/\Fr (fun q=>(Value.slice (some ⟨g,0,none⟩) ms.length cm).ownBlock=some q) w w'))):=fun _ _=>Iff.rfl
  generalize hn:ms.length=n at *
  have HN:=hiD hn
  clear hn hlv hj hgf
  go_enter Tryz.func69,Tryz.ntmps69
  go_wp2_with (go_at_call 118;refine(live_any D _ n cm ms (j:Int) _ d5 HAT HN).mono ?_;rintro e w' ⟨rfl,rfl⟩;rw[hl])
  go_ret
  exact⟨0,rfl,(HAK _ _).2 (Or.inr ⟨j,rfl,HJ,HLV,rfl,HP,HF⟩)⟩
def freeD (ms:List MadeD) (x:CoinD):Bool:=!takenB ms x.id x.pos&&!usedR ms x.br x.ix
theorem sumF_snoc (p:CoinD->Bool) (cs:List CoinD) (k:Nat) (h:k<cs.length):sumC ((cs.take (k+1)).filter p)=sumC ((cs.take k).filter p)+if p (cs.getD k dN)=true then(cs.getD k dN).val else 0:=by
 rw[filter_snoc p cs dN k h]
 unfold sumC
 rw[List.map_append,List.sum_append]
 split<;>simp
theorem dBalance_any (N Nd:NPr) (D base:Nat) (ao:OAd) (c:Nat) (bls:List (List TxD)) (s:Int) (g:Nat) (ar:OAd) (cr:Nat) (ac:OAd) (cc:Nat) (vm:Value) (nx:Int) (ms:List MadeD) (w:World) (hx:DCh N w D ao c bls) (hg:Good bls) (hm:bls.length<=40) (ha:DAd w D s g ar cr ac cc) (g1:g<=20) (hd:DPy Nd w D base vm nx ms) (hml:ms.length<=100000000) (cs:List CoinD) (hcs:ownR (cellsR bls) (adrs s 0 100) (adrs s 1 100) (winR (cellsR bls) s g 0) (winR (cellsR bls) s g 1)=cs) (hl:cs.length<=100000) (hv:∀ x∈cs,0<=x.val/\x.val<=1099511627776):
 Calls Tryz.prog 125 #[.pointer (some ⟨D,0,none⟩)] w fun e w'=>e=.returned (.tuple #[.int .i64 (sumC cs),.int .i64 (sumC (cs.filter (freeD ms)))])/\Below w.heap.size w w':=by
 have HX:=hiD hx
 have HG:=hiD hg
 have HA:=hiD ha
 have HV:=hiD hv
 have HCS:=hiD hcs
 have HD:=hiD hd
 clear hx hg ha hv hcs hd
 go_enter Tryz.func125,Tryz.ntmps125
 go_wp2_with fail
 refine(rCoins_any N D ao c bls s g ar cr ac cc _ HX HG hm HA g1).mono ?_
 rw[HCS.out]
 rintro e w1 ⟨v,rfl,hown,hb1⟩
 obtain⟨al,cl,rfl,hat⟩:=OwnRec.at coin6 hown
 have HAT:=hiD hat
 have HD1:=hiD (HD.out.grown hb1)
 clear hown hat HX HG HA HCS HD
 generalize hnl:cs.length=n at *
 have HN:=hiD hnl
 clear hnl
 go_wp2
 go_loopw [5,6,7] (fun u v i wr=>∃ (k:Nat) (S T:Int),k<=n/\u=.int .i64 S/\v=.int .i64 T/\i=.int .i64 k/\Hid (((cs.take k).map CoinD.val).sum=S)/\Hid (sumC ((cs.take k).filter (freeD ms))=T)/\Below w1.heap.size w1 wr) (fun _ _ i _=>n-(intOf i).toNat)
 case atStart=>exact⟨0,0,0,Nat.zero_le _,rfl,rfl,rfl,rfl,rfl,Below.refl _ _⟩
 case round=>
  obtain⟨k,S,T,hk,rfl,rfl,rfl,hS,hT,hbl⟩:=hrel
  by_cases hlt:k<n
  ·rcases HAT.out with hnil|⟨gg,off,rfl,hrow⟩
   ·have:=HN.out;rw[hnil] at this;simp at this;omega
   obtain⟨c0,c1,c2,c3,c4,c5⟩:=coinCells (hrow.grown hbl) k (by rw[HN.out];exact hlt)
   have HS:Hid _:=sum_snoc CoinD.val cs dN k (by rw[HN.out];exact hlt)
   have HT:Hid _:=sumF_snoc (freeD ms) cs k (by rw[HN.out];exact hlt)
   have hSb:=sum_bd CoinD.val 1099511627776 (cs.take k) (fun x hx=>HV.out x (List.mem_of_mem_take hx))
   have hTb:=sum_bd CoinD.val 1099511627776 ((cs.take k).filter (freeD ms)) (fun x hx=>HV.out x (List.mem_of_mem_take (List.mem_filter.1 hx).1))
   have hyb:=HV.out (cs.getD k dN) (getD_mem cs dN k (by rw[HN.out];exact hlt))
   have hT1:(((cs.take k).filter (freeD ms)).map CoinD.val).sum=T:=hT.out
   rw[hS.out] at hSb
   rw[hT1] at hTb
   have hl2:(cs.take k).length<=100000:=by rw[List.length_take];omega
   have hl3:((cs.take k).filter (freeD ms)).length<=100000:=leT (List.length_filter_le _ _) hl2
   have hS2:0<=S/\S<=110000000000000000:=⟨hSb.1,by omega⟩
   have hT2:0<=T/\T<=110000000000000000:=⟨hTb.1,by omega⟩
   have HD2:=hiD (HD1.out.grown hbl)
   obtain⟨am,cm,em,hmat⟩:=OwnRec.at made9 HD2.out.ow
   have HP2:Hid (wr.cell? ⟨D,5,none⟩=some (.slice am ms.length cm)):=by rw[<-em];exact HD2.out.c5
   have HMA:=hiD hmat
   clear hrow hSb hTb hl2 hl3 hT1 em hmat
   generalize cs.getD k dN=y at c0 c1 c2 c3 c4 c5 HS HT hyb
   have HF:Hid (freeD ms y=(!takenB ms y.id y.pos&&!usedR ms y.br y.ix)):=rfl
   obtain⟨y0,y1,y2,yval,y4,y5⟩:=y
   simp only at c0 c1 c2 c3 c4 c5 hyb HF
   have e1:(0:Int)<=(k:Int):=by omega
   have e2:(k:Int)<(n:Int):=by omega
   have hw1:IntKind.i64.wrap (S+yval)=S+yval:=IntWalk.i64_in _ ⟨by omega,by omega⟩
   have hw2:IntKind.i64.wrap (T+yval)=T+yval:=IntWalk.i64_in _ ⟨by omega,by omega⟩
   go_wp2_with fail
   refine(dFree_any Nd D am ms.length cm ms ⟨y0,y1,y2,yval,y4,y5⟩ _ HP2 HMA rfl (by omega) HD2.out.ok).mono ?_
   simp only
   rw[<-HF.out]
   rintro e w3 ⟨rfl,hb3⟩
   have d3:=(hb3.cell (p:=⟨gg,off+k*6+3,none⟩) (cell_lt c3)).trans c3
   have hbl3:=below_blk hbl hb3
   clear c0 c1 c2 c3 c4 c5 HF
   cases hfr:freeD ms ⟨y0,y1,y2,yval,y4,y5⟩
   ·have HT3:Hid (sumC ((cs.take (k+1)).filter (freeD ms))=T):=by show _=_;rw[HT.out,hfr,if_neg (by simp),hT.out,Int.add_zero]
    go_wp2
    go_roundw
    case rel=>exact⟨k+1,S+yval,T,by omega,rfl,rfl,by go_num,by show _=_;rw[HS.out,hS.out],HT3,hbl3⟩
    case measure=>simp[intOf];omega
   ·have HT3:Hid (sumC ((cs.take (k+1)).filter (freeD ms))=T+yval):=by show _=_;rw[HT.out,hfr,if_pos rfl,hT.out]
    go_wp2
    go_roundw
    case rel=>exact⟨k+1,S+yval,T+yval,by omega,rfl,rfl,by go_num,by show _=_;rw[HS.out,hS.out],HT3,hbl3⟩
    case measure=>simp[intOf];omega
  ·have hfl:cs.take k=cs:=List.take_of_length_le (by rw[HN.out];omega)
   have HSe:Hid (sumC cs=S):=by show _=_;rw[<-hS.out,hfl];rfl
   have HTe:Hid (sumC (cs.filter (freeD ms))=T):=by show _=_;rw[<-hT.out,hfl]
   clear hfl
   go_wp2
   go_ret2
   rw[HSe.out,HTe.out]
   exact⟨rfl,below_blk hb1 hbl⟩
theorem used_addKey (ks:LII) (x:CoinD) (b i:Int):usedB (addKey ks x) (b,i)=(usedB ks (b,i) || (x.br== b&&x.ix== i)):=by
 unfold addKey
 split
 ·rename_i h
  cases hx:(x.br== b&&x.ix== i)
  ·simp
  ·rw[Bool.and_eq_true,beq_iff_eq,beq_iff_eq] at hx
   obtain⟨rfl,rfl⟩:=hx
   rw[h];rfl
 ·unfold usedB;rw[List.any_append];simp
theorem used_addKeys:∀ (cs:List CoinD) (ks:LII) (b i:Int),usedB (addKeysZ ks cs) (b,i)=(usedB ks (b,i) || cs.any fun x=>x.br== b&&x.ix== i)
 |[],ks,b,i=>by simp[addKeysZ]
 |x::r,ks,b,i=>by
  have e:addKeysZ ks (x::r)=addKeysZ (addKey ks x) r:=rfl
  rw[e,used_addKeys r,used_addKey,List.any_cons,Bool.or_assoc]
def MadeD.on (a:MadeD):MadeD:={ a with sg:=true }
def onD (ms:List MadeD) (n:Nat):List MadeD:=ms.set n (ms.getD n dM).on
def onK (n:Int) (t:PK):PK:=if t.1=n then(t.1,t.2.1,t.2.2.1,t.2.2.2.1,true) else t
theorem onD_len (ms:List MadeD) (n:Nat):(onD ms n).length=ms.length:=by simp[onD]
theorem onD_map (ms:List MadeD) (n:Nat) (hnum:∀ i,i<ms.length->(ms.getD i dM).num=(i:Nat)):onD ms n=ms.map fun a:MadeD=>if a.num=((n:Nat):Int) then a.on else a:=by
 apply List.ext_getElem
 ·simp[onD]
 ·intro i h1 h2
  have hi:i<ms.length:=by simpa [onD] using h1
  have e:ms.getD i dM=ms[i]:=by simp[List.getD,hi]
  have hnn:=hnum i hi
  rw[e] at hnn
  simp only[onD,List.getElem_set,List.getElem_map]
  by_cases h:n=i
  ·subst h
   rw[if_pos rfl,if_pos hnn,e]
  ·rw[if_neg h,if_neg (by rw[hnn];omega)]
theorem onD_live (ms:List MadeD) (n:Int):((ms.map fun a=>if a.num=n then a.on else a).filter MadeD.lv).map MadeD.k=((ms.filter MadeD.lv).map MadeD.k).map (onK n):=by
 induction ms with
 |nil=>rfl
 |cons a r ih=>
  have hl:(if a.num=n then a.on else a).lv=a.lv:=by split<;>rfl
  have hk:(if a.num=n then a.on else a).k=onK n a.k:=by
   unfold onK
   by_cases h:a.num=n
   ·rw[if_pos h,if_pos (show a.k.1=n from h)];rfl
   ·rw[if_neg h,if_neg (show ¬a.k.1=n from h)]
  simp only[List.map_cons,List.filter_cons,hl]
  split
  ·simp only[List.map_cons,ih,hk]
  ·exact ih
theorem onP_live (ps:List PayD) (n:Int):(ps.map fun p=>if p.num=n then p.on else p).map PayD.k=(ps.map PayD.k).map (onK n):=by
 rw[List.map_map,List.map_map]
 refine List.map_congr_left (fun p _=>?_)
 show(if p.num=n then p.on else p).k=onK n p.k
 unfold onK
 by_cases h:p.num=n
 ·rw[if_pos h,if_pos (show p.k.1=n from h)];rfl
 ·rw[if_neg h,if_neg (show ¬p.k.1=n from h)]
theorem any_set_or {α:Type} (p:α->Bool) (d x:α):∀ (l:List α) (n:Nat),n<l.length->(p (l.getD n d)=true->p x=true)->(l.set n x).any p=(l.any p || p x)
 |[],n,hn,_=>absurd hn (Nat.not_lt_zero _)
 |y::r,0,_,h=>by
  have h':p y=true->p x=true:=h
  simp only[List.set_cons_zero,List.any_cons]
  cases hy:p y<;>cases hx:p x<;>simp_all
 |y::r,n+1,hn,h=>by
  have:=any_set_or p d x r n (by simpa using hn) (by simpa using h)
  simp only[List.set_cons_succ,List.any_cons,this,Bool.or_assoc]
theorem LkP.at {ps:List PayD} {ms:List MadeD} (h:LkP ps ks ms) {p:PayD} (hp:p∈ps) (hn:p.num=(n:Nat)):n<ms.length/\(ms.getD n dM).lv=true/\p.k=(ms.getD n dM).k:=by
 have h1:p.k∈(ms.filter MadeD.lv).map MadeD.k:=by rw[<-h.live];exact List.mem_map.2 ⟨p,hp,rfl⟩
 obtain⟨a,ha,hk⟩:=List.mem_map.1 h1
 obtain⟨ha1,ha2⟩:=List.mem_filter.1 ha
 obtain⟨i,hi,e⟩:=List.getElem_of_mem ha1
 have e2:ms.getD i dM=a:=by simp[List.getD,hi,e]
 have e3:=h.num i hi
 rw[e2] at e3
 have e4:a.num=p.num:=congrArg (fun t:PK=>t.1) hk
 have e5:i=n:=by omega
 subst e5
 rw[e2]
 exact⟨hi,ha2,hk.symm⟩
theorem LkP.sign {ps:List PayD} {ms:List MadeD} (h:LkP ps ks ms) (hn:n<ms.length):LkP (ps.map fun p:PayD=>if p.num=((n:Nat):Int) then p.on else p) (addKeysZ ks (ms.getD n dM).cs) (onD ms n):=by
 refine⟨?_,fun i hi=>?_,fun b i=>?_⟩
 ·rw[onP_live,h.live,onD_map ms n h.num,onD_live]
 ·rw[onD_len] at hi
  rw[onD_map ms n h.num]
  have e:ms.getD i dM=ms[i]:=by simp[List.getD,hi]
  have hnn:=h.num i hi
  rw[e] at hnn
  simp only[List.getD,List.getElem?_map,List.getElem?_eq_getElem hi,Option.map_some,Option.getD_some]
  split
  ·exact hnn
  ·exact hnn
 ·rw[used_addKeys,h.used]
  unfold usedR onD
  rw[any_set_or (fun a:MadeD=>a.cs.any fun x=>a.sg&&(x.br== b&&x.ix== i)) dM _ ms n hn (fun h9=>?_)]
  ·congr 1
  ·show((ms.getD n dM).cs.any fun x=>true&&(x.br== b&&x.ix== i))=true
   rw[List.any_eq_true] at h9 ⊢
   obtain⟨x,hx,hy⟩:=h9
   refine⟨x,hx,?_⟩
   rw[Bool.and_eq_true] at hy
   rw[hy.2]
   rfl
theorem LkP.nums {ps:List PayD} {ms:List MadeD} (h:LkP ps ks ms):(ps.map PayD.num).Pairwise (· < ·):=by
 have e:ps.map PayD.num=(ms.filter MadeD.lv).map MadeD.num:=by
  have h1:=congrArg (List.map (fun t:PK=>t.1)) h.live
  rw[List.map_map,List.map_map] at h1
  exact h1
 rw[e,List.pairwise_map]
 refine List.Pairwise.sublist List.filter_sublist ?_
 rw[List.pairwise_iff_getElem]
 intro i j hi hj hij
 have h1:=h.num i hi
 have h2:=h.num j hj
 have e1:ms.getD i dM=ms[i]:=by simp[List.getD,hi]
 have e2:ms.getD j dM=ms[j]:=by simp[List.getD,hj]
 rw[e1] at h1
 rw[e2] at h2
 omega
theorem LkP.set {ps:List PayD} {ms:List MadeD} (h:LkP ps ks ms) {n:Int} (hj:j<ps.length) (hn:(ps.getD j dP).num=n):ps.set j (ps.getD j dP).on=ps.map fun p:PayD=>if p.num=n then p.on else p:=by
 have hp:=h.nums
 rw[List.pairwise_map,List.pairwise_iff_getElem] at hp
 have ej:ps.getD j dP=ps[j]:=by simp[List.getD,hj]
 rw[ej] at hn ⊢
 apply List.ext_getElem
 ·simp
 ·intro i h1 h2
  have hi:i<ps.length:=by simpa using h1
  simp only[List.getElem_set,List.getElem_map]
  by_cases e:j=i
  ·subst e
   rw[if_pos rfl,if_pos hn]
  ·rw[if_neg e,if_neg (fun e2=>?_)]
   rcases Nat.lt_or_gt_of_ne e with e3|e3
   ·have:=hp j i hj hi e3;omega
   ·have:=hp i j hi hj e3;omega
end
end Go.Proofs.YtffgpepngcnjeabGreat
