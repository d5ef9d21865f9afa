import Derived.Test.YtffgpepngcnjeabGreatSbj
import Derived.Test.YtffgpepngcnjeabGreatSbn
namespace Go.Proofs.YtffgpepngcnjeabGreat
section
open Go.RowKit
variable {base ni ci np cp k b0 b1 z g q G P D Dr nx K K2:Nat} {s n er md1 nx1 er2:Int} {p:PayD} {ai ap:OAd} {L:List (CoinD×Nat)} {w w' w1 w3 wx wy:World} {v1 v2 vo vi v0 u0 u1 u2:Value} {E C C' N:NPr} {col:NtN} {bls:List (List TxD)} {xs:List Cel} {ps:List PayD} {ks:LII} {ms:List MadeD} {a a1:PgP} {b:DgP}
def sgIn (s id:Int) (q:CoinD×Nat):InD:=⟨q.1.id,q.1.pos,some ⟨q.2,0,none⟩,5,5,Mk.sealL s q.1.br q.1.ix id⟩
def dQ:CoinD×Nat:=(dN,0)
theorem sgIn_st (s id:Int) (L:List (CoinD×Nat)):(L.map (sgIn s id)).map InD.st=(L.map Prod.fst).map (sgI0 s id):=by
 rw[List.map_map,List.map_map]
 rfl
theorem SgTx.lens (h:SgTx base s p (.slice ai ni ci) (.slice ap np cp) L w):L.length=ni/\p.cs.length=ni/\p.ys.length=np:=by
 obtain⟨a1,c1,e1,_⟩:=OwnRec.at sn3 h.own
 obtain⟨a2,c2,e2,_⟩:=OwnRec.at kv2 h.oo
 injection e1 with _ e1 _
 injection e2 with _ e2 _
 have:=congrArg List.length h.fst
 rw[List.length_map] at this
 exact⟨e1.symm,by omega,e2.symm⟩
theorem SgTx.shape (h:SgTx base s p v1 v2 L w):∃ ai ni ci ap np cp,v1=.slice ai ni ci/\v2=.slice ap np cp:=by
 obtain⟨a1,c1,e1,_⟩:=OwnRec.at sn3 h.own
 obtain⟨a2,c2,e2,_⟩:=OwnRec.at kv2 h.oo
 exact⟨a1,_,c1,a2,_,c2,e1,e2⟩
theorem SgTx.insAt (h:SgTx base s p (.slice ai ni ci) vo L w):InsAt w ai (L.map (sgIn s p.id)):=by
 obtain⟨a1,c1,e1,hr⟩:=OwnRec.at sn3 h.own
 injection e1 with e1 _ _
 subst e1
 rcases hr with h0|⟨b,off,e,hr⟩
 ·exact Or.inl (by rw[h0];rfl)
 ·refine Or.inr ⟨b,off,e,fun j hj=>?_⟩
  rw[List.length_map] at hj
  have eg:(L.map (sgIn s p.id)).getD j dIn=sgIn s p.id (L.getD j dQ):=by simp[List.getD,hj]
  rw[eg]
  exact⟨⟨rcell sn3 dQ hr j hj 0 (by omega),rcell sn3 dQ hr j hj 1 (by omega),rcell sn3 dQ hr j hj 2 (by omega)⟩,⟨Or.inr ⟨_,_,rfl,(h.row _ (getD_mem L dQ j hj)).1⟩,Mk.sealL_len _ _ _ _,by show(5:Nat)<=_;omega,fun e=>(by cases e)⟩⟩
theorem SgTx.outsAt (h:SgTx base s p vi (.slice ap np cp) L w):OutsAt w ap p.ys:=by
 obtain⟨a1,c1,e1,hr⟩:=OwnRec.at kv2 h.oo
 injection e1 with e1 _ _
 subst e1
 exact rec_outs hr
theorem SgTx.fr (h:SgTx base s p vi vo L w) (hf:Fr E w w') (hE:∀ k,base<=k->¬E k):SgTx base s p vi vo L w':=by
 refine⟨h.fst,hf.own h.own (fun k hk=>hE k (h.own.blk k hk).1),fun q hq=>?_,h.nv,h.nd,hf.own h.oo (fun k hk=>hE k (h.oo.blk k hk).1),h.ne⟩
 obtain⟨h1,h2,h3,h4⟩:=h.row q hq
 exact⟨fun j hj=>hf.cell (h1 j hj) (hE _ h3),fun j hj=>(hf.frozen h4 (hE _ h3)).trans (h2 j hj),h3,ltL h4 hf.size⟩
def sgB (v1 v2:Value) (L:List (CoinD×Nat)) (k:Nat):Prop:=v1.ownBlock=some k\/v2.ownBlock=some k\/∃ q∈L,q.2=k
theorem SgTx.frB (h:SgTx base s p vi vo L w) (hf:Fr E w w') (hE:∀ k,sgB vi vo L k->¬E k):SgTx base s p vi vo L w':=by
 refine⟨h.fst,hf.own h.own (fun k hk=>hE k (Or.inl hk)),fun q hq=>?_,h.nv,h.nd,hf.own h.oo (fun k hk=>hE k (Or.inr (Or.inl hk))),h.ne⟩
 obtain⟨h1,h2,h3,h4⟩:=h.row q hq
 have hn:=hE q.2 (Or.inr (Or.inr ⟨q,hq,rfl⟩))
 exact⟨fun j hj=>hf.cell (h1 j hj) hn,fun j hj=>(hf.frozen h4 hn).trans (h2 j hj),h3,ltL h4 hf.size⟩
theorem SgTx.blk (h:SgTx base s p vi vo L w) (hk:sgB vi vo L k):base<=k/\k<w.heap.size:=by
 rcases hk with hk|hk|⟨q,hq,rfl⟩
 ·exact h.own.blk k hk
 ·exact h.oo.blk k hk
 ·exact⟨(h.row q hq).2.2.1,(h.row q hq).2.2.2⟩
theorem sg_sv (s id:Int) (L:List (CoinD×Nat)) (j:Nat) (hj:j<L.length):((L.map (sgIn s id)).getD j dIn).sv=.slice (some ⟨(L.getD j dQ).2,0,none⟩) 5 5:=by
 have eg:(L.map (sgIn s id)).getD j dIn=sgIn s id (L.getD j dQ):=by simp[List.getD,hj]
 rw[eg]
 rfl
theorem SgTx.hand (h:SgTx base s p vi vo L w) (hc:∀ k,sgB vi vo L k->col k=0):HandedI col w vi (L.map (sgIn s p.id)):=by
 rcases h.own.slice sn3 with⟨e,e2⟩|⟨g,c,rfl,h1,h2,h3,h4⟩
 ·refine Or.inl ⟨e,?_⟩
  rw[e2]
  rfl
 ·have hat:RecAt snV w (some ⟨g,0,none⟩) L:=own_atS sn3 h.own
  refine Or.inr ⟨g,L.length,c,rfl,(own_room h.own).1,hc g (Or.inl rfl),(h.own.blk g rfl).2,(own_room h.own).2,own_cap h.own,⟨fun j hj=>?_,fun j hj=>?_,fun j hj=>?_,fun i j hij hj k hk=>?_⟩,by simp⟩
  ·rw[List.length_map] at hj
   rw[sg_sv s p.id L j hj]
   rcases hat with e|⟨b,off,e,hr⟩
   ·rw[e] at hj;simp at hj
   ·cases e
    have:=rcell sn3 dQ hr j hj 2 (by omega)
    rw[Nat.zero_add] at this
    exact this
  ·rw[List.length_map] at hj
   rw[sg_sv s p.id L j hj]
   have hr:=h.row _ (getD_mem L dQ j hj)
   refine Or.inr ⟨_,5,5,rfl,⟨fun i hi=>?_,fun i hi=>?_⟩,hc _ (Or.inr (Or.inr ⟨_,getD_mem L dQ j hj,rfl⟩)),hr.2.2.2,leR,by omega⟩
   ·have:=hr.1 i (by rw[Mk.sealL_len];omega)
    rw[Nat.zero_add] at this
    exact⟨_,this⟩
   ·have:=hr.2.1 i (by omega)
    rw[Nat.zero_add] at this
    exact this
  ·rw[List.length_map] at hj
   rw[sg_sv s p.id L j hj]
   intro e
   exact(h.nv _ (getD_mem L dQ j hj)).1 e.symm
  ·rw[List.length_map] at hj
   rw[sg_sv s p.id L i (by omega)] at hk
   rw[sg_sv s p.id L j hj]
   intro e
   have hp:=List.pairwise_iff_getElem.1 h.nd i j (by omega) hj hij
   have e1:L.getD i dQ=L[i]:=by simp[List.getD,show i<L.length by omega]
   have e2:L.getD j dQ=L[j]:=by simp[List.getD,hj]
   rw[e1] at hk
   rw[e2] at e
   simp[Value.ownBlock] at hk e
   omega
theorem SgTx.seals {id:Int} {n:Nat} (hn:n<=L.length) (h:sealsB (L.map (sgIn s id)) n k):∃ q∈L,q.2=k:=by
 obtain⟨i,hi,e⟩:=h
 rw[sg_sv s id L i (by omega)] at e
 simp[Value.ownBlock] at e
 exact⟨_,getD_mem L dQ i (by omega),e⟩
theorem sign_sync (hl:Lk bls xs) (hp:LkP ps ks ms) (n:Int):
 (∃ x,signZ xs ps ks n=.inl x/\dsignZ bls ms n=.inl x)\/(∃ j k:Nat,signZ xs ps ks n=.inr j/\dsignZ bls ms n=.inr k/\j<ps.length/\k<ms.length/\n=(k:Int)/\(ps.getD j dP).num=(k:Int)/\(ps.getD j dP).k=(ms.getD k dM).k):=by
 have hc:=hl.here.1
 have hid:∀ a,hasId xs a=standsZ bls a:=fun a=>by rw[<-anyId_toR,hc,anyId_cells hl.good]
 have hhc:∀ x,hasCoinZ xs x=hasR (cellsR bls) x:=fun x=>by
  unfold hasCoinZ hasR
  rw[<-hc,find_toR]
  rcases findZ_cases xs x.id x.pos with e|⟨j,hj,e,_⟩
  ·rw[e];rfl
  ·rw[e]
   rw[if_neg (by omega),if_neg (by omega),Int.toNat_natCast,toR_get xs j hj]
   rfl
 unfold signZ dsignZ
 rcases pfind_spec ps n with⟨e,hno⟩|⟨j,hj,e,hnum⟩
 ·have hlv:liveB ms n=false:=by
   cases h:liveB ms n
   ·rfl
   ·exact absurd ((live_num hp n).2 ((liveB_iff ms n).1 h)) hno
  left
  refine⟨11,?_,?_⟩
  ·rw[e,if_pos (by omega)]
  ·rw[if_pos hlv]
 ·have hmem:=getD_mem ps dP j hj
  have hlive:=(live_num hp n).1 ⟨_,hmem,hnum⟩
  have hlv:liveB ms n=true:=(liveB_iff ms n).2 hlive
  obtain⟨k,rfl,hk,_⟩:=hlive
  obtain⟨_,_,hkk⟩:=hp.at hmem hnum
  have e1:(ps.getD j dP).cs=(ms.getD k dM).cs:=congrArg (fun t:PK=>t.2.1) hkk
  have e2:(ps.getD j dP).ys=(ms.getD k dM).zs:=congrArg (fun t:PK=>t.2.2.1) hkk
  have e3:(ps.getD j dP).tag=(ms.getD k dM).tag:=congrArg (fun t:PK=>t.2.2.2.1) hkk
  have e4:(ps.getD j dP).sg=(ms.getD k dM).sg:=congrArg (fun t:PK=>t.2.2.2.2) hkk
  have g1:(hasId xs (ps.getD j dP).id=true\/hasAllZ xs (ps.getD j dP).cs=false)↔goneR bls (ms.getD k dM).tag (ms.getD k dM).cs (ms.getD k dM).zs=true:=by
   have ei:(ps.getD j dP).id=idZ (ms.getD k dM).tag ((ms.getD k dM).cs.map CoinD.inD) (ms.getD k dM).zs:=by
    unfold PayD.id
    rw[e1,e2,e3]
    rfl
   rw[ei,e1,hid]
   unfold goneR hasAllZ
   rw[Bool.or_eq_true,Bool.not_eq_false']
   have:((ms.getD k dM).cs.any fun x=>!hasCoinZ xs x)=((ms.getD k dM).cs.any fun x=>!hasR (cellsR bls) x):=by
    congr 1
    funext x
    rw[hhc]
   rw[this]
  have g2:anySealZ ks (ps.getD j dP).cs=((ms.getD k dM).cs.any fun x=>usedR ms x.br x.ix):=by
   unfold anySealZ
   rw[e1]
   congr 1
   funext x
   exact hp.used x.br x.ix
  rw[e,if_neg (show ¬((j:Nat):Int)<0 by omega),if_neg (show ¬liveB ms ((k:Nat):Int)=false by rw[hlv];simp)]
  simp only[Int.toNat_natCast]
  rw[e4,g2]
  by_cases c1:(ms.getD k dM).sg=false/\goneR bls (ms.getD k dM).tag (ms.getD k dM).cs (ms.getD k dM).zs=true
  ·left
   exact⟨12,by rw[if_pos ⟨c1.1,g1.2 c1.2⟩],by rw[if_pos c1]⟩
  ·rw[if_neg (fun h=>c1 ⟨h.1,g1.1 h.2⟩),if_neg c1]
   by_cases c2:(ms.getD k dM).sg=false/\((ms.getD k dM).cs.any fun x=>usedR ms x.br x.ix)=true
   ·left
    exact⟨13,by rw[if_pos c2],by rw[if_pos c2]⟩
   ·right
    exact⟨j,k,by rw[if_neg c2],by rw[if_neg c2],hj,hk,rfl,hnum,hkk⟩
def colS (col:NtN) (z:Nat) (vs:Value) (k:Nat):Nat:=if col k=0/\vs.ownBlock=some k then z+4 else col k
def SRes (b0:Nat) (s:Int) (r:Sum Int Nat) (ps:List PayD) (C:NPr) (v0 v1 v2:Value) (er:Int) (w:World):Prop:=
 (∃ x,r=.inl x/\er=x/\v0=.int .i64 0/\v1=.slice none 0 0/\v2=.slice none 0 0)\/
 (∃ j L B,r=.inr j/\j<ps.length/\er=0/\v0=.int .i64 (ps.getD j dP).tag/\b0<=B/\SgTx B s (ps.getD j dP) v1 v2 L w/\∀ k,sgB v1 v2 L k->C k)
theorem SRes.fr {r:Sum Int Nat} (h:SRes b0 s r ps C v0 v1 v2 er w) (hf:Fr E w w') (hE:∀ k,b0<=k->k<w.heap.size->C k->¬E k/\C' k) (hb:b1<=b0):SRes b1 s r ps C' v0 v1 v2 er w':=by
 rcases h with h|⟨j,L,B,h1,h2,h3,h4,h5,h6,h7⟩
 ·exact Or.inl h
 ·have h8:∀ k,sgB v1 v2 L k->¬E k/\C' k:=fun k hk=>hE k (leT h5 (h6.blk hk).1) (h6.blk hk).2 (h7 k hk)
  exact Or.inr ⟨j,L,B,h1,h2,h3,h4,leT hb h5,h6.frB hf (fun k hk=>(h8 k hk).1),fun k hk=>(h8 k hk).2⟩
def SRel (r:Sum Int Nat) (a a1:PgP):Prop:=
 (a1=a/\∀ j,r=.inr j->(a.ps.getD j dP).sg=true)\/
 (∃ j vs',r=.inr j/\j<a.ps.length/\(a.ps.getD j dP).sg=false/\a1={ a with vs:=vs',ps:=a.ps.set j (a.ps.getD j dP).on,ks:=addKeysZ a.ks (a.ps.getD j dP).cs })
abbrev SignAG (P:Nat) (s:Int) (a:PgP) (b:DgP) (nx:Nat) (n:Int) (v0 v1 v2:Value) (er:Int) (w w':World):Prop:=
 SignOk a.NP P 4 (P+1) a.vl a.vs (b.ms.length:Nat) (nx:Int) a.ps a.ks a.xs s n v0 v1 v2 er w w'
theorem AG.s1 (h:AG z s g N q col G P D Dr a b nx w):S1 z s g N (13*q) col G P D Dr a b nx (b.ms.length:Nat) (nx:Int) w:=⟨h.pg,h.dg,h.dr,h.gm,h.kg,h.nz,h.nn⟩
theorem AG.sgA (h:AG z s g N q col G P D Dr a b nx w) (hr:SignAG P s a b nx n v0 v1 v2 er w w'):
 ∃ col1 a1,Ext z 1 24 col col1 w'/\(∀ k,k<w.heap.size->col k=0->col1 k=0)/\Fr (fun k=>z<col k/\col k<=z+5) w w'/\S1 z s g N (13*q) col1 G P D Dr a1 b nx (b.ms.length:Nat) (nx:Int) w'/\SRes w.heap.size s (signZ a.xs a.ps a.ks n) a.ps (fun k=>col1 k=0) v0 v1 v2 er w'/\SRel (signZ a.xs a.ps a.ks n) a a1:=by
 rcases hr with⟨x,e1,e2,e3,e4,e5,hb⟩|⟨j,L,e1,e2,e3,e4,hsg,⟨hs,hb⟩|⟨hs,vs',h6⟩⟩
 ·exact⟨col,a,Ext.refl _ _ _ _ _,fun _ _ h=>h,Fr.of_below hb _,(h.grown hb).s1,Or.inl ⟨x,e1,e2,e3,e4,e5⟩,Or.inl ⟨rfl,fun j e=>by rw[e1] at e;cases e⟩⟩
 ·exact⟨col,a,Ext.refl _ _ _ _ _,fun _ _ h=>h,Fr.of_below hb _,(h.grown hb).s1,Or.inr ⟨j,L,_,e1,e2,e3,e4,leR,hsg,fun k hk=>h.nz k (hsg.blk hk).1⟩,Or.inl ⟨rfl,fun j' e=>by rw[e1] at e;injection e with e;subst e;exact hs⟩⟩
 ·have hpg:=h.pg
  have hls:=h6.ls
  have hf:=h6.fr
  have hE:∀ k,(k=P\/a.vl.ownBlock=some k\/a.vs.ownBlock=some k)->col k=z+1\/col k=z+3\/col k=z+4:=fun k e=>by
   rcases e with e|e|e
   ·subst e;exact Or.inl hpg.k1
   ·exact Or.inr (Or.inl (hpg.k3 k e))
   ·exact Or.inr (Or.inr (hpg.k4 k e))
  have hnE:∀ k,col k≠z+1->col k≠z+3->col k≠z+4->¬(k=P\/a.vl.ownBlock=some k\/a.vs.ownBlock=some k):=fun k h1 h2 h3 e=>by
   rcases hE k e with e|e|e<;>omega
  have hkeep:∀ k,col k≠0->colS col z vs' k=col k:=fun k hk=>by
   unfold colS
   rw[if_neg (fun e=>hk e.1)]
  have hv:∀ k,vs'.ownBlock=some k->col k=z+4\/(col k=0/\w.heap.size<=k):=fun k hk=>by
   rcases h6.nw k hk with e|⟨e,_⟩
   ·exact Or.inl (hpg.k4 k e)
   ·exact Or.inr ⟨h.nz k e,e⟩
  have hold:∀ k,k<w.heap.size->col k=0->colS col z vs' k=0:=fun k hk h0=>by
   unfold colS
   rw[if_neg (fun e=>by rcases hv k e.2 with e|e<;>omega)]
   exact h0
  have hpu:PAt [] w' P s g a.v (b.bls.length:Nat) a.xs:=by
   have hp:=hpg.pp.pu
   refine⟨h6.cl 2 _ (by omega) hp.c0,h6.cl 3 _ (by omega) hp.c1,hls.fz 2,hls.fz,hf.own hp.own (fun k hk=>hnE k (by rw[hpg.k2 k hk];omega) (by rw[hpg.k2 k hk];omega) (by rw[hpg.k2 k hk];omega)),fun q hq=>?_⟩
   have h9:=hp.ext q hq
   refine⟨h9.1,h9.2.1,h6.cl q.1 _ ?_ h9.2.2⟩
   simp only[List.mem_cons,List.not_mem_nil,or_false] at hq
   rcases hq with rfl|rfl<;>simp
  have hz:∀ k,w'.heap.size<=k->colS col z vs' k=0:=fun k hk=>by
   have h1:=h.nz k (leT hf.size hk)
   unfold colS
   rw[if_neg (fun e=>by have:=(hls.os.blk k e.2).2;omega)]
   exact h1
  have hn:∀ k,N k->colS col z vs' k=0:=fun k hk=>hold k (h.nn k hk).2 (h.nn k hk).1
  refine⟨colS col z vs',{ a with vs:=vs',ps:=a.ps.set j (a.ps.getD j dP).on,ks:=addKeysZ a.ks (a.ps.getD j dP).cs },fun k=>?_,hold,hf.weak (fun k _ e=>by rcases hE k e with e|e|e<;>omega),⟨⟨⟨hpu,hls,fun k hk=>⟨(hpg.pp.dj k hk).1,fun e=>?_,(hpg.pp.dj k hk).2.2⟩⟩,?_,fun k hk=>?_,fun k hk=>?_,fun k hk=>?_,fun k hk=>?_⟩,h.dg.mv hf (fun k e h9=>by rcases hE k e with e|e|e<;>omega) (fun k hk e=>by have:=(h.nn k hk).1;rcases hE k e with e|e|e<;>omega) hkeep,h.dr.mv hf (fun k e h9=>by rcases hE k e with e|e|e<;>omega) hkeep leR,hf.vrow h.gm (hnE G (by rw[h.kg];omega) (by rw[h.kg];omega) (by rw[h.kg];omega)),?_,hz,fun k hk=>⟨hn k hk,ltL (h.nn k hk).2 hf.size⟩⟩,Or.inr ⟨j,L,_,e1,e2,e3,e4,leR,hsg,fun k hk=>?_⟩,Or.inr ⟨j,vs',e1,e2,hs,rfl⟩⟩
  ·unfold colS
   split
   ·rename_i e
    exact Or.inr ⟨e.1,by omega,by omega,(hls.os.blk k e.2).2⟩
   ·exact Or.inl rfl
  ·have h1:=hpg.k2 k hk
   rcases hv k e with e|e<;>omega
  ·rw[hkeep P (by rw[hpg.k1];omega)];exact hpg.k1
  ·rw[hkeep k (by rw[hpg.k2 k hk];omega)];exact hpg.k2 k hk
  ·rw[hkeep k (by rw[hpg.k3 k hk];omega)];exact hpg.k3 k hk
  ·rcases hv k hk with e|e
   ·rw[hkeep k (by omega)];exact e
   ·unfold colS;rw[if_pos ⟨e.1,hk⟩]
  ·have h1:=hpg.k5 k hk
   rw[hkeep k (by omega)];exact h1
  ·rw[hkeep G (by rw[h.kg];omega)];exact h.kg
  ·have hkb:=hsg.blk hk
   show colS col z vs' k=0
   unfold colS
   rw[if_neg (fun e=>?_)]
   ·exact h.nz k hkb.1
   ·rcases h6.nw k e.2 with e9|⟨_,n1,n2,n3⟩
    ·have:=(h.pg.pp.ls.os.blk k e9).2;omega
    ·rcases hk with hk|hk|⟨q9,hq,hk⟩
     ·exact n1 hk
     ·exact n2 hk
     ·exact n3 q9 hq hk
structure TA (z:Nat) (s:Int) (g:Nat) (N:NPr) (q:Nat) (col:NtN) (G P D Dr:Nat) (a:PgP) (b:DgP) (nx:Nat) (n:Int) (w:World) (col1:NtN) (a1:PgP) (K:Nat) (v0 v1 v2:Value) (er:Int) (wx:World):Prop where
 s1:S1 z s g N (13*q) col1 G P D Dr a1 b nx (b.ms.length:Nat) (nx:Int) wx
 ext:Ext z 1 24 col col1 wx
 old:∀ k,k<w.heap.size->col k=0->col1 k=0
 fr:Fr (fun k=>z<col k/\col k<=z+24) w wx
 vb:V3 wx K v0 v1 v2
 kk:col1 K=0/\w.heap.size<=K
 res:SRes w.heap.size s (signZ a.xs a.ps a.ks n) a.ps (fun k=>col1 k=0/\k≠K) v0 v1 v2 er wx
 rel:SRel (signZ a.xs a.ps a.ks n) a a1
theorem AG.ta1 (h:AG z s g N q col G P D Dr a b nx w) (hb:Below w.heap.size w w1) (hr:SignAG P s a b nx n v0 v1 v2 er w1 w3):
 (∃ col1 a1,TA z s g N q col G P D Dr a b nx n w col1 a1 w3.heap.size v0 v1 v2 er (w3.alloc (.cells #[v0,v1,v2] 35)))/\
 (∀ K,w.heap.size<=K->K<w1.heap.size->(∃ a0 a1 a2,V3 w1 K a0 a1 a2)->∃ col1 a1,TA z s g N q col G P D Dr a b nx n w col1 a1 K v0 v1 v2 er (((w3.setCell ⟨K,0,none⟩ v0).setCell ⟨K,1,none⟩ v1).setCell ⟨K,2,none⟩ v2)):=by
 have h1:=h.grown hb
 obtain⟨col1,a1,e1,e2,e3,hS,e5,e7⟩:=h1.sgA hr
 have hsz:=hb.size
 have hz3:=hS.nz
 have hfr:Fr (fun k=>z<col k/\col k<=z+24) w w3:=(Fr.of_below hb _).trans (e3.weak (fun k _ e=>by omega))
 refine⟨⟨col1,a1,?_⟩,fun K hK1 hK2 ⟨b0,b1,b2,hvb⟩=>⟨col1,a1,?_⟩⟩
 ·have hb3:Below w3.heap.size w3 (w3.alloc (.cells #[v0,v1,v2] 35)):=(Below.refl _ _).alloc leR _
  exact⟨hS.grown hb3,e1.weak leR leR hb3.size,fun k hk h0=>e2 k (by omega) h0,hfr.trans (Fr.of_below hb3 _),V3.new _ _ _ _ _,⟨hz3 _ leR,leT hsz e3.size⟩,e5.fr (Fr.of_below hb3 (fun _=>False)) (fun k _ hk hc=>⟨fun h=>h,hc,by omega⟩) hsz,e7⟩
 ·have hcK:col K=0:=h.nz K hK1
  have hcK1:col1 K=0:=e2 K hK2 hcK
  have hf:Fr (fun k=>k=K) w3 (((w3.setCell ⟨K,0,none⟩ v0).setCell ⟨K,1,none⟩ v1).setCell ⟨K,2,none⟩ v2):=fr3K w3 K v0 v1 v2
  have hvb3:=hvb.fr e3 (fun e=>by omega)
  exact⟨hS.mv hf (fun k e=>by have e':k=K:=e;rw[e',hcK1];omega) (fun k hk e=>by have e':k=K:=e;subst e';have:=(h.nn k hk).2;omega) (fun _ _=>rfl) (fun k hk=>(hS.nn k hk).1) (fun k hk=>hz3 k (leT hf.size hk)),e1.weak leR leR hf.size,fun k hk h0=>e2 k (by omega) h0,Fr.trans_new2 hfr hf (fun k e=>by have e':k=K:=e;omega),((hvb3.s0 v0).s1 v1).s2 v2,⟨hcK1,hK1⟩,e5.fr hf (fun k hk _ hc=>⟨fun e=>by have e':k=K:=e;omega,hc,by omega⟩) hsz,e7⟩
def DRs (s:Int) (r:Sum Int Nat) (ms:List MadeD) (b0:Nat) (u0 u1 u2:Value) (er:Int) (w:World):Prop:=
 (∃ x,r=.inl x/\er=x/\u0=.int .i64 0/\u1=.slice none 0 0/\u2=.slice none 0 0)\/
 (∃ k,r=.inr k/\k<ms.length/\er=0/\u0=.int .i64 (ms.getD k dM).tag/\RdNew b0 s (ms.getD k dM) u1 u2 w)
theorem DRs.fr {r:Sum Int Nat} (h:DRs s r ms b0 u0 u1 u2 er w) (hf:Fr E w w') (hE:∀ k,b0<=k->¬E k):DRs s r ms b0 u0 u1 u2 er w':=
 h.imp id (fun⟨k,h1,h2,h3,h4,h5⟩=>⟨k,h1,h2,h3,h4,h5.fr hf hE⟩)
def DRl (r:Sum Int Nat) (b b1:DgP):Prop:=
 (b1=b/\∀ k,r=.inr k->(b.ms.getD k dM).sg=true)\/(∃ k,r=.inr k/\k<b.ms.length/\(b.ms.getD k dM).sg=false/\b1={ b with ms:=onD b.ms k })
theorem S1.sgB (h:S1 z s g N q col G P D Dr a b nx md1 nx1 w) (hr:DSgOk b.ND D (D+1) b.vm (nx:Int) b.ms b.bls s n u0 u1 u2 er w w'):
 ∃ b1,Fr (fun k=>col k=z+11) w w'/\S1 z s g N q col G P D Dr a b1 nx md1 nx1 w'/\DRs s (dsignZ b.bls b.ms n) b.ms w.heap.size u0 u1 u2 er w'/\DRl (dsignZ b.bls b.ms n) b b1:=by
 rcases hr.out with⟨x,e1,e2,e3,e4,e5,hb⟩|⟨k,ek,e1,e2,e3,e4,hrd,⟨hs,hb⟩|⟨hs,hd,hf⟩⟩
 ·exact⟨b,Fr.of_below hb _,h.grown hb,Or.inl ⟨x,e1,e2,e3,e4,e5⟩,Or.inl ⟨rfl,fun k e=>by rw[e1] at e;cases e⟩⟩
 ·exact⟨b,Fr.of_below hb _,h.grown hb,Or.inr ⟨k,e1,e2,e3,e4,hrd⟩,Or.inl ⟨rfl,fun k' e=>by rw[e1] at e;injection e with e;subst e;exact hs⟩⟩
 ·have hE:∀ k,b.vm.ownBlock=some k->col k=z+11:=h.dg.k11
  have hn:∀ k,col k≠z+11->¬b.vm.ownBlock=some k:=fun k hk e=>hk (hE k e)
  have hdg:=h.dg
  exact⟨{ b with ms:=onD b.ms k },hf.weak (fun k _ e=>hE k e),⟨h.pg.mv hf (fun k e h9=>by have:=hE k e;omega) (fun _ _=>rfl),⟨hdg.dc.fr hf (fun k hk=>hn k (by have:=(h.nn k hk).1;omega)) (fun x hx=>hn _ (by rw[hdg.k8 x hx];omega)) (hn D (by rw[hdg.k7];omega)),⟨hf.cell hdg.ad.c1 (hn D (by rw[hdg.k7];omega)),hf.cell hdg.ad.c2 (hn D (by rw[hdg.k7];omega)),hf.cell hdg.ad.c3 (hn D (by rw[hdg.k7];omega)),ints_fr hf hdg.ad.i0 (fun _ x hx=>hn _ (by rw[hdg.k9 x hx];omega)),ints_fr hf hdg.ad.i1 (fun _ x hx=>hn _ (by rw[hdg.k10 x hx];omega))⟩,hf.cell hdg.c0 (hn D (by rw[hdg.k7];omega)),hd,hdg.k7,hdg.k8,hdg.k9,hdg.k10,hdg.k11,hdg.k12⟩,h.dr.mv hf (fun k e h9=>by have:=hE k e;omega) (fun _ _=>rfl) leR,hf.vrow h.gm (hn G (by rw[h.kg];omega)),h.kg,fun k hk=>h.nz k (leT hf.size hk),fun k hk=>⟨(h.nn k hk).1,ltL (h.nn k hk).2 hf.size⟩⟩,Or.inr ⟨k,e1,e2,e3,e4,hrd⟩,Or.inr ⟨k,e1,e2,hs,rfl⟩⟩
structure TB (z:Nat) (s:Int) (g:Nat) (N:NPr) (q:Nat) (col:NtN) (G P D Dr:Nat) (a:PgP) (b:DgP) (nx:Nat) (n:Int) (w:World) (col1:NtN) (a1:PgP) (b1:DgP) (K:Nat) (v0 v1 v2:Value) (er:Int) (K2:Nat) (u0 u1 u2:Value) (er2:Int) (wx:World):Prop where
 s1:S1 z s g N (13*q) col1 G P D Dr a1 b1 nx (b.ms.length:Nat) (nx:Int) wx
 ext:Ext z 1 24 col col1 wx
 old:∀ k,k<w.heap.size->col k=0->col1 k=0
 fr:Fr (fun k=>z<col k/\col k<=z+24) w wx
 vb:V3 wx K v0 v1 v2
 vb2:V3 wx K2 u0 u1 u2
 kk:col1 K=0/\w.heap.size<=K
 res:SRes w.heap.size s (signZ a.xs a.ps a.ks n) a.ps (fun k=>col1 k=0/\k≠K) v0 v1 v2 er wx
 res2:∃ b0,DRs s (dsignZ b.bls b.ms n) b.ms b0 u0 u1 u2 er2 wx
 rel:SRel (signZ a.xs a.ps a.ks n) a a1
 rel2:DRl (dsignZ b.bls b.ms n) b b1
theorem TB.grown {col1:NtN} {b1:DgP} (h:TB z s g N q col G P D Dr a b nx n w col1 a1 b1 K v0 v1 v2 er K2 u0 u1 u2 er2 wx) (hb:Below wx.heap.size wx wy):TB z s g N q col G P D Dr a b nx n w col1 a1 b1 K v0 v1 v2 er K2 u0 u1 u2 er2 wy:=
 ⟨h.s1.grown hb,h.ext.weak leR leR hb.size,h.old,h.fr.trans (Fr.of_below hb _),h.vb.grown hb,h.vb2.grown hb,h.kk,h.res.fr (Fr.of_below hb (fun _=>False)) (fun _ _ _ h=>⟨fun h=>h,h⟩) leR,h.res2.elim fun b0 h=>⟨b0,h.fr (Fr.of_below hb (fun _=>False)) (fun _ _ h=>h)⟩,h.rel,h.rel2⟩
theorem TA.tb1 {col1:NtN} (h:TA z s g N q col G P D Dr a b nx n w col1 a1 K v0 v1 v2 er wx) (hb:Below wx.heap.size wx w1) (hr:DSgOk b.ND D (D+1) b.vm (nx:Int) b.ms b.bls s n u0 u1 u2 er2 w1 w3):
 (∃ b1,TB z s g N q col G P D Dr a b nx n w col1 a1 b1 K v0 v1 v2 er w3.heap.size u0 u1 u2 er2 (w3.alloc (.cells #[u0,u1,u2] 35)))/\
 (∀ K2,wx.heap.size<=K2->K2<w1.heap.size->(∃ a0 a1 a2,V3 w1 K2 a0 a1 a2)->∃ b1,TB z s g N q col G P D Dr a b nx n w col1 a1 b1 K v0 v1 v2 er K2 u0 u1 u2 er2 (((w3.setCell ⟨K2,0,none⟩ u0).setCell ⟨K2,1,none⟩ u1).setCell ⟨K2,2,none⟩ u2)):=by
 obtain⟨b1,hf,hS,hrs,hrl⟩:=(h.s1.grown hb).sgB hr
 have hsx:=h.fr.size
 have hsz:=hb.size
 have hK:K<wx.heap.size:=cell_lt h.vb.c0
 have hfr:Fr (fun k=>z<col k/\col k<=z+24) w w3:=by
  refine⟨hf.os.trans (hb.os.trans h.fr.os),hf.tape.trans (hb.tape.trans h.fr.tape),hf.output.trans (hb.output.trans h.fr.output),leT hsx (leT hsz hf.size),fun k hk hne=>?_⟩
  refine(hf.block k (by omega) (fun e=>?_)).trans ((hb.block k (by omega)).trans (h.fr.block k hk hne))
  rcases h.ext k with e2|e2
  ·exact hne (by omega)
  ·have:=h.old k hk e2.1
   omega
 have hvb:V3 w3 K v0 v1 v2:=(h.vb.grown hb).fr hf (by show ¬col1 K=z+11;rw[h.kk.1];omega)
 have hres:SRes w.heap.size s (signZ a.xs a.ps a.ks n) a.ps (fun k=>(col1 k=0/\k≠K)/\k<wx.heap.size) v0 v1 v2 er w3:=by
  have h1:=h.res.fr (C':=fun k=>(col1 k=0/\k≠K)/\k<wx.heap.size) (Fr.of_below hb (fun _=>False)) (fun k _ hk hc=>⟨fun h=>h,hc,hk⟩) leR
  exact h1.fr hf (fun k _ _ hc=>⟨by show ¬col1 k=z+11;rw[hc.1.1];omega,hc⟩) leR
 have hext:Ext z 1 24 col col1 w3:=h.ext.weak leR leR (leT hsz hf.size)
 refine⟨⟨b1,?_⟩,fun K2 hK1 hK2 ⟨c0,c1,c2,hv2⟩=>⟨b1,?_⟩⟩
 ·have hb3:Below w3.heap.size w3 (w3.alloc (.cells #[u0,u1,u2] 35)):=(Below.refl _ _).alloc leR _
  exact⟨hS.grown hb3,hext.weak leR leR hb3.size,h.old,hfr.trans (Fr.of_below hb3 _),hvb.grown hb3,V3.new _ _ _ _ _,h.kk,hres.fr (Fr.of_below hb3 (fun _=>False)) (fun k _ _ hc=>⟨fun h=>h,hc.1⟩) leR,⟨_,hrs.fr (Fr.of_below hb3 (fun _=>False)) (fun _ _ h=>h)⟩,h.rel,hrl⟩
 ·have hg:Fr (fun k=>k=K2) w3 (((w3.setCell ⟨K2,0,none⟩ u0).setCell ⟨K2,1,none⟩ u1).setCell ⟨K2,2,none⟩ u2):=fr3K w3 K2 u0 u1 u2
  have hc2:col1 K2=0:=h.s1.nz K2 hK1
  have hv3:=hv2.fr hf (by show ¬col1 K2=z+11;rw[hc2];omega)
  exact⟨hS.mv hg (fun k e=>by have e':k=K2:=e;rw[e',hc2];omega) (fun k hk e=>by have e':k=K2:=e;subst e';have:=(h.s1.nn k hk).2;omega) (fun _ _=>rfl) (fun k hk=>(hS.nn k hk).1) (fun k hk=>hS.nz k (leT hg.size hk)),hext.weak leR leR hg.size,h.old,Fr.trans_new2 hfr hg (fun k e=>by have e':k=K2:=e;omega),hvb.fr hg (by show ¬K=K2;omega),((hv3.s0 u0).s1 u1).s2 u2,h.kk,hres.fr hg (fun k _ _ hc=>⟨by show ¬k=K2;have:=hc.2;omega,hc.1⟩) leR,⟨_,hrs.fr hg (fun k hk=>by show ¬k=K2;omega)⟩,h.rel,hrl⟩
end
end Go.Proofs.YtffgpepngcnjeabGreat
