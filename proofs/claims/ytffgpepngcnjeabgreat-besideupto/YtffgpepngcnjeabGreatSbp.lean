import Derived.Test.YtffgpepngcnjeabGreatSbo
namespace Go.Proofs.YtffgpepngcnjeabGreat
set_option maxRecDepth 100000
set_option maxHeartbeats 1000000
section
open Go.RowKit
variable {M Nd N Lx:NPr} {b b1:DgP} {o base nx D z g q G P Dr K ni ci np cp K2 mi di mp dp m:Nat} {vl vs v0 v1 v2 vm v a0 a1 a2 u0 u1 u2:Value} {md s n er md1 nx1 k t t2 er2:Int} {ps:List PayD} {ks:LII} {xs:List Cel} {w w' w9 wx w0 w1 w1' w2:World} {ms:List MadeD} {bls:List (List TxD)} {col:NtN} {a:PgP} {ai ap bi bp:OAd}
theorem sign_shape {b:Nat} {nx:Int} (h:SignOk M b o base vl vs md nx ps ks xs s n v0 v1 v2 er w w'):∃ t ai ni ci ap np cp,v0=.int .i64 t/\v1=.slice ai ni ci/\v2=.slice ap np cp:=by
 rcases h with⟨x,e1,e2,e3,e4,e5,hb⟩|⟨j,L,e1,e2,e3,e4,hsg,_⟩
 ·exact⟨_,_,_,_,_,_,_,e3,e4,e5⟩
 ·obtain⟨ai,ni,ci,ap,np,cp,h1,h2⟩:=hsg.shape
  exact⟨_,_,_,_,_,_,_,e4,h1,h2⟩
theorem dsign_shape {nx:Int} (h:DSgOk Nd D base vm nx ms bls s n v0 v1 v2 er w w'):∃ t ai ni ci ap np cp,v0=.int .i64 t/\v1=.slice ai ni ci/\v2=.slice ap np cp:=by
 rcases h.out with⟨x,e1,e2,e3,e4,e5,hb⟩|⟨k,ek,e1,e2,e3,e4,⟨bi,bn,bc,bp,bm,bd,is,h1,h2,_⟩,_⟩
 ·exact⟨_,_,_,_,_,_,_,e3,e4,e5⟩
 ·exact⟨_,_,_,_,_,_,_,e4,h1,h2⟩
theorem AG.live (h:AG z s g N q col G P D Dr a b nx w):∀ k:Nat,k<b.ms.length->(b.ms.getD k dM).lv=true->(∀ x∈(b.ms.getD k dM).cs,Mk.isK s x.br x.ix=true)/\(b.ms.getD k dM).zs≠[]:=fun k hk hl=>by
 obtain⟨p,hp,hn⟩:=(live_num h.lp (k:Int)).2 ⟨k,rfl,hk,hl⟩
 obtain⟨_,_,hkk⟩:=h.lp.at hp hn
 have e1:p.cs=(b.ms.getD k dM).cs:=congrArg (fun t:PK=>t.2.1) hkk
 have e2:p.ys=(b.ms.getD k dM).zs:=congrArg (fun t:PK=>t.2.2.1) hkk
 have h1:=h.ky p hp
 rw[e1,e2] at h1
 exact⟨h1.1,h1.2.2⟩
theorem signS_any (n:Int) (w:World) (h:AG z s g N q col G P D Dr a b nx w) (hq:q<=1048576):
 Calls Tryz.prog 13 #[.pointer (some ⟨P,0,none⟩),.int .i64 n] w fun e w'=>∃ t ai ni ci ap np cp er,e=.returned (.tuple #[.agg #[.int .i64 t,.slice ai ni ci,.slice ap np cp],.int .i64 er])/\SignAG P s a b nx n (.int .i64 t) (.slice ai ni ci) (.slice ap np cp) er w w':=by
 have hpl:=h.lp.len
 have hml:=h.ml
 have hkl:=h.kl
 have hlk:=h.lk.here
 have h40:=h.lk.len
 obtain⟨av,cv,hv,hat⟩:=h.pg.pp.pu.at
 have hc2:=h.pg.pp.pu.c0
 rw[hv] at hc2
 refine(pSign_any a.NP P a.vl a.vs (b.ms.length:Nat) (nx:Int) a.ps a.ks av a.xs.length cv a.xs s n w h.pg.pp.ls (by omega) (by omega) (pat_c0 h.pg.pp.pu) hc2 hat rfl (by omega) (fun p hp=>?_) (fun p hp=>(h.ky p hp).1)).mono ?_
 ·have h1:=(h.pg.pp.ls.ok p hp).ol
  have h2:=List.length_pos_iff.2 (h.ky p hp).2.2
  omega
 ·rintro e w' ⟨v0,v1,v2,er,rfl,hr⟩
  obtain⟨t,ai,ni,ci,ap,np,cp,rfl,rfl,rfl⟩:=sign_shape hr
  exact⟨t,ai,ni,ci,ap,np,cp,er,rfl,hr⟩
theorem dSignS_any (n:Int) (w:World) (h:S1 z s g N q col G P D Dr a b nx md1 nx1 w) (hgd:Good b.bls) (h40:b.bls.length<=40) (hml:b.ms.length<=100000000) (hlv:∀ k:Nat,k<b.ms.length->(b.ms.getD k dM).lv=true->(∀ x∈(b.ms.getD k dM).cs,Mk.isK s x.br x.ix=true)/\(b.ms.getD k dM).zs≠[]):
 Calls Tryz.prog 119 #[.pointer (some ⟨D,0,none⟩),.int .i64 n] w fun e w'=>∃ t ai ni ci ap np cp er,e=.returned (.tuple #[.agg #[.int .i64 t,.slice ai ni ci,.slice ap np cp],.int .i64 er])/\DSgOk b.ND D (D+1) b.vm (nx:Int) b.ms b.bls s n (.int .i64 t) (.slice ai ni ci) (.slice ap np cp) er w w':=by
 refine(dSign_any N b.ND D (D+1) b.ao b.c b.bls s b.vm (nx:Int) b.ms n w h.dg.dc hgd h40 h.dg.c0 h.dg.dp hml hlv).mono ?_
 rintro e w' ⟨v0,v1,v2,er,rfl,hr⟩
 obtain⟨t,ai,ni,ci,ap,np,cp,rfl,rfl,rfl⟩:=dsign_shape hr
 exact⟨t,ai,ni,ci,ap,np,cp,er,rfl,hr⟩
theorem signR_cell (h:AG z s g N q col G P D Dr a b nx w) (hr:SignAG P s a b nx n v0 v1 v2 er w w') {k:Nat} (hc:w.cell? ⟨k,o,none⟩=some v) (h1:¬(z<col k/\col k<=z+5)):w'.cell? ⟨k,o,none⟩=some v:=by
 obtain⟨_,_,_,_,hf,_⟩:=h.sgA hr
 exact hf.cell hc h1
theorem signR_v3 (h:AG z s g N q col G P D Dr a b nx w) (hr:SignAG P s a b nx n v0 v1 v2 er w w') (hc:V3 w K a0 a1 a2) (h1:col K=0):V3 w' K a0 a1 a2:=by
 obtain⟨_,_,_,_,hf,_⟩:=h.sgA hr
 exact hc.fr hf (fun e=>by omega)
theorem dsignR_cell (h:S1 z s g N q col G P D Dr a b nx md1 nx1 w) (hr:DSgOk b.ND D (D+1) b.vm (nx:Int) b.ms b.bls s n u0 u1 u2 er w w') {k:Nat} (hc:w.cell? ⟨k,o,none⟩=some v) (h1:col k≠z+11):w'.cell? ⟨k,o,none⟩=some v:=by
 obtain⟨_,hf,_⟩:=h.sgB hr
 exact hf.cell hc h1
theorem dsignR_v3 (h:S1 z s g N q col G P D Dr a b nx md1 nx1 w) (hr:DSgOk b.ND D (D+1) b.vm (nx:Int) b.ms b.bls s n u0 u1 u2 er w w') (hc:V3 w K a0 a1 a2) (h1:col K≠z+11):V3 w' K a0 a1 a2:=by
 obtain⟨_,hf,_⟩:=h.sgB hr
 exact hc.fr hf h1
structure TSame (s:Int) (b0:Nat) (col1:NtN) (K:Nat) (t:Int) (ai:OAd) (ni ci:Nat) (ap:OAd) (np cp:Nat) (er:Int) (t2:Int) (bi:OAd) (mi di:Nat) (bp:OAd) (mp dp:Nat) (er2:Int) (xs ys:List InD) (zs:LII) (w:World):Prop where
 ee:er=er2
 et:t=t2
 ei:ni=mi
 ep:np=mp
 i1:InsAt w ai xs
 i2:InsAt w bi ys
 l1:xs.length=ni
 l2:ys.length=mi
 st:xs.map InD.st=ys.map InD.st
 b1:ni<=10
 o1:OutsAt w ap zs
 o2:OutsAt w bp zs
 lz:zs.length=np
 b2:np<=8
 hi:HandedI col1 w (.slice ai ni ci) xs
 ho:Handed 2 col1 w (.slice ap np cp)
 ne:∀ k,(Value.slice ap np cp).ownBlock=some k->¬((Value.slice ai ni ci).ownBlock=some k\/sealsB xs xs.length k)
 nw:∀ k,(((Value.slice ai ni ci).ownBlock=some k\/sealsB xs xs.length k)\/(Value.slice ap np cp).ownBlock=some k)->col1 k=0/\k≠K/\b0<=k
theorem TB.same {col1:NtN} {a1:PgP} (h:AG z s g N q col G P D Dr a b nx w9) (y:TB z s g N q col G P D Dr a b nx n w col1 a1 b1 K (.int .i64 t) (.slice ai ni ci) (.slice ap np cp) er K2 (.int .i64 t2) (.slice bi mi di) (.slice bp mp dp) er2 wx):
 ∃ xs ys zs,TSame s w.heap.size col1 K t ai ni ci ap np cp er t2 bi mi di bp mp dp er2 xs ys zs wx:=by
 obtain⟨b0,hr2⟩:=y.res2
 rcases sign_sync h.lk h.lp n with⟨x,s1,s2⟩|⟨j,k,s1,s2,hj,hk,hn,hnum,hkk⟩
 ·rcases y.res with⟨x1,r1,r2,r3,r4,r5⟩|⟨j,L,B,r1,_⟩
  ·rcases hr2 with⟨x2,q1,q2,q3,q4,q5⟩|⟨k,q1,_⟩
   ·rw[s1] at r1
    rw[s2] at q1
    injection r1 with r1
    injection q1 with q1
    injection r3 with _ r3
    injection q3 with _ q3
    injection r4 with f1 f2 f3
    injection r5 with f4 f5 f6
    injection q4 with g1 g2 g3
    injection q5 with g4 g5 g6
    subst f1 f2 f3 f4 f5 f6 g1 g2 g3 g4 g5 g6
    refine⟨[],[],[],⟨by rw[r2,q2,<-r1,<-q1],by rw[r3,q3],rfl,rfl,Or.inl rfl,Or.inl rfl,rfl,rfl,rfl,by omega,Or.inl rfl,Or.inl rfl,rfl,by omega,Or.inl ⟨rfl,rfl⟩,Or.inl rfl,fun k e=>(by cases e),fun k e=>?_⟩⟩
    rcases e with (e|⟨i,hi,_⟩)|e
    ·cases e
    ·exact absurd hi (Nat.not_lt_zero _)
    ·cases e
   ·rw[s2] at q1;cases q1
  ·rw[s1] at r1;cases r1
 ·rcases y.res with⟨x1,r1,_⟩|⟨j',L,B,r1,r2,r3,r4,r5,hsg,hC⟩
  ·rw[s1] at r1;cases r1
  ·rcases hr2 with⟨x2,q1,_⟩|⟨k',q1,q2,q3,q4,hrd⟩
   ·rw[s2] at q1;cases q1
   ·rw[s1] at r1
    rw[s2] at q1
    injection r1 with r1
    injection q1 with q1
    subst r1
    subst q1
    obtain⟨ci',ni',cc',cp',np',cd',is,e1,e2,h1,h2,h3,h4,h5,_⟩:=hrd
    injection e1 with f1 f2 f3
    injection e2 with f4 f5 f6
    subst f1 f2 f3 f4 f5 f6
    have d1:(a.ps.getD j dP).cs=(b.ms.getD k dM).cs:=congrArg (fun t:PK=>t.2.1) hkk
    have d2:(a.ps.getD j dP).ys=(b.ms.getD k dM).zs:=congrArg (fun t:PK=>t.2.2.1) hkk
    have d3:(a.ps.getD j dP).tag=(b.ms.getD k dM).tag:=congrArg (fun t:PK=>t.2.2.2.1) hkk
    have hid:(a.ps.getD j dP).id=idZ (b.ms.getD k dM).tag ((b.ms.getD k dM).cs.map CoinD.inD) (b.ms.getD k dM).zs:=by
     unfold PayD.id
     rw[d1,d2,d3]
     rfl
    obtain⟨l1,l2,l3⟩:=hsg.lens
    have hpo:=h.pg.pp.ls.ok _ (getD_mem a.ps dP j hj)
    have c1:=hpo.cl
    have c2:=hpo.b1
    have c3:=hpo.ol
    have c4:=hpo.b2
    have lis:is.length=(b.ms.getD k dM).cs.length:=by
     have:=congrArg List.length h3
     rw[List.length_map,List.length_map] at this
     exact this
    injection r4 with _ r4
    injection q4 with _ q4
    refine⟨L.map (sgIn s (a.ps.getD j dP).id),is,(a.ps.getD j dP).ys,⟨by rw[r3,q3],by rw[r4,q4,d3],?_,?_,hsg.insAt,h1,by rw[List.length_map];exact l1,h2,?_,by omega,hsg.outsAt,by rw[d2];exact h4,l3,by omega,hsg.hand (fun k hk=>(hC k hk).1),Handed.of kv2 hsg.oo (fun k hk=>(hC k (Or.inr (Or.inl hk))).1),fun k hk e=>?_,fun k hk=>?_⟩⟩
    ·rw[<-h2,lis,<-d1,l2]
    ·rw[<-h5,<-d2,l3]
    ·rw[sgIn_st,hsg.fst,h3,d1,hid]
    ·rcases e with e|e
     ·exact hsg.ne k e hk
     ·obtain⟨q9,hq9,e9⟩:=SgTx.seals (by simp) e
      exact(hsg.nv q9 hq9).2 (by rw[e9];exact hk)
    ·have hb:sgB (.slice ai ni ci) (.slice ap np cp) L k:=by
      rcases hk with (e|e)|e
      ·exact Or.inl e
      ·exact Or.inr (Or.inr (SgTx.seals (by simp) e))
      ·exact Or.inr (Or.inl e)
     exact⟨(hC k hb).1,(hC k hb).2,leT r5 (hsg.blk hb).1⟩
theorem TB.done {col1:NtN} {a1:PgP} (h0:Below w0.heap.size w0 w) (h:AG z s g N q col G P D Dr a b nx w) (y:TB z s g N q col G P D Dr a b nx n w col1 a1 b1 K v0 v1 v2 er K2 u0 u1 u2 er2 wx) (hk:KeptM col1 z Dr (13*q) m Lx wx w') (hm:m<=13) (hL:∀ k,Lx k->col1 k=0/\w.heap.size<=k):SOk z s g N q col G P D Dr w0 w':=by
 obtain⟨col4,he,hd,hf,hold4⟩:=hk
 have hs1:=y.s1
 have hnL:∀ k,N k->¬Lx k:=fun k hk e=>by have:=(h.nn k hk).2;have:=(hL k e).2;omega
 have hn:∀ k,N k->col4 k=0:=fun k hk=>hold4 k (hs1.nn k hk).1 (hs1.nn k hk).2 (hnL k hk)
 have hkeep:∀ k,col1 k≠0->col4 k=col1 k:=fun k hk=>he.same hk
 have hz4:∀ k,w'.heap.size<=k->col4 k=0:=Ext.zero (w:=wx) he hf.size hs1.nz
 have hE:∀ k,((z+13<=col1 k/\col1 k<=z+23)\/Lx k)->¬(z+1<=col1 k/\col1 k<=z+12):=fun k e h9=>by
  rcases e with e|e
  ·omega
  ·have:=(hL k e).1;omega
 have hN:∀ k,N k->¬((z+13<=col1 k/\col1 k<=z+23)\/Lx k):=fun k hk e=>by
  rcases e with e|e
  ·have:=(hs1.nn k hk).1;omega
  ·exact hnL k hk e
 have hpg:=hs1.pg.mv hf (fun k e h=>hE k e (by omega)) hkeep
 have hdg:=hs1.dg.mv hf (fun k e h=>hE k e (by omega)) hN hkeep
 have hgm:=hf.vrow hs1.gm (fun e=>hE G e (by rw[hs1.kg];omega))
 have hkg:col4 G=z+6:=by rw[hkeep G (by rw[hs1.kg];omega)];exact hs1.kg
 have hfin:Fr (fun k=>z<col k/\col k<=z+24) w w':=by
  refine⟨hf.os.trans y.fr.os,hf.tape.trans y.fr.tape,hf.output.trans y.fr.output,leT y.fr.size hf.size,fun k hk hne=>?_⟩
  refine(hf.block k (ltL hk y.fr.size) (fun e=>hne ?_)).trans (y.fr.block k hk hne)
  rcases e with e|e
  ·rcases y.ext k with e2|e2
   ·omega
   ·have:=y.old k hk e2.1;omega
  ·have:=(hL k e).2;omega
 have hext:Ext z 1 24 col col4 w':=(y.ext.weak leR leR leR).trans (he.weak (by omega) leR leR) hf.size
 have hnn:∀ k,N k->col4 k=0/\k<w'.heap.size:=fun k hk=>⟨hn k hk,ltL (hs1.nn k hk).2 hf.size⟩
 have hdr:DrA col4 z w' Dr (13*(q+1)):=hd.mv (Fr.refl (fun _=>False) w') (fun _ e=>e.elim) (fun _ _=>rfl) (by omega)
 refine⟨col4,a1,b1,nx,hext,?_,(Fr.of_below h0 _).trans (hfin.weak (fun k _ e=>e))⟩
 have hml:=h.ml
 have hkl:=h.kl
 rcases sign_sync h.lk h.lp n with⟨x,s1,s2⟩|⟨j,k,s1,s2,hj,hk,hnk,hnum,hkk⟩
 ·rcases y.rel with⟨ea,_⟩|⟨j',vs',ej,_⟩
  ·rcases y.rel2 with⟨eb,_⟩|⟨k',ek,_⟩
   ·subst ea
    subst eb
    exact⟨hpg,hdg,hdr,hgm,hkg,h.lk,h.lp,h.ky,hz4,hnn,by omega,by omega,h.nl⟩
   ·rw[s2] at ek;cases ek
  ·rw[s1] at ej;cases ej
 ·have d1:(a.ps.getD j dP).cs=(b.ms.getD k dM).cs:=congrArg (fun t:PK=>t.2.1) hkk
  have d4:(a.ps.getD j dP).sg=(b.ms.getD k dM).sg:=congrArg (fun t:PK=>t.2.2.2.2) hkk
  rcases y.rel with⟨ea,hsa⟩|⟨j',vs',ej,hj',hsj,ea⟩
  ·rcases y.rel2 with⟨eb,_⟩|⟨k',ek,hk',hsk,eb⟩
   ·subst ea
    subst eb
    exact⟨hpg,hdg,hdr,hgm,hkg,h.lk,h.lp,h.ky,hz4,hnn,by omega,by omega,h.nl⟩
   ·rw[s2] at ek
    injection ek with ek
    subst ek
    have:=hsa j s1
    rw[d4,hsk] at this
    cases this
  ·rw[s1] at ej
   injection ej with ej
   subst ej
   rcases y.rel2 with⟨eb,hsb⟩|⟨k',ek,hk',hsk,eb⟩
   ·have:=hsb k s2
    rw[<-d4,hsj] at this
    cases this
   ·rw[s2] at ek
    injection ek with ek
    subst ek
    subst ea
    subst eb
    have hol:=onD_len b.ms k
    have hlc:(a.ps.getD j dP).cs.length<=10:=by
     have hpo:=h.pg.pp.ls.ok _ (getD_mem a.ps dP j hj)
     have c1:=hpo.cl
     have c2:=hpo.b1
     omega
    have hak:=addKeys_len (a.ps.getD j dP).cs a.ks
    refine⟨?_,hdg,hdr,hgm,hkg,h.lk,?_,fun p hp=>?_,hz4,hnn,by simp only;omega,by simp only;omega,h.nl⟩
    ·simp only
     rw[hol]
     exact hpg
    ·simp only
     rw[h.lp.set hj hnum,d1]
     exact h.lp.sign hk
    ·simp only at hp
     rcases List.mem_or_eq_of_mem_set hp with e|e
     ·exact h.ky p e
     ·subst e
      have h9:=h.ky (a.ps.getD j dP) (getD_mem a.ps dP j hj)
      exact h9
theorem left_all (h:(leftZ ps k).length=ps.length):leftZ ps k=ps:=by
 unfold leftZ at *
 exact List.Sublist.eq_of_length List.filter_sublist h
def colA (col:NtN) (z:Nat) (vl:Value) (k:Nat):Nat:=if col k=0/\vl.ownBlock=some k then z+3 else col k
theorem AG.abA (h:AG z s g N q col G P D Dr a b nx w) (hr:AbOk a.NP P 4 (P+1) a.vs (b.ms.length:Nat) (nx:Int) a.ps a.ks k er w w'):
 ∃ col1 vl',S1 z s g N (13*q) col1 G P D Dr { a with vl:=vl',ps:=leftZ a.ps k } b nx (b.ms.length:Nat) (nx:Int) w'/\Ext z 1 24 col col1 w'/\Fr (fun k=>z<col k/\col k<=z+24) w w'/\(∀ k,k<w.heap.size->col k=0->col1 k=0)/\er=(if (leftZ a.ps k).length=a.ps.length then 11 else 0):=by
 rcases hr with⟨e1,e2,hb⟩|⟨e1,e2,vl',hls,hf,hnew,hcell⟩
 ·have hl:=left_all e1
  have h1:=h.grown hb
  refine⟨col,a.vl,⟨?_,h1.dg,h1.dr,h1.gm,h1.kg,h1.nz,h1.nn⟩,Ext.refl _ _ _ _ _,Fr.of_below hb _,fun _ _ h=>h,by rw[if_pos e1];exact e2⟩
  rw[hl]
  exact h1.pg
 ·have hpg:=h.pg
  have hkeep:∀ k,col k≠0->colA col z vl' k=col k:=fun k hk=>by
   unfold colA
   rw[if_neg (fun e=>hk e.1)]
  have hvl:∀ k,vl'.ownBlock=some k->col k=0:=fun k hk=>h.nz k (hnew k hk)
  have hE:∀ k,k=P->col k=z+1:=fun k e=>by subst e;exact hpg.k1
  have hnP:∀ k,col k≠z+1->¬k=P:=fun k hk e=>hk (hE k e)
  have hpu:PAt [] w' P s g a.v (b.bls.length:Nat) a.xs:=by
   have hp:=hpg.pp.pu
   refine⟨(hcell 2 (by omega)).trans hp.c0,(hcell 3 (by omega)).trans hp.c1,hls.fz 2,hls.fz,hf.own hp.own (fun k hk=>hnP k (by rw[hpg.k2 k hk];omega)),fun q hq=>?_⟩
   have h9:=hp.ext q hq
   refine⟨h9.1,h9.2.1,(hcell q.1 ?_).trans h9.2.2⟩
   simp only[List.mem_cons,List.not_mem_nil,or_false] at hq
   rcases hq with rfl|rfl<;>simp
  have hz:∀ k,w'.heap.size<=k->colA col z vl' k=0:=fun k hk=>by
   have h1:=h.nz k (leT hf.size hk)
   unfold colA
   rw[if_neg (fun e=>by have:=(hls.ol.blk k e.2).2;omega)]
   exact h1
  have hn:∀ k,N k->colA col z vl' k=0:=fun k hk=>by
   have h1:=h.nn k hk
   unfold colA
   rw[if_neg (fun e=>by have:=hnew k e.2;omega)]
   exact h1.1
  refine⟨colA col z vl',vl',⟨⟨⟨hpu,hls,fun k hk=>⟨fun e=>?_,(hpg.pp.dj k hk).2⟩⟩,?_,fun k hk=>?_,fun k hk=>?_,fun k hk=>?_,fun k hk=>?_⟩,h.dg.mv hf (fun k e h9=>by have:=hE k e;omega) (fun k hk e=>by have:=hE k e;have:=(h.nn k hk).1;omega) hkeep,h.dr.mv hf (fun k e h9=>by have:=hE k e;omega) hkeep leR,hf.vrow h.gm (hnP G (by rw[h.kg];omega)),?_,hz,fun k hk=>⟨hn k hk,ltL (h.nn k hk).2 hf.size⟩⟩,fun k=>?_,hf.weak (fun k _ e=>by have:=hE k e;omega),fun k hk h0=>?_,by rw[if_neg e1];exact e2⟩
  ·have h1:=hpg.k2 k hk
   have h2:=hvl k e
   omega
  ·rw[hkeep P (by rw[hpg.k1];omega)];exact hpg.k1
  ·rw[hkeep k (by rw[hpg.k2 k hk];omega)];exact hpg.k2 k hk
  ·unfold colA;rw[if_pos ⟨hvl k hk,hk⟩]
  ·rw[hkeep k (by rw[hpg.k4 k hk];omega)];exact hpg.k4 k hk
  ·have h1:=hpg.k5 k hk
   rw[hkeep k (by omega)];exact h1
  ·rw[hkeep G (by rw[h.kg];omega)];exact h.kg
  ·unfold colA
   split
   ·rename_i e
    exact Or.inr ⟨e.1,by omega,by omega,(hls.ol.blk k e.2).2⟩
   ·exact Or.inl rfl
  ·unfold colA
   rw[if_neg (fun e=>by have:=hnew k e.2;omega)]
   exact h0
theorem S1.abB (h:S1 z s g N q col G P D Dr a b nx md1 nx1 w) (hr:DAbOk b.ND D (D+1) b.vm (nx:Int) b.ms k er w w'):
 Fr (fun k=>col k=z+11) w w'/\((liveB b.ms k=false/\er=11/\S1 z s g N q col G P D Dr a b nx md1 nx1 w')\/(∃ n:Nat,k=(n:Int)/\n<b.ms.length/\(b.ms.getD n dM).lv=true/\er=0/\S1 z s g N q col G P D Dr a { b with ms:=offD b.ms n } nx md1 nx1 w')):=by
 rcases hr with⟨e1,e2,rfl⟩|⟨n,e1,e2,e3,e4,hd,hf⟩
 ·exact⟨Fr.refl _ _,Or.inl ⟨e1,e2,h⟩⟩
 ·have hE:∀ k,b.vm.ownBlock=some k->col k=z+11:=h.dg.k11
  have hn:∀ k,col k≠z+11->¬b.vm.ownBlock=some k:=fun k hk e=>hk (hE k e)
  have hdg:=h.dg
  refine⟨hf.weak (fun k _ e=>hE k e),Or.inr ⟨n,e1,e2,e3,e4,h.pg.mv hf (fun k e h9=>by have:=hE k e;omega) (fun _ _=>rfl),⟨hdg.dc.fr hf (fun k hk=>hn k (by have:=(h.nn k hk).1;omega)) (fun x hx=>hn _ (by rw[hdg.k8 x hx];omega)) (hn D (by rw[hdg.k7];omega)),⟨hf.cell hdg.ad.c1 (hn D (by rw[hdg.k7];omega)),hf.cell hdg.ad.c2 (hn D (by rw[hdg.k7];omega)),hf.cell hdg.ad.c3 (hn D (by rw[hdg.k7];omega)),ints_fr hf hdg.ad.i0 (fun _ x hx=>hn _ (by rw[hdg.k9 x hx];omega)),ints_fr hf hdg.ad.i1 (fun _ x hx=>hn _ (by rw[hdg.k10 x hx];omega))⟩,hf.cell hdg.c0 (hn D (by rw[hdg.k7];omega)),hd,hdg.k7,hdg.k8,hdg.k9,hdg.k10,hdg.k11,hdg.k12⟩,h.dr.mv hf (fun k e h9=>by have:=hE k e;omega) (fun _ _=>rfl) leR,hf.vrow h.gm (hn G (by rw[h.kg];omega)),h.kg,fun k hk=>h.nz k (leT hf.size hk),fun k hk=>⟨(h.nn k hk).1,ltL (h.nn k hk).2 hf.size⟩⟩⟩
theorem AG.abAB (h:AG z s g N q col G P D Dr a b nx w) (hr:AbOk a.NP P 4 (P+1) a.vs (b.ms.length:Nat) (nx:Int) a.ps a.ks k er w w1) (hb:Below w1.heap.size w1 w1') (hr2:DAbOk b.ND D (D+1) b.vm (nx:Int) b.ms k er2 w1' w2):
 er=er2/\SOk z s g N q col G P D Dr w w2:=by
 obtain⟨col1,vl',h1,hx,hf,hold,he⟩:=h.abA hr
 have h1':=h1.grown hb
 obtain⟨hf2,h2⟩:=h1'.abB hr2
 have hfr:Fr (fun k=>z<col k/\col k<=z+24) w w2:=by
  refine⟨hf2.os.trans (hb.os.trans hf.os),hf2.tape.trans (hb.tape.trans hf.tape),hf2.output.trans (hb.output.trans hf.output),leT hf.size (leT hb.size hf2.size),fun k hk hne=>?_⟩
  have hk1:k<w1.heap.size:=ltL hk hf.size
  refine(hf2.block k (ltL hk1 hb.size) (fun e=>?_)).trans ((hb.block k hk1).trans (hf.block k hk hne))
  rcases hx k with e2|e2
  ·exact hne (by omega)
  ·have:=hold k hk e2.1
   omega
 have hx2:Ext z 1 24 col col1 w2:=hx.weak leR leR (leT hb.size hf2.size)
 have hlm:∀ p∈leftZ a.ps k,p∈a.ps:=fun p hp=>(List.mem_filter.1 hp).1
 have hml:=h.ml
 have hkl:=h.kl
 rcases h2 with⟨e1,e2,h3⟩|⟨n,e1,e2,e3,e4,h3⟩
 ·have hno:¬∃ p∈a.ps,p.num=k:=fun e=>by
   have:=(liveB_iff b.ms k).2 ((live_num h.lp k).1 e)
   rw[e1] at this
   cases this
  have hlen:=(left_same a.ps k).2 hno
  rw[if_pos hlen] at he
  refine⟨he.trans e2.symm,col1,_,b,nx,hx2,⟨h3.pg,h3.dg,h3.dr.mv (Fr.refl (fun _=>False) w2) (fun _ e=>e.elim) (fun _ _=>rfl) (by omega),h3.gm,h3.kg,h.lk,?_,fun p hp=>h.ky p (hlm p hp),h3.nz,h3.nn,by omega,by simp only;omega,h.nl⟩,hfr⟩
  simp only
  rw[left_all hlen]
  exact h.lp
 ·subst e1
  have hyes:∃ p∈a.ps,p.num=(n:Int):=(live_num h.lp _).2 ⟨n,rfl,e2,e3⟩
  have hlen:¬(leftZ a.ps (n:Int)).length=a.ps.length:=fun e=>(left_same a.ps _).1 e hyes
  rw[if_neg hlen] at he
  have hol:=offD_len b.ms n
  refine⟨he.trans e4.symm,col1,{ a with vl:=vl',ps:=leftZ a.ps (n:Int) },{ b with ms:=offD b.ms n },nx,hx2,⟨?_,h3.dg,h3.dr.mv (Fr.refl (fun _=>False) w2) (fun _ e=>e.elim) (fun _ _=>rfl) (by omega),h3.gm,h3.kg,h.lk,h.lp.off e2,fun p hp=>h.ky p (hlm p hp),h3.nz,h3.nn,by simp only;omega,by simp only;omega,h.nl⟩,hfr⟩
  simp only
  rw[hol]
  exact h3.pg
theorem pAbandon_any (N:NPr) (P:Nat) (s:Int) (g:Nat) (v:Value) (h:Int) (xs:List Cel) (vl vs:Value) (md nx:Int) (ps:List PayD) (ks:LII) (k:Int) (w:World) (u:PP N w P s g v h xs vl vs md nx ps ks) (hpl:ps.length<=1000000000000):
 Calls Tryz.prog 20 #[.pointer (some ⟨P,0,none⟩),.int .i64 k] w fun e w'=>∃ er,e=.returned (.int .i64 er)/\AbOk N P 4 (P+1) vs md nx ps ks k er w w':=by
 have HL:=hiD u.ls
 have hb:P+1<=w.heap.size:=cell_lt u.ls.c0
 clear u
 go_enter Tryz.func20,Tryz.ntmps20
 go_wp2_with fail
 refine(lAbandon_any N P 4 (P+1) vl vs md nx ps ks k _ HL hb hpl).mono ?_
 rintro e w1 ⟨er,rfl,hr⟩
 have HR:=hiD hr
 clear hr
 go_wp2
 go_ret
 exact⟨er,rfl,HR⟩
theorem balanceA_any (w:World) (h:AG z s g N q col G P D Dr a b nx w) (hf:fitZ s (g:Int)=true) (hq:q<=1048576):
 Calls Tryz.prog 74 #[.pointer (some ⟨G,0,none⟩)] w fun e w'=>e=.returned (.bool true)/\Below w.heap.size w w':=by
 obtain⟨hs,h1,h2⟩:=fitZ_yes hf
 have hg1:1<=g:=by omega
 have hg2:g<=20:=by omega
 have g0:w.cell? ⟨G,0,none⟩=some (.pointer (some ⟨P,0,none⟩)):=h.gm 0 (by simp)
 have g1:w.cell? ⟨G,1,none⟩=some (.pointer (some ⟨D,0,none⟩)):=h.gm 1 (by simp)
 have hGl:G<w.heap.size:=cell_lt g0
 obtain⟨av,cv,hv,hat⟩:=h.pg.pp.pu.at
 have HP:Hid (PurseRow w P s g (.slice av a.xs.length cv) (b.bls.length:Nat)):=by have:=pat_row h.pg.pp.pu;rw[hv] at this;exact this
 have HPM:Hid (PayM a.NP w P 4 a.ps a.ks):=h.pg.pp.ls.payM (by have:=h.lp.len;have:=h.ml;omega) (by have:=h.kl;omega)
 have HAT:=hiD hat
 have hlk:=h.lk.here
 have h40:=h.lk.len
 have hml:b.ms.length<=100000000:=by have:=h.ml;omega
 have HX:=hiD h
 have HVL:Hid _:=own_vals a.xs s g hlk.2.2.1
 have HOS:Hid (ownR (cellsR b.bls) (adrs s 0 100) (adrs s 1 100) (winR (cellsR b.bls) s g 0) (winR (cellsR b.bls) s g 1)=ownZ (keysZ a.xs s g) (coinsC a.xs)):=by show _=_;rw[<-hlk.1];exact own_sync a.xs s g (by omega)
 have hxl:a.xs.length<=10000:=by have:=hlk.2.2.2;omega
 have HOL:Hid ((ownZ (keysZ a.xs s g) (coinsC a.xs)).length<=100000):=by show _<=_;have:=ownZ_len (keysZ a.xs s g) (coinsC a.xs);have:=coinsC_len a.xs;omega
 have HFR:Hid (freeB a.ps a.ks=freeD b.ms):=by
  show _=_
  funext x
  exact h.lp.free x
 have HGO:=hiD h.lk.good
 clear h hat hlk hf h1 h2 hv
 go_enter Tryz.func74,Tryz.ntmps74
 go_wp2_with fail
 refine(pBalance_any a.NP a.ps a.ks P s g av a.xs.length cv (b.bls.length:Nat) a.xs _ hs hg1 hg2 HP HPM HAT rfl hxl HVL).mono ?_
 rintro e w1 ⟨rfl,hb1⟩
 have g1':=(hb1.cell (p:=⟨G,1,none⟩) hGl).trans g1
 have HX1:=hiD (HX.out.grown hb1)
 rw[HFR.out]
 clear g0 g1 HP HAT HPM HX
 go_wp2_with fail
 refine(dBalance_any N b.ND D (D+1) b.ao b.c b.bls s g b.ar b.cr b.ac b.cc b.vm (nx:Int) b.ms _ HX1.out.dg.dc HGO h40 HX1.out.dg.ad hg2 HX1.out.dg.dp hml (ownZ (keysZ a.xs s g) (coinsC a.xs)) HOS HOL HVL).mono ?_
 rintro e w2 ⟨rfl,hb2⟩
 have hb02:=below_blk hb1 hb2
 generalize sumC (ownZ (keysZ a.xs s g) (coinsC a.xs))=sa at *
 generalize sumC ((ownZ (keysZ a.xs s g) (coinsC a.xs)).filter (freeD b.ms))=sb at *
 go_wp2
 go_ret
 exact⟨ret_bool (by simp),hb02⟩
end
end Go.Proofs.YtffgpepngcnjeabGreat
