import Derived.Test.YtffgpepngcnjeabGreatSbk
namespace Go.Proofs.YtffgpepngcnjeabGreat
set_option maxRecDepth 100000
set_option maxHeartbeats 8000000
section
open Go.RowKit
variable {E N XE XE':NPr} {base z g q G P D Dr nx k K:Nat} {vi vo vk v0 v1 v2 v3 v4 v5:Value} {cs ks L:List CoinD} {ys:LII} {w w' wx wy w1 w3:World} {md tag er s r md1 nx1:Int} {col col':NtN} {a a1:PgP} {b:DgP}
theorem PdOk.frL (h:PdOk base vi vo vk cs ys ks w) (hf:Fr E w w') (he:∀ k,(vi.ownBlock=some k\/vo.ownBlock=some k\/vk.ownBlock=some k)->¬E k):PdOk base vi vo vk cs ys ks w':=
 ⟨hf.own h.oi (fun k hk=>he k (Or.inl hk)),hf.own h.oo (fun k hk=>he k (Or.inr (Or.inl hk))),hf.own h.ok (fun k hk=>he k (Or.inr (Or.inr hk))),h.n1,h.n2⟩
def PRes (pz:Sum Int (List CoinD×LII×Int)) (md tag:Int) (v0 v1 v2 v3 v4 v5:Value) (er:Int) (base:Nat) (w:World):Prop:=
 (∃ x,pz=.inl x/\er=x/\v0=.int .i64 0/\v1=.int .i64 0/\v2=.slice none 0 0/\v3=.slice none 0 0/\v4=.slice none 0 0/\v5=.int .i64 0)\/
 (∃ cs zs ch,pz=.inr (cs,zs,ch)/\er=0/\v0=.int .i64 md/\v1=.int .i64 tag/\v5=.int .i64 ch/\PdOk base v2 v3 v4 cs zs cs w)
theorem PRes.fr {pz:Sum Int (List CoinD×LII×Int)} (h:PRes pz md tag v0 v1 v2 v3 v4 v5 er base w) (hf:Fr E w w') (he:∀ k,(v2.ownBlock=some k\/v3.ownBlock=some k\/v4.ownBlock=some k)->¬E k):PRes pz md tag v0 v1 v2 v3 v4 v5 er base w':=by
 rcases h with h|⟨cs,zs,ch,h1,h2,h3,h4,h5,h6⟩
 ·exact Or.inl h
 ·exact Or.inr ⟨cs,zs,ch,h1,h2,h3,h4,h5,h6.frL hf he⟩
theorem PRes.grown {pz:Sum Int (List CoinD×LII×Int)} (h:PRes pz md tag v0 v1 v2 v3 v4 v5 er base w) (hb:Below w.heap.size w w'):PRes pz md tag v0 v1 v2 v3 v4 v5 er base w':=
 h.fr (Fr.of_below hb (fun _=>False)) (fun _ _ e=>e)
theorem PRes.blk {pz:Sum Int (List CoinD×LII×Int)} (h:PRes pz md tag v0 v1 v2 v3 v4 v5 er base w):∀ k,(v2.ownBlock=some k\/v3.ownBlock=some k\/v4.ownBlock=some k)->base<=k/\k<w.heap.size:=fun k hk=>by
 rcases h with⟨x,_,_,_,_,h2,h3,h4,_⟩|⟨cs,zs,ch,h1,h2,h3,h4,h5,h6⟩
 ·rw[h2,h3,h4] at hk
  rcases hk with e|e|e<;>cases e
 ·rcases hk with e|e|e
  ·exact h6.oi.blk k e
  ·exact h6.oo.blk k e
  ·exact h6.ok.blk k e
def PRel (pz:Sum Int (List CoinD×LII×Int)) (a a1:PgP) (md nx md1 nx1 tag:Int):Prop:=
 (∃ x,pz=.inl x/\a1=a/\md1=md/\nx1=nx)\/(∃ cs zs ch,∃ p:PayD,pz=.inr (cs,zs,ch)/\a1.ps=a.ps++[p]/\p.k=(md,cs,zs,tag,false)/\a1.ks=a.ks/\a1.xs=a.xs/\md1=md+1/\nx1=if nx<=ch then ch+1 else nx)
def colP (col:NtN) (z:Nat) (vl:Value) (gc go k:Nat):Nat:=if col k=0/\vl.ownBlock=some k then z+3 else if col k=0/\(k=gc\/k=go) then z+5 else col k
theorem AG.payA (h:AG z s g N q col G P D Dr a b nx w) (hr:PayOkR a.NP P s g a.v (b.bls.length:Nat) a.xs a.vl a.vs (b.ms.length:Nat) (nx:Int) a.ps a.ks ys r tag v0 v1 v2 v3 v4 v5 er w w'):
 ∃ col1 a1 md1 nx1,Ext z 1 24 col col1 w'/\(∀ k,k<w.heap.size->col k=0->col1 k=0)/\Fr (fun k=>col k=z+1\/col k=z+3) w w'/\Pg col1 z w' P s g (b.bls.length:Nat) a1 md1 nx1/\PRes (payZ a.xs s g a.ps a.ks nx ys r tag) (b.ms.length:Nat) tag v0 v1 v2 v3 v4 v5 er w.heap.size w'/\(∀ k,(v2.ownBlock=some k\/v3.ownBlock=some k\/v4.ownBlock=some k)->col1 k=0)/\PRel (payZ a.xs s g a.ps a.ks nx ys r tag) a a1 (b.ms.length:Nat) (nx:Int) md1 nx1 tag:=by
 rcases hr with⟨x,e1,e2,h0,h1,h2,h3,h4,h5,hb⟩|⟨cs,zs,ch,e1,e2,h0,h1,h5,vl',gc,cc,go,co,hpp,hpd,hf,hnew⟩
 ·refine⟨col,a,_,_,Ext.refl _ _ _ _ _,fun _ _ h=>h,Fr.of_below hb _,h.pg.mv (Fr.of_below hb (fun _=>False)) (fun _ e=>e.elim) (fun _ _=>rfl),Or.inl ⟨x,e1,e2,h0,h1,h2,h3,h4,h5⟩,fun k hk=>?_,Or.inl ⟨x,e1,rfl,rfl,rfl⟩⟩
  rw[h2,h3,h4] at hk
  rcases hk with e|e|e<;>cases e
 ·have hpg:=h.pg
  have hlt:∀ k,col k≠0->k<w.heap.size:=fun k hk=>h.lt hk
  have hvl:∀ k,vl'.ownBlock=some k->col k=z+3\/(col k=0/\w.heap.size<=k):=fun k hk=>by
   rcases hnew k (Or.inl hk) with e|e
   ·exact Or.inl (hpg.k3 k e)
   ·exact Or.inr ⟨h.nz k e.1,e.1⟩
  have hgg:∀ k,(k=gc\/k=go)->col k=z+3\/(col k=0/\w.heap.size<=k):=fun k hk=>by
   rcases hnew k (Or.inr hk) with e|e
   ·exact Or.inl (hpg.k3 k e)
   ·exact Or.inr ⟨h.nz k e.1,e.1⟩
  have hkeep:∀ k,col k≠0->colP col z vl' gc go k=col k:=fun k hk=>by
   unfold colP
   rw[if_neg (fun e=>hk e.1),if_neg (fun e=>hk e.1)]
  have hpl:∀ k,(v2.ownBlock=some k\/v3.ownBlock=some k\/v4.ownBlock=some k)->w.heap.size<=k/\k<w'.heap.size:=fun k hk=>by
   rcases hk with e|e|e
   ·exact hpd.oi.blk k e
   ·exact hpd.oo.blk k e
   ·exact hpd.ok.blk k e
  have hls:=hpp.ls
  refine⟨colP col z vl' gc go,{ a with vl:=vl',NP:=fun k=>a.NP k\/k=gc\/k=go,ps:=a.ps++[⟨(b.ms.length:Nat),some ⟨gc,0,none⟩,cs.length,cc,some ⟨go,0,none⟩,zs.length,co,tag,false,cs,zs⟩] },_,_,fun k=>?_,fun k hk h0=>?_,hf.weak (fun k _ e=>?_),⟨hpp,?_,fun k hk=>?_,fun k hk=>?_,fun k hk=>?_,fun k hk=>?_⟩,Or.inr ⟨cs,zs,ch,e1,e2,h0,h1,h5,hpd⟩,fun k hk=>?_,Or.inr ⟨cs,zs,ch,_,e1,rfl,rfl,rfl,rfl,rfl,rfl⟩⟩
  ·unfold colP
   split
   ·rename_i e
    exact Or.inr ⟨e.1,by omega,by omega,(hls.ol.blk k e.2).2⟩
   ·split
    ·rename_i e
     exact Or.inr ⟨e.1,by omega,by omega,(hls.nN k (Or.inr e.2)).1⟩
    ·exact Or.inl rfl
  ·unfold colP
   rw[if_neg (fun e=>by have:=hvl k e.2;omega),if_neg (fun e=>by have:=hgg k e.2;omega)]
   exact h0
  ·rcases e with e|e
   ·subst e;exact Or.inl hpg.k1
   ·exact Or.inr (hpg.k3 k e)
  ·rw[hkeep P (by rw[hpg.k1];omega)];exact hpg.k1
  ·rw[hkeep k (by rw[hpg.k2 k hk];omega)];exact hpg.k2 k hk
  ·rcases hvl k hk with e|e
   ·rw[hkeep k (by omega)];exact e
   ·unfold colP;rw[if_pos ⟨e.1,hk⟩]
  ·rw[hkeep k (by rw[hpg.k4 k hk];omega)];exact hpg.k4 k hk
  ·rcases hk with hk|hk
   ·rw[hkeep k (by have:=hpg.k5 k hk;omega)];exact hpg.k5 k hk
   ·rcases hgg k hk with e|e
    ·rw[hkeep k (by omega)];exact Or.inr e
    ·unfold colP
     rw[if_neg (fun e2=>(hls.nN k (Or.inr hk)).2.2.1 e2.2),if_pos ⟨e.1,hk⟩]
     exact Or.inl rfl
  ·have h1:=hpl k hk
   unfold colP
   rw[if_neg (fun e=>?_),if_neg (fun e=>?_)]
   ·exact h.nz k h1.1
   ·rcases hnew k (Or.inr e.2) with e2|e2
    ·have:=(hpg.pp.ls.ol.blk k e2).2;omega
    ·rcases hk with e3|e3|e3
     ·exact e2.2.1 e3
     ·exact e2.2.2.1 e3
     ·exact e2.2.2.2 e3
   ·rcases hnew k (Or.inl e.2) with e2|e2
    ·have:=(hpg.pp.ls.ol.blk k e2).2;omega
    ·rcases hk with e3|e3|e3
     ·exact e2.2.1 e3
     ·exact e2.2.2.1 e3
     ·exact e2.2.2.2 e3
def DRel (pz:Sum Int (List CoinD×LII×Int)) (b b1:DgP) (nx nx1:Nat) (tag:Int):Prop:=
 (∃ x,pz=.inl x/\b1=b/\nx1=nx)\/(∃ cs zs ch,∃ m:MadeD,pz=.inr (cs,zs,ch)/\b1.bls=b.bls/\b1.ms=b.ms++[m]/\m.k=(((b.ms.length:Nat):Int),cs,zs,tag,false)/\m.lv=true/\m.sg=false/\m.num=((b.ms.length:Nat):Int)/\(nx1:Int)=if (nx:Int)<=ch then ch+1 else(nx:Int))
def colD (col:NtN) (z:Nat) (vm v2 v3 v4 vc:Value) (k:Nat):Nat:=if col k=0/\vm.ownBlock=some k then z+11 else if col k=0/\(v2.ownBlock=some k\/v3.ownBlock=some k\/v4.ownBlock=some k\/vc.ownBlock=some k) then z+12 else col k
theorem Dg.payB (h:Dg col z N w D s g b nx) (hz:∀ k,w.heap.size<=k->col k=0) (hN:∀ k,N k->col k=0) (hr:DPayOk b.ND D (D+1) b.vm b.bls s g L b.ms nx ys r tag v0 v1 v2 v3 v4 v5 er w w'):
 ∃ col1 b1 nx1,Ext z 1 24 col col1 w'/\(∀ k,k<w.heap.size->col k=0->col1 k=0)/\Fr (fun k=>col k=z+7\/col k=z+11) w w'/\Dg col1 z N w' D s g b1 nx1/\PRes (payD b.bls s g L b.ms nx ys r tag) (b.ms.length:Nat) tag v0 v1 v2 v3 v4 v5 er w.heap.size w'/\DRel (payD b.bls s g L b.ms nx ys r tag) b b1 nx nx1 tag:=by
 rcases hr with⟨x,e1,e2,h0,h1,h2,h3,h4,h5,hb⟩|⟨cs,zs,ch,e1,e2,h0,h1,h5,vm',ai,ci,ap,cp,ak,ck,ac,cc,e3,e4,e5,hdp,hpd,hf,hvm,hac,hce,hfe⟩
 ·exact⟨col,b,nx,Ext.refl _ _ _ _ _,fun _ _ h=>h,Fr.of_below hb _,h.mv (Fr.of_below hb (fun _=>False)) (fun _ e=>e.elim) (fun _ _ e=>e) (fun _ _=>rfl),Or.inl ⟨x,e1,e2,h0,h1,h2,h3,h4,h5⟩,Or.inl ⟨x,e1,rfl,rfl⟩⟩
 ·have hvm':∀ k,vm'.ownBlock=some k->col k=z+11\/(col k=0/\w.heap.size<=k):=fun k hk=>by
   rcases hvm k hk with e|e
   ·exact Or.inl (h.k11 k e)
   ·exact Or.inr ⟨hz k e,e⟩
  have hli:∀ k,(v2.ownBlock=some k\/v3.ownBlock=some k\/v4.ownBlock=some k\/(Value.slice ac cs.length cc).ownBlock=some k)->w.heap.size<=k:=fun k hk=>by
   rcases hk with e|e|e|e
   ·exact(hpd.oi.blk k e).1
   ·exact(hpd.oo.blk k e).1
   ·exact(hpd.ok.blk k e).1
   ·exact hac k e
  have hkeep:∀ k,col k≠0->colD col z vm' v2 v3 v4 (.slice ac cs.length cc) k=col k:=fun k hk=>by
   unfold colD
   rw[if_neg (fun e=>hk e.1),if_neg (fun e=>hk e.1)]
  have hE:∀ k,(k=D\/b.vm.ownBlock=some k)->col k=z+7\/col k=z+11:=fun k e=>by
   rcases e with e|e
   ·subst e;exact Or.inl h.k7
   ·exact Or.inr (h.k11 k e)
  have hnE:∀ k,col k≠z+7->col k≠z+11->¬(k=D\/b.vm.ownBlock=some k):=fun k h1 h2 e=>by have:=hE k e;omega
  have hnx:∃ n1:Nat,(n1:Int)=if (nx:Int)<=ch then ch+1 else(nx:Int):=by
   split
   ·exact⟨(ch+1).toNat,by omega⟩
   ·exact⟨nx,rfl⟩
  obtain⟨nx1,hnx1⟩:=hnx
  have hdc:DCh N w' D b.ao b.c b.bls:=by
   have hd:=h.dc
   obtain⟨cs',hch⟩:=hd.ch
   exact⟨(hce 4 (by omega)).trans hd.c4,fun j=>(hfe j).trans (hd.f4 j),⟨cs',hch.fr hf (fun k hk=>hnE k (by rw[hN k hk];omega) (by rw[hN k hk];omega)) (fun x hx=>hnE _ (by rw[h.k8 x hx];omega) (by rw[h.k8 x hx];omega))⟩,hd.nl,hd.cap,hd.ne⟩
  rw[<-hnx1] at hdp
  refine⟨colD col z vm' v2 v3 v4 (.slice ac cs.length cc),{ b with vm:=vm',ms:=b.ms++[⟨(b.ms.length:Nat),tag,ai,cs.length,ci,ap,zs.length,cp,ak,cs.length,ck,ch,ac,cs.length,cc,true,false,cs,zs⟩],ND:=madeN b.ND v2 v3 v4 (.slice ac cs.length cc) },nx1,fun k=>?_,fun k hk h0=>?_,hf.weak (fun k _ e=>hE k e),⟨hdc,⟨(hce 1 (by omega)).trans h.ad.c1,(hce 2 (by omega)).trans h.ad.c2,(hce 3 (by omega)).trans h.ad.c3,ints_fr hf h.ad.i0 (fun _ x hx=>hnE _ (by rw[h.k9 x hx];omega) (by rw[h.k9 x hx];omega)),ints_fr hf h.ad.i1 (fun _ x hx=>hnE _ (by rw[h.k10 x hx];omega) (by rw[h.k10 x hx];omega))⟩,(hce 0 (by omega)).trans h.c0,hdp,?_,fun x hx=>?_,fun x hx=>?_,fun x hx=>?_,fun k hk=>?_,fun k hk=>?_⟩,Or.inr ⟨cs,zs,ch,e1,e2,h0,h1,h5,hpd⟩,Or.inr ⟨cs,zs,ch,_,e1,rfl,rfl,rfl,rfl,rfl,rfl,hnx1⟩⟩
  ·unfold colD
   split
   ·rename_i e
    exact Or.inr ⟨e.1,by omega,by omega,(hdp.ow.blk k e.2).2⟩
   ·split
    ·rename_i e
     exact Or.inr ⟨e.1,by omega,by omega,(hdp.nN k (Or.inr e.2)).1⟩
    ·exact Or.inl rfl
  ·unfold colD
   rw[if_neg (fun e=>by have:=hvm' k e.2;omega),if_neg (fun e=>by have:=hli k e.2;omega)]
   exact h0
  ·rw[hkeep D (by rw[h.k7];omega)];exact h.k7
  ·rw[hkeep _ (by rw[h.k8 x hx];omega)];exact h.k8 x hx
  ·rw[hkeep _ (by rw[h.k9 x hx];omega)];exact h.k9 x hx
  ·rw[hkeep _ (by rw[h.k10 x hx];omega)];exact h.k10 x hx
  ·rcases hvm' k hk with e|e
   ·rw[hkeep k (by omega)];exact e
   ·unfold colD;rw[if_pos ⟨e.1,hk⟩]
  ·rcases hk with hk|hk
   ·rw[hkeep k (by rw[h.k12 k hk];omega)];exact h.k12 k hk
   ·have h1:=hli k hk
    have h2:=hz k h1
    unfold colD
    rw[if_neg (fun e=>(hdp.nN k (Or.inr hk)).2.2 e.2),if_pos ⟨h2,hk⟩]
theorem pres_shape {pz:Sum Int (List CoinD×LII×Int)} (h:PRes pz md tag v0 v1 v2 v3 v4 v5 er base w):∃ n0 t ai ni ci ap np cp ak nk ck ch,v0=.int .i64 n0/\v1=.int .i64 t/\v2=.slice ai ni ci/\v3=.slice ap np cp/\v4=.slice ak nk ck/\v5=.int .i64 ch:=by
 rcases h with⟨x,_,_,h0,h1,h2,h3,h4,h5⟩|⟨cs,zs,ch,_,_,h0,h1,h5,h6⟩
 ·exact⟨_,_,_,_,_,_,_,_,_,_,_,_,h0,h1,h2,h3,h4,h5⟩
 ·obtain⟨ai,ci,e2,_⟩:=OwnRec.at inC3 h6.oi
  obtain⟨ap,cp,e3,_⟩:=OwnRec.at kv2 h6.oo
  obtain⟨ak,ck,e4,_⟩:=OwnRec.at kC2 h6.ok
  exact⟨_,_,_,_,_,_,_,_,_,_,_,_,h0,h1,e2,e3,e4,h5⟩
structure S1 (z:Nat) (s:Int) (g:Nat) (N:NPr) (q:Nat) (col:NtN) (G P D Dr:Nat) (a:PgP) (b:DgP) (nx:Nat) (md1 nx1:Int) (w:World):Prop where
 pg:Pg col z w P s g (b.bls.length:Nat) a md1 nx1
 dg:Dg col z N w D s g b nx
 dr:DrA col z w Dr q
 gm:VRow w G 0 [.pointer (some ⟨P,0,none⟩),.pointer (some ⟨D,0,none⟩),.pointer (some ⟨Dr,0,none⟩)]
 kg:col G=z+6
 nz:∀ k,w.heap.size<=k->col k=0
 nn:∀ k,N k->col k=0/\k<w.heap.size
theorem S1.mv (h:S1 z s g N q col G P D Dr a b nx md1 nx1 w) (hf:Fr E w w') (hE:∀ k,E k->¬(z+1<=col k/\col k<=z+24)) (hN:∀ k,N k->¬E k) (hc:∀ k,col k≠0->col' k=col k) (hn:∀ k,N k->col' k=0) (hz:∀ k,w'.heap.size<=k->col' k=0):S1 z s g N q col' G P D Dr a b nx md1 nx1 w':=
 ⟨h.pg.mv hf (fun k e h=>hE k e (by omega)) hc,h.dg.mv hf (fun k e h=>hE k e (by omega)) hN hc,h.dr.mv hf (fun k e h=>hE k e (by omega)) hc leR,hf.vrow h.gm (fun e=>hE G e (by rw[h.kg];omega)),by rw[hc G (by rw[h.kg];omega)];exact h.kg,hz,fun k hk=>⟨hn k hk,ltL (h.nn k hk).2 hf.size⟩⟩
theorem S1.grown (h:S1 z s g N q col G P D Dr a b nx md1 nx1 w) (hb:Below w.heap.size w w'):S1 z s g N q col G P D Dr a b nx md1 nx1 w':=
 h.mv (Fr.of_below hb (fun _=>False)) (fun _ e=>e.elim) (fun _ _ e=>e) (fun _ _=>rfl) (fun k hk=>(h.nn k hk).1) (fun k hk=>h.nz k (leT hb.size hk))
theorem S1.lt (h:S1 z s g N q col G P D Dr a b nx md1 nx1 w) (hk:col k≠0):k<w.heap.size:=
 Classical.byContradiction fun e=>hk (h.nz k (by omega))
structure YA (z:Nat) (s:Int) (g:Nat) (N:NPr) (q:Nat) (col:NtN) (G P D Dr:Nat) (a:PgP) (b:DgP) (nx:Nat) (ys:LII) (r tag:Int) (XE:NPr) (w:World) (col1:NtN) (a1:PgP) (md1 nx1:Int) (K:Nat) (v0 v1 v2 v3 v4 v5:Value) (er:Int) (wx:World):Prop where
 s1:S1 z s g N (13*q) col1 G P D Dr a1 b nx md1 nx1 wx
 ext:Ext z 1 24 col col1 wx
 old:∀ k,k<w.heap.size->col k=0->col1 k=0
 fr:Fr (fun k=>(z<col k/\col k<=z+24)\/XE k) w wx
 vb:VB wx K v0 v1 v2 v3 v4 v5
 kk:col1 K=0/\w.heap.size<=K
 res:PRes (payZ a.xs s g a.ps a.ks nx ys r tag) (b.ms.length:Nat) tag v0 v1 v2 v3 v4 v5 er w.heap.size wx
 lst:∀ k,(v2.ownBlock=some k\/v3.ownBlock=some k\/v4.ownBlock=some k)->col1 k=0/\k≠K
 rel:PRel (payZ a.xs s g a.ps a.ks nx ys r tag) a a1 (b.ms.length:Nat) (nx:Int) md1 nx1 tag
theorem YA.fr' {col1:NtN} (h:YA z s g N q col G P D Dr a b nx ys r tag XE w col1 a1 md1 nx1 K v0 v1 v2 v3 v4 v5 er wx) (hf:Fr E wx wy) (hE:∀ k,E k->col1 k=0/\¬N k/\k≠K/\¬(v2.ownBlock=some k\/v3.ownBlock=some k\/v4.ownBlock=some k)) (hw:∀ k,E k->XE' k) (hx:∀ k,XE k->XE' k):YA z s g N q col G P D Dr a b nx ys r tag XE' w col1 a1 md1 nx1 K v0 v1 v2 v3 v4 v5 er wy:=
 ⟨h.s1.mv hf (fun k e=>by have:=(hE k e).1;omega) (fun k hk e=>(hE k e).2.1 hk) (fun _ _=>rfl) (fun k hk=>(h.s1.nn k hk).1) (fun k hk=>h.s1.nz k (leT hf.size hk)),h.ext.weak leR leR hf.size,h.old,(h.fr.weak (fun k _ e=>e.imp id (hx k))).trans (hf.weak (fun k _ e=>Or.inr (hw k e))),h.vb.fr hf (fun e=>(hE K e).2.2.1 rfl),h.kk,h.res.fr hf (fun k hk e=>(hE k e).2.2.2 hk),h.lst,h.rel⟩
theorem YA.grown {col1:NtN} (h:YA z s g N q col G P D Dr a b nx ys r tag XE w col1 a1 md1 nx1 K v0 v1 v2 v3 v4 v5 er wx) (hb:Below wx.heap.size wx wy):YA z s g N q col G P D Dr a b nx ys r tag XE w col1 a1 md1 nx1 K v0 v1 v2 v3 v4 v5 er wy:=
 h.fr' (Fr.of_below hb (fun _=>False)) (fun _ e=>e.elim) (fun _ e=>e.elim) (fun _ e=>e)
theorem fr6K (w:World) (B:Nat) (b0 b1 b2 b3 b4 b5:Value):Fr (fun k=>k=B) w ((((((w.setCell ⟨B,0,none⟩ b0).setCell ⟨B,1,none⟩ b1).setCell ⟨B,2,none⟩ b2).setCell ⟨B,3,none⟩ b3).setCell ⟨B,4,none⟩ b4).setCell ⟨B,5,none⟩ b5):=
 ((((((Fr.refl (fun k=>k=B) w).set B 0 b0 (fun _=>rfl)).set B 1 b1 (fun _=>rfl)).set B 2 b2 (fun _=>rfl)).set B 3 b3 (fun _=>rfl)).set B 4 b4 (fun _=>rfl)).set B 5 b5 (fun _=>rfl)
theorem AG.ya1 (h:AG z s g N q col G P D Dr a b nx w) (hb:Below w.heap.size w w1) (hr:PayOkR a.NP P s g a.v (b.bls.length:Nat) a.xs a.vl a.vs (b.ms.length:Nat) (nx:Int) a.ps a.ks ys r tag v0 v1 v2 v3 v4 v5 er w1 w3):
 (∃ col1 a1 md1 nx1,YA z s g N q col G P D Dr a b nx ys r tag XE w col1 a1 md1 nx1 w3.heap.size v0 v1 v2 v3 v4 v5 er (w3.alloc (.cells #[v0,v1,v2,v3,v4,v5] 38)))/\
 (∀ K,w.heap.size<=K->K<w1.heap.size->(∀ j,w1.frozen? ⟨K,j,none⟩=false)->(∃ a0 a1 a2 a3 a4 a5,VB w1 K a0 a1 a2 a3 a4 a5)->∃ col1 a1 md1 nx1,YA z s g N q col G P D Dr a b nx ys r tag XE w col1 a1 md1 nx1 K v0 v1 v2 v3 v4 v5 er ((((((w3.setCell ⟨K,0,none⟩ v0).setCell ⟨K,1,none⟩ v1).setCell ⟨K,2,none⟩ v2).setCell ⟨K,3,none⟩ v3).setCell ⟨K,4,none⟩ v4).setCell ⟨K,5,none⟩ v5)):=by
 have h1:=h.grown hb
 obtain⟨col1,a1,md1,nx1,e1,e2,e3,e4,e5,e6,e7⟩:=h1.payA hr
 have hsz:=hb.size
 have hkeep:∀ k,col k≠0->col1 k=col k:=fun k hk=>e1.same hk
 have hz3:∀ k,w3.heap.size<=k->col1 k=0:=Ext.zero (w:=w1) e1 e3.size h1.nz
 have hnn:∀ k,N k->col1 k=0/\k<w3.heap.size:=fun k hk=>⟨e2 k (h1.nn k hk).2 (h1.nn k hk).1,ltL (h1.nn k hk).2 e3.size⟩
 have hS:S1 z s g N (13*q) col1 G P D Dr a1 b nx md1 nx1 w3:=⟨e4,h1.dg.mv e3 (fun k e=>by omega) (fun k hk e=>by have:=(h1.nn k hk).1;omega) hkeep,h1.dr.mv e3 (fun k e=>by omega) hkeep leR,e3.vrow h1.gm (fun e=>by have:=h1.kg;omega),by rw[hkeep G (by rw[h1.kg];omega)];exact h1.kg,hz3,hnn⟩
 have hfr:Fr (fun k=>(z<col k/\col k<=z+24)\/XE k) w w3:=(Fr.of_below hb _).trans (e3.weak (fun k _ e=>Or.inl (by omega)))
 have hlow:PRes (payZ a.xs s g a.ps a.ks nx ys r tag) (b.ms.length:Nat) tag v0 v1 v2 v3 v4 v5 er w.heap.size w3:=by
  rcases e5 with e|⟨cs,zs,ch,f1,f2,f3,f4,f5,f6⟩
  ·exact Or.inl e
  ·exact Or.inr ⟨cs,zs,ch,f1,f2,f3,f4,f5,f6.lower hsz⟩
 refine⟨⟨col1,a1,md1,nx1,?_⟩,fun K hK1 hK2 hKf ⟨b0,b1,b2,b3,b4,b5,hvb⟩=>⟨col1,a1,md1,nx1,?_⟩⟩
 ·have hb3:Below w3.heap.size w3 (w3.alloc (.cells #[v0,v1,v2,v3,v4,v5] 38)):=(Below.refl _ _).alloc leR _
  exact⟨hS.grown hb3,e1.weak leR leR hb3.size,fun k hk h0=>e2 k (by omega) h0,hfr.trans (Fr.of_below hb3 _),VB.new _ _ _ _ _ _ _ _,⟨hz3 _ leR,leT hsz e3.size⟩,hlow.grown hb3,fun k hk=>⟨e6 k hk,fun e=>by have:=(hlow.blk k hk).2;omega⟩,e7⟩
 ·have hcK:col K=0:=h.nz K hK1
  have hcK1:col1 K=0:=e2 K hK2 hcK
  have hf:Fr (fun k=>k=K) w3 ((((((w3.setCell ⟨K,0,none⟩ v0).setCell ⟨K,1,none⟩ v1).setCell ⟨K,2,none⟩ v2).setCell ⟨K,3,none⟩ v3).setCell ⟨K,4,none⟩ v4).setCell ⟨K,5,none⟩ v5):=fr6K w3 K v0 v1 v2 v3 v4 v5
  have hvb3:=hvb.fr e3 (fun e=>by omega)
  have hnK:∀ k,(v2.ownBlock=some k\/v3.ownBlock=some k\/v4.ownBlock=some k)->k≠K:=fun k hk e=>by
   have:=(e5.blk k hk).1
   omega
  exact⟨hS.mv hf (fun k e=>by rw[e,hcK1];omega) (fun k hk e=>by subst e;have:=(h.nn k hk).2;omega) (fun _ _=>rfl) (fun k hk=>(hnn k hk).1) (fun k hk=>hz3 k (leT hf.size hk)),e1.weak leR leR hf.size,fun k hk h0=>e2 k (by omega) h0,Fr.trans_new2 hfr hf (fun k e=>by omega),(((((hvb3.s0 v0).s1 v1).s2 v2).s3 v3).s4 v4).s5 v5,⟨hcK1,hK1⟩,hlow.fr hf (fun k hk e=>hnK k hk e),fun k hk=>⟨e6 k hk,hnK k hk⟩,e7⟩
theorem info28:(Tryz.prog.info? 28).map (fun i=>(i.zero,i.size,i.bytes))=some (some (.slice none 0 0),1,24):=by kernel_rfl
theorem keepOuts_some (col:NtN) (z Dr q g n cc:Nat) (w:World) (hd:DrA col z w Dr q) (hz:∀ k,w.heap.size<=k->col k=0) (hr:Room w g (cc*2)) (hgc:col g=0) (hgw:g<w.heap.size) (hnc:n<=cc) (hq:q<=20000000) (hcc:cc<=9223372036854775807):
 Calls Tryz.prog 173 #[.pointer (some ⟨Dr,0,none⟩),.slice (some ⟨g,0,none⟩) n cc] w fun e w'=>e=.returned (.tuple #[])/\KeptR col z Dr q (fun k=>k=g) w w':=by
 obtain⟨z0,n0⟩:=hd.n0
 have f0:=hd.fz 0
 have hDl:Dr<w.heap.size:=hd.lt
 have hDg:Dr≠g:=fun e=>by have:=hd.kd;rw[e,hgc] at this;omega
 have HR:=hiD hr
 have HKD:=hiD hd.kd
 have HZ:=hiD hz
 have HLZ:Hid (∀ k,k=g->col k=0):=fun k e=>by rw[e];exact hgc
 have e0:(0:Int)<=(cc:Int):=by omega
 have e1:(cc:Int)<=(cc:Int):=by omega
 obtain⟨z1,hz1e⟩:∃ z1,IntKind.i64.wrap (z0+1)=z1:=⟨_,rfl⟩
 have HD1:Hid (DrA col z (w.setCell ⟨Dr,0,none⟩ (.int .i64 z1)) Dr q):=(hd.tick z1).1
 have c1:=(hd.tick z1).2
 have HW1:Hid (Wrote (fun k=>k=g\/k=Dr) w (w.setCell ⟨Dr,0,none⟩ (.int .i64 z1))):=(Wrote.refl _ w).set Dr 0 _ (Or.inr rfl)
 have HS1:Hid ((w.setCell ⟨Dr,0,none⟩ (.int .i64 z1)).heap.size=w.heap.size):=by show _=_;simp
 clear hd hr hz hgc
 go_enter Tryz.func173,Tryz.ntmps173
 go_wp2
 clear hz1e
 generalize w.setCell ⟨Dr,0,none⟩ (.int .i64 z1)=w1 at *
 clear n0 f0
 go_loopw [5] (fun i wr=>∃ j:Nat,j<=cc/\i=.int .i64 j/\Wrote (fun k=>k=g) w1 wr/\Hid (VRow wr g 0 ((List.replicate j z1).flatMap (patOf 3)))) (fun i _=>cc-(intOf i).toNat)
 case atStart=>exact⟨0,Nat.zero_le _,rfl,Wrote.refl _ _,fun j hj=>by simp at hj⟩
 case round=>
  obtain⟨j,hj,rfl,hw,hv⟩:=hrel
  have m0:=hw.fr.cell c1 hDg
  by_cases hjt:j<cc
  ·have hro:=(HW1.out.trans (hw.weak (fun k _ e=>Or.inl e))).room _ _ HR.out
   obtain⟨v0,d0⟩:=hro.here (j*2) (by omega)
   obtain⟨v1,d1⟩:=hro.here (j*2+1) (by omega)
   have fz0:=hro.free (j*2) (by omega)
   have fz1:=hro.free (j*2+1) (by omega)
   have e2:(0:Int)<=(j:Int):=by omega
   have e3:(j:Int)<(cc:Int):=by omega
   have hgD:g≠Dr:=fun e=>hDg e.symm
   have HWW:=hiD hw
   have HLL:Hid (((List.replicate j z1).flatMap (patOf 3)).length=j*2):=rep_len (patOf 3) 2 (fun _=>rfl) j z1
   have HSN:Hid ((List.replicate (j+1) z1).flatMap (patOf 3)=(List.replicate j z1).flatMap (patOf 3)++patOf 3 z1):=rep_snoc (patOf 3) j z1
   have HP0:=hiD hv.out
   have HP1:Hid (VRow (wr.setCell ⟨g,j*2,none⟩ (.int .i64 z1)) g 0 (((List.replicate j z1).flatMap (patOf 3))++[.int .i64 z1])):=VRow.put HP0.out (n:=j*2) (by have:=HLL.out;omega) _ ⟨_,d0⟩
   have HP2:Hid (VRow ((wr.setCell ⟨g,j*2,none⟩ (.int .i64 z1)).setCell ⟨g,j*2+1,none⟩ (.int .i64 z1)) g 0 ((((List.replicate j z1).flatMap (patOf 3))++[.int .i64 z1])++[.int .i64 z1])):=VRow.put HP1.out (n:=j*2+1) (by simp only[List.length_append,List.length_cons,List.length_nil];have:=HLL.out;omega) _ ⟨_,so (d1) (by omega)⟩
   have HPF:Hid (VRow ((wr.setCell ⟨g,j*2,none⟩ (.int .i64 z1)).setCell ⟨g,j*2+1,none⟩ (.int .i64 z1)) g 0 ((List.replicate (j+1) z1).flatMap (patOf 3))):=by show VRow _ _ _ _;rw[HSN.out];show VRow _ g 0 ((List.replicate j z1).flatMap (patOf 3)++[.int .i64 z1,.int .i64 z1]);have:=HP2.out;simpa only[List.append_assoc,List.cons_append,List.nil_append] using this
   clear hro hw hv HP0 HP1 HP2
   go_wp2
   go_region
   all_goals
    go_wp2
    go_roundw
    case rel=>exact⟨j+1,by omega,by go_num,((HWW.out.set g (j*2) _ rfl).set g (j*2+1) _ rfl).drew,HPF⟩
    case measure=>simp[intOf];omega
  ·have hjc:j=cc:=by omega
   subst hjc
   have hwz:=hw.fr.size
   have hD2:DrA col z wr Dr q:=HD1.out.mv hw.fr (fun k e=>by rw[e,HLZ.out g rfl];omega) (fun _ _=>rfl) leR
   have HXK:Hid (KeptAt (patOf 3) wr ⟨some ⟨g,0,none⟩,j,j⟩ z1):=Or.inr ⟨hcc,g,rfl,hv.out⟩
   have HXC:Hid (∀ k,(CbD.mk (some ⟨g,0,none⟩) j j).blk=some k->col k=0/\k<wr.heap.size):=fun k hk=>by
    unfold CbD.blk at hk
    split at hk
    ·cases hk
    ·simp only[Option.map_some,Option.some.injEq] at hk
     subst hk
     exact⟨HLZ _ rfl,by have:=HS1.out;omega⟩
   have HXL:Hid (∀ k,(CbD.mk (some ⟨g,0,none⟩) j j).blk=some k->k=g):=fun k hk=>by
    unfold CbD.blk at hk
    split at hk
    ·cases hk
    ·simp only[Option.map_some,Option.some.injEq] at hk
     exact hk.symm
   have HZR:Hid (∀ k,wr.heap.size<=k->col k=0):=fun k hk=>HZ.out k (by have:=HS1.out;omega)
   have HFW:Hid (Fr (fun k=>k=Dr\/k=g) w wr):=(HW1.out.fr.weak (fun k _ e=>e.elim Or.inr Or.inl)).trans (hw.fr.weak (fun k _ e=>Or.inr e))
   clear hw hv hwz
   obtain⟨V,W,cs,ns,hk⟩:=hD2.kn 3 (by omega) (by omega)
   have m5:=hk.ca
   have mf5:=hD2.fz 3
   have HD2:=hiD hD2
   have HK:=hiD hk
   have HOC:=hiD hk.oc
   have HLC:Hid (cs.length<=q):=by show _<=_;rw[hk.ln];exact hk.lq
   have HLN:=hiD hk.lq
   clear hD2 hk
   go_upto_region 7 with (at_builtin;refine wpList_appR 72 24 _ Tryz.underlying72 info28 rfl (by decide) cb1 cbv_one (wr.alloc (.cells #[.slice (some ⟨g,0,none⟩) j j] 28)) rfl _ _ rfl 0 wr.heap.size 1 V cs ⟨some ⟨g,0,none⟩,j,j⟩ (by rfl) (by rfl) (HOC.out.alloc _) (vrow_new _ _ _) (Nat.zero_le _) (by have:=HLC.out;unfold maxLen;omega) (by have:=HLC.out;omega) ?_;intro g5 cap5 w5 hown5 hg5 hl5 hlt5;have h6:=dr_one HD2 HK (by omega) HZR m0 HXK HXC rfl hown5 hg5 hl5;have k5:=h6.1;have kf5:=h6.2.1;have H6:Hid _:=h6;clear h6)
   obtain⟨_,_,hB6,fr6,ex6,ey6⟩:=H6.out
   have x0:=hB6.c0
   have x10:=hB6.cb
   have xf10:=hB6.fz 8
   have HB6:Hid _:=hB6
   have HFR6:Hid _:=fr6
   have HEX6:Hid _:=ex6
   have HEY6:Hid _:=ey6
   have hbv:some Dr≠W.ownBlock:=fun e=>by have h1:=hB6.kw _ e.symm;have h2:=hB6.kd;omega
   have HON:=hiD hB6.on
   have hD6:Dr<(w5.setCell ⟨Dr,3,none⟩ (.slice (some ⟨g5,0,none⟩) (cs.length+1) cap5)).heap.size:=cell_lt x0
   clear k5 kf5 H6 m0 m5 mf5 hown5 hg5 hl5 hlt5 hB6 fr6 ex6 ey6 HOC
   generalize hw6:w5.setCell ⟨Dr,3,none⟩ (.slice (some ⟨g5,0,none⟩) (cs.length+1) cap5)=w6 at *
   have HW6:=hiD hw6
   clear hw6
   go_region_law (refine step_appR 44 8 _ Tryz.underlying44 info3 rfl (by decide) iv1 iv_one _ ?_ (.tmp 49) (.tmp 54) ?_ 0 w6.heap.size 1 W ns z1 ?_ ?_ ?_ ?_ ?_ ?_ ?_ ?_;rfl;rfl;rfl;rfl;exact OwnRec.drew (HON.out.alloc _);exact VRow.drew (vrow_new w6 _ _);exact Nat.zero_le _;(have:=HLN.out;unfold maxLen;omega);(have:=HLN.out;omega);intro g7 cap7 w7 hown7 hg7 hl7 hlt7;have k0:=keepO hg7 x10 hbv;have k1:=keepF hg7 xf10 hD6 hbv)
   all_goals
    go_wp2
    go_end0
    refine⟨rfl,?_⟩
    have e6:=HW6.out
    subst e6
    exact dr_end (a:=3) HKD HK.out.kv HK.out.kw (by omega) HZ HFW HXL HB6 HFR6 HEX6 HEY6 rfl hown7 hg7 hl7
theorem keepOuts_none (col:NtN) (z Dr q:Nat) (w:World) (hd:DrA col z w Dr q) (hz:∀ k,w.heap.size<=k->col k=0) (hq:q<=20000000):
 Calls Tryz.prog 173 #[.pointer (some ⟨Dr,0,none⟩),.slice none 0 0] w fun e w'=>e=.returned (.tuple #[])/\KeptR col z Dr q (fun _=>False) w w':=by
 obtain⟨z0,n0⟩:=hd.n0
 have f0:=hd.fz 0
 have hDl:Dr<w.heap.size:=hd.lt
 have HKD:=hiD hd.kd
 have HZ:=hiD hz
 have HLZ:Hid (∀ k,False->col k=0):=fun k e=>e.elim
 obtain⟨z1,hz1e⟩:∃ z1,IntKind.i64.wrap (z0+1)=z1:=⟨_,rfl⟩
 have HD1:Hid (DrA col z (w.setCell ⟨Dr,0,none⟩ (.int .i64 z1)) Dr q):=(hd.tick z1).1
 have c1:=(hd.tick z1).2
 have HFW0:Hid (Fr (fun k=>k=Dr\/False) w (w.setCell ⟨Dr,0,none⟩ (.int .i64 z1))):=(Fr.refl _ w).set Dr 0 _ (fun _=>Or.inl rfl)
 have HS1:Hid ((w.setCell ⟨Dr,0,none⟩ (.int .i64 z1)).heap.size=w.heap.size):=by show _=_;simp
 clear hd hz
 go_enter Tryz.func173,Tryz.ntmps173
 go_wp2
 clear hz1e
 generalize w.setCell ⟨Dr,0,none⟩ (.int .i64 z1)=w1 at *
 clear n0 f0
 refine wp_loop_rounds 1 ?_
 rw[rounds_succ]
 obtain⟨wr,rfl⟩:∃ wr:World,wr=w1:=⟨_,rfl⟩
 have m0:=c1
 have HFW:=hiD HFW0.out
 have hD2:DrA col z wr Dr q:=HD1.out
 have HXK:Hid (KeptAt (patOf 3) wr ⟨none,0,0⟩ z1):=Or.inl rfl
 have HXC:Hid (∀ k,(CbD.mk none 0 0).blk=some k->col k=0/\k<wr.heap.size):=fun k hk=>by
  unfold CbD.blk at hk
  rw[if_pos rfl] at hk
  cases hk
 have HXL:Hid (∀ k,(CbD.mk none 0 0).blk=some k->False):=fun k hk=>by
  unfold CbD.blk at hk
  rw[if_pos rfl] at hk
  cases hk
 have HZR:Hid (∀ k,wr.heap.size<=k->col k=0):=fun k hk=>HZ.out k (by have:=HS1.out;omega)
 clear c1
 obtain⟨V,W,cs,ns,hk⟩:=hD2.kn 3 (by omega) (by omega)
 have m5:=hk.ca
 have mf5:=hD2.fz 3
 have HD2:=hiD hD2
 have HK:=hiD hk
 have HOC:=hiD hk.oc
 have HLC:Hid (cs.length<=q):=by show _<=_;rw[hk.ln];exact hk.lq
 have HLN:=hiD hk.lq
 clear hD2 hk
 go_upto_region 7 with (at_builtin;refine wpList_appR 72 24 _ Tryz.underlying72 info28 rfl (by decide) cb1 cbv_one (wr.alloc (.cells #[.slice none 0 0] 28)) rfl _ _ rfl 0 wr.heap.size 1 V cs ⟨none,0,0⟩ (by rfl) (by rfl) (HOC.out.alloc _) (vrow_new _ _ _) (Nat.zero_le _) (by have:=HLC.out;unfold maxLen;omega) (by have:=HLC.out;omega) ?_;intro g5 cap5 w5 hown5 hg5 hl5 hlt5;have h6:=dr_one HD2 HK (by omega) HZR m0 HXK HXC rfl hown5 hg5 hl5;have k5:=h6.1;have kf5:=h6.2.1;have H6:Hid _:=h6;clear h6)
 obtain⟨_,_,hB6,fr6,ex6,ey6⟩:=H6.out
 have x0:=hB6.c0
 have x10:=hB6.cb
 have xf10:=hB6.fz 8
 have HB6:Hid _:=hB6
 have HFR6:Hid _:=fr6
 have HEX6:Hid _:=ex6
 have HEY6:Hid _:=ey6
 have hbv:some Dr≠W.ownBlock:=fun e=>by have h1:=hB6.kw _ e.symm;have h2:=hB6.kd;omega
 have HON:=hiD hB6.on
 have hD6:Dr<(w5.setCell ⟨Dr,3,none⟩ (.slice (some ⟨g5,0,none⟩) (cs.length+1) cap5)).heap.size:=cell_lt x0
 clear k5 kf5 H6 m0 m5 mf5 hown5 hg5 hl5 hlt5 hB6 fr6 ex6 ey6 HOC
 generalize hw6:w5.setCell ⟨Dr,3,none⟩ (.slice (some ⟨g5,0,none⟩) (cs.length+1) cap5)=w6 at *
 have HW6:=hiD hw6
 clear hw6
 go_region_law (refine step_appR 44 8 _ Tryz.underlying44 info3 rfl (by decide) iv1 iv_one _ ?_ (.tmp 49) (.tmp 54) ?_ 0 w6.heap.size 1 W ns z1 ?_ ?_ ?_ ?_ ?_ ?_ ?_ ?_;rfl;rfl;rfl;rfl;exact OwnRec.drew (HON.out.alloc _);exact VRow.drew (vrow_new w6 _ _);exact Nat.zero_le _;(have:=HLN.out;unfold maxLen;omega);(have:=HLN.out;omega);intro g7 cap7 w7 hown7 hg7 hl7 hlt7;have k0:=keepO hg7 x10 hbv;have k1:=keepF hg7 xf10 hD6 hbv)
 all_goals
  go_wp2
  go_end0
  refine⟨rfl,?_⟩
  have e6:=HW6.out
  subst e6
  exact dr_end (a:=3) HKD HK.out.kv HK.out.kw (by omega) HZ HFW HXL HB6 HFR6 HEX6 HEY6 rfl hown7 hg7 hl7
theorem keepOuts_any (col:NtN) (z Dr q:Nat) (v:Value) (w:World) (hd:DrA col z w Dr q) (hz:∀ k,w.heap.size<=k->col k=0) (hv:Handed 2 col w v) (hq:q<=20000000):
 Calls Tryz.prog 173 #[.pointer (some ⟨Dr,0,none⟩),v] w fun e w'=>e=.returned (.tuple #[])/\KeptR col z Dr q (fun k=>v.ownBlock=some k) w w':=by
 rcases hv with rfl|⟨g,n,cc,rfl,h1,h2,h3,h4,h5⟩
 ·refine(keepOuts_none col z Dr q w hd hz hq).mono ?_
  rintro e w' ⟨rfl,h⟩
  exact⟨rfl,h.weak (fun k e=>e.elim)⟩
 ·refine(keepOuts_some col z Dr q g n cc w hd hz h1 h2 h3 h4 hq h5).mono ?_
  rintro e w' ⟨rfl,h⟩
  exact⟨rfl,h.weak (fun k e=>by rw[e];rfl)⟩
end
end Go.Proofs.YtffgpepngcnjeabGreat
