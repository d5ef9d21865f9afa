import Derived.Test.YtffgpepngcnjeabGreatSbz
namespace Go.Proofs.YtffgpepngcnjeabGreat
section
open Go.RowKit

theorem AG.shift {s:Int} {g:Nat} {N:NPr} {q:Nat} {col:NtN} {G P D Dr:Nat} {a:PgP} {b:DgP} {nx:Nat} {w:World} (h:AG 0 s g N q col G P D Dr a b nx w) (hb:b.bls=[]) {z:Nat} {col':NtN} {N':NPr} (hc:∀ k j,col k=j->1<=j->col' k=z+j) (hz:∀ k,w.heap.size<=k->col' k=0) (hn:∀ k,N' k->col' k=0/\k<w.heap.size):AG z s g N' q col' G P D Dr a b nx w:=by
 have c1:∀ k j,col k=0+j->1<=j->col' k=z+j:=fun k j e hj=>hc k j (by omega) hj
 obtain⟨cs,hch⟩:=h.dg.dc.ch
 refine⟨⟨h.pg.pp,c1 _ _ h.pg.k1 (by omega),fun k hk=>c1 _ _ (h.pg.k2 k hk) (by omega),fun k hk=>c1 _ _ (h.pg.k3 k hk) (by omega),fun k hk=>c1 _ _ (h.pg.k4 k hk) (by omega),fun k hk=>(h.pg.k5 k hk).imp (fun e=>c1 _ _ e (by omega)) (fun e=>c1 _ _ e (by omega))⟩,
  ⟨⟨h.dg.dc.c4,h.dg.dc.f4,⟨cs,⟨hch.row,hch.len,fun i hi=>by rw[hb] at hi;simp at hi⟩⟩,h.dg.dc.nl,h.dg.dc.cap,h.dg.dc.ne⟩,h.dg.ad,h.dg.c0,h.dg.dp,c1 _ _ h.dg.k7 (by omega),fun k hk=>c1 _ _ (h.dg.k8 k hk) (by omega),fun k hk=>c1 _ _ (h.dg.k9 k hk) (by omega),fun k hk=>c1 _ _ (h.dg.k10 k hk) (by omega),fun k hk=>c1 _ _ (h.dg.k11 k hk) (by omega),fun k hk=>c1 _ _ (h.dg.k12 k hk) (by omega)⟩,
  ⟨h.dr.n0,h.dr.fz,c1 _ _ h.dr.kd (by omega),fun j j1 j5=>?_⟩,h.gm,c1 _ _ h.kg (by omega),h.lk,h.lp,h.ky,hz,hn,h.ml,h.kl,h.nl⟩
 obtain⟨V,W,cs,ns,u⟩:=h.dr.kn j j1 j5
 exact⟨V,W,cs,ns,⟨u.ca,u.cb,u.oc,u.on,u.ln,u.lq,u.kp,fun k hk=>by rw[hc k (13+j) (by have:=u.kv k hk;omega) (by omega)];omega,fun k hk=>by rw[hc k (18+j) (by have:=u.kw k hk;omega) (by omega)];omega,fun i hi k hk=>c1 _ _ (u.kl i hi k hk) (by omega)⟩⟩
theorem AG.tick {z:Nat} {s:Int} {g:Nat} {N:NPr} {q:Nat} {col:NtN} {G P D Dr:Nat} {a:PgP} {b:DgP} {nx:Nat} {w:World} (h:AG z s g N q col G P D Dr a b nx w) (x:Int):AG z s g N q col G P D Dr a b nx (w.setCell ⟨Dr,0,none⟩ (.int .i64 x)):=by
 have hf:Fr (fun k=>k=Dr) w (w.setCell ⟨Dr,0,none⟩ (.int .i64 x)):=(Fr.refl _ w).set Dr 0 _ (fun _=>rfl)
 have hkd:=h.dr.kd
 have hs:(w.setCell ⟨Dr,0,none⟩ (.int .i64 x)).heap.size=w.heap.size:=by simp
 exact⟨h.pg.mv hf (fun k e h=>by subst e;omega) (fun _ _=>rfl),h.dg.mv hf (fun k e h=>by subst e;omega) (fun k hk e=>by subst e;have:=(h.nn k hk).1;omega) (fun _ _=>rfl),(h.dr.tick x).1,hf.vrow h.gm (fun e=>by have:=h.kg;rw[e] at this;omega),h.kg,h.lk,h.lp,h.ky,fun k hk=>h.nz k (by omega),fun k hk=>⟨(h.nn k hk).1,by rw[hs];exact(h.nn k hk).2⟩,h.ml,h.kl,h.nl⟩
theorem AG.beside {z y:Nat} {s s':Int} {g g':Nat} {N:NPr} {q:Nat} {col:NtN} {G P D Dr G' P' D' Dr':Nat} {a:PgP} {b:DgP} {nx:Nat} {w w':World} (h:AG z s g N q col G P D Dr a b nx w) (hy:y+24<=z\/z+24<=y) {col':NtN} {a':PgP} {b':DgP} {nx':Nat} (he:Ext y 1 24 col col' w') (h2:AG y s' g' N (q+1) col' G' P' D' Dr' a' b' nx' w') (h3:Fr (fun k=>y<col k/\col k<=y+24) w w'):AG z s g N (q+1) col' G P D Dr a b nx w':=
 h.mv h3 (fun k e h=>by omega) (fun k hk e=>by have:=(h.nn k hk).1;omega) (fun k hk=>he.same hk) (fun k hk=>(h2.nn k hk).1) h2.nz (Nat.le_succ _)
def BInv (s:Int) (g:Nat) (s2:Int) (g2:Nat) (k G G2 B:Nat) (w:World):Prop:=
 ∃ col P D Dr a b nx P2 D2 Dr2 a2 b2 nx2,AG 0 s g (fun k=>k<B) k col G P D Dr a b nx w/\AG 24 s2 g2 (fun k=>k<B) k col G2 P2 D2 Dr2 a2 b2 nx2 w
section
variable {s s2:Int} {g g2 k G G2 B:Nat} {w w':World}
theorem BInv.grown (h:BInv s g s2 g2 k G G2 B w) (hb:Below w.heap.size w w'):BInv s g s2 g2 k G G2 B w':=by
 obtain⟨col,P,D,Dr,a,b,nx,P2,D2,Dr2,a2,b2,nx2,h1,h2⟩:=h
 exact⟨col,P,D,Dr,a,b,nx,P2,D2,Dr2,a2,b2,nx2,h1.grown hb,h2.grown hb⟩
theorem BInv.size (h:BInv s g s2 g2 k G G2 B w):B<=w.heap.size/\G<w.heap.size/\G2<w.heap.size:=by
 obtain⟨col,P,D,Dr,a,b,nx,P2,D2,Dr2,a2,b2,nx2,h1,h2⟩:=h
 refine⟨Classical.byContradiction fun e=>?_,h1.lt (by rw[h1.kg];omega),h2.lt (by rw[h2.kg];omega)⟩
 have:=(h1.nn w.heap.size (by omega)).2
 omega
theorem BInv.one (h:BInv s g s2 g2 k G G2 B w) (o:OpD) (ho:OpOk (fun k=>k<B) w o) (hf:fitZ s (g:Int)=true) (hq:k<=1048576):
 Calls Tryz.prog 28 #[.pointer (some ⟨G,0,none⟩),o.val] w fun e w'=>e=.returned (.bool true)/\BInv s g s2 g2 (k+1) G G2 B w'/\Fr (fun k=>B<=k) w w':=by
 obtain⟨col,P,D,Dr,a,b,nx,P2,D2,Dr2,a2,b2,nx2,h1,h2⟩:=h
 refine(stepAll_any 0 s g _ k col G P D Dr a b nx o w h1 ho hf hq).mono ?_
 rintro e w' ⟨rfl,col',a',b',nx',he,h3,h4⟩
 refine⟨rfl,⟨col',P,D,Dr,a',b',nx',P2,D2,Dr2,a2,b2,nx2,h3,h2.beside (by omega) he h3 h4⟩,h4.weak (fun j _ e=>?_)⟩
 exact Classical.byContradiction fun hn=>by have:=(h1.nn j (by omega)).1;omega
theorem BInv.two (h:BInv s g s2 g2 k G G2 B w) (o:OpD) (ho:OpOk (fun k=>k<B) w o) (hf:fitZ s2 (g2:Int)=true) (hq:k<=1048576):
 Calls Tryz.prog 28 #[.pointer (some ⟨G2,0,none⟩),o.val] w fun e w'=>e=.returned (.bool true)/\BInv s g s2 g2 (k+1) G G2 B w'/\Fr (fun k=>B<=k) w w':=by
 obtain⟨col,P,D,Dr,a,b,nx,P2,D2,Dr2,a2,b2,nx2,h1,h2⟩:=h
 refine(stepAll_any 24 s2 g2 _ k col G2 P2 D2 Dr2 a2 b2 nx2 o w h2 ho hf hq).mono ?_
 rintro e w' ⟨rfl,col',a',b',nx',he,h3,h4⟩
 refine⟨rfl,⟨col',P,D,Dr,a,b,nx,P2,D2,Dr2,a',b',nx',h1.beside (by omega) he h3 h4,h3⟩,h4.weak (fun j _ e=>?_)⟩
 exact Classical.byContradiction fun hn=>by have:=(h2.nn j (by omega)).1;omega
theorem BInv.look (h:BInv s g s2 g2 k G G2 B w) (hk:k<=1048577):(∃ Dr,w.cell? ⟨G,2,none⟩=some (.pointer (some ⟨Dr,0,none⟩))/\Calls Tryz.prog 29 #[.pointer (some ⟨Dr,0,none⟩)] w fun e w'=>e=.returned (.bool true)/\Below w.heap.size w w')/\∃ Dr,w.cell? ⟨G2,2,none⟩=some (.pointer (some ⟨Dr,0,none⟩))/\Calls Tryz.prog 29 #[.pointer (some ⟨Dr,0,none⟩)] w fun e w'=>e=.returned (.bool true)/\Below w.heap.size w w':=by
 obtain⟨col,P,D,Dr,a,b,nx,P2,D2,Dr2,a2,b2,nx2,h1,h2⟩:=h
 exact⟨⟨Dr,h1.gm 2 (by simp),looks_any col 0 Dr (13*k) w h1.dr (by omega)⟩,⟨Dr2,h2.gm 2 (by simp),looks_any col 24 Dr2 (13*k) w h2.dr (by omega)⟩⟩
end
theorem Game0.agE {w0 w:World} {s:Int} {g G D Dr:Nat} {vr vc:Value} (h:Game0 w0 w s g G D Dr vr vc):∃ col a b,b.bls=[]/\AG 0 s g (fun k=>k<w0.heap.size) 0 col G w0.heap.size D Dr a b 0 w:=by
  obtain⟨col,a,b,k⟩:=h.ag
  have e1:=k.dg.dc.c4
  rw[h.gi.dc.c4] at e1
  injection e1 with e1
  injection e1 with _ e2 _
  exact⟨col,a,b,List.eq_nil_of_length_eq_zero e2.symm,k⟩
def colB (B:Nat) (c1 c2:NtN) (k:Nat):Nat:=if k<B then c1 k else if c2 k=0 then 0 else 24+c2 k
theorem two_begun {s s2:Int} {g g2:Nat} {w0 w1 w2:World} {G D Dr G2 D2 Dr2:Nat} {vr vc vr2 vc2:Value} (h:Game0 w0 w1 s g G D Dr vr vc) (h2:Game0 w1 w2 s2 g2 G2 D2 Dr2 vr2 vc2) (hb:Below w1.heap.size w1 w2) (x:Int):w2.cell? ⟨G2,2,none⟩=some (.pointer (some ⟨Dr2,0,none⟩))/\w2.cell? ⟨Dr2,0,none⟩=some (.int .i64 0)/\w2.frozen? ⟨Dr2,0,none⟩=false/\BInv s g s2 g2 0 G G2 w0.heap.size (w2.setCell ⟨Dr2,0,none⟩ (.int .i64 x)):=by
  obtain⟨c1,a1,b1,k1⟩:=h.ag
  obtain⟨c2,a2,b2,e2,k2⟩:=h2.agE
  have hg2:w2.cell? ⟨G2,2,none⟩=some (.pointer (some ⟨Dr2,0,none⟩)):=k2.gm 2 (by simp)
  have hd0:w2.cell? ⟨Dr2,0,none⟩=some (.int .i64 0):=h2.dr 0 (by simp)
  have hs01:w0.heap.size<=w1.heap.size:=Nat.le_of_lt (k1.lt (by rw[k1.pg.k1];omega))
  have q2:∀ k,k<w1.heap.size->c2 k=0:=fun k hk=>(k2.nn k hk).1
  have hl2:∀ k,c2 k≠0->¬k<w1.heap.size:=fun k e hk=>e (q2 k hk)
  have hz:∀ k,w2.heap.size<=k->colB w1.heap.size c1 c2 k=0:=fun k hk=>by
    have hs:=hb.size
    unfold colB
    rw[if_neg (by omega),if_pos (k2.nz k hk)]
  have hn:∀ k,k<w0.heap.size->colB w1.heap.size c1 c2 k=0/\k<w2.heap.size:=fun k hk=>by
    have hs:=hb.size
    unfold colB
    rw[if_pos (by omega)]
    exact⟨(k1.nn k hk).1,by omega⟩
  have hA:AG 0 s g (fun k=>k<w0.heap.size) 0 (colB w1.heap.size c1 c2) G w0.heap.size D Dr a1 b1 0 w2:=(k1.grown hb).mv (Fr.refl (fun _=>False) w2) (fun _ e=>e.elim) (fun _ _ e=>e) (fun k hk=>by
    unfold colB
    rw[if_pos (k1.lt hk)]) (fun k hk=>(hn k hk).1) hz leR
  have hB:AG 24 s2 g2 (fun k=>k<w0.heap.size) 0 (colB w1.heap.size c1 c2) G2 w1.heap.size D2 Dr2 a2 b2 0 w2:=k2.shift e2 (fun k j e hj=>by
    unfold colB
    rw[if_neg (hl2 k (by omega)),if_neg (by omega),e]) hz hn
  refine⟨hg2,hd0,h2.df 0,colB w1.heap.size c1 c2,w0.heap.size,D,Dr,a1,b1,0,w1.heap.size,D2,Dr2,a2,b2,0,?_,hB.tick x⟩
  exact hA.mv ((Fr.refl (fun k=>k=Dr2) w2).set Dr2 0 _ (fun _=>rfl)) (fun k e h9=>by subst e;have:=hB.dr.kd;omega) (fun k hk e=>by subst e;have:=hB.dr.kd;have:=(hB.nn k hk).1;omega) (fun _ _=>rfl) (fun k hk=>(hn k hk).1) (fun k hk=>hz k (by rw[World.size_setCell] at hk;exact hk)) leR
end
end Go.Proofs.YtffgpepngcnjeabGreat
