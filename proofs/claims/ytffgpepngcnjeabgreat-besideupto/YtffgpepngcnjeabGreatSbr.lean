import Derived.Test.YtffgpepngcnjeabGreatSbn
import Derived.Test.YtffgpepngcnjeabGreatSbq
namespace Go.Proofs.YtffgpepngcnjeabGreat
set_option maxRecDepth 100000
set_option maxHeartbeats 8000000
section
open Go.RowKit
variable {z g q G P D Dr nx k o K m n off X i j:Nat} {s r tag er md1 nx1:Int} {N L1 L2 E:NPr} {col c1:NtN} {a:PgP} {b:DgP} {ys l:LII} {v0 v1 v2 v3 v4 v5 v a0 a1 a2 a3 a4 a5 x y u t:Value} {w w' w1 w2:World} {L:List CoinD}
abbrev PayAG (P:Nat) (s:Int) (g:Nat) (a:PgP) (b:DgP) (nx:Nat) (ys:LII) (r tag:Int) (v0 v1 v2 v3 v4 v5:Value) (er:Int) (w w':World):Prop:=
 PayOkR a.NP P s g a.v (b.bls.length:Nat) a.xs a.vl a.vs (b.ms.length:Nat) (nx:Int) a.ps a.ks ys r tag v0 v1 v2 v3 v4 v5 er w w'
theorem payS_any (ap:OAd) (m d:Nat) (ys:LII) (r tag:Int) (w:World) (h:AG z s g N q col G P D Dr a b nx w) (hs:Mk.isM s=true) (hg:1<=g) (hg2:g<=20) (hq:q<=10000000) (hy:OutsAt w ap ys) (hyn:ys.length=m):
 Calls Tryz.prog 34 #[.pointer (some ⟨P,0,none⟩),.slice ap m d,.int .i64 r,.int .i64 tag] w fun e w'=>∃ n0 t ai ni ci ap' np cp ak nk ck ch er,e=.returned (.tuple #[.agg #[.int .i64 n0,.int .i64 t,.slice ai ni ci,.slice ap' np cp,.slice ak nk ck,.int .i64 ch],.int .i64 er])/\PayAG P s g a b nx ys r tag (.int .i64 n0) (.int .i64 t) (.slice ai ni ci) (.slice ap' np cp) (.slice ak nk ck) (.int .i64 ch) er w w':=by
 have hlk:=h.lk.here
 have h40:=h.lk.len
 have hpl:=h.lp.len
 have hml:=h.ml
 have hkl:=h.kl
 refine(pay_any a.NP P s g a.v (b.bls.length:Nat) a.xs a.vl a.vs (b.ms.length:Nat) (nx:Int) a.ps a.ks ap m d ys r tag w hs hg hg2 h.pg.pp (by have:=hlk.2.2.2;omega) hlk.2.2.1 hy hyn ⟨by omega,by omega⟩ (by omega) (by omega)).mono ?_
 rintro e w' ⟨a0,a1,a2,a3,a4,a5,er,rfl,hr⟩
 obtain⟨_,_,_,_,_,_,_,_,hres,_⟩:=h.payA hr
 obtain⟨n0,t,ai,ni,ci,ap',np,cp,ak,nk,ck,ch,rfl,rfl,rfl,rfl,rfl,rfl⟩:=pres_shape hres
 exact⟨n0,t,ai,ni,ci,ap',np,cp,ak,nk,ck,ch,er,rfl,hr⟩
theorem payR_cell (h:AG z s g N q col G P D Dr a b nx w) (hr:PayAG P s g a b nx ys r tag v0 v1 v2 v3 v4 v5 er w w') (hc:w.cell? ⟨k,o,none⟩=some v) (h1:col k≠z+1) (h3:col k≠z+3):w'.cell? ⟨k,o,none⟩=some v:=by
 obtain⟨_,_,_,_,_,_,hf,_⟩:=h.payA hr
 exact hf.cell hc (fun e=>e.elim h1 h3)
theorem payR_vb (h:AG z s g N q col G P D Dr a b nx w) (hr:PayAG P s g a b nx ys r tag v0 v1 v2 v3 v4 v5 er w w') (hc:VB w K a0 a1 a2 a3 a4 a5) (h1:col K=0):VB w' K a0 a1 a2 a3 a4 a5:=by
 obtain⟨_,_,_,_,_,_,hf,_⟩:=h.payA hr
 exact hc.fr hf (fun e=>by omega)
theorem dPayS_any (L:List CoinD) (ap:OAd) (m d:Nat) (ys:LII) (r tag:Int) (w:World) (h:S1 z s g N q col G P D Dr a b nx md1 nx1 w) (hgd:Good b.bls) (h40:b.bls.length<=40) (hg2:g<=20) (hnx:nx<=1000) (hml:b.ms.length<=100000000) (hL:ownR (cellsR b.bls) (adrs s 0 100) (adrs s 1 100) (winR (cellsR b.bls) s g 0) (winR (cellsR b.bls) s g 1)=L) (hLl:L.length<=10000) (hv:CVals L) (hst:SortC L) (hy:OutsAt w ap ys) (hyn:ys.length=m):
 Calls Tryz.prog 114 #[.pointer (some ⟨D,0,none⟩),.slice ap m d,.int .i64 r,.int .i64 tag] w fun e w'=>∃ n0 t ai ni ci ap' np cp ak nk ck ch er,e=.returned (.tuple #[.agg #[.int .i64 n0,.int .i64 t,.slice ai ni ci,.slice ap' np cp,.slice ak nk ck,.int .i64 ch],.int .i64 er])/\DPayOk b.ND D (D+1) b.vm b.bls s g L b.ms nx ys r tag (.int .i64 n0) (.int .i64 t) (.slice ai ni ci) (.slice ap' np cp) (.slice ak nk ck) (.int .i64 ch) er w w':=by
 have hDl:D<w.heap.size:=cell_lt h.dg.c0
 refine(dPay_any N b.ND D (D+1) b.ao b.c b.bls s g b.ar b.cr b.ac b.cc b.vm nx b.ms L ap m d ys r tag w ⟨h.dg.dc,h.dg.ad,h.dg.dp,hy⟩ hgd h40 hg2 (by omega) hnx hml hL hLl hv hst hyn).mono ?_
 rintro e w' ⟨a0,a1,a2,a3,a4,a5,er,rfl,hr⟩
 obtain⟨_,_,_,_,_,_,_,hres,_⟩:=h.dg.payB h.nz (fun k hk=>(h.nn k hk).1) hr
 obtain⟨n0,t,ai,ni,ci,ap',np,cp,ak,nk,ck,ch,rfl,rfl,rfl,rfl,rfl,rfl⟩:=pres_shape hres
 exact⟨n0,t,ai,ni,ci,ap',np,cp,ak,nk,ck,ch,er,rfl,hr⟩
theorem dPayR_cell (h:Dg col z N w D s g b nx) (hz:∀ k,w.heap.size<=k->col k=0) (hN:∀ k,N k->col k=0) (hr:DPayOk b.ND D (D+1) b.vm b.bls s g L b.ms nx ys r tag v0 v1 v2 v3 v4 v5 er w w') (hc:w.cell? ⟨k,o,none⟩=some v) (h1:col k≠z+7) (h3:col k≠z+11):w'.cell? ⟨k,o,none⟩=some v:=by
 obtain⟨_,_,_,_,_,hf,_⟩:=h.payB hz hN hr
 exact hf.cell hc (fun e=>e.elim h1 h3)
theorem dPayR_vb (h:Dg col z N w D s g b nx) (hz:∀ k,w.heap.size<=k->col k=0) (hN:∀ k,N k->col k=0) (hr:DPayOk b.ND D (D+1) b.vm b.bls s g L b.ms nx ys r tag v0 v1 v2 v3 v4 v5 er w w') (hc:VB w K a0 a1 a2 a3 a4 a5) (h1:col K=0):VB w' K a0 a1 a2 a3 a4 a5:=by
 obtain⟨_,_,_,_,_,hf,_⟩:=h.payB hz hN hr
 exact hc.fr hf (fun e=>by omega)
theorem SOk.pre (h:SOk z s g N q col G P D Dr w1 w') (hb:Below w.heap.size w w1):SOk z s g N q col G P D Dr w w':=by
 obtain⟨col',a,b,nx,h1,h2,h3⟩:=h
 exact⟨col',a,b,nx,h1,h2,(Fr.of_below hb _).trans h3⟩
theorem kept_join (x1:Ext z 13 24 col c1 w1) (x3:Fr (fun k=>(z+13<=col k/\col k<=z+23)\/L1 k) w w1) (x4:∀ k,col k=0->k<w.heap.size->¬L1 k->c1 k=0) (h2:KeptM c1 z Dr (q+m) n L2 w1 w2):KeptM col z Dr q (m+n) (fun k=>L1 k\/L2 k) w w2:=by
 obtain⟨c2,v1,v2,v3,v4⟩:=h2
 refine⟨c2,x1.trans v1 v3.size,by rw[<-Nat.add_assoc];exact v2,⟨v3.os.trans x3.os,v3.tape.trans x3.tape,v3.output.trans x3.output,leT x3.size v3.size,fun k hk he=>?_⟩,fun k f1 f2 f3=>v4 k (x4 k f1 f2 (fun e=>f3 (Or.inl e))) (ltL f2 x3.size) (fun e=>f3 (Or.inr e))⟩
 have he1:¬((z+13<=col k/\col k<=z+23)\/L1 k):=fun e=>he (e.imp id Or.inl)
 refine(v3.block k (ltL hk x3.size) (fun e=>?_)).trans (x3.block k hk he1)
 rcases e with e|e
 ·rcases x1 k with e2|e2
  ·exact he (Or.inl (by omega))
  ·have:=x4 k e2.1 hk (fun e=>he1 (Or.inr e));omega
 ·exact he (Or.inr (Or.inr e))
theorem outsRow_fr (hf:Fr E w w') {b:Nat} (h:OutsRow w b off l) (he:¬E b):OutsRow w' b off l:=fun j hj=>⟨hf.cell (h j hj).1 he,hf.cell (h j hj).2 he⟩
theorem free_fr (hf:Fr E w w') {b:Nat} (h:Free w b off n) (hb:b<w.heap.size) (he:¬E b):Free w' b off n:=fun j hj=>(hf.frozen hb he).trans (h j hj)
theorem keepA3 (v0 v1 v2 v3 v4 v5:Value) (h1:G≠K) (h2:X≠K) (h:w.cell? ⟨G,0,none⟩=some x/\w.cell? ⟨X,i,none⟩=some y/\w.cell? ⟨X,j,none⟩=some u):
 ((((((w.setCell ⟨K,0,none⟩ v0).setCell ⟨K,1,none⟩ v1).setCell ⟨K,2,none⟩ v2).setCell ⟨K,3,none⟩ v3).setCell ⟨K,4,none⟩ v4).setCell ⟨K,5,none⟩ v5).cell? ⟨G,0,none⟩=some x/\((((((w.setCell ⟨K,0,none⟩ v0).setCell ⟨K,1,none⟩ v1).setCell ⟨K,2,none⟩ v2).setCell ⟨K,3,none⟩ v3).setCell ⟨K,4,none⟩ v4).setCell ⟨K,5,none⟩ v5).cell? ⟨X,i,none⟩=some y/\((((((w.setCell ⟨K,0,none⟩ v0).setCell ⟨K,1,none⟩ v1).setCell ⟨K,2,none⟩ v2).setCell ⟨K,3,none⟩ v3).setCell ⟨K,4,none⟩ v4).setCell ⟨K,5,none⟩ v5).cell? ⟨X,j,none⟩=some u:=by
 have hf:=fr6K w K v0 v1 v2 v3 v4 v5
 exact⟨hf.cell h.1 h1,hf.cell h.2.1 h2,hf.cell h.2.2 h2⟩
theorem keepA4 {l:Nat} (v0 v1 v2 v3 v4 v5:Value) (h1:G≠K) (h2:X≠K) (h:w.cell? ⟨G,1,none⟩=some x/\w.cell? ⟨X,i,none⟩=some y/\w.cell? ⟨X,j,none⟩=some u/\w.cell? ⟨X,l,none⟩=some t):
 ((((((w.setCell ⟨K,0,none⟩ v0).setCell ⟨K,1,none⟩ v1).setCell ⟨K,2,none⟩ v2).setCell ⟨K,3,none⟩ v3).setCell ⟨K,4,none⟩ v4).setCell ⟨K,5,none⟩ v5).cell? ⟨G,1,none⟩=some x/\((((((w.setCell ⟨K,0,none⟩ v0).setCell ⟨K,1,none⟩ v1).setCell ⟨K,2,none⟩ v2).setCell ⟨K,3,none⟩ v3).setCell ⟨K,4,none⟩ v4).setCell ⟨K,5,none⟩ v5).cell? ⟨X,i,none⟩=some y/\((((((w.setCell ⟨K,0,none⟩ v0).setCell ⟨K,1,none⟩ v1).setCell ⟨K,2,none⟩ v2).setCell ⟨K,3,none⟩ v3).setCell ⟨K,4,none⟩ v4).setCell ⟨K,5,none⟩ v5).cell? ⟨X,j,none⟩=some u/\((((((w.setCell ⟨K,0,none⟩ v0).setCell ⟨K,1,none⟩ v1).setCell ⟨K,2,none⟩ v2).setCell ⟨K,3,none⟩ v3).setCell ⟨K,4,none⟩ v4).setCell ⟨K,5,none⟩ v5).cell? ⟨X,l,none⟩=some t:=by
 have hf:=fr6K w K v0 v1 v2 v3 v4 v5
 exact⟨hf.cell h.1 h1,hf.cell h.2.1 h2,hf.cell h.2.2.1 h2,hf.cell h.2.2.2 h2⟩
abbrev Z91:Obj:=.cells #[.int .i64 0,.int .i64 0,.slice none 0 0,.slice none 0 0,.slice none 0 0,.int .i64 0] 38
theorem pays_any (z:Nat) (s:Int) (g:Nat) (N:NPr) (q:Nat) (col:NtN) (G P D Dr:Nat) (a:PgP) (b:DgP) (nx:Nat) (o:OpD) (w:World) (h:AG z s g N q col G P D Dr a b nx w) (ho:OpOk N w o) (hfit:fitZ s (g:Int)=true) (hq:q<=1048576):
 Calls Tryz.prog 68 #[.pointer (some ⟨G,0,none⟩),o.val] w fun e w'=>e=.returned (.bool true)/\SOk z s g N q col G P D Dr w w':=by
 obtain⟨kd,on,oa1,ob1,ab,m,d,bl,oa,om,od,ys⟩:=o
 obtain⟨hs,hg1,hg2⟩:=fitZ_yes hfit
 have hg1':1<=g:=by omega
 have hg2':g<=20:=by omega
 have hq1:q<=10000000:=by omega
 have HSM:=hiD hs
 have hb1:Below w.heap.size w (w.alloc (.cells #[.int .i64 kd,.int .i64 on,.int .i64 oa1,.int .i64 ob1,.slice ab m d,.slice oa om od] 82)):=(Below.refl _ _).alloc leR _
 obtain⟨x0,x1,x2,x3,x4,x5⟩:=six_at (vrow_new w [.int .i64 kd,.int .i64 on,.int .i64 oa1,.int .i64 ob1,.slice ab m d,.slice oa om od] 82)
 have HG1:=hiD (h.grown hb1)
 have HOU1:=hiD (ho.outs.grown hb1)
 have HOL:=hiD ho.ol
 have HON:=hiD ho.on
 have ho1:om<=8796093022208:=ho.o1
 have HO0:=hiD ho.o0
 have HB1:=hiD hb1
 have HXZ:Hid (col w.heap.size=0):=h.nz _ leR
 have HNL:Hid (∀ k,N k->k<w.heap.size/\col k=0):=fun k hk=>⟨(h.nn k hk).2,(h.nn k hk).1⟩
 have HSY:Hid (payZ a.xs s g a.ps a.ks nx ys oa1 ob1=payD b.bls s g (ownOf a.xs s g) b.ms nx ys oa1 ob1):=pay_sync h.lk h.lp s g nx hg2' ys oa1 ob1
 have HOW:Hid (ownR (cellsR b.bls) (adrs s 0 100) (adrs s 1 100) (winR (cellsR b.bls) s g 0) (winR (cellsR b.bls) s g 1)=ownOf a.xs s g):=by show _=_;rw[<-h.lk.here.1];exact own_sync a.xs s g hg2'
 have HVL:Hid (CVals (ownOf a.xs s g)):=own_vals a.xs s g h.lk.here.2.2.1
 have HST:Hid (SortC (ownOf a.xs s g)):=own_sorted a.xs s g hg2'
 have HLL:Hid ((ownOf a.xs s g).length<=10000):=by
  show _<=_
  have h1:=leT (ownZ_len (keysZ a.xs s g) (coinsC a.xs)) (coinsC_len a.xs)
  have h2:=h.lk.here.2.2.2
  have h3:=h.lk.len
  unfold ownOf
  omega
 have HOK:Hid (∀ x∈ownOf a.xs s g,Mk.isK s x.br x.ix=true):=own_keys hs
 have HGD:=hiD h.lk.good
 have h40:b.bls.length<=40:=h.lk.len
 have hml:b.ms.length<=100000000:=by have:=h.ml;omega
 have hnx:nx<=1000:=by have:=h.nl;omega
 have HPZ:Hid (∀ cs zs ch,payZ a.xs s g a.ps a.ks nx ys oa1 ob1=.inr (cs,zs,ch)->cs.length<=10/\zs.length<=8):=fun cs zs ch e=>⟨(payZ_inr e hg2').2.1,(payZ_inr e hg2').2.2.2.2.1⟩
 clear h ho hb1
 go_enter Tryz.func68,Tryz.ntmps68
 go_wp2_with fail
 generalize w.alloc (.cells #[.int .i64 kd,.int .i64 on,.int .i64 oa1,.int .i64 ob1,.slice ab m d,.slice oa om od] 82)=w1 at *
 generalize hX:w.heap.size=X at *
 have HXe:=hiD hX
 clear hX
 have hXl:X<w1.heap.size:=cell_lt x2
 refine(handedOutsF_any oa om od ys _ HOU1 HOL ho1 HO0).mono ?_
 rintro e w2 ⟨BH,rfl,hro,hfree,hBH,hb2⟩
 have HB12:=hiD hb2
 have HBW1:=hiD hBH
 have HG2:=hiD (HG1.out.grown hb2)
 have HBZ:Hid (col BH=0):=HG1.out.nz BH hBH
 have HRO:=hiD hro
 have HFR:=hiD hfree
 have HB2:Hid (Below X w w2):=HB1.out.trans (hb2.mono (by omega))
 have hBHl:BH<w2.heap.size:=cell_lt (hro 0 (by simp)).1
 have y2:=(hb2.cell (p:=⟨X,2,none⟩) hXl).trans x2
 have y3:=(hb2.cell (p:=⟨X,3,none⟩) hXl).trans x3
 have y5:=(hb2.cell (p:=⟨X,5,none⟩) hXl).trans x5
 have HOU2:=hiD (HOU1.out.grown hb2)
 have hX2:X<w2.heap.size:=cell_lt y2
 have g0:w2.cell? ⟨G,0,none⟩=some (.pointer (some ⟨P,0,none⟩)):=HG2.out.gm 0 (by simp)
 have HGG:Hid (col G=z+6/\G<w2.heap.size):=⟨HG2.out.kg,cell_lt g0⟩
 clear x0 x1 x2 x3 x4 x5 hro hfree hb2 HG1 HOU1
 have bA:Below w2.heap.size w2 w2.drew:=(Below.refl _ _).drew
 have bB:Below w2.heap.size w2 ((w2.alloc Z91).drew):=(bAl _ _).drew
 have HGA:Hid (AG z s g N q col G P D Dr a b nx w2.drew):=HG2.out.grown bA
 have HGB:Hid (AG z s g N q col G P D Dr a b nx ((w2.alloc Z91).drew)):=HG2.out.grown bB
 have HOA:Hid (OutsAt w2 (some ⟨BH,0,none⟩) ys):=Or.inr ⟨BH,0,rfl,HRO.out.head⟩
 have HOAA:Hid (OutsAt w2.drew (some ⟨BH,0,none⟩) ys):=HOA.out.grown bA
 have HOAB:Hid (OutsAt ((w2.alloc Z91).drew) (some ⟨BH,0,none⟩) ys):=HOA.out.grown bB
 have HSA:Hid (w2.drew.cell? ⟨G,0,none⟩=some (.pointer (some ⟨P,0,none⟩))/\w2.drew.cell? ⟨X,2,none⟩=some (.int .i64 oa1)/\w2.drew.cell? ⟨X,3,none⟩=some (.int .i64 ob1)):=⟨g0,y2,y3⟩
 have HSB:Hid (((w2.alloc Z91).drew).cell? ⟨G,0,none⟩=some (.pointer (some ⟨P,0,none⟩))/\((w2.alloc Z91).drew).cell? ⟨X,2,none⟩=some (.int .i64 oa1)/\((w2.alloc Z91).drew).cell? ⟨X,3,none⟩=some (.int .i64 ob1)):=⟨(bB.cell (p:=⟨G,0,none⟩) HGG.out.2).trans g0,(bB.cell (p:=⟨X,2,none⟩) hX2).trans y2,(bB.cell (p:=⟨X,3,none⟩) hX2).trans y3⟩
 have HKA:Hid (∀ (w3:World) v0 v1 v2 v3 v4 v5 er,PayAG P s g a b nx ys oa1 ob1 v0 v1 v2 v3 v4 v5 er w2.drew w3->w3.cell? ⟨G,0,none⟩=some (.pointer (some ⟨P,0,none⟩))/\w3.cell? ⟨X,2,none⟩=some (.int .i64 oa1)/\w3.cell? ⟨X,3,none⟩=some (.int .i64 ob1)):=fun w3 v0 v1 v2 v3 v4 v5 er hr=>⟨payR_cell HGA.out hr HSA.out.1 (by rw[HGG.out.1];omega) (by rw[HGG.out.1];omega),payR_cell HGA.out hr HSA.out.2.1 (by rw[HXZ.out];omega) (by rw[HXZ.out];omega),payR_cell HGA.out hr HSA.out.2.2 (by rw[HXZ.out];omega) (by rw[HXZ.out];omega)⟩
 have HKB:Hid (∀ (w3:World) v0 v1 v2 v3 v4 v5 er,PayAG P s g a b nx ys oa1 ob1 v0 v1 v2 v3 v4 v5 er ((w2.alloc Z91).drew) w3->w3.cell? ⟨G,0,none⟩=some (.pointer (some ⟨P,0,none⟩))/\w3.cell? ⟨X,2,none⟩=some (.int .i64 oa1)/\w3.cell? ⟨X,3,none⟩=some (.int .i64 ob1)):=fun w3 v0 v1 v2 v3 v4 v5 er hr=>⟨payR_cell HGB.out hr HSB.out.1 (by rw[HGG.out.1];omega) (by rw[HGG.out.1];omega),payR_cell HGB.out hr HSB.out.2.1 (by rw[HXZ.out];omega) (by rw[HXZ.out];omega),payR_cell HGB.out hr HSB.out.2.2 (by rw[HXZ.out];omega) (by rw[HXZ.out];omega)⟩
 obtain⟨K0,hK0⟩:∃ K0,w2.heap.size=K0:=⟨_,rfl⟩
 have HK0:=hiD hK0
 have HVZ:Hid (VB ((w2.alloc Z91).drew) K0 (.int .i64 0) (.int .i64 0) (.slice none 0 0) (.slice none 0 0) (.slice none 0 0) (.int .i64 0)):=by rw[<-hK0];exact(VB.new w2 _ _ _ _ _ _ 38).grown ((Below.refl _ _).drew)
 have HKZ:Hid (col K0=0):=HG2.out.nz _ (by omega)
 have HKC:Hid (∀ (w3:World) v0 v1 v2 v3 v4 v5 er,PayAG P s g a b nx ys oa1 ob1 v0 v1 v2 v3 v4 v5 er ((w2.alloc Z91).drew) w3->VB w3 K0 (.int .i64 0) (.int .i64 0) (.slice none 0 0) (.slice none 0 0) (.slice none 0 0) (.int .i64 0)):=fun w3 v0 v1 v2 v3 v4 v5 er hr=>payR_vb HGB.out hr HVZ.out HKZ.out
 have HGK:Hid (G≠K0/\X≠K0):=⟨by have:=HGG.out.2;omega,by omega⟩
 have HYA1:Hid (∀ (w3:World) v0 v1 v2 v3 v4 v5 er,PayAG P s g a b nx ys oa1 ob1 v0 v1 v2 v3 v4 v5 er w2.drew w3->∃ col1 a1 md1 nx1,YA z s g N q col G P D Dr a b nx ys oa1 ob1 (fun _=>False) w2 col1 a1 md1 nx1 w3.heap.size v0 v1 v2 v3 v4 v5 er (w3.alloc (.cells #[v0,v1,v2,v3,v4,v5] 38))):=fun w3 v0 v1 v2 v3 v4 v5 er hr=>(HG2.out.ya1 bA hr).1
 have HYA2:Hid (∀ (w3:World) v0 v1 v2 v3 v4 v5 er,PayAG P s g a b nx ys oa1 ob1 v0 v1 v2 v3 v4 v5 er ((w2.alloc Z91).drew) w3->∃ col1 a1 md1 nx1,YA z s g N q col G P D Dr a b nx ys oa1 ob1 (fun _=>False) w2 col1 a1 md1 nx1 K0 v0 v1 v2 v3 v4 v5 er ((((((w3.setCell ⟨K0,0,none⟩ v0).setCell ⟨K0,1,none⟩ v1).setCell ⟨K0,2,none⟩ v2).setCell ⟨K0,3,none⟩ v3).setCell ⟨K0,4,none⟩ v4).setCell ⟨K0,5,none⟩ v5)):=fun w3 v0 v1 v2 v3 v4 v5 er hr=>(HG2.out.ya1 bB hr).2 K0 (by omega) (by rw[World.size_drew,World.size_alloc];omega) HVZ.out.fz ⟨_,_,_,_,_,_,HVZ.out⟩
 go_upto_region 2 with fail
 go_cut [6,7] (fun uk uf wx=>∃ (col1:NtN) (a1:PgP) (md1 nx1:Int) (K:Nat) (n0 t:Int) (ai:OAd) (ni ci:Nat) (ap:OAd) (np cp:Nat) (ak:OAd) (nk ck:Nat) (ch er:Int),uk=.pointer (some ⟨K,0,none⟩)/\uf=.int .i64 er/\Hid (YA z s g N q col G P D Dr a b nx ys oa1 ob1 (fun _=>False) w2 col1 a1 md1 nx1 K (.int .i64 n0) (.int .i64 t) (.slice ai ni ci) (.slice ap np cp) (.slice ak nk ck) (.int .i64 ch) er wx))
 case first=>
  have HY5:=hiD y5
  clear y5 bA bB HB1 HB2 hBHl
  have hGl2:G<K0:=by have:=HGG.out.2;omega
  have hXl2:X<K0:=by omega
  have hGn:G≠K0:=HGK.out.1
  have hXn:X≠K0:=HGK.out.2
  clear HRO HFR HXe HON HO0 HOU2 hs hg1 hg2 HOA HG2 hXl hX2
  go_region_held3 (fun w'=>w'.cell? ⟨G,0,none⟩=some (.pointer (some ⟨P,0,none⟩))/\w'.cell? ⟨X,2,none⟩=some (.int .i64 oa1)/\w'.cell? ⟨X,3,none⟩=some (.int .i64 ob1)) (first|go_keep|exact keepA3 _ _ _ _ _ _ hGn hXn ⟨s1,s2,s3⟩) (first|(go_at_call 34;(with_reducible refine(payS_any (some ⟨BH,0,none⟩) om (om+1) ys oa1 ob1 w2.drew HGA.out HSM.out hg1' hg2' hq1 HOAA.out HOL.out).mono ?_);rintro e w3 ⟨n0,t,ai,ni,ci,ap,np,cp,ak,nk,ck,ch,er,rfl,hpayA⟩;have hS9:=HKA.out _ _ _ _ _ _ _ _ hpayA;obtain⟨s1,s2,s3⟩:=hS9;have hGw:G<w3.heap.size:=cell_lt s1;have hXw:X<w3.heap.size:=cell_lt s2;have HPA:=hiD hpayA;clear hpayA)|(go_at_call 34;(with_reducible refine(payS_any (some ⟨BH,0,none⟩) om (om+1) ys oa1 ob1 ((w2.alloc Z91).drew) HGB.out HSM.out hg1' hg2' hq1 HOAB.out HOL.out).mono ?_);rintro e w3 ⟨n0,t,ai,ni,ci,ap,np,cp,ak,nk,ck,ch,er,rfl,hpayB⟩;have hS9:=HKB.out _ _ _ _ _ _ _ _ hpayB;obtain⟨s1,s2,s3⟩:=hS9;obtain⟨k0,k1,k2,k3,k4,k5,kz⟩:=HKC.out _ _ _ _ _ _ _ _ hpayB;have kf0:=kz 0;have kf1:=kz 1;have kf2:=kz 2;have kf3:=kz 3;have kf4:=kz 4;have kf5:=kz 5;have HPB:=hiD hpayB;clear kz hpayB))
  all_goals first
   | (have hya:=HYA1.out _ _ _ _ _ _ _ _ HPA.out
      obtain⟨col1,a1,md1,nx1,hya⟩:=hya
      have HYA:=hiD hya
      clear hya
      go_wp2_with fail
      go_meet
      exact⟨col1,a1,md1,nx1,w3.heap.size,n0,t,ai,ni,ci,ap,np,cp,ak,nk,ck,ch,er,rfl,rfl,HYA⟩)
   | (have hya:=HYA2.out _ _ _ _ _ _ _ _ HPB.out
      obtain⟨col1,a1,md1,nx1,hya⟩:=hya
      have HYA:=hiD hya
      clear hya
      go_wp2_with fail
      go_meet
      exact⟨col1,a1,md1,nx1,K0,n0,t,ai,ni,ci,ap,np,cp,ak,nk,ck,ch,er,rfl,rfl,HYA⟩)
 case rest=>
  obtain⟨col1,a1,md1,nx1,K,n0,t,ai,ni,ci,ap,np,cp,ak,nk,ck,ch,er,rfl,rfl,hya⟩:=hcut
  clear HGA HGB HOA HOAA HOAB HSA HSB HKA HKB HVZ HKZ HKC HGK HYA1 HYA2 HK0 hK0 g0 bA bB
  have HYA:=hiD hya.out
  clear hya
  have hnX:¬((z<col X/\col X<=z+24)\/False):=fun e=>e.elim (fun e=>by rw[HXZ.out] at e;omega) (fun e=>e)
  have hnB:¬((z<col BH/\col BH<=z+24)\/False):=fun e=>e.elim (fun e=>by rw[HBZ.out] at e;omega) (fun e=>e)
  have y2c:=HYA.out.fr.cell y2 hnX
  have y3c:=HYA.out.fr.cell y3 hnX
  have y5c:=HYA.out.fr.cell y5 hnX
  have HYT:Hid (∀ k,N k->¬((z<col k/\col k<=z+24)\/False)):=fun k hk e=>by
   have h1:=HNL.out k hk
   rcases e with e|e
   ·omega
   ·exact e
  have HOUc:Hid (OutsAt wc oa ys):=outs_frN HYA.out.fr HOU2.out (fun e x hx=>HYT.out _ (HON.out e x hx))
  have HROc:Hid (OutsRow wc BH 0 (ys++[(-5,-5)])):=outsRow_fr HYA.out.fr HRO.out hnB
  have HFRc:Hid (Free wc BH 0 (om*2+2)):=free_fr HYA.out.fr HFR.out hBHl hnB
  have hXc:X<wc.heap.size:=cell_lt y2c
  clear y2 y3 y5 HRO HFR HOU2 HYT hnX hnB
  go_wp2_with fail
  refine(stillOuts_any BH oa om od ys _ HROc HOUc HOL ho1).mono ?_
  rintro e w5 ⟨rfl,hb5⟩
  have HYA5:=hiD (HYA.out.grown hb5)
  have y25:=(hb5.cell (p:=⟨X,2,none⟩) hXc).trans y2c
  have y35:=(hb5.cell (p:=⟨X,3,none⟩) hXc).trans y3c
  have y55:=(hb5.cell (p:=⟨X,5,none⟩) hXc).trans y5c
  have HOU5:=hiD (HOUc.out.grown hb5)
  have HRM5:Hid (Room w5 BH ((om+1)*2)):=room_outs (HROc.out.grown hb5) (by rw[List.length_append,HOL.out];simp) (by have:=HFRc.out.below hb5 (ltL hBHl HYA.out.fr.size);rw[show(om+1)*2=om*2+2 by omega];exact this)
  clear y2c y3c y5c HROc HOUc HFRc hb5 hXc HYA
  go_wp2_with fail
  refine(blotOuts_any BH om _ HRM5 ho1).mono ?_
  rintro e w6 ⟨rfl,hw6⟩
  have hXB:X≠BH:=by omega
  have HYA6:Hid (YA z s g N q col G P D Dr a b nx ys oa1 ob1 (fun k=>k=BH) w2 col1 a1 md1 nx1 K (.int .i64 n0) (.int .i64 t) (.slice ai ni ci) (.slice ap np cp) (.slice ak nk ck) (.int .i64 ch) er w6):=HYA5.out.fr' hw6.fr (fun k e=>by
   subst e
   refine⟨HYA5.out.old k hBHl HBZ,fun e=>by have:=(HNL k e).1;omega,by have:=HYA5.out.kk.2;omega,fun e=>?_⟩
   have:=(HYA5.out.res.blk k e).1
   omega) (fun k e=>e) (fun k e=>e.elim)
  have z2:=hw6.fr.cell y25 hXB
  have z3:=hw6.fr.cell y35 hXB
  have z5:=hw6.fr.cell y55 hXB
  have HOU6:Hid (OutsAt w6 oa ys):=outs_frN hw6.fr HOU5.out (fun e x hx h9=>by have:=(HNL.out _ (HON.out e x hx)).1;omega)
  clear y25 y35 y55 HOU5 HRM5 hw6 HYA5
  have hX6:X<w6.heap.size:=cell_lt z2
  have g1:w6.cell? ⟨G,1,none⟩=some (.pointer (some ⟨D,0,none⟩)):=HYA6.out.s1.gm 1 (by simp)
  have hG6:G<w6.heap.size:=cell_lt g1
  have bA:Below w6.heap.size w6 w6.drew:=(Below.refl _ _).drew
  have bB:Below w6.heap.size w6 ((w6.alloc Z91).drew):=(bAl _ _).drew
  have HSSA:Hid (S1 z s g N (13*q) col1 G P D Dr a1 b nx md1 nx1 w6.drew):=HYA6.out.s1.grown bA
  have HSSB:Hid (S1 z s g N (13*q) col1 G P D Dr a1 b nx md1 nx1 ((w6.alloc Z91).drew)):=HYA6.out.s1.grown bB
  have HOAA:Hid (OutsAt w6.drew oa ys):=HOU6.out.grown bA
  have HOAB:Hid (OutsAt ((w6.alloc Z91).drew) oa ys):=HOU6.out.grown bB
  have HCX:Hid (col1 X=0/\col1 G=z+6):=⟨HYA6.out.old X hX2 HXZ.out,HYA6.out.s1.kg⟩
  obtain⟨K1,hK1⟩:∃ K1,w6.heap.size=K1:=⟨_,rfl⟩
  have HVZ:Hid (VB ((w6.alloc Z91).drew) K1 (.int .i64 0) (.int .i64 0) (.slice none 0 0) (.slice none 0 0) (.slice none 0 0) (.int .i64 0)):=by rw[<-hK1];exact(VB.new w6 _ _ _ _ _ _ 38).grown ((Below.refl _ _).drew)
  have HKZ:Hid (col1 K1=0):=HYA6.out.s1.nz _ (by omega)
  have HKA:Hid (∀ (w3:World) v0 v1 v2 v3 v4 v5 er,DPayOk b.ND D (D+1) b.vm b.bls s g (ownOf a.xs s g) b.ms nx ys oa1 ob1 v0 v1 v2 v3 v4 v5 er w6.drew w3->w3.cell? ⟨G,1,none⟩=some (.pointer (some ⟨D,0,none⟩))/\w3.cell? ⟨X,5,none⟩=some (.slice oa om od)/\w3.cell? ⟨X,2,none⟩=some (.int .i64 oa1)/\w3.cell? ⟨X,3,none⟩=some (.int .i64 ob1)):=fun w3 v0 v1 v2 v3 v4 v5 er hr=>⟨dPayR_cell HSSA.out.dg HSSA.out.nz (fun k hk=>(HSSA.out.nn k hk).1) hr g1 (by rw[HCX.out.2];omega) (by rw[HCX.out.2];omega),dPayR_cell HSSA.out.dg HSSA.out.nz (fun k hk=>(HSSA.out.nn k hk).1) hr z5 (by rw[HCX.out.1];omega) (by rw[HCX.out.1];omega),dPayR_cell HSSA.out.dg HSSA.out.nz (fun k hk=>(HSSA.out.nn k hk).1) hr z2 (by rw[HCX.out.1];omega) (by rw[HCX.out.1];omega),dPayR_cell HSSA.out.dg HSSA.out.nz (fun k hk=>(HSSA.out.nn k hk).1) hr z3 (by rw[HCX.out.1];omega) (by rw[HCX.out.1];omega)⟩
  have HKB:Hid (∀ (w3:World) v0 v1 v2 v3 v4 v5 er,DPayOk b.ND D (D+1) b.vm b.bls s g (ownOf a.xs s g) b.ms nx ys oa1 ob1 v0 v1 v2 v3 v4 v5 er ((w6.alloc Z91).drew) w3->w3.cell? ⟨G,1,none⟩=some (.pointer (some ⟨D,0,none⟩))/\w3.cell? ⟨X,5,none⟩=some (.slice oa om od)/\w3.cell? ⟨X,2,none⟩=some (.int .i64 oa1)/\w3.cell? ⟨X,3,none⟩=some (.int .i64 ob1)):=fun w3 v0 v1 v2 v3 v4 v5 er hr=>⟨dPayR_cell HSSB.out.dg HSSB.out.nz (fun k hk=>(HSSB.out.nn k hk).1) hr ((bB.cell (p:=⟨G,1,none⟩) hG6).trans g1) (by rw[HCX.out.2];omega) (by rw[HCX.out.2];omega),dPayR_cell HSSB.out.dg HSSB.out.nz (fun k hk=>(HSSB.out.nn k hk).1) hr ((bB.cell (p:=⟨X,5,none⟩) hX6).trans z5) (by rw[HCX.out.1];omega) (by rw[HCX.out.1];omega),dPayR_cell HSSB.out.dg HSSB.out.nz (fun k hk=>(HSSB.out.nn k hk).1) hr ((bB.cell (p:=⟨X,2,none⟩) hX6).trans z2) (by rw[HCX.out.1];omega) (by rw[HCX.out.1];omega),dPayR_cell HSSB.out.dg HSSB.out.nz (fun k hk=>(HSSB.out.nn k hk).1) hr ((bB.cell (p:=⟨X,3,none⟩) hX6).trans z3) (by rw[HCX.out.1];omega) (by rw[HCX.out.1];omega)⟩
  have HKC:Hid (∀ (w3:World) v0 v1 v2 v3 v4 v5 er,DPayOk b.ND D (D+1) b.vm b.bls s g (ownOf a.xs s g) b.ms nx ys oa1 ob1 v0 v1 v2 v3 v4 v5 er ((w6.alloc Z91).drew) w3->VB w3 K1 (.int .i64 0) (.int .i64 0) (.slice none 0 0) (.slice none 0 0) (.slice none 0 0) (.int .i64 0)):=fun w3 v0 v1 v2 v3 v4 v5 er hr=>dPayR_vb HSSB.out.dg HSSB.out.nz (fun k hk=>(HSSB.out.nn k hk).1) hr HVZ.out HKZ.out
  have HYB1:Hid (∀ (w3:World) v0 v1 v2 v3 v4 v5 er2,DPayOk b.ND D (D+1) b.vm b.bls s g (ownOf a.xs s g) b.ms nx ys oa1 ob1 v0 v1 v2 v3 v4 v5 er2 w6.drew w3->∃ col2 b1 nxd,YB z s g N q col G P D Dr a b nx ys oa1 ob1 (fun k=>k=BH) w2 (ownOf a.xs s g) col2 a1 b1 nxd md1 nx1 K (.int .i64 n0) (.int .i64 t) (.slice ai ni ci) (.slice ap np cp) (.slice ak nk ck) (.int .i64 ch) er w3.heap.size v0 v1 v2 v3 v4 v5 er2 w6.drew.heap.size (w3.alloc (.cells #[v0,v1,v2,v3,v4,v5] 38))):=fun w3 v0 v1 v2 v3 v4 v5 er2 hr=>(HYA6.out.yb1 bA hr).1
  have HYB2:Hid (∀ (w3:World) v0 v1 v2 v3 v4 v5 er2,DPayOk b.ND D (D+1) b.vm b.bls s g (ownOf a.xs s g) b.ms nx ys oa1 ob1 v0 v1 v2 v3 v4 v5 er2 ((w6.alloc Z91).drew) w3->∃ col2 b1 nxd,YB z s g N q col G P D Dr a b nx ys oa1 ob1 (fun k=>k=BH) w2 (ownOf a.xs s g) col2 a1 b1 nxd md1 nx1 K (.int .i64 n0) (.int .i64 t) (.slice ai ni ci) (.slice ap np cp) (.slice ak nk ck) (.int .i64 ch) er K1 v0 v1 v2 v3 v4 v5 er2 ((w6.alloc Z91).drew).heap.size ((((((w3.setCell ⟨K1,0,none⟩ v0).setCell ⟨K1,1,none⟩ v1).setCell ⟨K1,2,none⟩ v2).setCell ⟨K1,3,none⟩ v3).setCell ⟨K1,4,none⟩ v4).setCell ⟨K1,5,none⟩ v5)):=fun w3 v0 v1 v2 v3 v4 v5 er2 hr=>(HYA6.out.yb1 bB hr).2 K1 (by omega) (by rw[World.size_drew,World.size_alloc];omega) ⟨_,_,_,_,_,_,HVZ.out⟩
  have hGl2:G<K1:=by omega
  have hXl2:X<K1:=by omega
  have hGn:G≠K1:=by omega
  have hXn:X≠K1:=by omega
  go_upto_region 7 with fail
  go_cut [9,10] (fun uk uf wx=>∃ (col2:NtN) (b1:DgP) (nxd:Nat) (K2:Nat) (m0 t2:Int) (bi:OAd) (mi di:Nat) (bp:OAd) (mp dp:Nat) (bk:OAd) (mk dk:Nat) (ch2 er2:Int) (base2:Nat),uk=.pointer (some ⟨K2,0,none⟩)/\uf=.int .i64 er2/\Hid (YB z s g N q col G P D Dr a b nx ys oa1 ob1 (fun k=>k=BH) w2 (ownOf a.xs s g) col2 a1 b1 nxd md1 nx1 K (.int .i64 n0) (.int .i64 t) (.slice ai ni ci) (.slice ap np cp) (.slice ak nk ck) (.int .i64 ch) er K2 (.int .i64 m0) (.int .i64 t2) (.slice bi mi di) (.slice bp mp dp) (.slice bk mk dk) (.int .i64 ch2) er2 base2 wx))
  case first=>
   go_region_held3 (fun w'=>w'.cell? ⟨G,1,none⟩=some (.pointer (some ⟨D,0,none⟩))/\w'.cell? ⟨X,5,none⟩=some (.slice oa om od)/\w'.cell? ⟨X,2,none⟩=some (.int .i64 oa1)/\w'.cell? ⟨X,3,none⟩=some (.int .i64 ob1)) (first|go_keep|exact keepA4 _ _ _ _ _ _ hGn hXn ⟨s1,s2,s3,s4⟩) (first|(go_at_call 114;(with_reducible refine(dPayS_any (ownOf a.xs s g) oa om od ys oa1 ob1 w6.drew HSSA.out HGD.out h40 hg2' hnx hml HOW.out HLL.out HVL.out HST.out HOAA.out HOL.out).mono ?_);rintro e w3 ⟨m0,t2,bi,mi,di,bp,mp,dp,bk,mk,dk,ch2,er2,rfl,hpayA⟩;have hS9:=HKA.out _ _ _ _ _ _ _ _ hpayA;obtain⟨s1,s2,s3,s4⟩:=hS9;have hGw:G<w3.heap.size:=cell_lt s1;have hXw:X<w3.heap.size:=cell_lt s2;have HPA:=hiD hpayA;clear hpayA)|(go_at_call 114;(with_reducible refine(dPayS_any (ownOf a.xs s g) oa om od ys oa1 ob1 ((w6.alloc Z91).drew) HSSB.out HGD.out h40 hg2' hnx hml HOW.out HLL.out HVL.out HST.out HOAB.out HOL.out).mono ?_);rintro e w3 ⟨m0,t2,bi,mi,di,bp,mp,dp,bk,mk,dk,ch2,er2,rfl,hpayB⟩;have hS9:=HKB.out _ _ _ _ _ _ _ _ hpayB;obtain⟨s1,s2,s3,s4⟩:=hS9;obtain⟨k0,k1,k2,k3,k4,k5,kz⟩:=HKC.out _ _ _ _ _ _ _ _ hpayB;have kf0:=kz 0;have kf1:=kz 1;have kf2:=kz 2;have kf3:=kz 3;have kf4:=kz 4;have kf5:=kz 5;have HPB:=hiD hpayB;clear kz hpayB))
   all_goals first
    | (have hyb:=HYB1.out _ _ _ _ _ _ _ _ HPA.out
       obtain⟨col2,b1,nxd,hyb⟩:=hyb
       have HYB:=hiD hyb
       clear hyb
       go_wp2_with fail
       go_meet
       exact⟨col2,b1,nxd,w3.heap.size,m0,t2,bi,mi,di,bp,mp,dp,bk,mk,dk,ch2,er2,_,rfl,rfl,HYB⟩)
    | (have hyb:=HYB2.out _ _ _ _ _ _ _ _ HPB.out
       obtain⟨col2,b1,nxd,hyb⟩:=hyb
       have HYB:=hiD hyb
       clear hyb
       go_wp2_with fail
       go_meet
       exact⟨col2,b1,nxd,K1,m0,t2,bi,mi,di,bp,mp,dp,bk,mk,dk,ch2,er2,_,rfl,rfl,HYB⟩)
  case rest=>
   obtain⟨col2,b1,nxd,K2,m0,t2,bi,mi,di,bp,mp,dp,bk,mk,dk,ch2,er2,base2,rfl,rfl,hyb⟩:=hcut
   clear HSSA HSSB HOAA HOAB HKA HKB HVZ HKZ HKC HYB1 HYB2 hK1 g1 bA bB z2 z3 z5 HYA6 hGl2 hXl2 hGn hXn HCX HOU6 hX6 hG6
   have hr2:=hyb.out.res2
   rw[<-HSY.out] at hr2
   obtain⟨rfl,rfl,rfl,rfl,rfl,rfl,rfl,rfl,cs,zs,hcn,hzn,o1,o2,o3,r1,r2,r3,hz,d1,d2⟩:=pres_same hyb.out.res hr2
   have hb10:cs.length<=10/\zs.length<=8:=by
    rcases hz with⟨c9,e⟩|⟨e1,e2⟩
    ·exact HPZ _ _ _ e
    ·rw[e1,e2];simp
   have hni:ni<=10:=by omega
   have hnp:np<=8:=by omega
   have HCN:=hiD hcn
   have HZN:=hiD hzn
   have HYB:=hiD hyb.out
   have HI1:Hid (InsAt wc ai (cs.map CoinD.inD)):=inC_ins (own_atS inC3 o1)
   have HI2:Hid (InsAt wc bi (cs.map CoinD.inD)):=inC_ins r1
   have HO1:Hid (OutsAt wc ap zs):=rec_outs (own_atS kv2 o2)
   have HO2:Hid (OutsAt wc bp zs):=rec_outs r2
   have HC1:Hid (RecAt kC wc ak cs):=own_atS kC2 o3
   have HC2:=hiD r3
   have HMN:Hid ((cs.map CoinD.inD).length=ni):=by show _=_;rw[List.length_map];exact hcn
   have HW1:=hiD o1
   have HW2:=hiD o2
   have HW3:=hiD o3
   have HD12:Hid ((∀ k,(Value.slice ap np cp).ownBlock=some k->(Value.slice ai ni ci).ownBlock≠some k)/\(∀ k,(Value.slice ak ni ck).ownBlock=some k->(Value.slice ai ni ci).ownBlock≠some k/\(Value.slice ap np cp).ownBlock≠some k)):=⟨d1,d2⟩
   obtain⟨a0,a1',a2,a3,a4,a5,_⟩:=HYB.out.vb
   obtain⟨c0,c1,c2,c3,c4,c5,_⟩:=HYB.out.vb2
   clear hyb hr2 o1 o2 o3 r1 r2 r3 hz d1 d2 hcn hzn hb10
   go_wp2_with fail
   refine(samePaid_any n0 t ch ai bi ni ci di (cs.map CoinD.inD) (cs.map CoinD.inD) ap bp np cp dp zs ak bk ni ck dk cs _ HI1 HI2 HMN HMN rfl (by omega) HO1 HO2 HZN (by omega) HC1 HC2 HCN (by omega)).mono ?_
   rintro e w9 ⟨rfl,hb9⟩
   have b9d:Below wc.heap.size wc w9.drew:=hb9.trans ((Below.refl _ _).drew)
   have HYB9:Hid (YB z s g N q col G P D Dr a b nx ys oa1 ob1 (fun k=>k=BH) w2 (ownOf a.xs s g) col2 a1 b1 nxd md1 nx1 K (.int .i64 n0) (.int .i64 t) (.slice ai ni ci) (.slice ap np cp) (.slice ak ni ck) (.int .i64 ch) er K2 (.int .i64 n0) (.int .i64 t) (.slice bi ni di) (.slice bp np dp) (.slice bk ni dk) (.int .i64 ch) er base2 w9.drew):=HYB.out.grown b9d
   have HLS:Hid (∀ k,((Value.slice ai ni ci).ownBlock=some k\/(Value.slice ap np cp).ownBlock=some k\/(Value.slice ak ni ck).ownBlock=some k)->col2 k=0/\k≠K/\w2.heap.size<=k):=fun k hk=>⟨(HYB.out.lst k hk).1,(HYB.out.lst k hk).2.1,(HYB.out.res.blk k hk).1⟩
   have HHI:Hid (HandedI col2 w9.drew (.slice ai ni ci) (cs.map CoinD.inD)):=handedI_of (HW1.out.grown b9d) (fun k hk=>(HLS.out k (Or.inl hk)).1)
   have HHO:Hid (Handed 2 col2 w9.drew (.slice ap np cp)):=Handed.of kv2 (HW2.out.grown b9d) (fun k hk=>(HLS.out k (Or.inr (Or.inl hk))).1)
   have HHK:Hid (Handed 2 col2 w9.drew (.slice ak ni ck)):=Handed.of kC2 (HW3.out.grown b9d) (fun k hk=>(HLS.out k (Or.inr (Or.inr hk))).1)
   have HNE:Hid (∀ k,(Value.slice ap np cp).ownBlock=some k->¬((Value.slice ai ni ci).ownBlock=some k\/sealsB (cs.map CoinD.inD) (cs.map CoinD.inD).length k)):=fun k hk e=>e.elim (HD12.out.1 k hk) (seals_none cs _ k (by simp))
   have hKc:K<wc.heap.size:=cell_lt a0
   have k1:=(hb9.cell (p:=⟨K,1,none⟩) hKc).trans a1'
   have k2:=(hb9.cell (p:=⟨K,2,none⟩) hKc).trans a2
   have k3:=(hb9.cell (p:=⟨K,3,none⟩) hKc).trans a3
   have k4:=(hb9.cell (p:=⟨K,4,none⟩) hKc).trans a4
   have g2:w9.cell? ⟨G,2,none⟩=some (.pointer (some ⟨Dr,0,none⟩)):=HYB9.out.s1.gm 2 (by simp)
   have HDR9:=hiD HYB9.out.s1.dr
   have HNZ9:=hiD HYB9.out.s1.nz
   have HKE:Hid (∀ (w10:World) k o v,KeptM col2 z Dr (13*q) ((cs.map CoinD.inD).length+2) (fun k=>((Value.slice ai ni ci).ownBlock=some k\/sealsB (cs.map CoinD.inD) (cs.map CoinD.inD).length k)\/(Value.slice ap np cp).ownBlock=some k) w9.drew w10->w9.drew.cell? ⟨k,o,none⟩=some v->(k=G\/k=K)->w10.cell? ⟨k,o,none⟩=some v):=fun w10 k o v hk hc hkk=>by
    obtain⟨c3,_,_,x3,_⟩:=hk
    refine x3.cell hc (fun e=>?_)
    have hcG:=HYB9.out.s1.kg
    have hcK:=HYB9.out.kk
    rcases e with e|e
    ·rcases hkk with rfl|rfl<;>omega
    ·rcases e with (e|e)|e
     ·have:=HLS.out k (Or.inl e)
      rcases hkk with rfl|rfl<;>omega
     ·exact seals_none cs _ k (by simp) e
     ·have:=HLS.out k (Or.inr (Or.inl e))
      rcases hkk with rfl|rfl<;>omega
   have hq18:13*q<=18000000:=by omega
   have hml10:(cs.map CoinD.inD).length<=1000:=by have:=HMN.out;omega
   clear a0 a1' a2 a3 a4 a5 c0 c1 c2 c3 c4 c5 HI1 HI2 HO1 HO2 HC1 HC2 hb9 HYB HW1 HW2 HW3
   go_upto_region 9 with fail
   go_region_held3 (fun w'=>w'.cell? ⟨G,2,none⟩=some (.pointer (some ⟨Dr,0,none⟩))/\w'.cell? ⟨K,1,none⟩=some (.int .i64 t)/\w'.cell? ⟨K,2,none⟩=some (.slice ai ni ci)/\w'.cell? ⟨K,3,none⟩=some (.slice ap np cp)) (go_keep) ((go_at_call 116;(with_reducible refine(keepTx_any col2 z Dr (13*q) t ai ni ci (cs.map CoinD.inD) ap np cp w9.drew HDR9.out HNZ9.out HHI.out HHO.out HNE.out hml10 hq18).mono ?_);rintro e w10 ⟨rfl,hk10⟩;have s1:=HKE.out w10 G 2 _ hk10 g2 (Or.inl rfl);have s2:=HKE.out w10 K 1 _ hk10 k1 (Or.inr rfl);have s3:=HKE.out w10 K 2 _ hk10 k2 (Or.inr rfl);have s4:=HKE.out w10 K 3 _ hk10 k3 (Or.inr rfl);have s5:=HKE.out w10 K 4 _ hk10 k4 (Or.inr rfl);have HK10:=hiD hk10;clear hk10))
   obtain⟨col3,x1,x2,x3,x4⟩:=HK10.out
   have b10:Below w10.heap.size w10 w10.drew:=(Below.refl _ _).drew
   have HX2:Hid (DrA col3 z w10.drew Dr (13*q+((cs.map CoinD.inD).length+2))):=x2.grown b10
   have HNZ10:Hid (∀ k,w10.drew.heap.size<=k->col3 k=0):=Ext.zero (w:=w9.drew) x1 x3.size HNZ9.out
   have HHK10:Hid (Handed 2 col3 w10.drew (.slice ak ni ck)):=HHK.out.mv (x3.trans (Fr.of_below b10 _)) (fun k hk=>by
    have hl:=HLS.out k (Or.inr (Or.inr hk))
    have hn:¬(((Value.slice ai ni ci).ownBlock=some k\/sealsB (cs.map CoinD.inD) (cs.map CoinD.inD).length k)\/(Value.slice ap np cp).ownBlock=some k):=fun e=>by
     rcases e with (e|e)|e
     ·exact(HD12.out.2 k hk).1 e
     ·exact seals_none cs _ k (by simp) e
     ·exact(HD12.out.2 k hk).2 e
    exact⟨fun e=>e.elim (fun e=>by omega) hn,x4 k hl.1 (HHK.out.blk k hk).2 hn⟩)
   have HJ:Hid (∀ w11,KeptM col3 z Dr (13*q+((cs.map CoinD.inD).length+2)) 1 (fun k=>(Value.slice ak ni ck).ownBlock=some k) w10.drew w11->KeptM col2 z Dr (13*q) ((cs.map CoinD.inD).length+2+1) (fun k=>(((Value.slice ai ni ci).ownBlock=some k\/sealsB (cs.map CoinD.inD) (cs.map CoinD.inD).length k)\/(Value.slice ap np cp).ownBlock=some k)\/(Value.slice ak ni ck).ownBlock=some k) w9.drew w11):=fun w11 h11=>kept_join x1 x3 x4 (KeptM.pre h11 b10)
   have hq20:13*q+((cs.map CoinD.inD).length+2)<=20000000:=by omega
   have hcG3:col3 G=z+6:=by rw[x1.same (by rw[HYB9.out.s1.kg];omega)];exact HYB9.out.s1.kg
   have hcK3:col3 K=0:=x4 K HYB9.out.kk (cell_lt (w:=w9.drew) k1) (fun e=>by
    rcases e with (e|e)|e
    ·exact(HLS K (Or.inl e)).2.1 rfl
    ·exact seals_none cs _ K (by simp) e
    ·exact(HLS K (Or.inr (Or.inl e))).2.1 rfl)
   have HKF:Hid (∀ (w11:World) k o v,KeptM col3 z Dr (13*q+((cs.map CoinD.inD).length+2)) 1 (fun k=>(Value.slice ak ni ck).ownBlock=some k) w10.drew w11->w10.drew.cell? ⟨k,o,none⟩=some v->(k=G\/k=K)->w11.cell? ⟨k,o,none⟩=some v):=fun w11 k o v hk hc hkk=>by
    obtain⟨c4,_,_,f3,_⟩:=hk
    refine f3.cell hc (fun e=>?_)
    rcases e with e|e
    ·rcases hkk with rfl|rfl<;>omega
    ·have h9:=HLS.out k (Or.inr (Or.inr e))
     have hcG:=HYB9.out.s1.kg
     rcases hkk with rfl|rfl<;>omega
   have HFIN:Hid (∀ w11,KeptM col3 z Dr (13*q+((cs.map CoinD.inD).length+2)) 1 (fun k=>(Value.slice ak ni ck).ownBlock=some k) w10.drew w11->SOk z s g N q col G P D Dr w w11):=fun w11 hk11=>by
    obtain⟨col4,e,hd,hf,hn4⟩:=HJ.out w11 hk11
    refine SOk.pre (YB.done HB12 (fun k e=>by subst e;exact HBW1) HG2 HYB9 HSY hg2' HOK e hd (by have:=HMN.out;omega) hf ?_ ?_) (by rw[HXe.out];exact HB1)
    ·rintro k ((( e|e)|e)|e)
     ·have h9:=HLS.out k (Or.inl e)
      exact⟨h9.1,fun h8=>by have:=(HNL k h8).1;omega,h9.2.2⟩
     ·exact(seals_none cs _ k (by simp) e).elim
     ·have h9:=HLS.out k (Or.inr (Or.inl e))
      exact⟨h9.1,fun h8=>by have:=(HNL k h8).1;omega,h9.2.2⟩
     ·have h9:=HLS.out k (Or.inr (Or.inr e))
      exact⟨h9.1,fun h8=>by have:=(HNL k h8).1;omega,h9.2.2⟩
    ·intro k hk
     have h8:=HYB9.out.s1.nn k hk
     refine hn4 k h8.1 h8.2 ?_
     rintro ((( e|e)|e)|e)
     ·have h9:=HLS.out k (Or.inl e)
      have:=(HNL.out k hk).1
      omega
     ·exact seals_none cs _ k (by simp) e
     ·have h9:=HLS.out k (Or.inr (Or.inl e))
      have:=(HNL.out k hk).1
      omega
     ·have h9:=HLS.out k (Or.inr (Or.inr e))
      have:=(HNL.out k hk).1
      omega
   clear x1 x2 x3 x4 HK10 HKE g2 k1 k2 k3 k4 HDR9 HHI HHO HHK HNE
   have b10':=b10
   clear b10
   go_upto_region 10 with fail
   go_region_held3 (fun w'=>w'.cell? ⟨G,2,none⟩=some (.pointer (some ⟨Dr,0,none⟩))/\w'.cell? ⟨K,4,none⟩=some (.slice ak ni ck)) (go_keep) ((go_at_call 117;(with_reducible refine(keepKeys_any col3 z Dr (13*q+((cs.map CoinD.inD).length+2)) (.slice ak ni ck) w10.drew HX2.out HNZ10.out HHK10.out hq20).mono ?_);rintro e w11 ⟨rfl,hk11⟩;have t1:=HKF.out w11 G 2 _ hk11 s1 (Or.inl rfl);have t2:=HKF.out w11 K 4 _ hk11 s5 (Or.inr rfl);have HK11:=hiD hk11;clear hk11))
   go_wp2_with (go_at_call 64;refine(num_any _ _).mono ?_;rintro e w' ⟨rfl,rfl⟩)
   go_ret
   exact⟨ret_bool (by simp),HFIN _ HK11⟩
end
end Go.Proofs.YtffgpepngcnjeabGreat
