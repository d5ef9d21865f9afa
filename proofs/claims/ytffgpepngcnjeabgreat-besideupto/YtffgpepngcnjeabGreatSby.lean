import Derived.Test.YtffgpepngcnjeabGreatSbs
import Derived.Test.YtffgpepngcnjeabGreatSbt
namespace Go.Proofs.YtffgpepngcnjeabGreat
set_option maxRecDepth 100000
set_option maxHeartbeats 4000000
section
open Go.RowKit

theorem AG.kept {z:Nat} {s:Int} {g:Nat} {N:NPr} {q:Nat} {col:NtN} {G P D Dr:Nat} {a:PgP} {b:DgP} {nx:Nat} {w0 w w':World} {m:Nat} {L:NPr} (h0:AG z s g N q col G P D Dr a b nx w0) (hb:Below w0.heap.size w0 w) (hk:KeptM col z Dr (13*q) m L w w') (hm:m<=13) (hL:∀ k,L k->w0.heap.size<=k):SOk z s g N q col G P D Dr w0 w':=by
 obtain⟨col4,he,hd,hf,hold4⟩:=hk
 have h:=h0.grown hb
 have hL0:∀ k,L k->col k=0:=fun k e=>h0.nz k (hL k e)
 have hnL:∀ k,N k->¬L k:=fun k hk e=>by have:=(h0.nn k hk).2;have:=hL k e;omega
 have hn:∀ k,N k->col4 k=0:=fun k hk=>hold4 k (h.nn k hk).1 (h.nn k hk).2 (hnL k hk)
 have hkeep:∀ k,col k≠0->col4 k=col k:=fun k hk=>he.same hk
 have hE:∀ k,((z+13<=col k/\col k<=z+23)\/L k)->¬(z+1<=col k/\col k<=z+12):=fun k e h9=>by
  rcases e with e|e
  ·omega
  ·have:=hL0 k e;omega
 have hN:∀ k,N k->¬((z+13<=col k/\col k<=z+23)\/L k):=fun k hk e=>by
  rcases e with e|e
  ·have:=(h.nn k hk).1;omega
  ·exact hnL k hk e
 refine⟨col4,a,b,nx,he.weak (by omega) (by omega) leR,⟨h.pg.mv hf (fun k e h=>hE k e (by omega)) hkeep,h.dg.mv hf (fun k e h=>hE k e (by omega)) hN hkeep,hd.mv (Fr.refl (fun _=>False) w') (fun _ e=>e.elim) (fun _ _=>rfl) (by omega),hf.vrow h.gm (fun e=>hE G e (by rw[h.kg];omega)),by rw[hkeep G (by rw[h.kg];omega)];exact h.kg,h.lk,h.lp,h.ky,Ext.zero (w:=w) he hf.size h.nz,fun k hk=>⟨hn k hk,ltL (h.nn k hk).2 hf.size⟩,by have:=h.ml;omega,by have:=h.kl;omega,h.nl⟩,?_⟩
 refine⟨hf.os.trans hb.os,hf.tape.trans hb.tape,hf.output.trans hb.output,leT hb.size hf.size,fun k hk hne=>?_⟩
 refine(hf.block k (ltL hk hb.size) (fun e=>hne ?_)).trans (hb.block k hk)
 rcases e with e|e
 ·omega
 ·have:=hL k e;omega
variable {N X:NPr} {E DE:List (Nat×Value)} {G P D:Nat} {V:Value} {s:Int} {g:Nat} {v:Value} {ao:OAd} {c:Nat} {bls:List (List TxD)} {xs:List Cel}
theorem coinsG_any (ar:OAd) (cr:Nat) (ac:OAd) (cc:Nat) (Dr:Nat) (R:World->Prop) (w:World) (hg:GI N X E DE G P D (.pointer (some ⟨Dr,0,none⟩)) s g v ao c bls xs w) (hf:fitZ s (g:Int)=true) (ha:DAd w D s g ar cr ac cc) (hk:∀ v1 cs w3,OwnRec CoinD.l 107 6 w3 w.heap.size v1 cs->Below w.heap.size w w3->Calls Tryz.prog 124 #[.pointer (some ⟨Dr,0,none⟩),v1] w3 fun e w'=>e=.returned (.tuple #[])/\R w'):
 Calls Tryz.prog 73 #[.pointer (some ⟨G,0,none⟩)] w fun e w'=>e=.returned (.bool true)/\R w':=by
 obtain⟨hs,h1,h2⟩:=fitZ_yes hf
 have g0:=hg.g0
 have g1:=hg.g1
 have g2:w.cell? ⟨G,2,none⟩=some (.pointer (some ⟨Dr,0,none⟩)):=hg.gm 2 (by simp)
 obtain⟨av,cv,rfl,hat⟩:=hg.pu.at
 have HP:Hid (PurseRow w P s g (.slice av xs.length cv) (bls.length:Nat)):=pat_row hg.pu
 have HAT:=hiD hat
 have hlk:=hg.lk.here
 have h40:=hg.lk.len
 have HD:=hiD hg.dc
 have HA:=hiD ha
 have HGO:=hiD hg.lk.good
 have HOS:Hid (ownR (cellsR bls) (adrs s 0 100) (adrs s 1 100) (winR (cellsR bls) s g 0) (winR (cellsR bls) s g 1)=ownZ (keysZ xs s g) (coinsC xs)):=by show _=_;rw[<-hlk.1];exact own_sync xs s g (by omega)
 have hxl:xs.length<=10000:=by have:=hlk.2.2.2;omega
 have HOL:Hid ((ownZ (keysZ xs s g) (coinsC xs)).length<=100000):=by show _<=_;have:=ownZ_len (keysZ xs s g) (coinsC xs);have:=coinsC_len xs;omega
 have hGl:G<w.heap.size:=cell_lt g0
 have hg1:1<=g:=by omega
 have hg2:g<=20:=by omega
 have HK:=hiD hk
 clear hg hat hlk ha hf h1 h2 hk
 go_enter Tryz.func73,Tryz.ntmps73
 go_wp2_with fail
 refine(pCoins_any P s g av xs.length cv (bls.length:Nat) xs _ hs hg1 hg2 HP HAT rfl hxl).mono ?_
 rintro e w1 ⟨v1,rfl,ho1,hb1⟩
 have g1':=(hb1.cell (p:=⟨G,1,none⟩) hGl).trans g1
 have g2':=(hb1.cell (p:=⟨G,2,none⟩) hGl).trans g2
 have HD1:Hid (DCh N w1 D ao c bls):=HD.out.fr (Fr.of_below hb1 (fun _=>False)) (fun _ _ h=>h) (fun _ _ h=>h) (fun h=>h)
 have HA1:=hiD (HA.out.grown hb1)
 have HO1:=hiD ho1
 have hG1:G<w1.heap.size:=cell_lt g1'
 clear g0 g1 g2 HP HAT HD HA ho1
 go_wp2_with fail
 refine(rCoins_any N D ao c bls s g ar cr ac cc _ HD1 HGO h40 HA1 hg2).mono ?_
 rw[HOS.out]
 rintro e w2 ⟨v2,rfl,ho2,hb2⟩
 generalize ownZ (keysZ xs s g) (coinsC xs)=cs at *
 have HO12:=hiD (HO1.out.grown hb2)
 obtain⟨a1,c1,rfl,hat1⟩:=OwnRec.at coin6 HO12.out
 obtain⟨a2,c2,rfl,hat2⟩:=OwnRec.at coin6 ho2
 have HAT1:=hiD hat1
 have HAT2:=hiD hat2
 have g2'':=(hb2.cell (p:=⟨G,2,none⟩) hG1).trans g2'
 have hb02:=below_blk hb1 hb2
 have hG2:G<w2.heap.size:=cell_lt g2''
 clear ho2 hat1 hat2 HO1 HD1 HA1 g1' g2' hb1 hb2
 go_wp2_with fail
 refine(sameCoins_any a1 a2 cs.length c1 c2 cs _ HAT1 HAT2 rfl (by have:=HOL.out;omega)).mono ?_
 rintro e w3 ⟨rfl,hb3⟩
 have g3:=(hb3.cell (p:=⟨G,2,none⟩) hG2).trans g2''
 have HKK:Hid (Calls Tryz.prog 124 #[.pointer (some ⟨Dr,0,none⟩),.slice a1 cs.length c1] w3 fun e w'=>e=.returned (.tuple #[])/\R w'):=HK.out _ cs w3 (HO12.out.grown hb3) (below_blk hb02 hb3)
 clear HAT1 HAT2 HO12 g2'' hb02 hb3 HK
 go_wp2_with fail
 refine HKK.out.mono ?_
 rintro e w4 ⟨rfl,hr⟩
 have HR:=hiD hr
 clear hr
 go_wp2
 go_ret
 exact⟨rfl,HR⟩
theorem coinsA_any (z:Nat) (s:Int) (g:Nat) (N:NPr) (q:Nat) (col:NtN) (G P D Dr:Nat) (a:PgP) (b:DgP) (nx:Nat) (w:World) (h:AG z s g N q col G P D Dr a b nx w) (hf:fitZ s (g:Int)=true) (hq:q<=1048576):
 Calls Tryz.prog 73 #[.pointer (some ⟨G,0,none⟩)] w fun e w'=>e=.returned (.bool true)/\SOk z s g N q col G P D Dr w w':=by
 refine coinsG_any b.ar b.cr b.ac b.cc Dr (fun w'=>SOk z s g N q col G P D Dr w w') w h.gi hf h.dg.ad (fun v1 cs w3 ho hb=>?_)
 have h3:=h.grown hb
 refine(keepCoinsA_any col z Dr (13*q) v1 w3 h3.dr h3.nz (Handed.of coin6 ho (fun k hk=>h.nz k (ho.blk k hk).1)) (by omega)).mono ?_
 rintro e w' ⟨rfl,hk⟩
 exact⟨rfl,h.kept hb hk (by omega) (fun k hk=>(ho.blk k hk).1)⟩
theorem stepCoA_any (z:Nat) (s:Int) (g:Nat) (N:NPr) (q:Nat) (col:NtN) (G P D Dr:Nat) (a:PgP) (b:DgP) (nx:Nat) (o:OpD) (w:World) (hk:o.kd=8) (h:AG z s g N q col G P D Dr a b nx w) (hf:fitZ s (g:Int)=true) (hq:q<=1048576):
 Calls Tryz.prog 28 #[.pointer (some ⟨G,0,none⟩),o.val] w fun e w'=>e=.returned (.bool true)/\SOk z s g N q col G P D Dr w w':=by
 obtain⟨kd,on,oa1,ob1,ab,m,d,bl,oa,om,od,ys⟩:=o
 simp only at hk
 subst hk
 have hb1:Below w.heap.size w (w.alloc (.cells #[.int .i64 8,.int .i64 on,.int .i64 oa1,.int .i64 ob1,.slice ab m d,.slice oa om od] 82)):=(Below.refl _ _).alloc leR _
 have HG:=hiD (h.grown hb1)
 clear h
 go_enter Tryz.func28,Tryz.ntmps28
 go_wp2_with fail
 refine(coinsA_any z s g N q col G P D Dr a b nx _ HG hf hq).mono ?_
 rintro e w2 ⟨rfl,hst⟩
 have HST:Hid (SOk z s g N q col G P D Dr w w2):=hst.pre hb1
 clear hst
 go_wp2
 go_ret
 exact⟨rfl,HST⟩
theorem stepO_any (G:Nat) (o:OpD) (w:World) (hk:9<o.kd):
 Calls Tryz.prog 28 #[.pointer (some ⟨G,0,none⟩),o.val] w fun e w'=>e=.returned (.bool true)/\Below w.heap.size w w':=by
 obtain⟨kd,on,oa1,ob1,ab,m,d,bl,oa,om,od,ys⟩:=o
 simp only at hk
 have hb1:Below w.heap.size w (w.alloc (.cells #[.int .i64 kd,.int .i64 on,.int .i64 oa1,.int .i64 ob1,.slice ab m d,.slice oa om od] 82)):=(Below.refl _ _).alloc leR _
 have k1:(kd== 1)=false:=by rw[beq_eq_false_iff_ne];omega
 have k2:(kd== 2)=false:=by rw[beq_eq_false_iff_ne];omega
 have k3:(kd== 3)=false:=by rw[beq_eq_false_iff_ne];omega
 have k4:(kd== 4)=false:=by rw[beq_eq_false_iff_ne];omega
 have k5:(kd== 5)=false:=by rw[beq_eq_false_iff_ne];omega
 have k6:(kd== 6)=false:=by rw[beq_eq_false_iff_ne];omega
 have k7:(kd== 7)=false:=by rw[beq_eq_false_iff_ne];omega
 have k8:(kd== 8)=false:=by rw[beq_eq_false_iff_ne];omega
 have k9:(kd== 9)=false:=by rw[beq_eq_false_iff_ne];omega
 go_enter Tryz.func28,Tryz.ntmps28
 go_wp2
 go_ret
 exact⟨rfl,hb1⟩
theorem stepAll_any (z:Nat) (s:Int) (g:Nat) (N:NPr) (q:Nat) (col:NtN) (G P D Dr:Nat) (a:PgP) (b:DgP) (nx:Nat) (o:OpD) (w:World) (h:AG z s g N q col G P D Dr a b nx w) (ho:OpOk N w o) (hf:fitZ s (g:Int)=true) (hq:q<=1048576):
 Calls Tryz.prog 28 #[.pointer (some ⟨G,0,none⟩),o.val] w fun e w'=>e=.returned (.bool true)/\SOk z s g N q col G P D Dr w w':=by
 have fin2:∀ (e:Ending) (w':World),e=.returned (.bool true)/\GStep N (AX col P a.v w) (exA a (b.ms.length:Nat) (nx:Int)) (deA s g b nx) G P D (.pointer (some ⟨Dr,0,none⟩)) s g a.v b.ao w w'->e=.returned (.bool true)/\SOk z s g N q col G P D Dr w w':=fun e w' he=>⟨he.1,h.chain he.2⟩
 have fin3:∀ (e:Ending) (w':World),e=.returned (.bool true)/\Below w.heap.size w w'->e=.returned (.bool true)/\SOk z s g N q col G P D Dr w w':=fun e w' he=>⟨he.1,h.stay he.2⟩
 by_cases h1:o.kd<1
 ·exact(stepN_any o w h1 h.gi).mono fin2
 ·by_cases h2:o.kd=1
  ·exact(stepC_any o w h2 h.gi ho).mono fin2
  ·by_cases h3:o.kd=2
   ·exact(stepD_any o w h3 h.gi).mono fin2
   ·by_cases h4:o.kd=3
    ·exact stepP_any z s g N q col G P D Dr a b nx o w h4 h ho hf hq
    ·by_cases h5:o.kd=4
     ·exact stepAb_any z s g N q col G P D Dr a b nx o w h5 h hq
     ·by_cases h6:o.kd=5
      ·exact stepSg_any z s g N q col G P D Dr a b nx o w h6 h hq
      ·by_cases h7:o.kd=6
       ·exact(stepH_any o w h7 h.gi).mono fin2
       ·by_cases h8:o.kd=7
        ·exact(stepW_any o b.ar b.cr b.ac b.cc w h8 h.gi hf h.dg.ad).mono fin3
        ·by_cases h9:o.kd=8
         ·exact stepCoA_any z s g N q col G P D Dr a b nx o w h9 h hf hq
         ·by_cases h10:o.kd=9
          ·exact stepB9_any z s g N q col G P D Dr a b nx o w h10 h hf hq
          ·exact(stepO_any G o w (by omega)).mono fin3
end
end Go.Proofs.YtffgpepngcnjeabGreat
