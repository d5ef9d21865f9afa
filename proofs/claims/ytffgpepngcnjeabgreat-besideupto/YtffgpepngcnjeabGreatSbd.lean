import Derived.Test.YtffgpepngcnjeabGreatSbc
namespace Go.Proofs.YtffgpepngcnjeabGreat
set_option maxRecDepth 100000
set_option maxHeartbeats 4000000
section
open Go.RowKit
variable {w w5 w6 wF a b c w8 w9 w10 w11:World} {ao:OAd} {cs:List CoinD} {s md nx id0:Int} {p:PayD} {v vo vs vs' v1:Value} {L:List (CoinD×Nat)} {T R bs b0 o base gl cl j:Nat} {E F N:NPr} {ps:List PayD} {ks ks':LII}
theorem inC_insQ (h:RecAt inC w ao cs):InsAt w ao (cs.map fun x=>(⟨x.id,x.pos,none,0,0,[]⟩:InD)):=by
 rcases h with h|⟨b,off,e,hr⟩
 ·rw[h];exact Or.inl rfl
 ·refine Or.inr ⟨b,off,e,fun j hj=>?_⟩
  rw[List.length_map] at hj
  have eg:(cs.map fun x=>(⟨x.id,x.pos,none,0,0,[]⟩:InD)).getD j dIn=⟨(cs.getD j dN).id,(cs.getD j dN).pos,none,0,0,[]⟩:=by simp[List.getD,hj]
  rw[eg]
  exact⟨⟨rcell inC3 dN hr j hj 0 (by omega),rcell inC3 dN hr j hj 1 (by omega),rcell inC3 dN hr j hj 2 (by omega)⟩,⟨Or.inl rfl,rfl,by show(0:Nat)<=_;omega,fun _=>rfl⟩⟩
structure SgL (N:NPr) (b o base:Nat) (vl vs vs':Value) (md nx:Int) (ps ps':List PayD) (ks ks':LII) (w w':World) (New:NPr):Prop where
 ls:LsAt N w' b o base vl vs' md nx ps' ks'
 fr:Fr (fun q=>q=b\/vl.ownBlock=some q\/vs.ownBlock=some q) w w'
 nw:∀ q,vs'.ownBlock=some q->vs.ownBlock=some q\/(w.heap.size<=q/\New q)
 cl:∀ i u,i≠o+1->w.cell? ⟨b,i,none⟩=some u->w'.cell? ⟨b,i,none⟩=some u
def SignOk (N:NPr) (b o base:Nat) (vl vs:Value) (md nx:Int) (ps:List PayD) (ks:LII) (xs:List Cel) (s n:Int) (v0 v1 v2:Value) (er:Int) (w w':World):Prop:=
 (∃ x,signZ xs ps ks n=.inl x/\er=x/\v0=.int .i64 0/\v1=.slice none 0 0/\v2=.slice none 0 0/\Below w.heap.size w w')\/
 (∃ j L,signZ xs ps ks n=.inr j/\j<ps.length/\er=0/\v0=.int .i64 (ps.getD j dP).tag/\SgTx w.heap.size s (ps.getD j dP) v1 v2 L w'/\
   (((ps.getD j dP).sg=true/\Below w.heap.size w w')\/((ps.getD j dP).sg=false/\∃ vs',SgL N b o base vl vs vs' md nx ps (ps.set j (ps.getD j dP).on) ks (addKeysZ ks (ps.getD j dP).cs) w w' (fun q=>v1.ownBlock≠some q/\v2.ownBlock≠some q/\∀ p∈L,p.2≠q))))
theorem frTR (w:World) (T R:Nat) (u0 u1 u2 u3:Value):Fr (fun k=>k=T\/k=R) w ((((w.setCell ⟨T,1,none⟩ u0).setCell ⟨R,0,none⟩ u1).setCell ⟨R,1,none⟩ u2).setCell ⟨R,2,none⟩ u3):=
 ((((Fr.refl (fun k=>k=T\/k=R) w).set T 1 _ (fun _=>Or.inl rfl)).set R 0 _ (fun _=>Or.inr rfl)).set R 1 _ (fun _=>Or.inr rfl)).set R 2 _ (fun _=>Or.inr rfl)
theorem SgTx.fin (hsq:SqI s p.id w5 v L w6) (hfst:L.map Prod.fst=p.cs) (hoo:OwnRec kV 93 2 w6 bs vo p.ys) (hvo:∀ k,vo.ownBlock=some k->k<T) (hT:T<w5.heap.size) (hR:R<bs) (hRT:R<T) (hb0:b0<=bs) (hbs:bs<=w5.heap.size) (hf:Fr (fun k=>k=T\/k=R) w6 wF):SgTx b0 s p v vo L wF:=by
 have hnew:∀ k,w5.heap.size<=k->¬(k=T\/k=R):=fun k hk e=>by omega
 refine⟨hfst,owns_lower (hf.own hsq.own (fun k hk=>hnew k (hsq.own.blk k hk).1)) (by omega),fun q hq=>⟨fun j hj=>hf.cell ((hsq.row q hq).1 j hj) (hnew _ (hsq.row q hq).2.2.1),fun j hj=>(hf.frozen (hsq.row q hq).2.2.2 (hnew _ (hsq.row q hq).2.2.1)).trans ((hsq.row q hq).2.1 j hj),by have:=(hsq.row q hq).2.2.1;omega,ltL (hsq.row q hq).2.2.2 hf.size⟩,fun q hq=>⟨hsq.nv q hq,fun e=>?_⟩,hsq.nd,owns_lower (hf.own hoo (fun k hk e=>?_)) hb0,fun k hk e=>?_⟩
 ·have:=hvo _ e
  have:=(hsq.row q hq).2.2.1
  omega
 ·have h1:=hvo k hk
  have h2:=(hoo.blk k hk).1
  omega
 ·have h1:=hvo k e
  have h2:=(hsq.own.blk k hk).1
  omega
theorem frNewQ (h:Fr E a b) (k:Fr F b c) (hF:∀ q,F q->a.heap.size<=q):Fr E a c:=
 ⟨k.os.trans h.os,k.tape.trans h.tape,k.output.trans h.output,leT h.size k.size,fun i hi he=>(k.block i (ltL hi h.size) (fun e=>by have:=hF i e;omega)).trans (h.block i hi he)⟩
theorem SgL.fin {b:Nat} (hL:LsAt N w b o base (.slice (some ⟨gl,0,none⟩) ps.length cl) vs md nx ps ks) (hb8:Below w.heap.size w w8) (hf9:Fr (fun k=>k=gl) w8 w9) (hsl:SlI N b o base (.slice (some ⟨gl,0,none⟩) ps.length cl) vs md nx (ps.set j (ps.getD j dP).on) w9 vs' ks' w10) (hsq:SqI s id0 w10 v1 L w11) (hvo:∀ k,vo.ownBlock=some k->k<T) (hT:T<w8.heap.size) (hRT:R<T) (hR:w.heap.size<=R) (hf:Fr (fun k=>k=T\/k=R) w11 wF):
 SgL N b o base (.slice (some ⟨gl,0,none⟩) ps.length cl) vs vs' md nx ps (ps.set j (ps.getD j dP).on) ks ks' w wF (fun q=>v1.ownBlock≠some q/\vo.ownBlock≠some q/\∀ p∈L,p.2≠q):=by
 have hgl:=hL.ol.blk gl rfl
 have hnb:=hL.nb
 have hbl:b<w.heap.size:=by omega
 have s8:=hb8.size
 have s9:=hf9.size
 have s10:=hsl.fr.size
 have hvs:∀ k,vs.ownBlock=some k->k<w.heap.size:=fun k hk=>(hL.os.blk k hk).2
 have l11:=hsl.ls.grown hsq.bl
 refine⟨l11.fr hf (fun k hk e=>?_) (fun k hk e=>?_),?_,fun q hq=>?_,fun i u hi hu=>?_⟩
 ·rcases hk with hk|hk|hk
  ·omega
  ·simp[Value.ownBlock] at hk
   omega
  ·rcases hsl.nw k hk with h1|h1
   ·have:=hvs k h1;omega
   ·omega
 ·have:=(hL.nN k hk).1
  omega
 ·refine frNewQ ((((Fr.of_below hb8 _).trans (hf9.weak (fun k _ e=>Or.inr (Or.inl (by rw[e];rfl))))).trans (hsl.fr.weak (fun k _ e=>?_))).trans (Fr.of_below hsq.bl _)) hf (fun q hq=>by omega)
  rcases e with e|e
  ·exact Or.inl e
  ·exact Or.inr (Or.inr e)
 ·rcases hsl.nw q hq with h1|h1
  ·exact Or.inl h1
  ·refine Or.inr ⟨by omega,fun e=>?_,fun e=>?_,fun p hp e=>?_⟩
   ·have h2:=(hsq.own.blk q e).1
    have h3:=(hsl.ls.os.blk q hq).2
    omega
   ·have:=hvo q e;omega
   ·have h2:=(hsq.row p hp).2.2.1
    have h3:=(hsl.ls.os.blk q hq).2
    omega
 ·have h8:=(hb8.cell (p:=⟨b,i,none⟩) hbl).trans hu
  have h9:=hf9.cell h8 (by omega)
  have h10:=hsl.cl i u hi h9
  have h11:=(hsq.bl.cell (p:=⟨b,i,none⟩) (cell_lt h10)).trans h10
  exact hf.cell h11 (by omega)
theorem lSign_any (N:NPr) (b o base:Nat) (vl vs:Value) (md nx:Int) (ps:List PayD) (ks:LII) (cb co:Nat) (ao:OAd) (nn cx:Nat) (xs:List Cel) (s n:Int) (w:World) (hL:LsAt N w b o base vl vs md nx ps ks) (hbs:base<=w.heap.size) (hpl:ps.length<=1000000000000) (hkl:ks.length<=20000000) (hcc:w.cell? ⟨cb,co,none⟩=some (.slice ao nn cx)) (hcx:CelsAt w ao xs) (hcn:xs.length=nn) (hcm:nn<=1000000) (hp0:∀ p∈ps,0<p.m) (hkk:∀ p∈ps,∀ x∈p.cs,Mk.isK s x.br x.ix=true):
 Calls Tryz.prog 35 #[.pointer (some ⟨b,o,none⟩),.pointer (some ⟨cb,co,none⟩),.int .i64 s,.int .i64 n] w fun e w'=>∃ v0 v1 v2 er,e=.returned (.tuple #[.agg #[v0,v1,v2],.int .i64 er])/\SignOk N b o base vl vs md nx ps ks xs s n v0 v1 v2 er w w':=by
 obtain⟨al,cl,ev,hat⟩:=OwnRec.at pay5 hL.ol
 subst ev
 have HL:=hiD hL
 have HX:=hiD hcx
 have HXN:=hiD hcn
 have HP0:=hiD hp0
 have HKK:=hiD hkk
 have bA:Below w.heap.size w (w.alloc (.cells #[.int .i64 0,.slice none 0 0,.slice none 0 0] 35)):=(Below.refl _ _).alloc leR _
 have HB0:=hiD bA
 have HR0:Hid (V3 (w.alloc (.cells #[.int .i64 0,.slice none 0 0,.slice none 0 0] 35)) w.heap.size (.int .i64 0) (.slice none 0 0) (.slice none 0 0)):=V3.new w _ _ _ 35
 have HL0:=hiD (hL.grown bA)
 have HA0:=hiD (hat.grown bA)
 have c0:=HL0.out.c0
 clear hL hcx hcn hp0 hkk hat bA
 go_enter Tryz.func35,Tryz.ntmps35
 go_upto_region 1 with fail
 generalize w.alloc (.cells #[.int .i64 0,.slice none 0 0,.slice none 0 0] 35)=w0 at *
 generalize hR:w.heap.size=R at *
 have HRe:=hiD hR
 clear hR
 go_wp2_with fail
 refine(pFind_any b o al ps.length cl ps n _ c0 HA0 rfl hpl).mono ?_
 rintro e w1 ⟨rfl,hb1⟩
 have HB1:Hid (Below w.heap.size w w1):=by rw[HRe.out];exact HB0.out.trans (hb1.mono (by have:=HB0.out.size;have:=HRe.out;omega))
 have HL1:=hiD (HL0.out.grown hb1)
 have HR1:=hiD (HR0.out.grown hb1)
 clear hb1 c0 HB0 HR0 HL0 HA0
 rcases pfind_spec ps n with⟨hneg,_⟩|⟨j,hj,hpj,hnum⟩
 ·have HZ:Hid (signZ xs ps ks n=.inl 11):=by show _=_;unfold signZ;rw[hneg,if_pos (by omega)]
  rw[hneg]
  obtain⟨q0,q1,q2,qz⟩:=HR1.out
  have f0:=qz 0
  have f1:=qz 1
  have f2:=qz 2
  have HVF:Hid _:=((HR1.out.s0 (.int .i64 0)).s1 (.slice none 0 0)).s2 (.slice none 0 0)
  have HBF:Hid (Below w.heap.size w (((w1.setCell ⟨R,0,none⟩ (.int .i64 0)).setCell ⟨R,1,none⟩ (.slice none 0 0)).setCell ⟨R,2,none⟩ (.slice none 0 0))):=HB1.out.trans ((fr3K w1 R _ _ _).toBelow _ HB1.out.size (fun q hq=>by rw[hq,HRe.out];exact leR))
  clear qz
  go_upto_region 3 with fail
  repeat (first|go_values|go_skip|go_guarded|go_step|go_upon)
  obtain⟨z0,z1,z2,_⟩:=HVF.out
  refine bodyPost_ret (v:=.tuple #[.agg #[.int .i64 0,.slice none 0 0,.slice none 0 0],.int .i64 11]) ?_ rfl ⟨_,_,_,_,rfl,Or.inl ⟨11,HZ,rfl,rfl,rfl,rfl,HBF⟩⟩
  simp[results,Tryz.results35,go_sem,z0,z1,z2]
 ·have HPS:Hid (signZ xs ps ks n=if (ps.getD j dP).sg=false/\(hasId xs (ps.getD j dP).id=true\/hasAllZ xs (ps.getD j dP).cs=false) then .inl 12 else if (ps.getD j dP).sg=false/\anySealZ ks (ps.getD j dP).cs=true then .inl 13 else .inr j):=by
   show _=_
   unfold signZ
   rw[hpj,if_neg (by omega),show((j:Nat):Int).toNat=j by omega]
  rw[hpj]
  clear hpj hnum
  rcases HL1.out.ol.slice pay5 with⟨_,hnil⟩|⟨gl,c2,e,_,_,hrow,hfz⟩
  ·rw[hnil] at hj;simp at hj
  injection e with e1 _ e3
  subst e1
  subst e3
  have HFZ:=hiD hfz
  have c0:=HL1.out.c0
  obtain⟨m0,m1,m2,m3,m4⟩:=payCells hrow j hj
  rw[Nat.zero_add] at m0 m1 m2 m3 m4
  have hmem:=getD_mem ps dP j hj
  have HOK:Hid (PayOk N w1 (ps.getD j dP)):=HL1.out.ok _ hmem
  have HPM:Hid (0<(ps.getD j dP).m):=HP0.out _ hmem
  have HPK:Hid (∀ x∈(ps.getD j dP).cs,Mk.isK s x.br x.ix=true):=HKK.out _ hmem
  have HGE:Hid (∀ v0 v1 v2 er w',SignOk N b o base (.slice (some ⟨gl,0,none⟩) ps.length cl) vs md nx ps ks xs s n v0 v1 v2 er w w'↔SignOk N b o base (.slice (some ⟨gl,0,none⟩) ps.length cl) vs md nx ps ks xs s n v0 v1 v2 er w w'):=fun _ _ _ _ _=>Iff.rfl
  clear hrow hfz hmem HGE
  generalize hpe:ps.getD j dP=p at *
  have HPE:=hiD hpe
  clear hpe
  obtain⟨pn,pac,pnc,pcc,pap,pm,pd,ptag,psg,pcs,pys⟩:=p
  simp only at m0 m1 m2 m3 m4
  have hjI:(j:Int)<(ps.length:Int):=by omega
  have hj0:(0:Int)<=(j:Int):=by omega
  have hjn:¬((j:Int)<0):=by omega
  have bK:Below w1.heap.size w1 (w1.alloc (.cells #[.int .i64 pn,.slice pac pnc pcc,.slice pap pm pd,.int .i64 ptag,.bool psg] 159)):=(Below.refl _ _).alloc leR _
  have k1:(w1.alloc (.cells #[.int .i64 pn,.slice pac pnc pcc,.slice pap pm pd,.int .i64 ptag,.bool psg] 159)).cell? ⟨w1.heap.size,1,none⟩=some (.slice pac pnc pcc):=by go_simp
  have k2:(w1.alloc (.cells #[.int .i64 pn,.slice pac pnc pcc,.slice pap pm pd,.int .i64 ptag,.bool psg] 159)).cell? ⟨w1.heap.size,2,none⟩=some (.slice pap pm pd):=by go_simp
  have k3:(w1.alloc (.cells #[.int .i64 pn,.slice pac pnc pcc,.slice pap pm pd,.int .i64 ptag,.bool psg] 159)).cell? ⟨w1.heap.size,3,none⟩=some (.int .i64 ptag):=by go_simp
  have k4:(w1.alloc (.cells #[.int .i64 pn,.slice pac pnc pcc,.slice pap pm pd,.int .i64 ptag,.bool psg] 159)).cell? ⟨w1.heap.size,4,none⟩=some (.bool psg):=by go_simp
  go_upto_region 5 with fail
  have HL2:=hiD (HL1.out.grown bK)
  have HB2:Hid (Below w.heap.size w (w1.alloc (.cells #[.int .i64 pn,.slice pac pnc pcc,.slice pap pm pd,.int .i64 ptag,.bool psg] 159))):=below_blk HB1.out bK
  have HR2:=hiD (HR1.out.grown bK)
  have HO2:Hid (PayOk N (w1.alloc (.cells #[.int .i64 pn,.slice pac pnc pcc,.slice pap pm pd,.int .i64 ptag,.bool psg] 159)) ⟨pn,pac,pnc,pcc,pap,pm,pd,ptag,psg,pcs,pys⟩):=HOK.out.fr (Fr.of_below bK (fun _=>False)) (fun _ _ h=>h)
  have HB1s:=hiD HB1.out.size
  clear bK m0 m1 m2 m3 m4 c0 HL1 HR1 HOK HB1
  generalize w1.alloc (.cells #[.int .i64 pn,.slice pac pnc pcc,.slice pap pm pd,.int .i64 ptag,.bool psg] 159)=w2 at *
  have HKw:=hiD HB1s.out
  generalize w1.heap.size=K at *
  go_wp2_with fail
  refine(unsealed_any pac pnc pcc pcs pap pm pd pys ptag _ HO2.out.co HO2.out.cl (by have:=HO2.out.b1;simp only at this;omega) HO2.out.ou HO2.out.ol HPM (by have:=HO2.out.b2;simp only at this;omega)).mono ?_
  rintro e w3 ⟨vi,vo,rfl,hun,hb3⟩
  obtain⟨ai,ci,evi,hati⟩:=OwnRec.at inC3 hun.oi
  obtain⟨ap2,co2,evo,hato⟩:=OwnRec.at kv2 hun.oo
  subst evi
  subst evo
  have bT:Below w3.heap.size w3 (w3.alloc (.cells #[.int .i64 ptag,.slice ai pcs.length ci,.slice ap2 pys.length co2] 35)):=(Below.refl _ _).alloc leR _
  have b24:=below_blk hb3 bT
  have HT4:Hid (V3 (w3.alloc (.cells #[.int .i64 ptag,.slice ai pcs.length ci,.slice ap2 pys.length co2] 35)) w3.heap.size (.int .i64 ptag) (.slice ai pcs.length ci) (.slice ap2 pys.length co2)):=V3.new w3 _ _ _ 35
  have HI4:=hiD (hati.grown bT)
  have HO4:=hiD (hato.grown bT)
  have HOO4:=hiD (hun.oo.grown bT)
  have HL4:=hiD (HL2.out.grown b24)
  have HB4:Hid (Below w.heap.size w (w3.alloc (.cells #[.int .i64 ptag,.slice ai pcs.length ci,.slice ap2 pys.length co2] 35))):=below_blk HB2.out b24
  have HR4:=hiD (HR2.out.grown b24)
  have HP4:Hid (PayOk N (w3.alloc (.cells #[.int .i64 ptag,.slice ai pcs.length ci,.slice ap2 pys.length co2] 35)) ⟨pn,pac,pnc,pcc,pap,pm,pd,ptag,psg,pcs,pys⟩):=HO2.out.fr (Fr.of_below b24 (fun _=>False)) (fun _ _ h=>h)
  have n1:=(b24.cell (p:=⟨K,1,none⟩) (cell_lt k1)).trans k1
  have n4:=(b24.cell (p:=⟨K,4,none⟩) (cell_lt k4)).trans k4
  go_upto_region 6 with fail
  have hs24:=HB2.out.size
  have hs23:=hb3.size
  have hRl:R<w2.heap.size:=cell_lt HR2.out.c0
  have HVO:Hid (∀ k,(Value.slice ap2 pys.length co2).ownBlock=some k->k<w3.heap.size):=fun k hk=>(hun.oo.blk k hk).2
  have hTl:w3.heap.size<(w3.alloc (.cells #[.int .i64 ptag,.slice ai pcs.length ci,.slice ap2 pys.length co2] 35)).heap.size:=by rw[World.size_alloc];omega
  clear bT b24 hun hati hato hb3 k1 k2 k3 k4 HL2 HR2 HO2
  generalize w3.alloc (.cells #[.int .i64 ptag,.slice ai pcs.length ci,.slice ap2 pys.length co2] 35)=w4 at *
  generalize hT:w3.heap.size=T at *
  have HTe:Hid (w.heap.size<=T/\R<T/\R<w2.heap.size/\w.heap.size<=w2.heap.size/\w2.heap.size<=T):=by refine⟨?_,?_,?_,?_,?_⟩<;>omega
  clear hT hs24 hs23 hRl
  obtain⟨t0,t1,t2,_⟩:=HT4.out
  go_wp2_with fail
  refine(txId_any ptag ai pcs.length ci ap2 pys.length co2 (pcs.map fun x=>(⟨x.id,x.pos,none,0,0,[]⟩:InD)) pys _ (inC_insQ HI4) (by simp) (rec_outs HO4) rfl).mono ?_
  rintro e w5 ⟨rfl,hb5⟩
  have HID:Hid (Mk.isM (idZ ptag (pcs.map fun x=>(⟨x.id,x.pos,none,0,0,[]⟩:InD)) pys)=true):=idZ_bd _ _ _
  have HPI:Hid (PayD.id ⟨pn,pac,pnc,pcc,pap,pm,pd,ptag,psg,pcs,pys⟩=idZ ptag (pcs.map fun x=>(⟨x.id,x.pos,none,0,0,[]⟩:InD)) pys):=rfl
  have HT5:=hiD (HT4.out.grown hb5)
  have HOO5:=hiD (HOO4.out.grown hb5)
  have HL5:=hiD (HL4.out.grown hb5)
  have HB5:Hid (Below w.heap.size w w5):=below_blk HB4.out hb5
  have HR5:=hiD (HR4.out.grown hb5)
  have HP5:Hid (PayOk N w5 ⟨pn,pac,pnc,pcc,pap,pm,pd,ptag,psg,pcs,pys⟩):=HP4.out.fr (Fr.of_below hb5 (fun _=>False)) (fun _ _ h=>h)
  have HT5l:Hid (T<w5.heap.size):=ltL hTl hb5.size
  clear hTl
  have l1:=(hb5.cell (p:=⟨K,1,none⟩) (cell_lt n1)).trans n1
  have l4:=(hb5.cell (p:=⟨K,4,none⟩) (cell_lt n4)).trans n4
  clear hb5 n1 n4 t0 t1 t2 HT4 HI4 HO4 HOO4 HL4 HB4 HR4 HP4
  generalize idZ ptag (pcs.map fun x=>(⟨x.id,x.pos,none,0,0,[]⟩:InD)) pys=id0 at *
  cases psg
  ·have HC5:Hid (w5.cell? ⟨cb,co,none⟩=some (.slice ao nn cx)):=(HB5.out.cell (p:=⟨cb,co,none⟩) (cell_lt hcc)).trans hcc
   have HX5:=hiD (HX.out.grown HB5.out)
   go_wp2_with fail
   refine(hasId_any cb co ao nn cx xs id0 _ HC5 HX5 HXN hcm).mono ?_
   rintro e w6 ⟨rfl,hb6⟩
   have HB6:Hid (Below w.heap.size w w6):=below_blk HB5.out hb6
   have HR6:=hiD (HR5.out.grown hb6)
   have m1:=(hb6.cell (p:=⟨K,1,none⟩) (cell_lt l1)).trans l1
   cases hh:hasId xs id0
   ·have HC6:Hid (w6.cell? ⟨cb,co,none⟩=some (.slice ao nn cx)):=(hb6.cell (p:=⟨cb,co,none⟩) (cell_lt HC5.out)).trans HC5.out
    have HX6:=hiD (HX5.out.grown hb6)
    have HCO6:=hiD (HP5.out.co.grown hb6)
    clear l1 l4
    go_wp2_with fail
    refine(hasAll_any cb co ao nn cx xs pac pnc pcc pcs _ HC6 HX6 HXN hcm HCO6 HP5.out.cl (by have:=HP5.out.b1;simp only at this;omega)).mono ?_
    rintro e w7 ⟨rfl,hb7⟩
    have HB7:Hid (Below w.heap.size w w7):=below_blk HB6.out hb7
    have HR7:=hiD (HR6.out.grown hb7)
    have m2:=(hb7.cell (p:=⟨K,1,none⟩) (cell_lt m1)).trans m1
    cases ha:hasAllZ xs pcs
    ·have HZ:Hid (signZ xs ps ks n=.inl 12):=by show _=_;rw[HPS.out,if_pos ⟨by first|trivial|rfl,Or.inr ha⟩]
     obtain⟨q0,q1,q2,qz⟩:=HR7.out
     have f0:=qz 0
     have f1:=qz 1
     have f2:=qz 2
     have HVF:Hid (V3 (((w7.setCell ⟨R,0,none⟩ (.int .i64 0)).setCell ⟨R,1,none⟩ (.slice none 0 0)).setCell ⟨R,2,none⟩ (.slice none 0 0)) R (.int .i64 0) (.slice none 0 0) (.slice none 0 0)):=((HR7.out.s0 _).s1 _).s2 _
     have HBF:Hid (Below w.heap.size w (((w7.setCell ⟨R,0,none⟩ (.int .i64 0)).setCell ⟨R,1,none⟩ (.slice none 0 0)).setCell ⟨R,2,none⟩ (.slice none 0 0))):=HB7.out.trans ((fr3K w7 R _ _ _).toBelow _ HB7.out.size (fun q hq=>by rw[hq,HRe.out];exact leR))
     clear qz
     go_upto_region 9 with fail
     repeat (first|go_values|go_skip|go_guarded|go_step|go_upon)
     obtain⟨z0,z1,z2,_⟩:=HVF.out
     refine bodyPost_ret (v:=.tuple #[.agg #[.int .i64 0,.slice none 0 0,.slice none 0 0],.int .i64 12]) ?_ rfl ⟨_,_,_,_,rfl,Or.inl ⟨12,HZ,rfl,rfl,rfl,rfl,HBF⟩⟩
     simp[results,Tryz.results35,go_sem,z0,z1,z2]
    ·have hb57:=below_blk hb6 hb7
     have HL7:=hiD (HL5.out.grown hb57)
     have HCO7:=hiD (HP5.out.co.grown hb57)
     obtain⟨ak,ck,eks,hatk⟩:=OwnRec.at kv2 HL7.out.os
     have HAK:=hiD hatk
     have c1:=HL7.out.c1
     rw[eks] at c1
     clear hatk m1
     go_wp2_with fail
     refine(anySealed_any b o ak ks.length ck ks pac pnc pcc pcs _ c1 HAK rfl (by omega) HCO7 HP5.out.cl (by have:=HP5.out.b1;simp only at this;omega)).mono ?_
     rintro e w8 ⟨rfl,hb8⟩
     have HB8:Hid (Below w.heap.size w w8):=below_blk HB7.out hb8
     have HR8:=hiD (HR7.out.grown hb8)
     have m3:=(hb8.cell (p:=⟨K,1,none⟩) (cell_lt m2)).trans m2
     cases hk:anySealZ ks pcs
     ·have hb58:=below_blk hb57 hb8
      have HL8:=hiD (HL5.out.grown hb58)
      have HT8:=hiD (HT5.out.grown hb58)
      have HOO8:=hiD (HOO5.out.grown hb58)
      have HT8l:Hid (T<w8.heap.size):=ltL HT5l.out hb58.size
      have HZ:Hid (signZ xs ps ks n=.inr j):=by
       show _=_
       rw[HPS.out,if_neg (fun e=>?_),if_neg (fun e=>?_)]
       ·have:=e.2;rw[hk] at this;cases this
       ·rcases e.2 with e|e
        ·rw[HPI.out,hh] at e;cases e
        ·rw[ha] at e;cases e
      clear hb6 hb7 hb8 hb57 hb58 HC5 HX5 HC6 HX6 HL7 HCO6 HCO7 HAK c1 m2 HB6 HB7 HR6 HR7 HL5 HT5 HOO5 HB5 HR5
      rcases HL8.out.ol.slice pay5 with⟨_,hnil⟩|⟨gl2,cl2,e,_,_,hrow,hfz⟩
      ·rw[hnil] at hj;simp at hj
      injection e with e1 _ e3
      injection e1 with e1
      injection e1 with e1
      subst e1
      subst e3
      have c0:=HL8.out.c0
      have g4:=(payCells hrow j hj).c4
      rw[HPE.out,Nat.zero_add] at g4
      simp only at g4
      have fg:=hfz (j*5+4)
      have hputS:=HL8.out.putS j hj
      have HL9:=hiD hputS.1
      have HF9:=hiD hputS.2
      clear hputS hrow hfz
      obtain⟨hT1,hT2,hT3,hT4,hT5⟩:=HTe.out
      have hgl:=(HL.out.ol.blk gl rfl).2
      have hKw:w.heap.size<=K:=HKw.out
      have m4:=HF9.out.cell m3 (by omega)
      have HT9:Hid (V3 (w8.setCell ⟨gl,j*5+4,none⟩ (.bool true)) T (.int .i64 ptag) (.slice ai pcs.length ci) (.slice ap2 pys.length co2)):=HT8.out.fr HF9.out (by omega)
      have HR9:Hid (V3 (w8.setCell ⟨gl,j*5+4,none⟩ (.bool true)) R (.int .i64 0) (.slice none 0 0) (.slice none 0 0)):=HR8.out.fr HF9.out (by have:=HRe.out;omega)
      have HOO9:Hid (OwnRec kV 93 2 (w8.setCell ⟨gl,j*5+4,none⟩ (.bool true)) w2.heap.size (.slice ap2 pys.length co2) pys):=HF9.out.own HOO8.out (fun k hk e=>by have:=(HOO8.out.blk k hk).1;omega)
      have HP9:Hid (PayOk N (w8.setCell ⟨gl,j*5+4,none⟩ (.bool true)) ⟨pn,pac,pnc,pcc,pap,pm,pd,ptag,true,pcs,pys⟩):=by
       have:=HL9.out.ok (ps.getD j dP).on (List.mem_iff_getElem.2 ⟨j,by simpa using hj,by simp⟩)
       rw[HPE.out] at this
       exact this
      have hbs9:base<=(w8.setCell ⟨gl,j*5+4,none⟩ (.bool true)).heap.size:=by have h1:=HB8.out.size;have h2:=HF9.out.size;have h3:=HRe.out;omega
      go_upto_region 13 with fail
      clear c0 g4 fg m3
      generalize w8.setCell ⟨gl,j*5+4,none⟩ (.bool true)=w9 at *
      go_wp2_with fail
      refine(addSealed_any N b o base (.slice (some ⟨gl,0,none⟩) ps.length cl) vs md nx (ps.set j (ps.getD j dP).on) ks pac pnc pcc pcs _ HL9 hbs9 hkl HP9.out.co HP9.out.cl (by have:=HP9.out.b1;simp only at this;omega) HP9.out.nc).mono ?_
      rintro e w10 ⟨rfl,vs',hsl⟩
      have HSL:=hiD hsl
      have hnb:=HL.out.nb
      have hE:∀ k,w.heap.size<=k->¬(k=b\/vs.ownBlock=some k):=fun k hk e=>by
       rcases e with e|e
       ·omega
       ·have:=(HL.out.os.blk k e).2;omega
      have l1:=hsl.fr.cell m4 (hE _ hKw)
      have HT5:Hid (V3 w10 T (.int .i64 ptag) (.slice ai pcs.length ci) (.slice ap2 pys.length co2)):=HT9.out.fr hsl.fr (hE _ hT1)
      have HR5:Hid (V3 w10 R (.int .i64 0) (.slice none 0 0) (.slice none 0 0)):=HR9.out.fr hsl.fr (hE _ (by have:=HRe.out;omega))
      have HOO5:Hid (OwnRec kV 93 2 w10 w2.heap.size (.slice ap2 pys.length co2) pys):=hsl.fr.own HOO9.out (fun k hk=>hE k (by have:=(HOO9.out.blk k hk).1;omega))
      have HP10:Hid (PayOk N w10 ⟨pn,pac,pnc,pcc,pap,pm,pd,ptag,true,pcs,pys⟩):=by
       have:=hsl.ls.ok (ps.getD j dP).on (List.mem_iff_getElem.2 ⟨j,by simpa using hj,by simp⟩)
       rw[HPE.out] at this
       exact this
      have HT10l:Hid (T<w10.heap.size):=ltL HT8l.out (leT HF9.out.size hsl.fr.size)
      clear hsl m4 hE
      go_wp2_with fail
      refine(sealedIns_any pac pnc pcc pcs s id0 _ HP10.out.co HP10.out.cl (by have:=HP10.out.b1;simp only at this;omega) HPK HID).mono ?_
      rintro e w11 ⟨v,L,rfl,hfst,hsq⟩
      obtain⟨a9,c9,e9,_⟩:=OwnRec.at sn3 hsq.own
      subst e9
      have HT6:=hiD (HT5.out.grown hsq.bl)
      have HR6:=hiD (HR5.out.grown hsq.bl)
      have HFT:Hid (Fr (fun k=>k=T) w11 (w11.setCell ⟨T,1,none⟩ (.slice a9 L.length c9))):=(Fr.refl _ w11).set T 1 _ (fun _=>rfl)
      have HT7:Hid (V3 (w11.setCell ⟨T,1,none⟩ (.slice a9 L.length c9)) T (.int .i64 ptag) (.slice a9 L.length c9) (.slice ap2 pys.length co2)):=HT6.out.s1 _
      have HR7:Hid (V3 (w11.setCell ⟨T,1,none⟩ (.slice a9 L.length c9)) R (.int .i64 0) (.slice none 0 0) (.slice none 0 0)):=HR6.out.fr HFT.out (by omega)
      have HVF:Hid (V3 ((((w11.setCell ⟨T,1,none⟩ (.slice a9 L.length c9)).setCell ⟨R,0,none⟩ (.int .i64 ptag)).setCell ⟨R,1,none⟩ (.slice a9 L.length c9)).setCell ⟨R,2,none⟩ (.slice ap2 pys.length co2)) R (.int .i64 ptag) (.slice a9 L.length c9) (.slice ap2 pys.length co2)):=((HR7.out.s0 _).s1 _).s2 _
      have HFF:Hid (Fr (fun k=>k=T\/k=R) w11 ((((w11.setCell ⟨T,1,none⟩ (.slice a9 L.length c9)).setCell ⟨R,0,none⟩ (.int .i64 ptag)).setCell ⟨R,1,none⟩ (.slice a9 L.length c9)).setCell ⟨R,2,none⟩ (.slice ap2 pys.length co2))):=frTR w11 T R _ _ _ _
      have HSG:Hid (SgTx w.heap.size s ⟨pn,pac,pnc,pcc,pap,pm,pd,ptag,false,pcs,pys⟩ (.slice a9 L.length c9) (.slice ap2 pys.length co2) L ((((w11.setCell ⟨T,1,none⟩ (.slice a9 L.length c9)).setCell ⟨R,0,none⟩ (.int .i64 ptag)).setCell ⟨R,1,none⟩ (.slice a9 L.length c9)).setCell ⟨R,2,none⟩ (.slice ap2 pys.length co2))):=SgTx.fin (p:=⟨pn,pac,pnc,pcc,pap,pm,pd,ptag,false,pcs,pys⟩) (by rw[HPI.out];exact hsq) hfst (HOO5.out.grown hsq.bl) HVO HT10l hT3 hT2 hT4 (by have:=HT10l.out;omega) HFF
      have HSF:Hid (SgL N b o base (.slice (some ⟨gl,0,none⟩) ps.length cl) vs vs' md nx ps (ps.set j (ps.getD j dP).on) ks (addKeysZ ks pcs) w ((((w11.setCell ⟨T,1,none⟩ (.slice a9 L.length c9)).setCell ⟨R,0,none⟩ (.int .i64 ptag)).setCell ⟨R,1,none⟩ (.slice a9 L.length c9)).setCell ⟨R,2,none⟩ (.slice ap2 pys.length co2)) (fun q=>(Value.slice a9 L.length c9).ownBlock≠some q/\(Value.slice ap2 pys.length co2).ownBlock≠some q/\∀ p∈L,p.2≠q)):=SgL.fin HL.out HB8.out HF9.out HSL.out hsq HVO.out HT8l.out hT2 (by have:=HRe.out;omega) HFF.out
      obtain⟨t0,t1,t2,tz⟩:=HT6.out
      have ft:=tz 1
      obtain⟨r0,r1,r2,rz⟩:=HR6.out
      have fr0:=rz 0
      have fr1:=rz 1
      have fr2:=rz 2
      clear tz rz hsq hfst
      have hRT:¬(R=T):=by omega
      go_upto_region 15 with fail
      clear t0 t1 t2 ft r0 r1 r2 fr0 fr1 fr2 HFT HT6 HR6
      generalize w11.setCell ⟨T,1,none⟩ (.slice a9 L.length c9)=w12 at *
      obtain⟨t0,t1,t2,_⟩:=HT7.out
      obtain⟨r0,r1,r2,rz⟩:=HR7.out
      have fr0:=rz 0
      have fr1:=rz 1
      have fr2:=rz 2
      clear rz
      repeat (first|go_values|go_skip|go_guarded|go_step|go_upon)
      obtain⟨z0,z1,z2,_⟩:=HVF.out
      refine bodyPost_ret (v:=.tuple #[.agg #[.int .i64 ptag,.slice a9 L.length c9,.slice ap2 pys.length co2],.int .i64 0]) ?_ rfl ⟨_,_,_,_,rfl,Or.inr ⟨j,L,HZ,hj,rfl,by rw[HPE.out],by rw[HPE.out];exact HSG,Or.inr ⟨by rw[HPE.out],vs',by rw[show(ps.getD j dP).cs=pcs by rw[HPE.out]];exact HSF⟩⟩⟩
      simp[results,Tryz.results35,go_sem,z0,z1,z2]
     ·have HZ:Hid (signZ xs ps ks n=.inl 13):=by show _=_;rw[HPS.out,if_neg (fun e=>?_),if_pos ⟨by first|trivial|rfl,hk⟩];rcases e.2 with e|e;(rw[HPI.out,hh] at e;cases e);(rw[ha] at e;cases e)
      obtain⟨q0,q1,q2,qz⟩:=HR8.out
      have f0:=qz 0
      have f1:=qz 1
      have f2:=qz 2
      have HVF:Hid (V3 (((w8.setCell ⟨R,0,none⟩ (.int .i64 0)).setCell ⟨R,1,none⟩ (.slice none 0 0)).setCell ⟨R,2,none⟩ (.slice none 0 0)) R (.int .i64 0) (.slice none 0 0) (.slice none 0 0)):=((HR8.out.s0 _).s1 _).s2 _
      have HBF:Hid (Below w.heap.size w (((w8.setCell ⟨R,0,none⟩ (.int .i64 0)).setCell ⟨R,1,none⟩ (.slice none 0 0)).setCell ⟨R,2,none⟩ (.slice none 0 0))):=HB8.out.trans ((fr3K w8 R _ _ _).toBelow _ HB8.out.size (fun q hq=>by rw[hq,HRe.out];exact leR))
      clear qz
      go_upto_region 11 with fail
      repeat (first|go_values|go_skip|go_guarded|go_step|go_upon)
      obtain⟨z0,z1,z2,_⟩:=HVF.out
      refine bodyPost_ret (v:=.tuple #[.agg #[.int .i64 0,.slice none 0 0,.slice none 0 0],.int .i64 13]) ?_ rfl ⟨_,_,_,_,rfl,Or.inl ⟨13,HZ,rfl,rfl,rfl,rfl,HBF⟩⟩
      simp[results,Tryz.results35,go_sem,z0,z1,z2]
   ·have HZ:Hid (signZ xs ps ks n=.inl 12):=by show _=_;rw[HPS.out,if_pos ⟨by first|trivial|rfl,Or.inl (by rw[HPI.out];exact hh)⟩]
    obtain⟨q0,q1,q2,qz⟩:=HR6.out
    have f0:=qz 0
    have f1:=qz 1
    have f2:=qz 2
    have HVF:Hid (V3 (((w6.setCell ⟨R,0,none⟩ (.int .i64 0)).setCell ⟨R,1,none⟩ (.slice none 0 0)).setCell ⟨R,2,none⟩ (.slice none 0 0)) R (.int .i64 0) (.slice none 0 0) (.slice none 0 0)):=((HR6.out.s0 _).s1 _).s2 _
    have HBF:Hid (Below w.heap.size w (((w6.setCell ⟨R,0,none⟩ (.int .i64 0)).setCell ⟨R,1,none⟩ (.slice none 0 0)).setCell ⟨R,2,none⟩ (.slice none 0 0))):=HB6.out.trans ((fr3K w6 R _ _ _).toBelow _ HB6.out.size (fun q hq=>by rw[hq,HRe.out];exact leR))
    clear qz
    go_upto_region 9 with fail
    repeat (first|go_values|go_skip|go_guarded|go_step|go_upon)
    obtain⟨z0,z1,z2,_⟩:=HVF.out
    refine bodyPost_ret (v:=.tuple #[.agg #[.int .i64 0,.slice none 0 0,.slice none 0 0],.int .i64 12]) ?_ rfl ⟨_,_,_,_,rfl,Or.inl ⟨12,HZ,rfl,rfl,rfl,rfl,HBF⟩⟩
    simp[results,Tryz.results35,go_sem,z0,z1,z2]
  ·go_wp2_with fail
   refine(sealedIns_any pac pnc pcc pcs s id0 _ HP5.out.co HP5.out.cl (by have:=HP5.out.b1;simp only at this;omega) HPK HID).mono ?_
   rintro e w6 ⟨v,L,rfl,hfst,hsq⟩
   obtain⟨a9,c9,e9,_⟩:=OwnRec.at sn3 hsq.own
   subst e9
   obtain⟨hT1,hT2,hT3,hT4,hT5⟩:=HTe.out
   have HT6:=hiD (HT5.out.grown hsq.bl)
   have HR6:=hiD (HR5.out.grown hsq.bl)
   have HFT:Hid (Fr (fun k=>k=T) w6 (w6.setCell ⟨T,1,none⟩ (.slice a9 L.length c9))):=(Fr.refl _ w6).set T 1 _ (fun _=>rfl)
   have HT7:Hid (V3 (w6.setCell ⟨T,1,none⟩ (.slice a9 L.length c9)) T (.int .i64 ptag) (.slice a9 L.length c9) (.slice ap2 pys.length co2)):=HT6.out.s1 _
   have HR7:Hid (V3 (w6.setCell ⟨T,1,none⟩ (.slice a9 L.length c9)) R (.int .i64 0) (.slice none 0 0) (.slice none 0 0)):=HR6.out.fr HFT.out (by omega)
   have HVF:Hid (V3 ((((w6.setCell ⟨T,1,none⟩ (.slice a9 L.length c9)).setCell ⟨R,0,none⟩ (.int .i64 ptag)).setCell ⟨R,1,none⟩ (.slice a9 L.length c9)).setCell ⟨R,2,none⟩ (.slice ap2 pys.length co2)) R (.int .i64 ptag) (.slice a9 L.length c9) (.slice ap2 pys.length co2)):=((HR7.out.s0 _).s1 _).s2 _
   have HFF:Hid (Fr (fun k=>k=T\/k=R) w6 ((((w6.setCell ⟨T,1,none⟩ (.slice a9 L.length c9)).setCell ⟨R,0,none⟩ (.int .i64 ptag)).setCell ⟨R,1,none⟩ (.slice a9 L.length c9)).setCell ⟨R,2,none⟩ (.slice ap2 pys.length co2))):=frTR w6 T R _ _ _ _
   have HSG:Hid (SgTx w.heap.size s ⟨pn,pac,pnc,pcc,pap,pm,pd,ptag,true,pcs,pys⟩ (.slice a9 L.length c9) (.slice ap2 pys.length co2) L ((((w6.setCell ⟨T,1,none⟩ (.slice a9 L.length c9)).setCell ⟨R,0,none⟩ (.int .i64 ptag)).setCell ⟨R,1,none⟩ (.slice a9 L.length c9)).setCell ⟨R,2,none⟩ (.slice ap2 pys.length co2))):=SgTx.fin (p:=⟨pn,pac,pnc,pcc,pap,pm,pd,ptag,true,pcs,pys⟩) (by rw[HPI.out];exact hsq) hfst (HOO5.out.grown hsq.bl) HVO HT5l hT3 hT2 hT4 (by have:=HT5l.out;omega) HFF
   have HBF:Hid (Below w.heap.size w ((((w6.setCell ⟨T,1,none⟩ (.slice a9 L.length c9)).setCell ⟨R,0,none⟩ (.int .i64 ptag)).setCell ⟨R,1,none⟩ (.slice a9 L.length c9)).setCell ⟨R,2,none⟩ (.slice ap2 pys.length co2))):=by
    have h1:=below_blk HB5.out hsq.bl
    refine h1.trans (HFF.out.toBelow _ h1.size (fun q hq=>?_))
    have:=HRe.out
    rcases hq with e|e<;>omega
   have HZ:Hid (signZ xs ps ks n=.inr j):=by show _=_;rw[HPS.out,if_neg (by simp),if_neg (by simp)]
   obtain⟨t0,t1,t2,tz⟩:=HT6.out
   have ft:=tz 1
   obtain⟨r0,r1,r2,rz⟩:=HR6.out
   have fr0:=rz 0
   have fr1:=rz 1
   have fr2:=rz 2
   clear tz rz hsq hfst
   have hRT:¬(R=T):=by omega
   go_upto_region 15 with fail
   clear t0 t1 t2 ft r0 r1 r2 fr0 fr1 fr2 HFT HT6 HR6
   generalize w6.setCell ⟨T,1,none⟩ (.slice a9 L.length c9)=w7 at *
   obtain⟨t0,t1,t2,_⟩:=HT7.out
   obtain⟨r0,r1,r2,rz⟩:=HR7.out
   have fr0:=rz 0
   have fr1:=rz 1
   have fr2:=rz 2
   clear rz
   repeat (first|go_values|go_skip|go_guarded|go_step|go_upon)
   obtain⟨z0,z1,z2,_⟩:=HVF.out
   refine bodyPost_ret (v:=.tuple #[.agg #[.int .i64 ptag,.slice a9 L.length c9,.slice ap2 pys.length co2],.int .i64 0]) ?_ rfl ⟨_,_,_,_,rfl,Or.inr ⟨j,L,HZ,hj,rfl,by rw[HPE.out],by rw[HPE.out];exact HSG,Or.inl ⟨by rw[HPE.out],HBF⟩⟩⟩
   simp[results,Tryz.results35,go_sem,z0,z1,z2]
end
end Go.Proofs.YtffgpepngcnjeabGreat
