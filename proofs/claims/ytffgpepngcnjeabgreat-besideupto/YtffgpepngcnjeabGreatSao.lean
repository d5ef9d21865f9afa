import Derived.Test.YtffgpepngcnjeabGreatSal
import Derived.Test.YtffgpepngcnjeabGreatSam
import Derived.Test.YtffgpepngcnjeabGreatSan
namespace Go.Proofs.YtffgpepngcnjeabGreat
set_option maxRecDepth 100000
set_option maxHeartbeats 4000000
section
open Go.RowKit

theorem hBl_k (bl:List TxD) (hs:List HD):(hBl bl hs).map TxD.k=bl.map TxD.k:=by
 apply List.ext_getElem
 ·simp[hBl]
 ·intro j h1 h2
  simp only[List.length_map] at h2
  simp only[hBl,List.getElem_map,List.getElem_range]
  have e:bl.getD j dT=bl[j]:=by simp[List.getD,h2]
  rw[e]
  unfold TxD.k hTx
  simp only
  congr 2
  apply List.ext_getElem
  ·simp
  ·intro i h3 h4
   simp only[List.length_map] at h4
   simp only[List.getElem_map,List.getElem_range]
   have e2:(bl[j]).ins.getD i dIn=(bl[j]).ins[i]:=by simp[List.getD,h4]
   rw[e2]
   rfl
structure GI (N X:NPr) (E DE:List (Nat×Value)) (G P D:Nat) (V:Value) (s:Int) (g:Nat) (v:Value) (ao:OAd) (c:Nat) (bls:List (List TxD)) (xs:List Cel) (w:World):Prop where
 gm:VRow w G 0 [.pointer (some ⟨P,0,none⟩),.pointer (some ⟨D,0,none⟩),V]
 pu:PAt E w P s g v (bls.length:Nat) xs
 dc:DCh N w D ao c bls
 de:∀ q∈DE,q.1≠4/\w.cell? ⟨D,q.1,none⟩=some q.2
 lk:Lk bls xs
 xp:∀ k,chE P v k->¬X k/\¬N k
 xl:∀ k,X k->k<w.heap.size/\¬N k
 nl:∀ k,N k->k<w.heap.size
 xg:X G
 xd:X D
 gd:G≠D
 xr:∀ a,ao=some a->X a.block
variable {N X:NPr} {E DE:List (Nat×Value)} {G P D:Nat} {V:Value} {s:Int} {g:Nat} {v:Value} {ao:OAd} {c:Nat} {bls:List (List TxD)} {xs:List Cel}
theorem GI.fr {F:NPr} {w w':World} (h:GI N X E DE G P D V s g v ao c bls xs w) (hf:Fr F w w') (hp:∀ k,chE P v k->¬F k) (hx:∀ k,X k->¬F k) (hn:∀ k,N k->¬F k):GI N X E DE G P D V s g v ao c bls xs w':=
 ⟨hf.vrow h.gm (hx _ h.xg),h.pu.fr hf hp,h.dc.fr hf hn (fun a ha=>hx _ (h.xr a ha)) (hx _ h.xd),fun q hq=>⟨(h.de q hq).1,hf.cell (h.de q hq).2 (hx _ h.xd)⟩,h.lk,h.xp,fun k hk=>⟨ltL (h.xl k hk).1 hf.size,(h.xl k hk).2⟩,fun k hk=>ltL (h.nl k hk) hf.size,h.xg,h.xd,h.gd,h.xr⟩
theorem GI.grown {w w':World} (h:GI N X E DE G P D V s g v ao c bls xs w) (hb:Below w.heap.size w w'):GI N X E DE G P D V s g v ao c bls xs w':=
 h.fr (Fr.of_below hb (fun _=>False)) (fun _ _ h=>h) (fun _ _ h=>h) (fun _ _ h=>h)
theorem GI.drew {w:World} (h:GI N X E DE G P D V s g v ao c bls xs w):GI N X E DE G P D V s g v ao c bls xs w.drew:=h.grown ((Below.refl _ _).drew)
theorem GI.ch {w:World} (h:GI N X E DE G P D V s g v ao c bls xs w):∀ k,chE P v k->k<w.heap.size:=fun k hk=>(h.pu.blk k hk).2
theorem GI.g0 {w:World} (h:GI N X E DE G P D V s g v ao c bls xs w):w.cell? ⟨G,0,none⟩=some (.pointer (some ⟨P,0,none⟩)):=h.gm 0 (by simp)
theorem GI.g1 {w:World} (h:GI N X E DE G P D V s g v ao c bls xs w):w.cell? ⟨G,1,none⟩=some (.pointer (some ⟨D,0,none⟩)):=h.gm 1 (by simp)
def GStep (N X:NPr) (E DE:List (Nat×Value)) (G P D:Nat) (V:Value) (s:Int) (g:Nat) (v:Value) (ao:OAd) (w w':World):Prop:=
 ∃ (X':NPr) (v':Value) (ao':OAd) (c':Nat) (bls':List (List TxD)) (xs':List Cel),(∀ k,X k->X' k)/\(∀ a,ao'=some a->ao=some a\/w.heap.size<=a.block)/\Fr (fun k=>chE P v k\/k=D) w w'/\GI N X' E DE G P D V s g v' ao' c' bls' xs' w'
theorem GI.moved {w w':World} {v':Value} (h:GI N X E DE G P D V s g v ao c bls xs w) (hst:ChStep P v v' w w'):
 VRow w' G 0 [.pointer (some ⟨P,0,none⟩),.pointer (some ⟨D,0,none⟩),V]/\DCh N w' D ao c bls/\(∀ q∈DE,q.1≠4/\w'.cell? ⟨D,q.1,none⟩=some q.2)/\(∀ k,chE P v' k->¬X k/\¬N k)/\(∀ k,X k->k<w'.heap.size/\¬N k)/\(∀ k,N k->k<w'.heap.size):=by
 have hx:∀ k,X k->¬chE P v k:=fun k hk e=>(h.xp k e).1 hk
 have hn:∀ k,N k->¬chE P v k:=fun k hk e=>(h.xp k e).2 hk
 refine⟨hst.fr.vrow h.gm (hx _ h.xg),h.dc.fr hst.fr hn (fun a ha=>hx _ (h.xr a ha)) (hx _ h.xd),fun q hq=>⟨(h.de q hq).1,hst.fr.cell (h.de q hq).2 (hx _ h.xd)⟩,fun k hk=>?_,fun k hk=>⟨ltL (h.xl k hk).1 hst.fr.size,(h.xl k hk).2⟩,fun k hk=>ltL (h.nl k hk) hst.fr.size⟩
 rcases hk with hk|hk
 ·exact h.xp k (Or.inl hk)
 ·rcases hst.own k hk with e|e
  ·exact h.xp k (Or.inr e)
  ·exact⟨fun hX=>by have:=(h.xl k hX).1;omega,fun hN=>by have:=h.nl k hN;omega⟩
theorem Fr.trans_new {E F:NPr} {a b c:World} (h:Fr E a b) (k:Fr F b c) (hF:∀ q,F q->a.heap.size<=q):Fr E a c:=
 ⟨k.os.trans h.os,k.tape.trans h.tape,k.output.trans h.output,leT h.size k.size,fun i hi he=>(k.block i (ltL hi h.size) (fun e=>by have:=hF i e;omega)).trans (h.block i hi he)⟩
structure OpD where
 kd:Int
 on:Int
 a:Int
 b:Int
 ab:OAd
 m:Nat
 d:Nat
 bl:List TxD
 oa:OAd
 om:Nat
 od:Nat
 ys:LII
abbrev OpD.val (x:OpD):Value:=.agg #[.int .i64 x.kd,.int .i64 x.on,.int .i64 x.a,.int .i64 x.b,.slice x.ab x.m x.d,.slice x.oa x.om x.od]
structure OpOk (N:NPr) (w:World) (x:OpD):Prop where
 blk:BlkAt N w x.ab x.bl
 len:x.bl.length=x.m
 cap:x.m<=x.d
 n1:x.m<=2513169434915
 hx:∀ t∈x.bl,TxH t
 outs:OutsAt w x.oa x.ys
 ol:x.ys.length=x.om
 on:x.ys≠[]->∀ a,x.oa=some a->N a.block
 o1:x.om<=8796093022208
 o0:x.oa=none->x.od=0
theorem outs_frN {E:NPr} {w w':World} (hf:Fr E w w') {ao:OAd} {l:LII} (h:OutsAt w ao l) (hn:l≠[]->∀ a,ao=some a->¬E a.block):OutsAt w' ao l:=by
 by_cases he:l=[]
 ·exact Or.inl he
 ·rcases h with h|⟨b,off,rfl,hr⟩
  ·exact Or.inl h
  ·exact Or.inr ⟨b,off,rfl,fun j hj=>⟨hf.cell (hr j hj).1 (hn he _ rfl),hf.cell (hr j hj).2 (hn he _ rfl)⟩⟩
theorem OpOk.fr {F N:NPr} {w w':World} (hf:Fr F w w') {x:OpD} (h:OpOk N w x) (hn:∀ k,N k->¬F k):OpOk N w' x:=⟨h.blk.fr hf hn,h.len,h.cap,h.n1,h.hx,outs_frN hf h.outs (fun e a ha=>hn _ (h.on e a ha)),h.ol,h.on,h.o1,h.o0⟩
theorem connects_any (o:OpD) (w:World) (hg:GI N X E DE G P D V s g v ao c bls xs w) (ho:OpOk N w o):
 Calls Tryz.prog 66 #[.pointer (some ⟨G,0,none⟩),o.val] w fun e w'=>e=.returned (.bool true)/\GStep N X E DE G P D V s g v ao w w':=by
 obtain⟨kd,on,oa1,ob1,ab,m,d,bl,oa,om,od,ys⟩:=o
 have hb1:Below w.heap.size w (w.alloc (.cells #[.int .i64 kd,.int .i64 on,.int .i64 oa1,.int .i64 ob1,.slice ab m d,.slice oa om od] 82)):=(Below.refl _ _).alloc leR _
 have x4:(w.alloc (.cells #[.int .i64 kd,.int .i64 on,.int .i64 oa1,.int .i64 ob1,.slice ab m d,.slice oa om od] 82)).cell? ⟨w.heap.size,4,none⟩=some (.slice ab m d):=by rw[World.cell?_alloc_new];rfl
 have HG0:=hiD hg
 have HG:=hiD (hg.grown hb1)
 have hok:=ho.fr (Fr.of_below hb1 (fun _=>False)) (fun _ _ h=>h)
 have HL:=hiD ho.len
 have HH:=hiD ho.hx
 have hn1:m<=2513169434915:=ho.n1
 have hcap:m<=d:=ho.cap
 have HBLK:=hiD hok.blk
 have HB01:=hiD hb1
 clear hg ho hok hb1
 go_enter Tryz.func66,Tryz.ntmps66
 go_wp2_with fail
 generalize w.alloc (.cells #[.int .i64 kd,.int .i64 on,.int .i64 oa1,.int .i64 ob1,.slice ab m d,.slice oa om od] 82)=w1 at *
 have HTw:=hiD HG0.out.ch
 have HNw:=hiD HG0.out.nl
 have HXw:Hid (∀ k,X k->k<w.heap.size):=fun k hk=>(HG0.out.xl k hk).1
 have HT1:Hid (w.heap.size<w1.heap.size):=cell_lt x4
 generalize hTe:w.heap.size=T at *
 have HTe:=hiD hTe
 clear hTe HG0
 refine(handed_any N ab m d bl _ HBLK HL hn1 HH).mono ?_
 rintro e w2 ⟨rfl,hs,hhb,hroom,hlast,hb2⟩
 have HG2:=hiD (HG.out.grown hb2)
 have y4:=(hb2.cell (p:=⟨T,4,none⟩) (cell_lt x4)).trans x4
 have HBLK2:Hid (BlkAt N w2 ab bl):=HBLK.out.fr (Fr.of_below hb2 (fun _=>False)) (fun _ _ h=>h)
 have HHB2:=hiD hhb
 have HLO:Hid (∀ q,(q=w1.heap.size\/∃ j,j<m/\(hs.getD j dHD).lo<=q/\q<(hs.getD j dHD).hi)->w1.heap.size<=q/\q<w2.heap.size):=fun q hq=>by
  rcases hq with rfl|⟨j,hj,h1,h2⟩
  ·exact⟨leR,(cell_lt hlast.1)⟩
  ·have:=hhb.lo j hj;omega
 have HRM2:=hiD hroom
 have HLA2:=hiD hlast
 have HB02:Hid (Below T w w2):=HB01.out.trans (hb2.mono (Nat.le_of_lt HT1.out))
 have HT2:=hiD hb2.size
 clear hhb hroom hlast hb2 x4 HG HBLK HB01
 generalize w1.heap.size=HB at *
 have g0:=HG2.out.g0
 have hmem:=HG2.out.lk.here
 have hlen40:=HG2.out.lk.len
 have HP2:=hiD HG2.out.pu
 have HBK:Hid (BlkAt (fun q=>HB<=q/\q<w2.heap.size) w2 (some ⟨HB,0,none⟩) (hBl bl hs)):=by
  have h2:=HHB2.out
  rw[<-HL.out] at h2
  exact hBlk_at HBLK2.out.ok h2
 have HV:=hiD hmem.2.2.1
 have HCS:Hid _:=conn_sync bls xs bl HG2.out.lk.good hmem.1
 have HCC:Hid _:=conn_cases (bls.length:Nat) xs bl hmem.2.1 (by omega)
 have HCK:Hid (connZ (bls.length:Nat) xs (hBl bl hs)=connZ (bls.length:Nat) xs bl):=connZ_k _ _ _ _ (hBl_k bl hs)
 have hxl:xs.length<=5000:=by have:=hmem.2.2.2;omega
 clear hmem
 go_wp2_with fail
 refine(pConnect_any P s g v (bls.length:Nat) xs (fun q=>HB<=q/\q<w2.heap.size) (some ⟨HB,0,none⟩) m (m+1) (hBl bl hs) _ HP2 hxl HV ⟨by omega,by omega⟩ HBK (by rw[hBl_len];exact HL) (fun k hk=>⟨hk.2,fun e=>by have:=HTw.out k e;have:=HT1.out;have:=hk.1;omega⟩) (by omega)).mono ?_
 rw[HCK.out]
 rintro e w3 ⟨rfl,v3,hp3,hst3⟩
 have hmv:=HG2.out.moved hst3
 have hFn:∀ k,N k->¬chE P v k:=fun k hk e=>(HG2.out.xp k e).2 hk
 have hne:∀ q,T<=q->¬chE P v q:=fun q hq e=>by have:=HTw.out q e;omega
 have z4:=hst3.fr.cell y4 (hne T leR)
 have HBLK3:Hid (BlkAt N w3 ab bl):=HBLK2.out.fr hst3.fr hFn
 have HHB3:Hid (HBlk w3 HB bl m hs):=HHB2.out.fr hst3.fr (fun q hq _=>hne q (by have:=HT1.out;omega))
 have hneB:¬chE P v HB:=hne HB (by have:=HT1.out;omega)
 have HRM3:Hid (Room w3 HB ((m+1)*3)):=HRM2.out.fr hst3.fr hneB
 have HLA3:Hid (HLast w3 HB m):=⟨hst3.fr.cell HLA2.out.1 hneB,hst3.fr.cell HLA2.out.2.1 hneB,hst3.fr.cell HLA2.out.2.2 hneB⟩
 have HP3:=hiD hp3
 have HMV:Hid _:=hmv
 have HF3:Hid (Fr (fun k=>chE P v k\/k=D) w w3):=by
  have h1:Fr (fun k=>chE P v k\/k=D) w w2:=Fr.of_below (by rw[HTe.out];exact HB02) _
  exact h1.trans (hst3.fr.weak (fun k _ hk=>Or.inl hk))
 have HO3:=hiD hst3.own
 have hsz3:=hst3.fr.size
 clear hmv hp3 hst3 y4 hneB hne hFn HBLK2 HHB2 HRM2 HLA2 HP2 g0
 rw[HCS.out.1,HCS.out.2.1]
 go_wp2_with fail
 refine(still_any N HB ab m d bl hs _ HBLK3 HL hn1 HH HHB3 HLA3).mono ?_
 rintro e w4 ⟨rfl,hb4⟩
 have y4:=(hb4.cell (p:=⟨T,4,none⟩) (cell_lt z4)).trans z4
 have HHB4:=hiD (HHB3.out.grown hb4)
 have HRM4:Hid (Room w4 HB ((m+1)*3)):=HRM3.out.grown (by omega) hb4
 have HB34:=hiD hb4
 clear hb4 z4
 go_wp2_with fail
 refine(blotted_any N HB m bl hs _ w3 HBLK3.out.ok HL hn1 HH HHB4 HRM4).mono ?_
 rintro e w5 ⟨rfl,hw5⟩
 have hfr5:Fr (fun q=>HB<=q/\q<w2.heap.size) w4 w5:=hw5.fr.weak (fun q _ hq=>HLO.out q hq)
 have HF35:Hid (Fr (fun q=>HB<=q/\q<w2.heap.size) w3 w5):=(Fr.of_below HB34.out _).trans hfr5
 have x4:=hfr5.cell y4 (fun e=>by have:=HT1.out;omega)
 clear hw5 hfr5 y4 HHB4 HRM4 HHB3 HRM3 HLA3
 obtain⟨m1,m2,m3,m4,m5,m6⟩:=HMV.out
 have hXn:∀ k,X k->¬(HB<=k/\k<w2.heap.size):=fun k hk e=>by have:=HXw.out k hk;have:=HT1.out;omega
 have hNn:∀ k,N k->¬(HB<=k/\k<w2.heap.size):=fun k hk e=>by have:=HNw.out k hk;have:=HT1.out;omega
 have hPn:∀ k,chE P v3 k->¬(HB<=k/\k<w2.heap.size):=fun k hk e=>by
  rcases hk with hk|hk
  ·have:=HTw.out k (Or.inl hk);have:=HT1.out;omega
  ·rcases HO3.out k hk with h|h
   ·have:=HTw.out k (Or.inr h);have:=HT1.out;omega
   ·omega
 have GM5:Hid (VRow w5 G 0 [.pointer (some ⟨P,0,none⟩),.pointer (some ⟨D,0,none⟩),V]):=HF35.out.vrow m1 (hXn _ HG2.out.xg)
 have DC5:Hid (DCh N w5 D ao c bls):=m2.fr HF35.out hNn (fun a ha=>hXn _ (HG2.out.xr a ha)) (hXn _ HG2.out.xd)
 have DE5:Hid (∀ q∈DE,q.1≠4/\w5.cell? ⟨D,q.1,none⟩=some q.2):=fun q hq=>⟨(m3 q hq).1,HF35.out.cell (m3 q hq).2 (hXn _ HG2.out.xd)⟩
 have PU5:Hid (PAt E w5 P s g v3 (connZ (bls.length:Nat) xs bl).2.2.1 (connZ (bls.length:Nat) xs bl).2.2.2):=HP3.out.fr HF35.out hPn
 have BK5:Hid (BlkAt N w5 ab bl):=HBLK3.out.fr HF35.out hNn
 have XP:=hiD m4
 have XL5:Hid (∀ k,X k->k<w5.heap.size/\¬N k):=fun k hk=>⟨ltL (m5 k hk).1 HF35.out.size,(m5 k hk).2⟩
 have NL5:Hid (∀ k,N k->k<w5.heap.size):=fun k hk=>ltL (m6 k hk) HF35.out.size
 have HF5:Hid (Fr (fun k=>chE P v k\/k=D) w w5):=by
  exact HF3.out.trans_new HF35 (fun q hq=>by rw[HTe.out];have:=HT1.out;omega)
 clear m1 m2 m3 m4 m5 m6 hXn hNn hPn HBLK3 HMV HP3
 have g1:w5.cell? ⟨G,1,none⟩=some (.pointer (some ⟨D,0,none⟩)):=GM5.out 1 (by simp)
 have DCd:Hid (DCh N w5.drew D ao c bls):=DC5.out.fr (Fr.of_below ((Below.refl w5.heap.size w5).drew) (fun _=>False)) (fun _ _ h=>h) (fun _ _ h=>h) (fun h=>h)
 have BKd:Hid (BlkAt N w5.drew ab bl):=BK5.out.fr (Fr.of_below ((Below.refl w5.heap.size w5).drew) (fun _=>False)) (fun _ _ h=>h)
 have HND:Hid (¬N D):=(HG2.out.xl D HG2.out.xd).2
 have HGD:=hiD HG2.out.gd
 have HTD:Hid (T≠D):=fun e=>by have:=HXw.out D HG2.out.xd;omega
 have HGO:=hiD HG2.out.lk.good
 have HKB:Hid (∀ w6:World,Fr (fun k=>k=D) w5.drew w6->w6.cell? ⟨G,1,none⟩=some (.pointer (some ⟨D,0,none⟩))/\w6.cell? ⟨T,4,none⟩=some (.slice ab m d)):=fun w6 hf=>⟨hf.cell (w:=w5.drew) g1 HGD.out,hf.cell (w:=w5.drew) x4 HTD.out⟩
 clear HT1 HT2 HNw HTw hsz3 HB34 HF3 HF35 HO3 HLO HB02 HBK HV HCK BK5 DC5
 generalize hV1:(verdictR bls bl).1=V1 at *
 generalize hV2:(verdictR bls bl).2=V2 at *
 have HV1:=hiD hV1
 have HV2:=hiD hV2
 clear hV1 hV2
 go_wp2
 go_region_held3 (fun w'=>w'.cell? ⟨G,1,none⟩=some (.pointer (some ⟨D,0,none⟩))/\w'.cell? ⟨T,4,none⟩=some (.slice ab m d)) (first|assumption|go_keep) ((go_at_call 110;refine(rConnect_any N D ao c bls ab m d bl _ DCd.out (by omega) BKd.out HL hcap (by omega) HGO HND).mono ?_;rw[HV1.out,HV2.out];rintro e w6 ⟨rfl,hfr6,hdk6,hres6⟩;have hk6:=HKB.out w6 hfr6))
 have q1:(V1== V1)=true:=by simp
 have q2:(V2== V2)=true:=by simp
 have HFR6:Hid (Fr (fun k=>k=D) w5 w6):=⟨hfr6.os,hfr6.tape,hfr6.output,hfr6.size,hfr6.block⟩
 have HDK6:=hiD hdk6
 have HRES:Hid _:=hres6
 have HSZ:Hid (w5.drew.heap.size=w5.heap.size):=rfl
 clear hfr6 hdk6 hres6 hk6 x4 g1
 go_wp2_with (go_at_call 64;refine(num_any _ _).mono ?_;rintro e w' ⟨rfl,rfl⟩)
 go_ret
 refine⟨rfl,?_⟩
 have hPD:¬chE P v3 D:=fun e=>(XP.out D e).1 HG2.out.xd
 have gm6:=HFR6.out.vrow GM5.out HGD.out
 have pu6:=PU5.out.fr HFR6.out (fun k hk e=>by subst e;exact hPD hk)
 have de6:∀ q∈DE,q.1≠4/\w6.cell? ⟨D,q.1,none⟩=some q.2:=fun q hq=>⟨(DE5.out q hq).1,HDK6.out q.1 q.2 (DE5.out q hq).1 (DE5.out q hq).2⟩
 have hf6:Fr (fun k=>chE P v k\/k=D) w w6:=HF5.out.trans (HFR6.out.weak (fun k _ e=>Or.inr e))
 have hs6:=HFR6.out.size
 rcases HRES.out with⟨hv0,hdc⟩|⟨hv0,⟨k1,k2,k3⟩,g6,hg6,hg6',hdc⟩
 ·rcases HCC.out with⟨hc1,hc2⟩|⟨_,hc1,_⟩
  ·rw[hc2] at pu6
   refine⟨X,v3,ao,c,bls,xs,fun _ h=>h,fun _ h=>Or.inl h,hf6,⟨gm6,pu6,hdc,de6,HG2.out.lk,XP.out,fun k hk=>⟨ltL (XL5.out k hk).1 hs6,(XL5.out k hk).2⟩,fun k hk=>ltL (NL5.out k hk) hs6,HG2.out.xg,HG2.out.xd,HG2.out.gd,HG2.out.xr⟩⟩
  ·exact absurd ((HCS.out.1.symm.trans hc1)) hv0
 ·rw[HSZ.out] at hg6
  have hlk:=HG2.out.lk.conn (bl:=bl) (by rw[HV1.out];exact hv0) k1 (by rw[HL.out];exact k2) k3
  rw[hlk.1] at pu6
  have hlen:((bls++[bl]).length:Nat)=bls.length+1:=by simp
  refine⟨fun k=>X k\/k=g6,v3,some ⟨g6,0,none⟩,bls.length+1,bls++[bl],_,fun _ h=>Or.inl h,fun a ha=>(by cases ha;exact Or.inr (by show w.heap.size<=g6;have:=HF5.out.size;omega)),hf6,⟨gm6,by rw[hlen];exact pu6,hdc,de6,hlk.2,fun k hk=>?_,fun k hk=>?_,fun k hk=>ltL (NL5.out k hk) hs6,Or.inl HG2.out.xg,Or.inl HG2.out.xd,HG2.out.gd,fun a ha=>(by cases ha;exact Or.inr rfl)⟩⟩
  ·refine⟨fun h=>?_,(XP.out k hk).2⟩
   rcases h with h|h
   ·exact(XP.out k hk).1 h
   ·have:=(PU5.out.blk k hk).2
    omega
  ·rcases hk with hk|hk
   ·exact⟨ltL (XL5.out k hk).1 hs6,(XL5.out k hk).2⟩
   ·subst hk
    exact⟨hg6',fun hN=>by have:=NL5.out k hN;omega⟩
end
section
open Go.RowKit

def exE:List (Nat×Value):=[(4,.slice none 0 0),(5,.slice none 0 0),(6,.int .i64 0),(7,.int .i64 0)]
def deE (s g:Int) (vr vc:Value):List (Nat×Value):=[(0,.int .i64 s),(1,.int .i64 g),(2,vr),(3,vc),(5,.slice none 0 0),(6,.int .i64 (-1))]
structure Game0 (w0 w:World) (s:Int) (g:Nat) (G D Dr:Nat) (vr vc:Value):Prop where
 gi:GI (fun k=>k<w0.heap.size) (fun k=>w0.heap.size<k/\k<w.heap.size) exE (deE s (g:Int) vr vc) G w0.heap.size D (.pointer (some ⟨Dr,0,none⟩)) s g (.slice none 0 0) none 0 [] [] w
 own0:OwnInts w (w0.heap.size+1) vr (adrs s 0 100)
 own1:OwnInts w (w0.heap.size+1) vc (adrs s 1 100)
 dr:VRow w Dr 0 [.int .i64 0,.slice none 0 0,.slice none 0 0,.slice none 0 0,.slice none 0 0,.slice none 0 0,.slice none 0 0,.slice none 0 0,.slice none 0 0,.slice none 0 0,.slice none 0 0]
 df:∀ j,w.frozen? ⟨Dr,j,none⟩=false
 od:w0.heap.size<D/\D<Dr/\Dr<G/\G<w.heap.size
 ob:(∀ k,vr.ownBlock=some k->k<D)/\(∀ k,vc.ownBlock=some k->k<D)
theorem begin_yes (s:Int) (g:Nat) (w:World) (hf:fitZ s (g:Int)=true):
 Calls Tryz.prog 27 #[.int .i64 s,.int .i64 (g:Int)] w fun e w'=>∃ G D Dr vr vc,e=.returned (.tuple #[.pointer (some ⟨G,0,none⟩),.bool true])/\Game0 w w' s g G D Dr vr vc/\Below w.heap.size w w':=by
 obtain⟨hs,h1,h2⟩:=fitZ_yes hf
 go_enter Tryz.func27,Tryz.ntmps27
 go_wp2_with fail
 refine(new_yes s (g:Int) _ hs h1 h2).mono ?_
 rintro e w1 ⟨rfl,hw1⟩
 have hb1:Below w.heap.size w w1:=by rw[<-hw1];exact(Below.refl _ _).alloc leR _
 have hr1:VRow w1 w.heap.size 0 [.int .i64 s,.int .i64 (g:Int),.slice none 0 0,.int .i64 0,.slice none 0 0,.slice none 0 0,.int .i64 0,.int .i64 0]:=by rw[<-hw1];exact vrow_new _ _ _
 have hz1:w1.heap.size=w.heap.size+1:=by rw[<-hw1];simp
 have hf1:∀ j,w1.frozen? ⟨w.heap.size,j,none⟩=false:=fun j=>by rw[<-hw1];exact World.frozen?_alloc_at _ _ _ _ rfl
 clear hw1
 generalize hP:w.heap.size=P at *
 have HP:=hiD hP
 clear hP
 have HR:=hiD hr1
 have HF1:=hiD hf1
 clear hr1 hf1
 go_wp2_with (first|(go_at_call 63;refine(fit_any _ _ _).mono ?_;rintro e w' ⟨rfl,rfl⟩;rw[hf])|(go_at_call 64;refine(num_any _ _).mono ?_;rintro e w' ⟨rfl,rfl⟩)|fail)
 refine(rBegin_any s (g:Int) _ hs).mono ?_
 rintro e w2 ⟨D,vr,vc,rfl,hD1,hD2,hbg,hb2⟩
 have hs2:=hb2.size
 have HG:=hiD hbg
 clear hbg
 have HR2:Hid (VRow w2 P 0 [.int .i64 s,.int .i64 (g:Int),.slice none 0 0,.int .i64 0,.slice none 0 0,.slice none 0 0,.int .i64 0,.int .i64 0]):=VRow.grown HR.out hb2
 have HF2:Hid (∀ j,w2.frozen? ⟨P,j,none⟩=false):=fun j=>(hb2.frozen (p:=⟨P,j,none⟩) (HR.out.lt (by simp))).trans (HF1.out j)
 have hbb:Below P w w2:=hb1.trans (hb2.mono (by omega))
 go_wp2
 go_ret2
 rw[HP.out]
 have hbn:∀ o o',Below w2.heap.size w2 ((w2.alloc o).alloc o'):=fun o o'=>(bAl _ _).alloc (by simp) _
 refine⟨w2.heap.size+1,D,w2.heap.size,vr,vc,rfl,?_,hbb.trans ((hbn _ _).mono (by omega))⟩
 have hdr0:=vrow_new w2 [.int .i64 0,.slice none 0 0,.slice none 0 0,.slice none 0 0,.slice none 0 0,.slice none 0 0,.slice none 0 0,.slice none 0 0,.slice none 0 0,.slice none 0 0,.slice none 0 0] 76
 have hdf0:∀ j,(w2.alloc (.cells #[.int .i64 0,.slice none 0 0,.slice none 0 0,.slice none 0 0,.slice none 0 0,.slice none 0 0,.slice none 0 0,.slice none 0 0,.slice none 0 0,.slice none 0 0,.slice none 0 0] 76)).frozen? ⟨w2.heap.size,j,none⟩=false:=fun j=>World.frozen?_alloc_at _ _ _ _ rfl
 have hgm:=vrow_new (w2.alloc (.cells #[.int .i64 0,.slice none 0 0,.slice none 0 0,.slice none 0 0,.slice none 0 0,.slice none 0 0,.slice none 0 0,.slice none 0 0,.slice none 0 0,.slice none 0 0,.slice none 0 0] 76)) [.pointer (some ⟨P,0,none⟩),.pointer (some ⟨D,0,none⟩),.pointer (some ⟨w2.heap.size,0,none⟩)] 80
 have hbl1:Below (w2.alloc (.cells #[.int .i64 0,.slice none 0 0,.slice none 0 0,.slice none 0 0,.slice none 0 0,.slice none 0 0,.slice none 0 0,.slice none 0 0,.slice none 0 0,.slice none 0 0,.slice none 0 0] 76)).heap.size (w2.alloc (.cells #[.int .i64 0,.slice none 0 0,.slice none 0 0,.slice none 0 0,.slice none 0 0,.slice none 0 0,.slice none 0 0,.slice none 0 0,.slice none 0 0,.slice none 0 0,.slice none 0 0] 76)) ((w2.alloc (.cells #[.int .i64 0,.slice none 0 0,.slice none 0 0,.slice none 0 0,.slice none 0 0,.slice none 0 0,.slice none 0 0,.slice none 0 0,.slice none 0 0,.slice none 0 0,.slice none 0 0] 76)).alloc (.cells #[.pointer (some ⟨P,0,none⟩),.pointer (some ⟨D,0,none⟩),.pointer (some ⟨w2.heap.size,0,none⟩)] 80)):=(Below.refl _ _).alloc leR _
 have hszW:((w2.alloc (.cells #[.int .i64 0,.slice none 0 0,.slice none 0 0,.slice none 0 0,.slice none 0 0,.slice none 0 0,.slice none 0 0,.slice none 0 0,.slice none 0 0,.slice none 0 0,.slice none 0 0] 76)).alloc (.cells #[.pointer (some ⟨P,0,none⟩),.pointer (some ⟨D,0,none⟩),.pointer (some ⟨w2.heap.size,0,none⟩)] 80)).heap.size=w2.heap.size+2:=by simp
 have hdr:=hdr0.grown hbl1
 have hdf:∀ j,((w2.alloc (.cells #[.int .i64 0,.slice none 0 0,.slice none 0 0,.slice none 0 0,.slice none 0 0,.slice none 0 0,.slice none 0 0,.slice none 0 0,.slice none 0 0,.slice none 0 0,.slice none 0 0] 76)).alloc (.cells #[.pointer (some ⟨P,0,none⟩),.pointer (some ⟨D,0,none⟩),.pointer (some ⟨w2.heap.size,0,none⟩)] 80)).frozen? ⟨w2.heap.size,j,none⟩=false:=fun j=>(hbl1.frozen (p:=⟨w2.heap.size,j,none⟩) (by simp)).trans (hdf0 j)
 rw[World.size_alloc] at hgm
 have hbW:=hbn (.cells #[.int .i64 0,.slice none 0 0,.slice none 0 0,.slice none 0 0,.slice none 0 0,.slice none 0 0,.slice none 0 0,.slice none 0 0,.slice none 0 0,.slice none 0 0,.slice none 0 0] 76) (.cells #[.pointer (some ⟨P,0,none⟩),.pointer (some ⟨D,0,none⟩),.pointer (some ⟨w2.heap.size,0,none⟩)] 80)
 have hgW:=HG.out.grown hbW
 have hrW:=VRow.grown HR2.out hbW
 have hfW:∀ j,((w2.alloc (.cells #[.int .i64 0,.slice none 0 0,.slice none 0 0,.slice none 0 0,.slice none 0 0,.slice none 0 0,.slice none 0 0,.slice none 0 0,.slice none 0 0,.slice none 0 0,.slice none 0 0] 76)).alloc (.cells #[.pointer (some ⟨P,0,none⟩),.pointer (some ⟨D,0,none⟩),.pointer (some ⟨w2.heap.size,0,none⟩)] 80)).frozen? ⟨P,j,none⟩=false:=fun j=>(hbW.frozen (p:=⟨P,j,none⟩) (HR2.out.lt (by simp))).trans (HF2.out j)
 clear hdr0 hdf0 hbl1 hbn hbW
 show Game0 w ((w2.alloc (.cells #[.int .i64 0,.slice none 0 0,.slice none 0 0,.slice none 0 0,.slice none 0 0,.slice none 0 0,.slice none 0 0,.slice none 0 0,.slice none 0 0,.slice none 0 0,.slice none 0 0] 76)).alloc (.cells #[.pointer (some ⟨P,0,none⟩),.pointer (some ⟨D,0,none⟩),.pointer (some ⟨w2.heap.size,0,none⟩)] 80)) s g (w2.heap.size+1) D w2.heap.size vr vc
 generalize (w2.alloc (.cells #[.int .i64 0,.slice none 0 0,.slice none 0 0,.slice none 0 0,.slice none 0 0,.slice none 0 0,.slice none 0 0,.slice none 0 0,.slice none 0 0,.slice none 0 0,.slice none 0 0] 76)).alloc (.cells #[.pointer (some ⟨P,0,none⟩),.pointer (some ⟨D,0,none⟩),.pointer (some ⟨w2.heap.size,0,none⟩)] 80)=W at *
 have hPw:=HP.out
 refine⟨⟨by rw[hPw];exact hgm,?_,⟨hgW.row 4 (by simp),hgW.fz,⟨[],Or.inl rfl,rfl,fun i hi=>absurd hi (Nat.not_lt_zero _)⟩,fun _=>rfl,leR,fun a ha=>(by cases ha)⟩,?_,Lk.nil,?_,?_,?_,?_,?_,by omega,fun a ha=>(by cases ha)⟩,?_,?_,hdr,hdf,?_,?_⟩
 ·rw[hPw]
  refine⟨hrW 2 (by simp),hrW 3 (by simp),hfW 2,hfW,OwnRec.nil _ _ _ _ _,fun q hq=>?_⟩
  simp only[exE,List.mem_cons,List.not_mem_nil,or_false] at hq
  rcases hq with rfl|rfl|rfl|rfl|rfl|rfl
  ·exact⟨by simp,by simp,hrW 0 (by simp)⟩
  ·exact⟨by simp,by simp,hrW 1 (by simp)⟩
  ·exact⟨by simp,by simp,hrW 4 (by simp)⟩
  ·exact⟨by simp,by simp,hrW 5 (by simp)⟩
  ·exact⟨by simp,by simp,hrW 6 (by simp)⟩
  ·exact⟨by simp,by simp,hrW 7 (by simp)⟩
 ·intro q hq
  simp only[deE,List.mem_cons,List.not_mem_nil,or_false] at hq
  rcases hq with rfl|rfl|rfl|rfl|rfl|rfl
  ·exact⟨by simp,hgW.row 0 (by simp)⟩
  ·exact⟨by simp,hgW.row 1 (by simp)⟩
  ·exact⟨by simp,hgW.row 2 (by simp)⟩
  ·exact⟨by simp,hgW.row 3 (by simp)⟩
  ·exact⟨by simp,hgW.row 5 (by simp)⟩
  ·exact⟨by simp,hgW.row 6 (by simp)⟩
 ·intro k hk
  rcases hk with hk|hk
  ·rw[hPw] at hk ⊢;omega
  ·cases hk
 ·intro k hk
  rw[hPw] at hk ⊢
  exact⟨hk.2,by omega⟩
 ·intro k hk
  rw[hPw] at hk
  omega
 ·rw[hPw];omega
 ·rw[hPw];omega
 ·rw[hPw,<-hz1];exact hgW.own0
 ·rw[hPw,<-hz1];exact hgW.own1
 ·rw[hPw];omega
 ·exact HG.out.ob
theorem GStep.pre {N X:NPr} {E DE:List (Nat×Value)} {G P D:Nat} {V:Value} {s:Int} {g:Nat} {v:Value} {ao:OAd} {w w1 w2:World} (hb:Below w.heap.size w w1) (h:GStep N X E DE G P D V s g v ao w1 w2):GStep N X E DE G P D V s g v ao w w2:=by
 obtain⟨X',v',ao',c',bls',xs',h1,ha,h2,h3⟩:=h
 exact⟨X',v',ao',c',bls',xs',h1,fun a e=>(ha a e).imp (fun h=>h) (fun h=>leT hb.size h),(Fr.of_below hb _).trans h2,h3⟩
theorem GStep.stay {N X:NPr} {E DE:List (Nat×Value)} {G P D:Nat} {V:Value} {s:Int} {g:Nat} {v:Value} {ao:OAd} {c:Nat} {bls:List (List TxD)} {xs:List Cel} {w w1:World} (h:GI N X E DE G P D V s g v ao c bls xs w) (hb:Below w.heap.size w w1):GStep N X E DE G P D V s g v ao w w1:=
 ⟨X,v,ao,c,bls,xs,fun _ h=>h,fun _ h=>Or.inl h,Fr.of_below hb _,h.grown hb⟩
variable {N X:NPr} {E DE:List (Nat×Value)} {G P D:Nat} {V:Value} {s:Int} {g:Nat} {v:Value} {ao:OAd} {c:Nat} {bls:List (List TxD)} {xs:List Cel}
theorem stepC_any (o:OpD) (w:World) (hk:o.kd=1) (hg:GI N X E DE G P D V s g v ao c bls xs w) (ho:OpOk N w o):
 Calls Tryz.prog 28 #[.pointer (some ⟨G,0,none⟩),o.val] w fun e w'=>e=.returned (.bool true)/\GStep N X E DE G P D V s g v ao w w':=by
 obtain⟨kd,on,oa1,ob1,ab,m,d,bl,oa,om,od,ys⟩:=o
 simp only at hk
 subst hk
 have hb1:Below w.heap.size w (w.alloc (.cells #[.int .i64 1,.int .i64 on,.int .i64 oa1,.int .i64 ob1,.slice ab m d,.slice oa om od] 82)):=(Below.refl _ _).alloc leR _
 have HG:=hiD (hg.grown hb1)
 have HO:Hid (OpOk N (w.alloc (.cells #[.int .i64 1,.int .i64 on,.int .i64 oa1,.int .i64 ob1,.slice ab m d,.slice oa om od] 82)) ⟨1,on,oa1,ob1,ab,m,d,bl,oa,om,od,ys⟩):=ho.fr (Fr.of_below hb1 (fun _=>False)) (fun _ _ h=>h)
 clear hg ho
 go_enter Tryz.func28,Tryz.ntmps28
 go_wp2_with fail
 refine(connects_any ⟨1,on,oa1,ob1,ab,m,d,bl,oa,om,od,ys⟩ _ HG HO).mono ?_
 rintro e w2 ⟨rfl,hst⟩
 have HST:Hid _:=hst.pre hb1
 clear hst
 go_wp2
 go_ret
 exact⟨rfl,HST⟩
theorem stepN_any (o:OpD) (w:World) (hk:o.kd<1) (hg:GI N X E DE G P D V s g v ao c bls xs w):
 Calls Tryz.prog 28 #[.pointer (some ⟨G,0,none⟩),o.val] w fun e w'=>e=.returned (.bool true)/\GStep N X E DE G P D V s g v ao w w':=by
 obtain⟨kd,on,oa1,ob1,ab,m,d,bl,oa,om,od,ys⟩:=o
 simp only at hk
 have hb1:Below w.heap.size w (w.alloc (.cells #[.int .i64 kd,.int .i64 on,.int .i64 oa1,.int .i64 ob1,.slice ab m d,.slice oa om od] 82)):=(Below.refl _ _).alloc leR _
 have HG:=hiD hg
 clear hg
 have k1:(kd== 1)=false:=by rw[beq_eq_false_iff_ne];omega
 have k2:(kd== 2)=false:=by rw[beq_eq_false_iff_ne];omega
 have k3:(kd== 3)=false:=by rw[beq_eq_false_iff_ne];omega
 have k4:(kd== 4)=false:=by rw[beq_eq_false_iff_ne];omega
 have k5:(kd== 5)=false:=by rw[beq_eq_false_iff_ne];omega
 have k6:(kd== 6)=false:=by rw[beq_eq_false_iff_ne];omega
 have k7:(kd== 7)=false:=by rw[beq_eq_false_iff_ne];omega
 have k8:(kd== 8)=false:=by rw[beq_eq_false_iff_ne];omega
 have k9:(kd== 9)=false:=by rw[beq_eq_false_iff_ne];omega
 go_enter Tryz.func28,Tryz.ntmps28
 go_wp2
 go_ret
 exact⟨rfl,GStep.stay HG hb1⟩
theorem height_any (w:World) (hg:GI N X E DE G P D V s g v ao c bls xs w):
 Calls Tryz.prog 71 #[.pointer (some ⟨G,0,none⟩)] w fun e w'=>e=.returned (.bool true)/\w=w':=by
 have g0:=hg.g0
 have g1:=hg.g1
 have c4:=hg.dc.c4
 have HP:Hid (PurseRow w P s g v (bls.length:Nat)):=pat_row hg.pu
 clear hg
 generalize bls.length=n at *
 go_enter Tryz.func71,Tryz.ntmps71
 go_wp2_with (go_at_call 58;refine(pHeight_any P s g v (n:Nat) _ HP).mono ?_;rintro e w' ⟨rfl,rfl⟩)
 go_ret
 exact⟨ret_bool (by simp),rfl⟩
theorem stepH_any (o:OpD) (w:World) (hk:o.kd=6) (hg:GI N X E DE G P D V s g v ao c bls xs w):
 Calls Tryz.prog 28 #[.pointer (some ⟨G,0,none⟩),o.val] w fun e w'=>e=.returned (.bool true)/\GStep N X E DE G P D V s g v ao w w':=by
 obtain⟨kd,on,oa1,ob1,ab,m,d,bl,oa,om,od,ys⟩:=o
 simp only at hk
 subst hk
 have hb1:Below w.heap.size w (w.alloc (.cells #[.int .i64 6,.int .i64 on,.int .i64 oa1,.int .i64 ob1,.slice ab m d,.slice oa om od] 82)):=(Below.refl _ _).alloc leR _
 have HG1:=hiD (hg.grown hb1)
 have HG:=hiD hg
 clear hg
 go_enter Tryz.func28,Tryz.ntmps28
 go_wp2_with (go_at_call 71;refine(height_any _ HG1).mono ?_;rintro e w' ⟨rfl,rfl⟩)
 go_ret
 exact⟨rfl,GStep.stay HG hb1⟩
theorem stepD_any (o:OpD) (w:World) (hk:o.kd=2) (hg:GI N X E DE G P D V s g v ao c bls xs w):
 Calls Tryz.prog 28 #[.pointer (some ⟨G,0,none⟩),o.val] w fun e w'=>e=.returned (.bool true)/\GStep N X E DE G P D V s g v ao w w':=by
 obtain⟨kd,on,oa1,ob1,ab,m,d,bl,oa,om,od,ys⟩:=o
 simp only at hk
 subst hk
 have hb1:Below w.heap.size w (w.alloc (.cells #[.int .i64 2,.int .i64 on,.int .i64 oa1,.int .i64 ob1,.slice ab m d,.slice oa om od] 82)):=(Below.refl _ _).alloc leR _
 have HG1:=hiD (hg.grown hb1)
 have HG:=hiD hg
 clear hg
 go_enter Tryz.func28,Tryz.ntmps28
 go_upto_region 5 with fail
 generalize w.alloc (.cells #[.int .i64 2,.int .i64 on,.int .i64 oa1,.int .i64 ob1,.slice ab m d,.slice oa om od] 82)=w1 at *
 have g0:=HG1.out.g0
 have g1:=HG1.out.g1
 cases hb:bls with
 |nil=>
  rw[hb] at HG1
  have HPR:Hid (PurseRow w1 P s g v 0):=pat_row HG1.out.pu
  have HDC:=hiD HG1.out.dc
  go_wp2_with (first|(go_at_call 61;refine(pDis_none P s g v _ HPR).mono ?_;rintro e w' ⟨rfl,rfl⟩)|(go_at_call 67;refine(rDis_none N D ao c _ HDC).mono ?_;rintro e w' ⟨rfl,rfl⟩)|(go_at_call 64;refine(num_any _ _).mono ?_;rintro e w' ⟨rfl,rfl⟩))
  go_ret
  exact⟨rfl,GStep.stay HG hb1⟩
 |cons b0 r0=>
  have hln:bls.length=r0.length+1:=by rw[hb];simp
  clear hb
  generalize r0.length=n at hln
  have HLN:=hiD hln
  have hmem:=HG1.out.lk.here
  have h40:=HG1.out.lk.len
  have HP1:Hid (PAt E w1 P s g v ((n+1:Nat):Int) xs):=by show PAt E w1 P s g v ((n+1:Nat):Int) xs;rw[<-hln];exact HG1.out.pu
  have hxl:xs.length<=20000:=by have:=hmem.2.2.2;omega
  rw[hln] at h40
  clear hmem hln
  go_wp2_with fail
  refine(pDis_any P s g v ((n+1:Nat):Int) xs _ HP1 hxl (by omega) (by omega)).mono ?_
  rintro e w2 ⟨rfl,v2,hp2,hst2⟩
  have hne:((n+1:Nat):Int)-1=(n:Nat):=by omega
  rw[hne] at hp2
  have hmv:=HG1.out.moved hst2
  have g1':w2.cell? ⟨G,1,none⟩=some (.pointer (some ⟨D,0,none⟩)):=hmv.1 1 (by simp)
  have HMV:Hid _:=hmv
  have HP2:=hiD hp2
  have HST2:=hiD hst2
  have HND:Hid (¬N D):=(HG1.out.xl D HG1.out.xd).2
  clear hmv hp2 hst2 g0 g1
  go_wp2_with fail
  refine(rDis_any N D ao c bls n _ HMV.out.2.1 HLN (by omega) HND).mono ?_
  rintro e w3 ⟨rfl,hfr3,hdk3,hdc3⟩
  go_wp2_with (go_at_call 64;refine(num_any _ _).mono ?_;rintro e w' ⟨rfl,rfl⟩)
  go_ret
  refine⟨rfl,GStep.pre hb1 ?_⟩
  obtain⟨m1,m2,m3,m4,m5,m6⟩:=HMV.out
  have hlt:(bls.take n).length=n:=by rw[List.length_take,HLN.out];omega
  refine⟨X,v2,ao,c,bls.take n,tbZ (n:Nat) xs,fun _ h=>h,fun _ h=>Or.inl h,(HST2.out.fr.weak (fun k _ h=>Or.inl h)).trans (hfr3.weak (fun k _ h=>Or.inr h)),⟨hfr3.vrow m1 HG1.out.gd,?_,hdc3,fun q hq=>⟨(m3 q hq).1,hdk3 q.1 q.2 (m3 q hq).1 (m3 q hq).2⟩,HG1.out.lk.dis HLN,m4,fun k hk=>⟨ltL (m5 k hk).1 hfr3.size,(m5 k hk).2⟩,fun k hk=>ltL (m6 k hk) hfr3.size,HG1.out.xg,HG1.out.xd,HG1.out.gd,HG1.out.xr⟩⟩
  rw[hlt]
  exact HP2.out.fr hfr3 (fun k hk e=>by subst e;exact(m4 k hk).1 HG1.out.xd)
end
section
open Go.RowKit
variable {w w':World} {b off B:Nat}
def OpD.cs (x:OpD):List Value:=[.int .i64 x.kd,.int .i64 x.on,.int .i64 x.a,.int .i64 x.b,.slice x.ab x.m x.d,.slice x.oa x.om x.od]
def dO:OpD:=⟨0,0,0,0,none,0,0,[],none,0,0,[]⟩
theorem op6 (x:OpD):x.cs.length=6:=rfl
structure OpCells (w:World) (b off:Nat) (x:OpD):Prop where
 c0:w.cell? ⟨b,off,none⟩=some (.int .i64 x.kd)
 c1:w.cell? ⟨b,off+1,none⟩=some (.int .i64 x.on)
 c2:w.cell? ⟨b,off+2,none⟩=some (.int .i64 x.a)
 c3:w.cell? ⟨b,off+3,none⟩=some (.int .i64 x.b)
 c4:w.cell? ⟨b,off+4,none⟩=some (.slice x.ab x.m x.d)
 c5:w.cell? ⟨b,off+5,none⟩=some (.slice x.oa x.om x.od)
theorem opCells {xs:List OpD} (h:VRow w b off (xs.flatMap OpD.cs)) (j:Nat) (hj:j<xs.length):OpCells w b (off+j*6) (xs.getD j dO):=
 ⟨rcell op6 dO h j hj 0 (by omega),rcell op6 dO h j hj 1 (by omega),rcell op6 dO h j hj 2 (by omega),rcell op6 dO h j hj 3 (by omega),rcell op6 dO h j hj 4 (by omega),rcell op6 dO h j hj 5 (by omega)⟩
structure Scr (B:Nat) (w:World) (so:OAd) (ops:List OpD):Prop where
 row:RecAt OpD.cs w so ops
 na:ops≠[]->∀ a,so=some a->a.block<B
 ok:∀ x∈ops,OpOk (fun k=>k<B) w x
theorem Scr.fr {so:OAd} {ops:List OpD} (h:Scr B w so ops) (hf:Fr (fun k=>B<=k) w w'):Scr B w' so ops:=by
 refine⟨?_,h.na,fun x hx=>(h.ok x hx).fr hf (fun k hk e=>by omega)⟩
 by_cases he:ops=[]
 ·exact Or.inl he
 ·rcases h.row with h1|⟨b,off,rfl,hr⟩
  ·exact Or.inl h1
  ·have:=h.na he _ rfl
   exact Or.inr ⟨b,off,rfl,hf.vrow hr (by simp only at this;omega)⟩
structure PlayOk (last ask asks:Int) (Inv:Nat->Nat->Nat->World->Prop) (M:Nat:=1759218604390):Prop where
 grow:∀ k G B w w',Inv k G B w->Below w.heap.size w w'->Inv k G B w'
 more:∀ k G B w,Inv k G B w->Inv (k+1) G B w
 size:∀ k G B w,Inv k G B w->B<=w.heap.size
 step:∀ k G B w (o:OpD),k<=M->Inv k G B w->OpOk (fun k=>k<B) w o->(o.kd<=last\/(ask<=o.kd/\o.kd<=asks))->
  Calls Tryz.prog 28 #[.pointer (some ⟨G,0,none⟩),o.val] w fun e w'=>e=.returned (.bool true)/\Inv (k+1) G B w'/\Fr (fun k=>B<=k) w w'
def CInv (s:Int) (g:Nat) (G B:Nat) (w:World):Prop:=
 ∃ (X:NPr) (DE:List (Nat×Value)) (D:Nat) (V v:Value) (ao:OAd) (c:Nat) (bls:List (List TxD)) (xs:List Cel),GI (fun k=>k<B) X exE DE G B D V s g v ao c bls xs w
end
end Go.Proofs.YtffgpepngcnjeabGreat
