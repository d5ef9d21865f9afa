import Derived.Test.YtffgpepngcnjeabGreatSbf
import Derived.Test.YtffgpepngcnjeabGreatSbi
namespace Go.Proofs.YtffgpepngcnjeabGreat
set_option maxRecDepth 100000
set_option maxHeartbeats 8000000
section
open Go.RowKit
variable {Nd:NPr} {D base g c nm k b R:Nat} {nx s:Int} {ms:List MadeD} {w wz:World} {vm t v1 v2:Value} {bls:List (List TxD)} {o:Obj}
def dsignZ (bls:List (List TxD)) (ms:List MadeD) (n:Int):Sum Int Nat:=
 if liveB ms n=false then .inl 11
 else if (ms.getD n.toNat dM).sg=false/\goneR bls (ms.getD n.toNat dM).tag (ms.getD n.toNat dM).cs (ms.getD n.toNat dM).zs=true then .inl 12
 else if (ms.getD n.toNat dM).sg=false/\((ms.getD n.toNat dM).cs.any fun x=>usedR ms x.br x.ix)=true then .inl 13
 else .inr n.toNat
structure DSgOk (Nd:NPr) (D base:Nat) (vm:Value) (nx:Int) (ms:List MadeD) (bls:List (List TxD)) (s n:Int) (v0 v1 v2:Value) (er:Int) (w w':World):Prop where
 out:(∃ x,dsignZ bls ms n=.inl x/\er=x/\v0=.int .i64 0/\v1=.slice none 0 0/\v2=.slice none 0 0/\Below w.heap.size w w')\/
 (∃ k:Nat,n=(k:Int)/\dsignZ bls ms n=.inr k/\k<ms.length/\er=0/\v0=.int .i64 (ms.getD k dM).tag/\RdNew w.heap.size s (ms.getD k dM) v1 v2 w'/\
   (((ms.getD k dM).sg=true/\Below w.heap.size w w')\/((ms.getD k dM).sg=false/\DPy Nd w' D base vm nx (onD ms k)/\Fr (fun q=>vm.ownBlock=some q) w w')))
theorem DPy.on (hd:DPy Nd w D base (.slice (some ⟨g,0,none⟩) nm c) nx ms) (hl:ms.length=nm) (n:Nat) (hn:n<nm):DPy Nd (w.setCell ⟨g,n*9+8,none⟩ (.bool true)) D base (.slice (some ⟨g,0,none⟩) nm c) nx (onD ms n):=by
 subst hl
 have hok:=hd.ok (ms.getD n dM) (getD_mem ms dM n hn)
 exact hd.put n 8 hn (by omega) (.bool true) (ms.getD n dM).on (by simp[MadeD.v,MadeD.on,List.getD,hn]) ⟨hok.ins,hok.outs,hok.keys,hok.coins,hok.ln,hok.lm,hok.lq,hok.lx,hok.b1,hok.b2,hok.ni,hok.no⟩
theorem fin3fr (w:World) (o:Obj) (R:Nat) (a b c:Value):Fr (fun k=>k=R) w ((((w.alloc o).setCell ⟨R,0,none⟩ a).setCell ⟨R,1,none⟩ b).setCell ⟨R,2,none⟩ c):=
 (((((Fr.refl (fun k=>k=R) w).alloc o).set R 0 a (fun _=>rfl)).set R 1 b (fun _=>rfl)).set R 2 c (fun _=>rfl))
theorem sg_fin1 (hR:w.heap.size=R) (hk:k<ms.length) (hz:dsignZ bls ms (k:Int)=.inr k) (hsg:(ms.getD k dM).sg=true) (ht:t=.int .i64 (ms.getD k dM).tag) (hb:Below R w wz) (hRb:R<b) (hrd:RdNew b s (ms.getD k dM) v1 v2 wz):DSgOk Nd D base vm nx ms bls s (k:Int) t v1 v2 0 w ((((wz.alloc o).setCell ⟨R,0,none⟩ t).setCell ⟨R,1,none⟩ v1).setCell ⟨R,2,none⟩ v2):=by
 subst hR
 have hf:=fin3fr wz o w.heap.size t v1 v2
 exact DSgOk.mk <| Or.inr ⟨k,rfl,hz,hk,rfl,ht,(hrd.fr hf (fun q hq e=>by have e':q=w.heap.size:=e;omega)).lower (by omega),Or.inl ⟨hsg,hb.trans (hf.toBelow _ hb.size (fun q hq=>by have e':q=w.heap.size:=hq;omega))⟩⟩
theorem sg_fin2 (hR:w.heap.size=R) (hk:k<ms.length) (hz:dsignZ bls ms (k:Int)=.inr k) (hsg:(ms.getD k dM).sg=false) (ht:t=.int .i64 (ms.getD k dM).tag) (hd:DPy Nd w D base vm nx ms) (hz2:DPy Nd wz D base vm nx (onD ms k)) (hfw:Fr (fun q=>vm.ownBlock=some q) w wz) (hRb:R<b) (hrd:RdNew b s (ms.getD k dM) v1 v2 wz):DSgOk Nd D base vm nx ms bls s (k:Int) t v1 v2 0 w ((((wz.alloc o).setCell ⟨R,0,none⟩ t).setCell ⟨R,1,none⟩ v1).setCell ⟨R,2,none⟩ v2):=by
 subst hR
 have hf:=fin3fr wz o w.heap.size t v1 v2
 refine DSgOk.mk <| Or.inr ⟨k,rfl,hz,hk,rfl,ht,(hrd.fr hf (fun q hq e=>by have e':q=w.heap.size:=e;omega)).lower (by omega),Or.inr ⟨hsg,?_,?_⟩⟩
 ·refine hz2.fr hf (fun e=>?_) (fun q hq e=>?_) (fun q hq e=>?_)
  ·have:=cell_lt hd.c5
   have e':D=w.heap.size:=e
   simp only at this
   omega
  ·have h1:=(hd.ow.blk q hq).2
   have e':q=w.heap.size:=e
   omega
  ·have h1:=(hd.nN q hq).1
   have e':q=w.heap.size:=e
   omega
 ·refine(hfw.weak (F:=fun q=>vm.ownBlock=some q\/q=w.heap.size) (fun q _ h=>Or.inl h)).trans (hf.weak (fun q _ h=>Or.inr h)) |>.weak (fun q hq h=>h.elim id (fun e=>by omega))
theorem dSign_any (N Nd:NPr) (D base:Nat) (ao:OAd) (c:Nat) (bls:List (List TxD)) (s:Int) (vm:Value) (nx:Int) (ms:List MadeD) (n:Int) (w:World) (hdc:DCh N w D ao c bls) (hgd:Good bls) (h40:bls.length<=40) (hd0:w.cell? ⟨D,0,none⟩=some (.int .i64 s)) (hd:DPy Nd w D base vm nx ms) (hml:ms.length<=100000000) (hky:∀ k:Nat,k<ms.length->(ms.getD k dM).lv=true->(∀ x∈(ms.getD k dM).cs,Mk.isK s x.br x.ix=true)/\(ms.getD k dM).zs≠[]):
 Calls Tryz.prog 119 #[.pointer (some ⟨D,0,none⟩),.int .i64 n] w fun e w'=>∃ v0 v1 v2 er,e=.returned (.tuple #[.agg #[v0,v1,v2],.int .i64 er])/\DSgOk Nd D base vm nx ms bls s n v0 v1 v2 er w w':=by
 obtain⟨am,cm,em,hat⟩:=OwnRec.at made9 hd.ow
 subst em
 generalize hmn:ms.length=nm at *
 have HMN:=hiD hmn
 have bA:Below w.heap.size w (w.alloc (.cells #[.int .i64 0,.slice none 0 0,.slice none 0 0] 35)):=(Below.refl _ _).alloc leR _
 have HB0:=hiD bA
 have HR0:Hid (V3 (w.alloc (.cells #[.int .i64 0,.slice none 0 0,.slice none 0 0] 35)) w.heap.size (.int .i64 0) (.slice none 0 0) (.slice none 0 0)):=V3.new w _ _ _ 35
 have HD0:=hiD (hd.grown bA)
 have HC0:=hiD (hdc.grown bA)
 have HS0:Hid ((w.alloc (.cells #[.int .i64 0,.slice none 0 0,.slice none 0 0] 35)).cell? ⟨D,0,none⟩=some (.int .i64 s)):=(bA.cell (p:=⟨D,0,none⟩) (cell_lt hd0)).trans hd0
 have HAT:=hiD (hat.grown bA)
 have HDW:=hiD hd
 have HGD:=hiD hgd
 have HKY:=hiD hky
 clear hdc hgd hd0 hd hky hat bA hmn
 go_enter Tryz.func119,Tryz.ntmps119
 go_upto_region 1 with fail
 generalize w.alloc (.cells #[.int .i64 0,.slice none 0 0,.slice none 0 0] 35)=w0 at *
 generalize hRe:w.heap.size=R at *
 have HRE:=hiD hRe
 clear hRe
 have hRl:R<w0.heap.size:=cell_lt HR0.out.c0
 have d5:=HD0.out.c5
 obtain⟨r0,r1,r2,rf⟩:=HR0.out
 have rf0:=rf 0
 have rf1:=rf 1
 have rf2:=rf 2
 clear rf
 have HER:Hid (∀ (wz:World) (x:Int),Below w0.heap.size w0 wz->dsignZ bls ms n=.inl x->DSgOk Nd D base (.slice am nm cm) nx ms bls s n (.int .i64 0) (.slice none 0 0) (.slice none 0 0) x w (((wz.setCell ⟨R,0,none⟩ (.int .i64 0)).setCell ⟨R,1,none⟩ (.slice none 0 0)).setCell ⟨R,2,none⟩ (.slice none 0 0))):=fun wz x hb hz=>⟨Or.inl ⟨x,hz,rfl,rfl,rfl,rfl,by
  rw[HRE.out]
  exact(HB0.out.trans (hb.mono (by omega))).trans ((fr3K wz R _ _ _).toBelow R (by have:=hb.size;omega) (fun q hq=>by omega))⟩⟩
 have HVE:Hid (∀ wz:World,Below w0.heap.size w0 wz->V3 wz R (.int .i64 0) (.slice none 0 0) (.slice none 0 0)):=fun wz hb=>HR0.out.grown hb
 cases hl:liveB ms n
 ·have HZ:Hid (dsignZ bls ms n=.inl 11):=by
   show _=_
   unfold dsignZ
   rw[if_pos hl]
  have HFE:Hid _:=HER.out w0 11 (Below.refl _ _) HZ.out
  have HVF:Hid _:=((((HVE.out w0 (Below.refl _ _))).s0 (.int .i64 0)).s1 (.slice none 0 0)).s2 (.slice none 0 0)
  go_wp2_with (go_at_call 118;refine(live_any D am nm cm ms n _ d5 HAT HMN).mono ?_;rintro e w' ⟨rfl,rfl⟩;rw[hl])
  obtain⟨z0,z1,z2,_⟩:=HVF.out
  refine bodyPost_ret (v:=.tuple #[.agg #[.int .i64 0,.slice none 0 0,.slice none 0 0],.int .i64 11]) ?_ rfl ⟨_,_,_,_,rfl,HFE⟩
  simp[results,Tryz.results119,go_sem,z0,z1,z2]
 ·obtain⟨k,rfl,hk0,hlv⟩:=liveB_true hl
  have hk:k<nm:=by rw[<-HMN.out];exact hk0
  clear hk0
  obtain⟨hky1,hky2⟩:=HKY.out k hk hlv
  have HZC:Hid (dsignZ bls ms (k:Int)=if (ms.getD k dM).sg=false/\goneR bls (ms.getD k dM).tag (ms.getD k dM).cs (ms.getD k dM).zs=true then .inl 12 else if (ms.getD k dM).sg=false/\((ms.getD k dM).cs.any fun x=>usedR ms x.br x.ix)=true then .inl 13 else .inr k):=by
   show _=_
   unfold dsignZ
   rw[if_neg (by rw[hl];simp),Int.toNat_natCast]
  obtain⟨g,eg,_,hgl,_,hgf⟩:=own_some made9 HD0.out.ow HMN.out (by omega)
  subst eg
  have hf8:=hgf (k*9+8)
  rcases HAT.out with hnil|⟨b,off,eb,hrow⟩
  ·have:=HMN.out;rw[hnil] at this;simp at this;omega
  injection eb with eb
  injection eb with eb1 eb2 _
  subst eb1
  subst eb2
  have hcell:=madeCells hrow k (by rw[HMN.out];exact hk)
  rw[Nat.zero_add] at hcell
  have HOK0:Hid (MadeOk Nd w0 (ms.getD k dM)):=HD0.out.ok _ (getD_mem ms dM k (by rw[HMN.out];exact hk))
  have HKK:=hiD hk
  have HKY1:=hiD hky1
  have HKY2:=hiD hky2
  have hkI:(k:Int)<((nm:Nat):Int):=by omega
  have hk0:(0:Int)<=(k:Int):=by omega
  have HON:Hid (∀ wz:World,DPy Nd wz D base (.slice (some ⟨g,0,none⟩) nm cm) nx ms->DPy Nd (wz.setCell ⟨g,k*9+8,none⟩ (.bool true)) D base (.slice (some ⟨g,0,none⟩) nm cm) nx (onD ms k)):=fun wz hz=>hz.on HMN.out k hk
  have HLM:Hid (nm<=9007199254740992):=by show _<=_;omega
  have HDK:Hid (∀ wy,Below w0.heap.size w0 wy->DPy Nd wy D base (.slice (some ⟨g,0,none⟩) nm cm) nx ms):=fun wy hb=>HD0.out.grown hb
  have HFN1:Hid (∀ (wz:World) (b:Nat) (v1 v2:Value) (o:Obj),dsignZ bls ms (k:Int)=.inr k->(ms.getD k dM).sg=true->Below R w wz->R<b->RdNew b s (ms.getD k dM) v1 v2 wz->DSgOk Nd D base (.slice (some ⟨g,0,none⟩) nm cm) nx ms bls s (k:Int) (.int .i64 (ms.getD k dM).tag) v1 v2 0 w ((((wz.alloc o).setCell ⟨R,0,none⟩ (.int .i64 (ms.getD k dM).tag)).setCell ⟨R,1,none⟩ v1).setCell ⟨R,2,none⟩ v2)):=fun wz b v1 v2 o h1 h2 h3 h4 h5=>sg_fin1 HRE.out (by rw[HMN.out];exact hk) h1 h2 rfl h3 h4 h5
  have HFN2:Hid (∀ (wz:World) (b:Nat) (v1 v2:Value) (o:Obj),dsignZ bls ms (k:Int)=.inr k->(ms.getD k dM).sg=false->DPy Nd wz D base (.slice (some ⟨g,0,none⟩) nm cm) nx (onD ms k)->Fr (fun q=>(Value.slice (some ⟨g,0,none⟩) nm cm).ownBlock=some q) w wz->R<b->RdNew b s (ms.getD k dM) v1 v2 wz->DSgOk Nd D base (.slice (some ⟨g,0,none⟩) nm cm) nx ms bls s (k:Int) (.int .i64 (ms.getD k dM).tag) v1 v2 0 w ((((wz.alloc o).setCell ⟨R,0,none⟩ (.int .i64 (ms.getD k dM).tag)).setCell ⟨R,1,none⟩ v1).setCell ⟨R,2,none⟩ v2)):=fun wz b v1 v2 o h1 h2 h3 h4 h5 h6=>sg_fin2 HRE.out (by rw[HMN.out];exact hk) h1 h2 rfl HDW h3 h4 h5 h6
  have hgM:g<w0.heap.size:=(HD0.out.ow.blk g rfl).2
  have HGW:Hid (g<w.heap.size):=(HDW.out.ow.blk g rfl).2
  have HNG:Hid (∀ q,Nd q->q≠g):=fun q hq e=>(HD0.out.nN q hq).2.2 (by rw[e];rfl)
  have hDg:D≠g:=fun e=>by have:=(HD0.out.ow.blk g rfl).1;have:=HD0.out.nb;omega
  generalize hme:ms.getD k dM=m at *
  clear hme hrow hgf hky1 hky2 hlv
  obtain⟨dnum,dtag,dai,dn,dc,dap,dm,dd,dak,dq,de,dch,dac,dx,dy,dlv,dsg,dcs,dzs⟩:=m
  obtain⟨c0,c1,c2,c3,c4,c5,c6,c7,c8⟩:=hcell
  simp only at c0 c1 c2 c3 c4 c5 c6 c7 c8 HZC HKY1 HKY2 HFN1 HFN2
  have bM:Below w0.heap.size w0 (w0.alloc (.cells #[.int .i64 dnum,.int .i64 dtag,.slice dai dn dc,.slice dap dm dd,.slice dak dq de,.int .i64 dch,.slice dac dx dy,.bool dlv,.bool dsg] 187)):=(Below.refl _ _).alloc leR _
  have HVM:Hid (V9 (w0.alloc (.cells #[.int .i64 dnum,.int .i64 dtag,.slice dai dn dc,.slice dap dm dd,.slice dak dq de,.int .i64 dch,.slice dac dx dy,.bool dlv,.bool dsg] 187)) w0.heap.size ⟨dnum,dtag,dai,dn,dc,dap,dm,dd,dak,dq,de,dch,dac,dx,dy,dlv,dsg,dcs,dzs⟩):=V9.new w0 ⟨dnum,dtag,dai,dn,dc,dap,dm,dd,dak,dq,de,dch,dac,dx,dy,dlv,dsg,dcs,dzs⟩
  have HB1:=hiD bM
  have HOK1:=hiD (HOK0.out.grown bM)
  have HC1:=hiD (HC0.out.grown bM)
  have HS1:Hid ((w0.alloc (.cells #[.int .i64 dnum,.int .i64 dtag,.slice dai dn dc,.slice dap dm dd,.slice dak dq de,.int .i64 dch,.slice dac dx dy,.bool dlv,.bool dsg] 187)).cell? ⟨D,0,none⟩=some (.int .i64 s)):=(bM.cell (p:=⟨D,0,none⟩) (cell_lt HS0.out)).trans HS0.out
  clear bM
  go_upto_region 5 with (go_at_call 118;refine(live_any D _ nm cm ms (k:Int) _ d5 HAT HMN).mono ?_;rintro e w' ⟨rfl,rfl⟩;rw[hl])
  clear c0 c1 c2 c3 c4 c5 c6 c7 c8 d5 r0 r1 r2 rf0 rf1 rf2 hf8 HAT HOK0 HC0
  generalize w0.alloc (.cells #[.int .i64 dnum,.int .i64 dtag,.slice dai dn dc,.slice dap dm dd,.slice dak dq de,.int .i64 dch,.slice dac dx dy,.bool dlv,.bool dsg] 187)=w1 at *
  have hM1:w0.heap.size<w1.heap.size:=cell_lt HVM.out.c0
  generalize hMe:w0.heap.size=M at *
  have HME:=hiD hMe
  clear hMe
  have HBW1:Hid (Below R w w1):=HB0.out.trans (HB1.out.mono (by omega))
  cases dsg
  ·-- not signed yet
   have v7:=HVM.out
   obtain⟨v0,v1,v2,v3,v4,v5,v6,v7,v8⟩:=v7
   simp only at v0 v1 v2 v3 v4 v5 v6 v7 v8
   have HZC':Hid (dsignZ bls ms (k:Int)=if goneR bls dtag dcs dzs=true then .inl 12 else if (dcs.any fun x=>usedR ms x.br x.ix)=true then .inl 13 else .inr k):=by
    show _=_
    rw[HZC.out]
    simp only[true_and]
   go_wp2_with fail
   refine(gone_any N Nd D ao c bls ⟨dnum,dtag,dai,dn,dc,dap,dm,dd,dak,dq,de,dch,dac,dx,dy,dlv,false,dcs,dzs⟩ _ HC1 HGD h40 HOK1).mono ?_
   simp only
   rintro e w2 ⟨rfl,hb2⟩
   have HB2:=hiD hb2
   have HB02:Hid (Below M w0 w2):=HB1.out.trans (hb2.mono (by omega))
   clear v0 v1 v2 v3 v4 v5 v6 v7 v8 hb2
   cases hgz:goneR bls dtag dcs dzs
   ·rw[hgz,if_neg (by simp)] at HZC'
    have HVM2:=hiD (HVM.out.grown HB2.out)
    have HOK2:=hiD (HOK1.out.grown HB2.out)
    have HLQ:Hid (dcs.length=dq/\dcs.length<=10):=⟨HOK1.out.lq,HOK1.out.b1⟩
    have dq10:dq<=10:=by have:=HLQ.out;omega
    go_wp2
    go_loopw [9] (fun i wr=>∃ j:Nat,j<=dq/\i=.int .i64 j/\Hid ((dcs.take j).any (fun x=>usedR ms x.br x.ix)=false)/\Below w2.heap.size w2 wr) (fun i _=>dq-(intOf i).toNat)
    case atStart=>exact⟨0,Nat.zero_le _,rfl,by show List.any _ _=false;simp,Below.refl _ _⟩
    case round=>
     obtain⟨j,hj,rfl,hany,hbl⟩:=hrel
     have v4:=(HVM2.out.grown hbl).c4
     simp only at v4
     have HB0r:Hid (Below M w0 wr):=HB02.out.trans (hbl.mono (by have:=HB02.out.size;have:=HB2.out.size;omega))
     have HDr:Hid (DPy Nd wr D base (.slice (some ⟨g,0,none⟩) nm cm) nx ms):=HDK.out wr HB0r.out
     have d5:=HDr.out.c5
     by_cases hlt:j<dq
     ·have hjl:j<dcs.length:=by have:=HLQ.out;omega
      have hjI:(j:Int)<(dq:Int):=by omega
      have hj0:(0:Int)<=(j:Int):=by omega
      rcases(HOK2.out.grown hbl).keys with hnil|⟨gk,ok,hdak,hrk⟩
      ·simp only at hnil;rw[hnil] at hjl;simp at hjl
      simp only at hdak hrk
      rw[hdak] at v4
      have k0c:wr.cell? ⟨gk,ok+j*2,none⟩=some (.int .i64 (dcs.getD j dN).br):=rcell kC2 dN hrk j hjl 0 (by omega)
      have k1c:wr.cell? ⟨gk,ok+j*2+1,none⟩=some (.int .i64 (dcs.getD j dN).ix):=rcell kC2 dN hrk j hjl 1 (by omega)
      have HS:Hid _:=any_no (fun x:CoinD=>usedR ms x.br x.ix) dcs dN j hjl hany.out
      have HZ:Hid _:=any_yes (fun x:CoinD=>usedR ms x.br x.ix) dcs dN j hjl
      clear hrk hdak
      generalize dcs.getD j dN=y at *
      obtain⟨y0,y1,y2,y3,y4,y5⟩:=y
      simp only at k0c k1c HS HZ
      obtain⟨am2,cm2,em2,hmat⟩:=OwnRec.at made9 HDr.out.ow
      have HMA:Hid (RecAt MadeD.v wr (some ⟨g,0,none⟩) ms):=by
       injection em2 with e1 _ _
       rw[e1];exact hmat
      clear em2 hmat
      go_wp2_with fail
      refine(used_any Nd D (some ⟨g,0,none⟩) nm cm ms y4 y5 _ d5 HMA HMN HLM HDr.out.ok).mono ?_
      rintro e w3 ⟨rfl,hb3⟩
      have HB03:Hid (Below M w0 w3):=HB0r.out.trans (hb3.mono (by have:=HB0r.out.size;have:=HME.out;omega))
      cases hu:usedR ms y4 y5
      ·have HNX:Hid ((dcs.take (j+1)).any (fun x=>usedR ms x.br x.ix)=false):=HS.out hu
       have hbl3:=below_blk hbl hb3
       clear v4 d5 k0c k1c
       go_wp2
       go_roundw
       case rel=>exact⟨j+1,by omega,by go_num,HNX,hbl3⟩
       case measure=>simp[intOf];omega
      ·have HE:Hid (dcs.any (fun x=>usedR ms x.br x.ix)=true):=HZ.out hu
       have HZ3:Hid (dsignZ bls ms (k:Int)=.inl 13):=by show _=_;rw[HZC'.out,HE.out,if_pos rfl]
       have HFE:Hid _:=HER.out w3 13 HB03.out HZ3.out
       have HVE2:Hid _:=HVE.out w3 HB03.out
       have HVF:Hid _:=((HVE2.out.s0 (.int .i64 0)).s1 (.slice none 0 0)).s2 (.slice none 0 0)
       obtain⟨r0,r1,r2,rf⟩:=HVE2.out
       have rf0:=rf 0
       have rf1:=rf 1
       have rf2:=rf 2
       clear rf v4 d5 k0c k1c
       go_wp2
       obtain⟨z0,z1,z2,_⟩:=HVF.out
       refine bodyPost_ret (v:=.tuple #[.agg #[.int .i64 0,.slice none 0 0,.slice none 0 0],.int .i64 13]) ?_ rfl ⟨_,_,_,_,rfl,HFE⟩
       simp[results,Tryz.results119,go_sem,z0,z1,z2]
     ·have HE:Hid (dcs.any (fun x=>usedR ms x.br x.ix)=false):=(any_done _ dcs dq HLQ.out.1 j (by omega) hany.out).symm
      have HZ3:Hid (dsignZ bls ms (k:Int)=.inr k):=by show _=_;rw[HZC'.out,HE.out,if_neg (by simp)]
      obtain⟨_,em3,_,_,_,hgf⟩:=own_some made9 HDr.out.ow HMN.out (by omega)
      cases em3
      have hf8:=hgf (k*9+8)
      rcases OwnRec.at made9 HDr.out.ow with⟨am2,cm2,em2,hmat⟩
      have hmat2:RecAt MadeD.v wr (some ⟨g,0,none⟩) ms:=by
       injection em2 with e1 _ _
       rw[e1];exact hmat
      have c8:wr.cell? ⟨g,k*9+8,none⟩=some (.bool (ms.getD k dM).sg):=by
       rcases hmat2 with hnil|⟨b,off,eb,hrow⟩
       ·have:=HMN.out;rw[hnil] at this;simp at this;omega
       injection eb with eb
       injection eb with eb1 eb2 _
       subst eb1
       subst eb2
       have:=(madeCells hrow k (by rw[HMN.out];exact hk)).c8
       rw[Nat.zero_add] at this
       exact this
      have HFg:Hid (Fr (fun q=>q=g) wr (wr.setCell ⟨g,k*9+8,none⟩ (.bool true))):=(Fr.refl _ wr).set g _ _ (fun _=>rfl)
      have HVM4:Hid (V9 (wr.setCell ⟨g,k*9+8,none⟩ (.bool true)) M ⟨dnum,dtag,dai,dn,dc,dap,dm,dd,dak,dq,de,dch,dac,dx,dy,dlv,false,dcs,dzs⟩):=(HVM2.out.grown hbl).fr HFg.out (by show ¬M=g;omega)
      have HOK4:Hid (MadeOk Nd (wr.setCell ⟨g,k*9+8,none⟩ (.bool true)) ⟨dnum,dtag,dai,dn,dc,dap,dm,dd,dak,dq,de,dch,dac,dx,dy,dlv,false,dcs,dzs⟩):=(HOK2.out.grown hbl).fr HFg.out (fun q hq e=>HNG.out q hq e)
      have HS4:Hid ((wr.setCell ⟨g,k*9+8,none⟩ (.bool true)).cell? ⟨D,0,none⟩=some (.int .i64 s)):=HFg.out.cell ((hbl.cell (p:=⟨D,0,none⟩) (cell_lt ((HB2.out.cell (p:=⟨D,0,none⟩) (cell_lt HS1.out)).trans HS1.out))).trans ((HB2.out.cell (p:=⟨D,0,none⟩) (cell_lt HS1.out)).trans HS1.out)) (fun e=>hDg e)
      have HD4:Hid (DPy Nd (wr.setCell ⟨g,k*9+8,none⟩ (.bool true)) D base (.slice (some ⟨g,0,none⟩) nm cm) nx (onD ms k)):=HON.out wr HDr.out
      have HF4:Hid (Fr (fun q=>(Value.slice (some ⟨g,0,none⟩) nm cm).ownBlock=some q) w (wr.setCell ⟨g,k*9+8,none⟩ (.bool true))):=by
       have hbw:Below w.heap.size w wr:=by rw[HRE.out];exact HB0.out.trans (HB0r.out.mono (by have:=HME.out;omega))
       exact(Fr.of_below hbw _).set g _ _ (fun _=>rfl)
      have HV4:Hid (V3 (wr.setCell ⟨g,k*9+8,none⟩ (.bool true)) R (.int .i64 0) (.slice none 0 0) (.slice none 0 0)):=(HVE.out wr HB0r.out).fr HFg.out (by show ¬R=g;have:=HGW.out;have:=HRE.out;omega)
      have hsz4:M<(wr.setCell ⟨g,k*9+8,none⟩ (.bool true)).heap.size:=cell_lt HVM4.out.c0
      clear hgf hmat hmat2 em2
      go_upto_region 16 with fail
      clear v4 d5 c8 hf8
      generalize wr.setCell ⟨g,k*9+8,none⟩ (.bool true)=w4 at *
      obtain⟨v0,v1,v2,v3,v4,v5,v6,v7,v8⟩:=HVM4.out
      simp only at v0 v1 v2 v3 v4 v5 v6 v7 v8
      go_wp2_with fail
      refine(signed_any Nd D s ⟨dnum,dtag,dai,dn,dc,dap,dm,dd,dak,dq,de,dch,dac,dx,dy,dlv,false,dcs,dzs⟩ _ HS4 HOK4 HKY1 HKY2).mono ?_
      rintro e w5 ⟨bi,bn,bc,bp,bm,bd,rfl,hrd,hb5⟩
      simp only
      have HFE:Hid _:=HFN2.out w5 w4.heap.size (.slice bi bn bc) (.slice bp bm bd) (.cells #[.int .i64 dtag,.slice bi bn bc,.slice bp bm bd] 35) HZ3.out (by first|exact rfl|trivial) (HD4.out.grown hb5) (HF4.out.trans (Fr.of_below hb5 _)) (by omega) hrd
      have HV5:Hid (V3 (w5.alloc (.cells #[.int .i64 dtag,.slice bi bn bc,.slice bp bm bd] 35)) R (.int .i64 0) (.slice none 0 0) (.slice none 0 0)):=(HV4.out.grown hb5).grown (bAl _ _)
      have HT5:Hid (V3 (w5.alloc (.cells #[.int .i64 dtag,.slice bi bn bc,.slice bp bm bd] 35)) w5.heap.size (.int .i64 dtag) (.slice bi bn bc) (.slice bp bm bd)):=V3.new w5 _ _ _ 35
      have HVF:Hid _:=((HV5.out.s0 (.int .i64 dtag)).s1 (.slice bi bn bc)).s2 (.slice bp bm bd)
      clear v0 v1 v2 v3 v4 v5 v6 v7 v8 hb5
      obtain⟨r0,r1,r2,rf⟩:=HV5.out
      obtain⟨t0,t1,t2,_⟩:=HT5.out
      have rf0:=rf 0
      have rf1:=rf 1
      have rf2:=rf 2
      clear rf
      go_wp2
      obtain⟨z0,z1,z2,_⟩:=HVF.out
      refine bodyPost_ret (v:=.tuple #[.agg #[.int .i64 dtag,.slice bi bn bc,.slice bp bm bd],.int .i64 0]) ?_ rfl ⟨_,_,_,_,rfl,HFE⟩
      simp[results,Tryz.results119,go_sem,z0,z1,z2]
   ·rw[hgz,if_pos rfl] at HZC'
    have HFE:Hid _:=HER.out w2 12 HB02.out HZC'.out
    have HVE2:Hid _:=HVE.out w2 HB02.out
    have HVF:Hid _:=((HVE2.out.s0 (.int .i64 0)).s1 (.slice none 0 0)).s2 (.slice none 0 0)
    obtain⟨r0,r1,r2,rf⟩:=HVE2.out
    have rf0:=rf 0
    have rf1:=rf 1
    have rf2:=rf 2
    clear rf
    go_wp2
    obtain⟨z0,z1,z2,_⟩:=HVF.out
    refine bodyPost_ret (v:=.tuple #[.agg #[.int .i64 0,.slice none 0 0,.slice none 0 0],.int .i64 12]) ?_ rfl ⟨_,_,_,_,rfl,HFE⟩
    simp[results,Tryz.results119,go_sem,z0,z1,z2]
  ·-- signed before
   have HZ:Hid (dsignZ bls ms (k:Int)=.inr k):=by
    show _=_
    rw[HZC.out]
    simp
   have HVR:Hid (V3 w1 R (.int .i64 0) (.slice none 0 0) (.slice none 0 0)):=HVE.out w1 HB1.out
   obtain⟨v0,v1,v2,v3,v4,v5,v6,v7,v8⟩:=HVM.out
   simp only at v0 v1 v2 v3 v4 v5 v6 v7 v8
   go_wp2_with fail
   refine(signed_any Nd D s ⟨dnum,dtag,dai,dn,dc,dap,dm,dd,dak,dq,de,dch,dac,dx,dy,dlv,true,dcs,dzs⟩ _ HS1 HOK1 HKY1 HKY2).mono ?_
   rintro e w5 ⟨bi,bn,bc,bp,bm,bd,rfl,hrd,hb5⟩
   simp only
   have HFE:Hid _:=HFN1.out w5 w1.heap.size (.slice bi bn bc) (.slice bp bm bd) (.cells #[.int .i64 dtag,.slice bi bn bc,.slice bp bm bd] 35) HZ.out (by first|exact rfl|trivial) (HBW1.out.trans (hb5.mono (by omega))) (by omega) hrd
   have HV5:Hid (V3 (w5.alloc (.cells #[.int .i64 dtag,.slice bi bn bc,.slice bp bm bd] 35)) R (.int .i64 0) (.slice none 0 0) (.slice none 0 0)):=(HVR.out.grown hb5).grown (bAl _ _)
   have HT5:Hid (V3 (w5.alloc (.cells #[.int .i64 dtag,.slice bi bn bc,.slice bp bm bd] 35)) w5.heap.size (.int .i64 dtag) (.slice bi bn bc) (.slice bp bm bd)):=V3.new w5 _ _ _ 35
   have HVF:Hid _:=((HV5.out.s0 (.int .i64 dtag)).s1 (.slice bi bn bc)).s2 (.slice bp bm bd)
   clear v0 v1 v2 v3 v4 v5 v6 v7 v8 hb5
   obtain⟨r0,r1,r2,rf⟩:=HV5.out
   obtain⟨t0,t1,t2,_⟩:=HT5.out
   have rf0:=rf 0
   have rf1:=rf 1
   have rf2:=rf 2
   clear rf
   go_wp2
   obtain⟨z0,z1,z2,_⟩:=HVF.out
   refine bodyPost_ret (v:=.tuple #[.agg #[.int .i64 dtag,.slice bi bn bc,.slice bp bm bd],.int .i64 0]) ?_ rfl ⟨_,_,_,_,rfl,HFE⟩
   simp[results,Tryz.results119,go_sem,z0,z1,z2]
end
section
open Go.RowKit

variable {N:NPr} {b o base:Nat} {vl vs:Value} {md nx:Int} {ps:List PayD} {ks:LII} {xs:List Cel} {s n:Int} {v0 v1 v2:Value} {er:Int} {w w':World}
theorem SignOk.fr (h:SignOk N b o base vl vs md nx ps ks xs s n v0 v1 v2 er w w'):Fr (fun q=>q=b\/vl.ownBlock=some q\/vs.ownBlock=some q) w w':=by
 rcases h with⟨x,_,_,_,_,_,h6⟩|⟨j,L,_,_,_,_,_,⟨_,h7⟩|⟨_,vs',h8⟩⟩
 ·exact Fr.of_below h6 _
 ·exact Fr.of_below h7 _
 ·exact h8.fr
theorem SignOk.cell (h:SignOk N b o base vl vs md nx ps ks xs s n v0 v1 v2 er w w') {i:Nat} {u:Value} (hi:i≠o+1) (hu:w.cell? ⟨b,i,none⟩=some u):w'.cell? ⟨b,i,none⟩=some u:=by
 rcases h with⟨x,_,_,_,_,_,h6⟩|⟨j,L,_,_,_,_,_,⟨_,h7⟩|⟨_,vs',h8⟩⟩
 ·exact(h6.cell (p:=⟨b,i,none⟩) (cell_lt hu)).trans hu
 ·exact(h7.cell (p:=⟨b,i,none⟩) (cell_lt hu)).trans hu
 ·exact h8.cl i u hi hu
theorem SignOk.vals (h:SignOk N b o base vl vs md nx ps ks xs s n v0 v1 v2 er w w'):∃ t ai ni ci ap np cp,v0=.int .i64 t/\v1=.slice ai ni ci/\v2=.slice ap np cp:=by
 rcases h with⟨x,_,_,h3,h4,h5,_⟩|⟨j,L,_,_,_,h4,h5,_⟩
 ·exact⟨_,_,_,_,_,_,_,h3,h4,h5⟩
 ·obtain⟨ai,ci,e1,_⟩:=OwnRec.at sn3 h5.own
  obtain⟨ap,cp,e2,_⟩:=OwnRec.at kv2 h5.oo
  exact⟨_,_,_,_,_,_,_,h4,e1,e2⟩
theorem SgTx.move {p:PayD} {vi vo:Value} {L:List (CoinD×Nat)} {B0 B1 R:Nat} {w2:World} (h:SgTx B1 s p vi vo L w') (hb:B0<=B1) (hR:R<B1) (hf:Fr (fun k=>k=R) w' w2):SgTx B0 s p vi vo L w2:=by
 refine⟨h.fst,owns_lower (hf.own h.own (fun k hk e=>?_)) hb,fun q hq=>?_,h.nv,h.nd,owns_lower (hf.own h.oo (fun k hk e=>?_)) hb,h.ne⟩
 ·have:=(h.own.blk k hk).1;omega
 ·obtain⟨h1,h2,h3,h4⟩:=h.row q hq
  exact⟨fun j hj=>hf.cell (h1 j hj) (by omega),fun j hj=>(hf.frozen h4 (by omega)).trans (h2 j hj),by omega,ltL h4 hf.size⟩
 ·have:=(h.oo.blk k hk).1;omega
theorem SignOk.lift {w0 w1 w2:World} {R:Nat} (hr:SignOk N b o base vl vs md nx ps ks xs s n v0 v1 v2 er w0 w1) (hL:LsAt N w b o base vl vs md nx ps ks) (hb:Below w.heap.size w w0) (hR:w.heap.size<=R) (hR2:R<w0.heap.size) (hf:Fr (fun k=>k=R) w1 w2):SignOk N b o base vl vs md nx ps ks xs s n v0 v1 v2 er w w2:=by
 have hsz:=hb.size
 rcases hr with⟨x,h1,h2,h3,h4,h5,h6⟩|⟨j,L,h1,hj,h2,h3,h4,h5⟩
 ·refine Or.inl ⟨x,h1,h2,h3,h4,h5,?_⟩
  have h10:Below w.heap.size w w1:=hb.trans (h6.mono hsz)
  exact h10.trans (hf.toBelow _ h10.size (fun q hq=>by rw[hq];exact hR))
 ·refine Or.inr ⟨j,L,h1,hj,h2,h3,h4.move hsz hR2 hf,?_⟩
  rcases h5 with⟨h5,h6⟩|⟨h5,vs',h6⟩
  ·refine Or.inl ⟨h5,?_⟩
   have h10:Below w.heap.size w w1:=hb.trans (h6.mono hsz)
   exact h10.trans (hf.toBelow _ h10.size (fun q hq=>by rw[hq];exact hR))
  ·have hbl:b<w.heap.size:=cell_lt hL.c0
   refine Or.inr ⟨h5,vs',h6.ls.fr hf (fun k hk e=>?_) (fun k hk e=>?_),frNewQ ((Fr.of_below hb _).trans h6.fr) hf (fun q hq=>by rw[hq];exact hR),fun q hq=>?_,fun i u hi hu=>?_⟩
   ·rcases hk with hk|hk|hk
    ·omega
    ·have:=(hL.ol.blk k hk).2;omega
    ·rcases h6.nw k hk with h7|h7
     ·have:=(hL.os.blk k h7).2;omega
     ·omega
   ·have:=(hL.nN k hk).1;omega
   ·rcases h6.nw q hq with h7|h7
    ·exact Or.inl h7
    ·exact Or.inr ⟨by omega,h7.2⟩
   ·exact hf.cell (h6.cl i u hi ((hb.cell (p:=⟨b,i,none⟩) hbl).trans hu)) (by omega)
theorem keepR3 {w:World} {P R i:Nat} {x:Value} (u0 u1 u2:Value) (hne:P≠R) (h:w.cell? ⟨P,i,none⟩=some x):(((w.setCell ⟨R,0,none⟩ u0).setCell ⟨R,1,none⟩ u1).setCell ⟨R,2,none⟩ u2).cell? ⟨P,i,none⟩=some x:=(fr3K w R u0 u1 u2).cell h hne
theorem pSign_any (N:NPr) (P:Nat) (vl vs:Value) (md nx:Int) (ps:List PayD) (ks:LII) (ao:OAd) (nn cx:Nat) (xs:List Cel) (s n:Int) (w:World) (hL:LsAt N w P 4 (P+1) vl vs md nx ps ks) (hpl:ps.length<=1000000000000) (hkl:ks.length<=20000000) (hp0:w.cell? ⟨P,0,none⟩=some (.int .i64 s)) (hcc:w.cell? ⟨P,2,none⟩=some (.slice ao nn cx)) (hcx:CelsAt w ao xs) (hcn:xs.length=nn) (hcm:nn<=1000000) (hpm:∀ p∈ps,0<p.m) (hkk:∀ p∈ps,∀ x∈p.cs,Mk.isK s x.br x.ix=true):
 Calls Tryz.prog 13 #[.pointer (some ⟨P,0,none⟩),.int .i64 n] w fun e w'=>∃ v0 v1 v2 er,e=.returned (.tuple #[.agg #[v0,v1,v2],.int .i64 er])/\SignOk N P 4 (P+1) vl vs md nx ps ks xs s n v0 v1 v2 er w w':=by
 have HL:=hiD hL
 have HXN:=hiD hcn
 have HPM:=hiD hpm
 have HKK:=hiD hkk
 have hPl:P<w.heap.size:=cell_lt hp0
 have bA:Below w.heap.size w ((w.alloc (.cells #[.int .i64 0,.slice none 0 0,.slice none 0 0] 35)).drew):=(bAl _ _).drew
 have HB0:=hiD bA
 have HR0:Hid (V3 ((w.alloc (.cells #[.int .i64 0,.slice none 0 0,.slice none 0 0] 35)).drew) w.heap.size (.int .i64 0) (.slice none 0 0) (.slice none 0 0)):=(V3.new w _ _ _ 35).grown (Below.refl _ _).drew
 have HL0:Hid (LsAt N ((w.alloc (.cells #[.int .i64 0,.slice none 0 0,.slice none 0 0] 35)).drew) P 4 (P+1) vl vs md nx ps ks):=hL.grown bA
 have HX0:Hid (CelsAt ((w.alloc (.cells #[.int .i64 0,.slice none 0 0,.slice none 0 0] 35)).drew) ao xs):=hcx.grown bA
 have HC0:Hid (((w.alloc (.cells #[.int .i64 0,.slice none 0 0,.slice none 0 0] 35)).drew).cell? ⟨P,2,none⟩=some (.slice ao nn cx)):=(bA.cell (p:=⟨P,2,none⟩) hPl).trans hcc
 have HS0:Hid (((w.alloc (.cells #[.int .i64 0,.slice none 0 0,.slice none 0 0] 35)).drew).cell? ⟨P,0,none⟩=some (.int .i64 s)):=(bA.cell (p:=⟨P,0,none⟩) hPl).trans hp0
 have x0:(w.alloc (.cells #[.int .i64 0,.slice none 0 0,.slice none 0 0] 35)).cell? ⟨P,0,none⟩=some (.int .i64 s):=(((Below.refl w.heap.size w).alloc leR _).cell (p:=⟨P,0,none⟩) hPl).trans hp0
 have hsz0:P+1<=((w.alloc (.cells #[.int .i64 0,.slice none 0 0,.slice none 0 0] 35)).drew).heap.size:=by have:=bA.size;omega
 have hR0:w.heap.size<((w.alloc (.cells #[.int .i64 0,.slice none 0 0,.slice none 0 0] 35)).drew).heap.size:=cell_lt HR0.out.c0
 clear hL hcx hcn hcc hpm hkk bA hp0
 go_enter Tryz.func13,Tryz.ntmps13
 go_upto_region 1 with fail
 generalize w.alloc (.cells #[.int .i64 0,.slice none 0 0,.slice none 0 0] 35)=w0 at *
 generalize hR:w.heap.size=R at *
 have HRe:=hiD hR
 clear hR
 have hPR:P≠R:=by omega
 go_region_held3 (fun w'=>w'.cell? ⟨P,0,none⟩=some (.int .i64 s)) (first|go_keep|with_reducible exact HS0.out|with_reducible exact hS2w|with_reducible exact keepR3 _ _ _ hPR hS2w) ((go_at_call 35;(with_reducible refine(lSign_any N P 4 (P+1) vl vs md nx ps ks P 2 ao nn cx xs s n w0.drew HL0.out hsz0 hpl hkl HC0.out HX0.out HXN.out hcm HPM.out HKK.out).mono ?_);rintro e w1 ⟨v0,v1,v2,er,rfl,hsg⟩;obtain⟨t,ai,ni,ci,ap,np,cp,rfl,rfl,rfl⟩:=hsg.vals;have HSG:=hiD hsg;have hS2w:=hsg.cell (i:=0) (by omega) HS0.out;have hRw:=HR0.out.fr hsg.fr (by have h1:=HL.out.ol.blk R;have h2:=HL.out.os.blk R;have h3:=HRe.out;intro e;rcases e with e|e|e;(exact hPR e.symm);(have:=(h1 e).2;omega);(have:=(h2 e).2;omega));obtain⟨q0,q1,q2,qz⟩:=hRw;have f0:=qz 0;have f1:=qz 1;have f2:=qz 2;clear qz hsg))
 have HRP:¬(R=P\/vl.ownBlock=some R\/vs.ownBlock=some R):=fun e=>by
  have h3:=HRe.out
  rcases e with e|e|e
  ·exact hPR e.symm
  ·have:=(HL.out.ol.blk R e).2;omega
  ·have:=(HL.out.os.blk R e).2;omega
 have HVF:Hid (V3 (((w1.setCell ⟨R,0,none⟩ (.int .i64 t)).setCell ⟨R,1,none⟩ (.slice ai ni ci)).setCell ⟨R,2,none⟩ (.slice ap np cp)) R (.int .i64 t) (.slice ai ni ci) (.slice ap np cp)):=(((HR0.out.fr HSG.out.fr HRP).s0 _).s1 _).s2 _
 have HLF:Hid (SignOk N P 4 (P+1) vl vs md nx ps ks xs s n (.int .i64 t) (.slice ai ni ci) (.slice ap np cp) er w (((w1.setCell ⟨R,0,none⟩ (.int .i64 t)).setCell ⟨R,1,none⟩ (.slice ai ni ci)).setCell ⟨R,2,none⟩ (.slice ap np cp))):=HSG.out.lift HL.out (by rw[HRe.out];exact HB0) (by rw[HRe.out];exact leR) hR0 (fr3K w1 R _ _ _)
 repeat (first|go_values|go_skip|go_guarded|go_step|go_upon)
 obtain⟨z0,z1,z2,_⟩:=HVF.out
 refine bodyPost_ret (v:=.tuple #[.agg #[.int .i64 t,.slice ai ni ci,.slice ap np cp],.int .i64 er]) ?_ rfl ⟨_,_,_,_,rfl,HLF⟩
 simp[results,Tryz.results13,go_sem,z0,z1,z2]
end
end Go.Proofs.YtffgpepngcnjeabGreat
