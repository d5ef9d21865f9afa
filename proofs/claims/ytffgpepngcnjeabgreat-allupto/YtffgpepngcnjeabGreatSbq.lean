import Derived.Test.YtffgpepngcnjeabGreatSbh
namespace Go.Proofs.YtffgpepngcnjeabGreat
set_option maxRecDepth 100000
set_option maxHeartbeats 8000000
section
open Go.RowKit
variable {N Nd:NPr} {D base c g cr cc nx B T ci cp ck ml n4 gl cl:Nat} {ao ar ac ap ai ak:OAd} {bls:List (List TxD)} {s r tag ch num:Int} {vm a0 a1 a2 a3 a4 a5 vc:Value} {ms:List MadeD} {ys zs:LII} {w w' w4 wx w1:World} {L cs:List CoinD}
structure DSt (N Nd:NPr) (D base:Nat) (ao:OAd) (c:Nat) (bls:List (List TxD)) (s:Int) (g:Nat) (ar:OAd) (cr:Nat) (ac:OAd) (cc:Nat) (vm:Value) (nx:Nat) (ms:List MadeD) (ap:OAd) (ys:LII) (w:World):Prop where
 dc:DCh N w D ao c bls
 ad:DAd w D s g ar cr ac cc
 dp:DPy Nd w D base vm (nx:Int) ms
 ou:OutsAt w ap ys
theorem DSt.grown (h:DSt N Nd D base ao c bls s g ar cr ac cc vm nx ms ap ys w) (hb:Below w.heap.size w w'):DSt N Nd D base ao c bls s g ar cr ac cc vm nx ms ap ys w':=
 ⟨h.dc.fr (Fr.of_below hb (fun _=>False)) (fun _ _ h=>h) (fun _ _ h=>h) (fun h=>h),h.ad.grown hb,h.dp.grown hb,h.ou.grown hb⟩
theorem VB.zero6 (h:VB w B a0 a1 a2 a3 a4 a5) (b0 b1 b2 b3 b4 b5:Value):VB ((((((w.setCell ⟨B,0,none⟩ b0).setCell ⟨B,1,none⟩ b1).setCell ⟨B,2,none⟩ b2).setCell ⟨B,3,none⟩ b3).setCell ⟨B,4,none⟩ b4).setCell ⟨B,5,none⟩ b5) B b0 b1 b2 b3 b4 b5:=
 (((((h.s0 b0).s1 b1).s2 b2).s3 b3).s4 b4).s5 b5
theorem below6 (h:Below B w w') (b0 b1 b2 b3 b4 b5:Value):Below B w ((((((w'.setCell ⟨B,0,none⟩ b0).setCell ⟨B,1,none⟩ b1).setCell ⟨B,2,none⟩ b2).setCell ⟨B,3,none⟩ b3).setCell ⟨B,4,none⟩ b4).setCell ⟨B,5,none⟩ b5):=
 (((((h.setCell (p:=⟨B,0,none⟩) leR b0).setCell (p:=⟨B,1,none⟩) leR b1).setCell (p:=⟨B,2,none⟩) leR b2).setCell (p:=⟨B,3,none⟩) leR b3).setCell (p:=⟨B,4,none⟩) leR b4).setCell (p:=⟨B,5,none⟩) leR b5
theorem fr6 (w:World) (B:Nat) (b0 b1 b2 b3 b4 b5:Value):Fr (fun k=>k=B) w ((((((w.setCell ⟨B,0,none⟩ b0).setCell ⟨B,1,none⟩ b1).setCell ⟨B,2,none⟩ b2).setCell ⟨B,3,none⟩ b3).setCell ⟨B,4,none⟩ b4).setCell ⟨B,5,none⟩ b5):=
 ((((((Fr.refl (fun k=>k=B) w).set B 0 b0 (fun _=>rfl)).set B 1 b1 (fun _=>rfl)).set B 2 b2 (fun _=>rfl)).set B 3 b3 (fun _=>rfl)).set B 4 b4 (fun _=>rfl)).set B 5 b5 (fun _=>rfl)
theorem outs_someA (h:OutsAt w ap ys) (h0:0<ys.length):∃ a,ap=some a:=by
 rcases h with h|⟨b,off,e,_⟩
 ·rw[h] at h0;simp at h0
 ·exact⟨_,e⟩
theorem payD_bad (h:askedZ ys r tag≠0):payD bls s g L ms nx ys r tag=.inl (askedZ ys r tag):=by unfold payD;rw[if_pos h]
theorem payD_good (h:askedZ ys r tag=0) (hc:chosenD r (candD ms r L) (targetZ ys r)=(cs,ch)):payD bls s g L ms nx ys r tag=if cs=[] then .inl 9 else if 0<ch then(if ckR (cellsR bls) s g nx<0 then .inl 10 else payFinD bls tag cs (ys++[(Mk.adr s 1 (ckR (cellsR bls) s g nx),ch)]) (ckR (cellsR bls) s g nx)) else payFinD bls tag cs ys (-1):=by
 unfold payD
 rw[if_neg (fun e=>e h),hc]
theorem QM.start (hr:VB w4 B (.int .i64 0) (.int .i64 0) (.slice none 0 0) (.slice none 0 0) (.slice none 0 0) (.int .i64 0)) (hb:Below B w w4) (ho:OwnRec CoinD.l 107 6 w4 (B+1) vc cs):QM w B w4.heap.size vc cs num 0 (.slice none 0 0) (.slice none 0 0) (.slice none 0 0) (-1) [] [] [] (w4.alloc (.cells #[.int .i64 num,.int .i64 0,.slice none 0 0,.slice none 0 0,.slice none 0 0,.int .i64 (-1)] 38)):=by
 have hBl:B<w4.heap.size:=cell_lt hr.c0
 have hb4:Below w4.heap.size w4 (w4.alloc (.cells #[.int .i64 num,.int .i64 0,.slice none 0 0,.slice none 0 0,.slice none 0 0,.int .i64 (-1)] 38)):=(Below.refl _ _).alloc leR _
 exact⟨hr.grown hb4,VB.new _ _ _ _ _ _ _ _,⟨OwnRec.nil _ _ _ _ _,OwnRec.nil _ _ _ _ _,OwnRec.nil _ _ _ _ _,fun k hk=>(by cases hk),fun k hk=>(by cases hk)⟩,ho.grown hb4,hb.alloc (by omega) _,fun k hk=>(ho.blk k hk).2,hBl⟩
theorem QF.fin2 {nx:Int} (hml:ms.length=ml) (hnc:cs.length=n4) (u:QF N w D base vm nx ms B T (.slice ac n4 cc) cs ((ml:Nat):Int) tag (.slice ai n4 ci) (.slice ap zs.length cp) (.slice ak n4 ck) ch zs wx) (h10:n4<=10) (h8:zs.length<=8)
 (hown:OwnRec MadeD.v 187 9 w1 base (.slice (some ⟨gl,0,none⟩) (ms.length+1) cl) (ms++[⟨((ml:Nat):Int),tag,ai,n4,ci,ap,zs.length,cp,ak,n4,ck,ch,ac,n4,cc,true,false,cs,zs⟩])) (hg:wx.grownBy w1 vm.ownBlock) (hl:vm.ownBlock=some gl\/wx.heap.size<=gl) {w2:World} (hw2:Fr (fun k=>k=B) (w1.setCell ⟨D,5,none⟩ (.slice (some ⟨gl,0,none⟩) (ms.length+1) cl)) w2) (nx0:Int) (hnx:nx=(if nx0<=ch then ch+1 else nx0)):
 DGo N D base vm nx0 ms tag cs zs ch (.slice ai n4 ci) (.slice ap zs.length cp) (.slice ak n4 ck) w w2:=by
 subst hml
 subst hnc
 exact u.fin h10 h8 rfl hown hg hl hw2 nx0 hnx
theorem dPay_any (N Nd:NPr) (D base:Nat) (ao:OAd) (c:Nat) (bls:List (List TxD)) (s:Int) (g:Nat) (ar:OAd) (cr:Nat) (ac:OAd) (cc:Nat) (vm:Value) (nx:Nat) (ms:List MadeD) (L:List CoinD) (ap:OAd) (m d:Nat) (ys:LII) (r tag:Int) (w:World)
 (hS:DSt N Nd D base ao c bls s g ar cr ac cc vm nx ms ap ys w) (hg:Good bls) (hm:bls.length<=40) (g1:g<=20) (hbs:base<=w.heap.size) (hnx:nx<=1000) (hml:ms.length<=100000000)
 (hL:ownR (cellsR bls) (adrs s 0 100) (adrs s 1 100) (winR (cellsR bls) s g 0) (winR (cellsR bls) s g 1)=L) (hLl:L.length<=10000) (hv:CVals L) (hst:SortC L) (hyn:ys.length=m):
 Calls Tryz.prog 114 #[.pointer (some ⟨D,0,none⟩),.slice ap m d,.int .i64 r,.int .i64 tag] w fun e w'=>∃ a0 a1 a2 a3 a4 a5 er,e=.returned (.tuple #[.agg #[a0,a1,a2,a3,a4,a5],.int .i64 er])/\DPayOk Nd D base vm bls s g L ms nx ys r tag a0 a1 a2 a3 a4 a5 er w w':=by
 obtain⟨am,cm,em,_⟩:=OwnRec.at made9 hS.dp.ow
 subst em
 have HS:=hiD hS
 have HYN:=hiD hyn
 have HGD:=hiD hg
 have HL:=hiD hL
 have HV:=hiD hv
 have HST:=hiD hst
 have HLL:=hiD hLl
 have hDl:D<w.heap.size:=cell_lt hS.dp.c5
 have HLO:Hid (∀ k,(Value.slice am ms.length cm).ownBlock=some k->k<w.heap.size):=fun k hk=>(hS.dp.ow.blk k hk).2
 clear hS hyn hg hL hv hst hLl
 have hbA:Below w.heap.size w (w.alloc (.cells #[.int .i64 0,.int .i64 0,.slice none 0 0,.slice none 0 0,.slice none 0 0,.int .i64 0] 38)):=(Below.refl _ _).alloc leR _
 have HR0:Hid (VB (w.alloc (.cells #[.int .i64 0,.int .i64 0,.slice none 0 0,.slice none 0 0,.slice none 0 0,.int .i64 0] 38)) w.heap.size (.int .i64 0) (.int .i64 0) (.slice none 0 0) (.slice none 0 0) (.slice none 0 0) (.int .i64 0)):=VB.new w _ _ _ _ _ _ 38
 go_enter Tryz.func114,Tryz.ntmps114
 go_upto_region 1 with fail
 have HS0:=hiD (HS.out.grown hbA)
 have HB0:=hiD hbA
 have hz0:w.heap.size<(w.alloc (.cells #[.int .i64 0,.int .i64 0,.slice none 0 0,.slice none 0 0,.slice none 0 0,.int .i64 0] 38)).heap.size:=by simp
 clear hbA
 generalize w.alloc (.cells #[.int .i64 0,.int .i64 0,.slice none 0 0,.slice none 0 0,.slice none 0 0,.int .i64 0] 38)=w0 at *
 generalize hB:w.heap.size=B at *
 have HBe:=hiD hB
 clear hB
 go_wp2_with fail
 refine(asked_any ap m d ys r tag _ HS0.out.ou HYN).mono ?_
 rintro e w1 ⟨rfl,hb1⟩
 have HR1:=hiD (HR0.out.grown hb1)
 have HS1:=hiD (HS0.out.grown hb1)
 have HB1:Hid (Below B w w1):=HB0.out.trans (hb1.mono (by omega))
 clear hb1 HR0 HS0 HB0
 by_cases ha0:askedZ ys r tag=0
 case neg=>
  have HZ:Hid (payD bls s g L ms nx ys r tag=.inl (askedZ ys r tag)):=payD_bad ha0
  have hj:(askedZ ys r tag !=0)=true:=by simpa using ha0
  have hj2:(askedZ ys r tag== 0)=false:=by simpa using ha0
  clear ha0
  generalize askedZ ys r tag=ez at *
  obtain⟨q0,q1,q2,q3,q4,q5,qz⟩:=HR1.out
  have f0:=qz 0
  have f1:=qz 1
  have f2:=qz 2
  have f3:=qz 3
  have f4:=qz 4
  have f5:=qz 5
  have HVV:Hid _:=HR1.out.zero6 (.int .i64 0) (.int .i64 0) (.slice none 0 0) (.slice none 0 0) (.slice none 0 0) (.int .i64 0)
  have HBF:Hid _:=below6 HB1.out (.int .i64 0) (.int .i64 0) (.slice none 0 0) (.slice none 0 0) (.slice none 0 0) (.int .i64 0)
  clear qz
  go_upto_region 3 with fail
  go_cut [9] (fun u wx=>u=.int .i64 ez/\Hid (VB wx B (.int .i64 0) (.int .i64 0) (.slice none 0 0) (.slice none 0 0) (.slice none 0 0) (.int .i64 0))/\Hid (Below B w wx))
  case first=>
   go_wp2_with fail
   go_meet
   exact⟨rfl,HVV,HBF⟩
  case rest=>
   obtain⟨rfl,hvv,hbf⟩:=hcut
   clear q0 q1 q2 q3 q4 q5 f0 f1 f2 f3 f4 f5 HVV HBF
   obtain⟨z0,z1,z2,z3,z4,z5,_⟩:=hvv.out
   repeat (first|go_values|go_skip|go_guarded|go_step|go_upon)
   refine bodyPost_ret (v:=.tuple #[.agg #[.int .i64 0,.int .i64 0,.slice none 0 0,.slice none 0 0,.slice none 0 0,.int .i64 0],.int .i64 ez]) ?_ rfl ⟨_,_,_,_,_,_,_,rfl,?_⟩
   ·simp[results,Tryz.results114,go_sem,z0,z1,z2,z3,z4,z5]
   ·exact Or.inl ⟨_,HZ,rfl,rfl,rfl,rfl,rfl,rfl,rfl,by rw[HBe.out];exact hbf.out⟩
 case pos=>
  obtain⟨hr,hyl,hyr⟩:=asked_zero ha0
  have HA0:=hiD ha0
  have HYB:Hid (∀ y∈ys,0<=y.2/\y.2<=1099511627776):=fun y hy=>by
   have:=rOut_bd (List.all_eq_true.1 hyr y hy)
   omega
  have hm1:1<=m/\m<=7:=by rw[<-HYN.out];exact hyl
  have htb:=target_bd ys r hr (by omega) HYB.out
  rw[ha0]
  clear ha0 hyl hyr
  have HAM1:Hid (RecAt MadeD.v w1 am ms):=own_atS made9 HS1.out.dp.ow
  go_wp2_with fail
  refine(candidates_any N Nd D ao c bls s g ar cr ac cc am ms.length cm ms r L _ HS1.out.dc HGD hm HS1.out.ad g1 HS1.out.dp.c5 HAM1 rfl (by omega) HS1.out.dp.ok hr HL HLL HV HST).mono ?_
  rintro e w2 ⟨v2,rfl,ho2,hb2⟩
  have HCL:Hid ((candD ms r L).length<=10000):=leT (candD_len ms r L) HLL.out
  have HCV:Hid (CVals (candD ms r L)):=fun x hx=>by
   have:=candD_order ms r L
   rw[this] at hx
   exact HV x (List.mem_filter.1 (orderZ_mem hx)).1
  have HPG:Hid (∀ cs ch,chosenD r (candD ms r L) (targetZ ys r)=(cs,ch)->payD bls s g L ms nx ys r tag=if cs=[] then .inl 9 else if 0<ch then(if ckR (cellsR bls) s g nx<0 then .inl 10 else payFinD bls tag cs (ys++[(Mk.adr s 1 (ckR (cellsR bls) s g nx),ch)]) (ckR (cellsR bls) s g nx)) else payFinD bls tag cs ys (-1)):=fun cs ch hc=>payD_good HA0.out hc
  have HKL:Hid ((chosenD r (candD ms r L) (targetZ ys r)).1.length<=10):=chosenD_len r (candD ms r L) (targetZ ys r)
  generalize candD ms r L=cand at *
  obtain⟨a2,c2,e2,hat2⟩:=OwnRec.at coin6 ho2
  subst e2
  have HA2:=hiD hat2
  have HR2:=hiD (HR1.out.grown hb2)
  have HS2:=hiD (HS1.out.grown hb2)
  have hz1:B<w1.heap.size:=cell_lt HR1.out.c0
  have HB2:Hid (Below B w w2):=HB1.out.trans (hb2.mono (by omega))
  clear hb2 ho2 hat2 HR1 HS1 HB1 HAM1
  generalize hcl:cand.length=cl at *
  have HCN:=hiD hcl
  have hcl2:cl<=10000:=HCL.out
  clear hcl
  go_wp2_with fail
  refine(dTarget_any ap m d ys r _ HS2.out.ou HYN (by omega) hr HYB).mono ?_
  rintro e w3 ⟨rfl,hb3⟩
  have HA3:=hiD (HA2.out.grown hb3)
  have HR3:=hiD (HR2.out.grown hb3)
  have HS3:=hiD (HS2.out.grown hb3)
  have hz2:B<w2.heap.size:=cell_lt HR2.out.c0
  have HB3:Hid (Below B w w3):=HB2.out.trans (hb3.mono (by omega))
  clear hb3 HA2 HR2 HS2 HB2
  generalize targetZ ys r=want at *
  go_wp2_with fail
  refine(chosen_any a2 cl c2 cand r want _ HA3 HCN hcl2 hr HCV htb).mono ?_
  rintro e w4 ⟨v4,ch4,rfl,hco,hb4,hb5⟩
  obtain⟨⟨cs,chx⟩,hcz⟩:∃ p,chosenD r cand want=p:=⟨_,rfl⟩
  have HP1:=HPG.out cs chx hcz
  rw[hcz] at hco hb4 HKL
  simp only at hco hb4
  subst hb4
  have hz3:B<w3.heap.size:=cell_lt HR3.out.c0
  have HR4:=hiD (HR3.out.grown hb5)
  have HS4:=hiD (HS3.out.grown hb5)
  have HB4:Hid (Below B w w4):=HB3.out.trans (hb5.mono (by omega))
  have hz34:=hb5.size
  clear hb5 HA3 HR3 HS3 HB3 hcz HPG HCN HCV HCL
  obtain⟨a4,c4,e4,_⟩:=OwnRec.at coin6 hco
  subst e4
  have HO4:Hid (OwnRec CoinD.l 107 6 w4 (B+1) (.slice a4 cs.length c4) cs):=owns_lower hco (by omega)
  have hn4:cs.length<=10:=HKL.out
  clear hco HKL
  generalize hnc:cs.length=n4 at *
  have HNC:=hiD hnc
  clear hnc
  by_cases hn0:n4=0
  ·have HZ:Hid (payD bls s g L ms nx ys r tag=.inl 9):=by
    show _=_
    rw[HP1,if_pos (List.length_eq_zero_iff.1 (by rw[HNC.out];exact hn0))]
   subst hn0
   obtain⟨q0,q1,q2,q3,q4,q5,qz⟩:=HR4.out
   have f0:=qz 0
   have f1:=qz 1
   have f2:=qz 2
   have f3:=qz 3
   have f4:=qz 4
   have f5:=qz 5
   have HVV:Hid _:=HR4.out.zero6 (.int .i64 0) (.int .i64 0) (.slice none 0 0) (.slice none 0 0) (.slice none 0 0) (.int .i64 0)
   have HBF:Hid _:=below6 HB4.out (.int .i64 0) (.int .i64 0) (.slice none 0 0) (.slice none 0 0) (.slice none 0 0) (.int .i64 0)
   clear qz HP1
   go_upto_region 8 with fail
   go_cut [9] (fun u wx=>u=.int .i64 9/\Hid (VB wx B (.int .i64 0) (.int .i64 0) (.slice none 0 0) (.slice none 0 0) (.slice none 0 0) (.int .i64 0))/\Hid (Below B w wx))
   case first=>
    go_wp2_with fail
    go_meet
    exact⟨rfl,HVV,HBF⟩
   case rest=>
    obtain⟨rfl,hvv,hbf⟩:=hcut
    clear q0 q1 q2 q3 q4 q5 f0 f1 f2 f3 f4 f5 HVV HBF
    obtain⟨z0,z1,z2,z3,z4,z5,_⟩:=hvv.out
    repeat (first|go_values|go_skip|go_guarded|go_step|go_upon)
    refine bodyPost_ret (v:=.tuple #[.agg #[.int .i64 0,.int .i64 0,.slice none 0 0,.slice none 0 0,.slice none 0 0,.int .i64 0],.int .i64 9]) ?_ rfl ⟨_,_,_,_,_,_,_,rfl,?_⟩
    ·simp[results,Tryz.results114,go_sem,z0,z1,z2,z3,z4,z5]
    ·exact Or.inl ⟨_,HZ,rfl,rfl,rfl,rfl,rfl,rfl,rfl,by rw[HBe.out];exact hbf.out⟩
  ·rw[if_neg (fun e=>hn0 (by rw[<-HNC.out,e];rfl))] at HP1
   have HP2:=hiD HP1
   clear HP1
   have hn4I:((n4:Int)== 0)=false:=by rw[beq_eq_false_iff_ne];omega
   have d5:=HS4.out.dp.c5
   have hw9:B<w4.heap.size:=cell_lt HR4.out.c0
   have HQ5:Hid (QM w B w4.heap.size (.slice a4 n4 c4) cs (ms.length:Nat) 0 (.slice none 0 0) (.slice none 0 0) (.slice none 0 0) (-1) [] [] [] (w4.alloc (.cells #[.int .i64 (ms.length:Nat),.int .i64 0,.slice none 0 0,.slice none 0 0,.slice none 0 0,.int .i64 (-1)] 38))):=QM.start HR4.out HB4.out HO4.out
   have b45:Below w4.heap.size w4 (w4.alloc (.cells #[.int .i64 (ms.length:Nat),.int .i64 0,.slice none 0 0,.slice none 0 0,.slice none 0 0,.int .i64 (-1)] 38)):=(Below.refl _ _).alloc leR _
   have HS5:=hiD (HS4.out.grown b45)
   generalize hmln:ms.length=ml at *
   have HML:=hiD hmln
   clear hmln
   go_upto_region 10 with fail
   generalize w4.alloc (.cells #[.int .i64 (ml:Nat),.int .i64 0,.slice none 0 0,.slice none 0 0,.slice none 0 0,.int .i64 (-1)] 38)=w5 at *
   generalize hTe:w4.heap.size=T at *
   clear hTe b45 HS5 HS4 HR4 HO4 HB4 d5 hz34
   have HSW:Hid (∀ wx,Below B w wx->DSt N Nd D base ao c bls s g ar cr ac cc (.slice am ml cm) nx ms ap ys wx):=fun wx hb=>HS.out.grown (by rw[HBe.out];exact hb)
   have t1:=HQ5.out.tb.c1
   have tf1:=HQ5.out.tb.fz 1
   have HQ6:Hid (QM w B T (.slice a4 n4 c4) cs (ml:Nat) tag (.slice none 0 0) (.slice none 0 0) (.slice none 0 0) (-1) [] [] [] (w5.setCell ⟨T,1,none⟩ (.int .i64 tag))):=HQ5.out.setTag tag
   go_upto_region 11 with fail
   generalize w5.setCell ⟨T,1,none⟩ (.int .i64 tag)=w6 at *
   clear t1 tf1 HQ5
   have HS6:Hid (DSt N Nd D base ao c bls s g ar cr ac cc (.slice am ml cm) nx ms ap ys w6):=HSW.out w6 HQ6.out.bl
   have HOU6:=hiD HS6.out.ou
   obtain⟨apa,eap⟩:=outs_someA HOU6.out (by rw[HYN.out];omega)
   subst eap
   have t3:=HQ6.out.tb.c3
   have tf3:=HQ6.out.tb.fz 3
   have hT6:T<w6.heap.size:=cell_lt t3
   go_upto_region 12 with (go_at_call 167;refine(copiedOuts_any apa m d ys w6 HOU6 HYN (by omega)).mono ?_;rintro e w7 ⟨rfl,ho7,hb7⟩;have k0:=(hb7.cell (p:=⟨T,3,none⟩) hT6).trans t3;have k1:=(hb7.frozen (p:=⟨T,3,none⟩) hT6).trans tf3)
   have HQ8:Hid (QM w B T (.slice a4 n4 c4) cs (ml:Nat) tag (.slice none 0 0) (.slice (some ⟨w6.heap.size,0,none⟩) m m) (.slice none 0 0) (-1) [] ys [] (w7.setCell ⟨T,3,none⟩ (.slice (some ⟨w6.heap.size,0,none⟩) m m))):=(HQ6.out.grown hb7).setO (owns_lower ho7 (by omega)) (by simp[Value.ownBlock]) (by simp[Value.ownBlock])
   generalize w7.setCell ⟨T,3,none⟩ (.slice (some ⟨w6.heap.size,0,none⟩) m m)=w8 at *
   generalize w6.heap.size=BO at *
   clear t3 tf3 k0 k1 ho7 hb7 HQ6 HS6 HOU6 hT6
   go_wp2
   go_loopw [16] (fun i wr=>∃ (k:Nat) (vi vk:Value),k<=n4/\i=.int .i64 k/\Hid (QM w B T (.slice a4 n4 c4) cs (ml:Nat) tag vi (.slice (some ⟨BO,0,none⟩) m m) vk (-1) (cs.take k) ys (cs.take k) wr)) (fun i _=>n4-(intOf i).toNat)
   case atStart=>exact⟨0,_,_,Nat.zero_le _,rfl,HQ8⟩
   case round=>
    obtain⟨k,vi,vk,hk,rfl,hq⟩:=hrel
    by_cases hlt:k<n4
    ·have hTl:T<wr.heap.size:=hq.out.Tl
     rcases own_atS coin6 hq.out.oc with hnil|⟨g4,o4,e4,hrow⟩
     ·have:=HNC.out;rw[hnil] at this;simp at this;omega
     subst e4
     obtain⟨c0,c1,c2,c3,c4',c5⟩:=coinCells hrow k (by rw[HNC.out];exact hlt)
     have HSN:Hid (cs.take (k+1)=cs.take k++[cs.getD k dN]):=by
      show _=_
      rw[List.take_succ_eq_append_getElem (by rw[HNC.out];exact hlt)]
      simp[List.getD,HNC.out,hlt]
     have HLL:Hid ((cs.take k).length<=1000):=by show _<=_;rw[List.length_take];omega
     have HCC:Hid (∀ wx,RecAt CoinD.l wx (some ⟨g4,o4,none⟩) cs->CoinCells wx g4 (o4+k*6) (cs.getD k dN)):=fun wx hx=>by
      rcases hx with h|⟨b,off,e,hr⟩
      ·have:=HNC.out;rw[h] at this;simp at this;omega
      ·cases e
       exact coinCells hr k (by rw[HNC.out];exact hlt)
     clear hrow
     generalize cs.getD k dN=y at *
     generalize cs.take k=acc at *
     obtain⟨y0,y1,y2,y3,y4,y5⟩:=y
     simp only at c0 c1 c2 c3 c4' c5
     have e1:(0:Int)<=(k:Int):=by omega
     have e2:(k:Int)<(n4:Int):=by omega
     have t2:=hq.out.tb.c2
     have tf2:=hq.out.tb.fz 2
     have hviT:some T≠vi.ownBlock:=fun e=>by have:=(hq.out.pd.oi.blk _ e.symm).1;omega
     have HOI:=hiD hq.out.pd.oi
     have HQ:Hid _:=hq.out
     clear hq
     have HRK:Hid (∀ wx (gi capi:Nat),OwnRec inC 115 3 wx (T+1) (.slice (some ⟨gi,0,none⟩) (acc.length+1) capi) (acc++[⟨y0,y1,y2,y3,y4,y5⟩])->((wr.alloc (.cells #[.int .i64 y0,.int .i64 y1,.slice none 0 0] 115)).drew).grownBy wx vi.ownBlock->(vi.ownBlock=some gi\/((wr.alloc (.cells #[.int .i64 y0,.int .i64 y1,.slice none 0 0] 115)).drew).heap.size<=gi)->QM w B T (.slice (some ⟨g4,o4,none⟩) n4 c4) cs (ml:Nat) tag (.slice (some ⟨gi,0,none⟩) (acc.length+1) capi) (.slice (some ⟨BO,0,none⟩) m m) vk (-1) (acc++[⟨y0,y1,y2,y3,y4,y5⟩]) ys acc (wx.setCell ⟨T,2,none⟩ (.slice (some ⟨gi,0,none⟩) (acc.length+1) capi))):=fun wx gi capi h1 h2 h3=>(HQ.out.grown ((bAl _ _).drew)).pushI h1 h2 h3
     go_upto_region 15 with fail
     go_cut [16] (fun u wx=>u=.int .i64 (k:Nat)/\∃ vi',Hid (QM w B T (.slice (some ⟨g4,o4,none⟩) n4 c4) cs (ml:Nat) tag vi' (.slice (some ⟨BO,0,none⟩) m m) vk (-1) (acc++[⟨y0,y1,y2,y3,y4,y5⟩]) ys acc wx))
     case first=>
      go_region_law (refine step_appR 33 40 _ Tryz.underlying33 info115 rfl (by decide) inC3 inC_one _ ?_ (.tmp 65) (.tmp 77) ?_ (T+1) wr.heap.size 1 vi acc ⟨y0,y1,y2,y3,y4,y5⟩ ?_ ?_ ?_ ?_ ?_ ?_ ?_ ?_;rfl;rfl;rfl;rfl;exact OwnRec.drew (HOI.out.alloc _);exact VRow.drew (vrow_new wr _ _);(rw[World.size_drew,World.size_alloc];omega);(have:=HLL.out;unfold maxLen;omega);(have:=HLL.out;omega);intro gi capi wi howni hgi hli hlti;have k0:=keepO hgi t2 hviT;have k1:=keepF hgi tf2 hTl hviT)
      all_goals
       have HF9:Hid _:=HRK.out wi gi capi howni hgi hli
       go_wp2_with fail
       go_meet
       exact⟨rfl,_,HF9⟩
     case rest=>
      obtain⟨rfl,vi2,hq2⟩:=hcut
      clear t2 tf2 c0 c1 c2 c3 c4' c5 hviT HOI HQ HRK
      have hTc:T<wc.heap.size:=hq2.out.Tl
      obtain⟨c0,c1,c2,c3,c4',c5⟩:=HCC.out wc (own_atS coin6 hq2.out.oc)
      simp only at c0 c1 c2 c3 c4' c5
      have t4:=hq2.out.tb.c4
      have tf4:=hq2.out.tb.fz 4
      have hvkT:some T≠vk.ownBlock:=fun e=>by have:=(hq2.out.pd.ok.blk _ e.symm).1;omega
      have HOK:=hiD hq2.out.pd.ok
      have HRK:Hid (∀ wx (gi capi:Nat),OwnRec kC 117 2 wx (T+1) (.slice (some ⟨gi,0,none⟩) (acc.length+1) capi) (acc++[⟨y0,y1,y2,y3,y4,y5⟩])->((wc.alloc (.cells #[.int .i64 y4,.int .i64 y5] 117)).drew).grownBy wx vk.ownBlock->(vk.ownBlock=some gi\/((wc.alloc (.cells #[.int .i64 y4,.int .i64 y5] 117)).drew).heap.size<=gi)->QM w B T (.slice (some ⟨g4,o4,none⟩) n4 c4) cs (ml:Nat) tag vi2 (.slice (some ⟨BO,0,none⟩) m m) (.slice (some ⟨gi,0,none⟩) (acc.length+1) capi) (-1) (acc++[⟨y0,y1,y2,y3,y4,y5⟩]) ys (acc++[⟨y0,y1,y2,y3,y4,y5⟩]) (wx.setCell ⟨T,4,none⟩ (.slice (some ⟨gi,0,none⟩) (acc.length+1) capi))):=fun wx gi capi h1 h2 h3=>(hq2.out.grown ((bAl _ _).drew)).pushK h1 h2 h3
      clear hq2
      go_upto_region 16 with fail
      go_region_law (refine step_appR 36 16 _ Tryz.underlying36 info117 rfl (by decide) kC2 kC_one _ ?_ (.tmp 82) (.tmp 94) ?_ (T+1) wc.heap.size 1 vk acc ⟨y0,y1,y2,y3,y4,y5⟩ ?_ ?_ ?_ ?_ ?_ ?_ ?_ ?_;rfl;rfl;rfl;rfl;exact OwnRec.drew (HOK.out.alloc _);exact VRow.drew (vrow_new wc _ _);(rw[World.size_drew,World.size_alloc];omega);(have:=HLL.out;unfold maxLen;omega);(have:=HLL.out;omega);intro gi capi wi howni hgi hli hlti;have k0:=keepO hgi t4 hvkT;have k1:=keepF hgi tf4 hTc hvkT)
      all_goals
       have HF9:Hid _:=HRK.out wi gi capi howni hgi hli
       go_wp2
       go_roundw
       case rel=>exact⟨k+1,_,_,by omega,by go_num,by rw[HSN.out];exact HF9⟩
       case measure=>simp[intOf];omega
    ·have hfl:cs.take k=cs:=List.take_of_length_le (by rw[HNC.out];omega)
     rw[hfl] at hq
     obtain⟨ai,ci,ei,_⟩:=OwnRec.at inC3 hq.out.pd.oi
     obtain⟨ak,ck,ek,_⟩:=OwnRec.at kC2 hq.out.pd.ok
     rw[HNC.out] at ei ek
     subst ei
     subst ek
     have HQ:=hiD hq.out
     clear hq hfl
     go_upto_if 98 with fail
     have HCKB:Hid (ckR (cellsR bls) s g nx=-1\/((nx:Int)<=ckR (cellsR bls) s g nx/\ckR (cellsR bls) s g nx<100)):=by
      unfold Hid ckR
      rcases ckF_bd (hitsR (cellsR bls) (adrs s 1 100)) (winR (cellsR bls) s g 1-nx) nx with h|h
      ·exact Or.inl h
      ·have:=winR_le (cellsR bls) s g 1 (by omega)
       exact Or.inr ⟨h.1,by omega⟩
     go_cut [10] (fun u wx=>u=.int .i64 0/\∃ (apo:OAd) (co:Nat) (zs:LII) (cx:Int),0<zs.length/\zs.length<=8/\((0<ch4/\(nx:Int)<=cx/\cx<100)\/(¬0<ch4/\cx=-1))/\Hid (payD bls s g L ms nx ys r tag=payFinD bls tag cs zs cx)/\Hid (QM w B T (.slice a4 n4 c4) cs (ml:Nat) tag (.slice ai n4 ci) (.slice apo zs.length co) (.slice ak n4 ck) cx cs zs cs wx))
     case first=>
      by_cases hc:0<ch4
      ·rw[if_pos hc] at HP2
       have HSr:Hid (DSt N Nd D base ao c bls s g ar cr ac cc (.slice am ml cm) nx ms (some apa) ys wr):=HSW.out wr HQ.out.bl
       have t5:=HQ.out.tb.c5
       have tf5:=HQ.out.tb.fz 5
       have hTl:T<wr.heap.size:=HQ.out.Tl
       go_upto_region 19 with (go_at_call 168;refine(changeKey_any N D ao c bls s g ar cr ac cc nx _ HSr.out.dc HGD hm HSr.out.ad g1 HSr.out.dp.c6 (by omega)).mono ?_;rintro e w9 ⟨rfl,hb9⟩;have k0:=(hb9.cell (p:=⟨T,5,none⟩) hTl).trans t5;have k1:=(hb9.frozen (p:=⟨T,5,none⟩) hTl).trans tf5)
       generalize ckR (cellsR bls) s g nx=cx at *
       have HQ10:Hid _:=(HQ.out.grown hb9).setC cx
       clear t5 tf5 k0 k1 hb9
       generalize w9.setCell ⟨T,5,none⟩ (.int .i64 cx)=w10 at *
       have u5:=HQ10.out.tb.c5
       by_cases hc0:cx<0
       ·have HZ:Hid (payD bls s g L ms nx ys r tag=.inl 10):=by show _=_;rw[HP2.out,if_pos hc0]
        have hcd:decide (cx<0)=true:=decide_eq_true hc0
        have HR10:=HQ10.out.rb
        obtain⟨q0,q1,q2,q3,q4,q5,qz⟩:=HR10
        have f0:=qz 0
        have f1:=qz 1
        have f2:=qz 2
        have f3:=qz 3
        have f4:=qz 4
        have f5:=qz 5
        have HVV:Hid _:=HQ10.out.rb.zero6 (.int .i64 0) (.int .i64 0) (.slice none 0 0) (.slice none 0 0) (.slice none 0 0) (.int .i64 0)
        have HBF:Hid _:=below6 HQ10.out.bl (.int .i64 0) (.int .i64 0) (.slice none 0 0) (.slice none 0 0) (.slice none 0 0) (.int .i64 0)
        clear qz
        go_upto_region 20 with fail
        go_cut [9] (fun u wx=>u=.int .i64 10/\Hid (VB wx B (.int .i64 0) (.int .i64 0) (.slice none 0 0) (.slice none 0 0) (.slice none 0 0) (.int .i64 0))/\Hid (Below B w wx))
        case first=>
         go_wp2_with fail
         go_meet
         exact⟨rfl,HVV,HBF⟩
        case rest=>
         obtain⟨rfl,hvv,hbf⟩:=hcut
         clear q0 q1 q2 q3 q4 q5 f0 f1 f2 f3 f4 f5 HVV HBF
         obtain⟨z0,z1,z2,z3,z4,z5,_⟩:=hvv.out
         repeat (first|go_values|go_skip|go_guarded|go_step|go_upon)
         refine bodyPost_ret (v:=.tuple #[.agg #[.int .i64 0,.int .i64 0,.slice none 0 0,.slice none 0 0,.slice none 0 0,.int .i64 0],.int .i64 10]) ?_ rfl ⟨_,_,_,_,_,_,_,rfl,?_⟩
         ·simp[results,Tryz.results114,go_sem,z0,z1,z2,z3,z4,z5]
         ·exact Or.inl ⟨_,HZ,rfl,rfl,rfl,rfl,rfl,rfl,rfl,by rw[HBe.out];exact hbf.out⟩
       ·rw[if_neg hc0] at HP2
        have hcd:decide (cx<0)=false:=decide_eq_false hc0
        have hcb:(nx:Int)<=cx/\cx<100:=by
         rcases HCKB.out with h|h
         ·omega
         ·exact h
        obtain⟨cxn,rfl⟩:∃ j:Nat,cx=(j:Int):=⟨cx.toNat,by omega⟩
        have HS10:Hid (DSt N Nd D base ao c bls s g ar cr ac cc (.slice am ml cm) nx ms (some apa) ys w10):=HSW.out w10 HQ10.out.bl
        have d3:=HS10.out.ad.c3
        have ha1:∃ ga oa2,ac=some ⟨ga,oa2,none⟩/\w10.cell? ⟨ga,oa2+cxn,none⟩=some (.int .i64 (Mk.adr s 1 cxn)):=by
         rcases HS10.out.ad.i1 with h|⟨ga,oa2,e,hr⟩
         ·have:=congrArg List.length h;simp[adrs] at this
         ·refine⟨ga,oa2,e,?_⟩
          have h1:=hr cxn (by simp[adrs];omega)
          rw[h1]
          congr 2
          simp[adrs,List.getD,show cxn<100 by omega]
        obtain⟨ga,oa2,eac,hadr⟩:=ha1
        subst eac
        generalize Mk.adr s 1 (cxn:Int)=ad at *
        have t3:=HQ10.out.tb.c3
        have tf3:=HQ10.out.tb.fz 3
        have hT10:T<w10.heap.size:=HQ10.out.Tl
        have hvoT:some T≠(Value.slice (some ⟨BO,0,none⟩) m m).ownBlock:=fun e=>by have:=(HQ10.out.pd.oo.blk _ e.symm).1;omega
        have HOO:=hiD HQ10.out.pd.oo
        have e1:(0:Int)<=(cxn:Int):=by omega
        have e2:(cxn:Int)<100:=by omega
        have e3:cxn<100:=by omega
        go_upto_region 21 with fail
        go_region_law (refine step_appR 28 16 _ Tryz.underlying28 info93 rfl (by decide) kv2 kv_one _ ?_ (.tmp 108) (.tmp 119) ?_ (T+1) w10.heap.size 1 (.slice (some ⟨BO,0,none⟩) m m) ys (ad,ch4) ?_ ?_ ?_ ?_ ?_ ?_ ?_ ?_;rfl;rfl;rfl;rfl;exact OwnRec.drew (HOO.out.alloc _);exact VRow.drew (vrow_new w10 _ _);(rw[World.size_drew,World.size_alloc];omega);(rw[HYN.out];unfold maxLen;omega);(rw[HYN.out];omega);intro gi capi wi howni hgi hli hlti;have k0:=keepO hgi t3 hvoT;have k1:=keepF hgi tf3 hT10 hvoT)
        all_goals
         have HF9:Hid _:=(HQ10.out.grown ((bAl _ _).drew)).pushO howni hgi hli
         have hln:(ys++[(ad,ch4)]).length=ys.length+1:=by rw[List.length_append];rfl
         go_wp2_with fail
         go_meet
         exact⟨rfl,_,_,ys++[(ad,ch4)],(cxn:Int),by rw[hln];omega,by rw[hln,HYN.out];omega,Or.inl ⟨hc,hcb.1,hcb.2⟩,HP2,by rw[hln];exact HF9⟩
      ·rw[if_neg hc] at HP2
       have hcd:decide ((0:Int)<ch4)=false:=decide_eq_false hc
       go_wp2_with fail
       go_meet
       exact⟨rfl,some ⟨BO,0,none⟩,m,ys,-1,by rw[HYN.out];omega,by rw[HYN.out];omega,Or.inr ⟨hc,rfl⟩,HP2,by rw[HYN.out];exact HQ⟩
     case rest=>
      obtain⟨rfl,apo,co,zs,cx,hz0',hz8,hcx,hpf,hqc⟩:=hcut
      clear HQ HP2 HCKB
      have HIN:Hid (InsAt wc ai (cs.map CoinD.inD)):=inC_ins (own_atS inC3 hqc.out.pd.oi)
      have HOU:Hid (OutsAt wc apo zs):=rec_outs (own_atS kv2 hqc.out.pd.oo)
      have t1:=hqc.out.tb.c1
      have t2:=hqc.out.tb.c2
      have t3:=hqc.out.tb.c3
      have HNM:Hid ((cs.map CoinD.inD).length=n4):=by show _=_;rw[List.length_map];exact HNC
      go_wp2_with fail
      refine(rId_any tag ai n4 ci apo zs.length co (cs.map CoinD.inD) zs _ HIN HNM HOU rfl).mono ?_
      rintro e w14 ⟨rfl,hb14⟩
      have HQ14:=hiD (hqc.out.grown hb14)
      have HPF:Hid (payFinD bls tag cs zs cx=if standsZ bls (idZ tag (cs.map CoinD.inD) zs)=true then .inl 4 else .inr (cs,zs,cx)):=rfl
      clear t1 t2 t3 HIN HOU hqc hb14
      generalize idZ tag (cs.map CoinD.inD) zs=id at *
      have HS14:Hid (DSt N Nd D base ao c bls s g ar cr ac cc (.slice am ml cm) nx ms (some apa) ys w14):=HSW.out w14 HQ14.out.bl
      have d4:=HS14.out.dc.c4
      obtain⟨csx,hchx⟩:=HS14.out.dc.ch
      have HCX:=hiD hchx
      clear hchx HS14
      go_wp2_with fail
      refine(stands_any N ao bls.length c csx bls id _ HCX rfl (by omega) (fun i hi=>(HGD.out.small i hi).1)).mono ?_
      rintro e w15 ⟨rfl,hb15⟩
      have HQ15:=hiD (HQ14.out.grown hb15)
      clear HQ14 HCX hb15 d4
      cases hst:standsZ bls id
      ·have HZ:Hid (payD bls s g L ms nx ys r tag=.inr (cs,zs,cx)):=by show _=_;rw[hpf.out,HPF.out,if_neg (by rw[hst];simp)]
       have HLV:=hiD HLO.out
       have HF0:Hid (QF Nd w D base (.slice am ml cm) (nx:Int) ms B T (.slice a4 n4 c4) cs (ml:Nat) tag (.slice ai n4 ci) (.slice apo zs.length co) (.slice ak n4 ck) cx zs w15):=HQ15.out.toF HS.out.dp HBe.out HLV.out
       go_upto_if 135 with fail
       go_cut [10] (fun u wx=>u=.int .i64 0/\Hid (QF Nd w D base (.slice am ml cm) (if (nx:Int)<=cx then cx+1 else(nx:Int)) ms B T (.slice a4 n4 c4) cs (ml:Nat) tag (.slice ai n4 ci) (.slice apo zs.length co) (.slice ak n4 ck) cx zs wx))
       case first=>
        rcases hcx with⟨hc,hc1,hc2⟩|⟨hc,rfl⟩
        ·have hcd:decide ((0:Int)<ch4)=true:=decide_eq_true hc
         have t5:=HF0.out.tb.c5
         have d6:=HF0.out.dp.c6
         have df6:=HF0.out.dp.f6
         have HF1:Hid _:=HF0.out.setG cx
         go_wp2_with fail
         go_meet
         exact⟨rfl,by rw[if_pos hc1];exact HF1⟩
        ·have hcd:decide ((0:Int)<ch4)=false:=decide_eq_false (by omega)
         go_wp2_with fail
         go_meet
         exact⟨rfl,by rw[if_neg (by omega)];exact HF0⟩
       case rest=>
        obtain⟨rfl,hqf⟩:=hcut
        clear HF0 HQ15
        have hlt:=hqf.out.lt
        have hDB:=hqf.out.lo D (Or.inl rfl)
        have d5:=hqf.out.dp.c5
        have df5:=hqf.out.dp.f5
        obtain⟨t0,t1,t2,t3,t4,t5,_⟩:=hqf.out.tb
        have hDl9:D<wc.heap.size:=cell_lt d5
        have hTl9:T<wc.heap.size:=cell_lt t0
        have hbs9:base<=wc.heap.size:=by have h1:=hqf.out.fr.size;rw[HBe.out] at h1;omega
        have hvmD:some D≠(Value.slice am ml cm).ownBlock:=fun e=>by have h1:=(hqf.out.dp.ow.blk _ e.symm).1;have h2:=hqf.out.dp.nb;omega
        have HOW:=hiD hqf.out.dp.ow
        have HVB:Hid (∀ k,(Value.slice am ml cm).ownBlock=some k->k<B):=fun k hk=>hqf.out.lo k (Or.inr (Or.inl hk))
        have HQF:Hid _:=hqf.out
        have hml9:ml<=100000000:=hml
        clear hqf
        go_upto_region 28 with fail
        go_cut [10] (fun u wx=>u=.int .i64 0/\Hid (VB wx T (.int .i64 (ml:Nat)) (.int .i64 tag) (.slice ai n4 ci) (.slice apo zs.length co) (.slice ak n4 ck) (.int .i64 cx))/\Hid (VB wx B (.int .i64 0) (.int .i64 0) (.slice none 0 0) (.slice none 0 0) (.slice none 0 0) (.int .i64 0))/\Hid (∀ w2,Fr (fun k=>k=B) wx w2->DGo Nd D base (.slice am ms.length cm) (nx:Int) ms tag cs zs cx (.slice ai n4 ci) (.slice apo zs.length co) (.slice ak n4 ck) w w2))
        case first=>
         go_region_law (refine step_appR 174 128 _ Tryz.underlying174 info187 rfl (by decide) made9 made_one _ ?_ (.tmp 145) (.tmp 149) ?_ base wc.heap.size 1 (.slice am ml cm) ms ⟨(ml:Nat),tag,ai,n4,ci,apo,zs.length,co,ak,n4,ck,cx,a4,n4,c4,true,false,cs,zs⟩ ?_ ?_ ?_ ?_ ?_ ?_ ?_ ?_;rfl;rfl;rfl;rfl;exact OwnRec.drew (HOW.out.alloc _);exact VRow.drew (vrow_new wc _ _);(rw[World.size_drew,World.size_alloc];omega);(rw[HML.out];unfold maxLen;omega);(rw[HML.out];omega);intro gl capl w1 hown1 hg1 hl1 hlt1;have k0:=keepO hg1 d5 hvmD;have k1:=keepF hg1 df5 hDl9 hvmD)
         all_goals
          have bW:Below wc.heap.size wc ((wc.alloc (.cells #[.int .i64 (ml:Nat),.int .i64 tag,.slice ai n4 ci,.slice apo zs.length co,.slice ak n4 ck,.int .i64 cx,.slice a4 n4 c4,.bool true,.bool false] 187)).drew):=(bAl _ _).drew
          have hTv:some T≠(Value.slice am ml cm).ownBlock:=fun e=>by have:=HVB.out T e.symm;omega
          have hBv:some B≠(Value.slice am ml cm).ownBlock:=fun e=>by have:=HVB.out B e.symm;omega
          have HQG:Hid _:=HQF.out.grown bW
          have HTT:Hid (VB (w1.setCell ⟨D,5,none⟩ (.slice (some ⟨gl,0,none⟩) (ms.length+1) capl)) T (.int .i64 (ml:Nat)) (.int .i64 tag) (.slice ai n4 ci) (.slice apo zs.length co) (.slice ak n4 ck) (.int .i64 cx)):=(HQG.out.tb.gb hg1 hTv).oth _ (by omega)
          have HRR:Hid (VB (w1.setCell ⟨D,5,none⟩ (.slice (some ⟨gl,0,none⟩) (ms.length+1) capl)) B (.int .i64 0) (.int .i64 0) (.slice none 0 0) (.slice none 0 0) (.slice none 0 0) (.int .i64 0)):=(HQG.out.rb.gb hg1 hBv).oth _ (by omega)
          have HFN:Hid (∀ w2,Fr (fun k=>k=B) (w1.setCell ⟨D,5,none⟩ (.slice (some ⟨gl,0,none⟩) (ms.length+1) capl)) w2->DGo Nd D base (.slice am ms.length cm) (nx:Int) ms tag cs zs cx (.slice ai n4 ci) (.slice apo zs.length co) (.slice ak n4 ck) w w2):=fun w2 hw2=>by rw[HML.out];exact QF.fin2 HML HNC HQG hn4 hz8 hown1 hg1 hl1 hw2 (nx:Int) rfl
          clear t0 t1 t2 t3 t4 t5 d5 df5 hown1 hg1 hl1 hlt1 k0 k1 bW HQG
          go_wp2_with fail
          go_meet
          exact⟨rfl,HTT,HRR,HFN⟩
        case rest=>
         obtain⟨rfl,HTT,HRR,HFN⟩:=hcut
         clear t0 t1 t2 t3 t4 t5 d5 df5 HOW HVB HQF
         rename World=>w2
         obtain⟨t0,t1,t2,t3,t4,t5,_⟩:=HTT.out
         obtain⟨q0,q1,q2,q3,q4,q5,qz⟩:=HRR.out
         have f0:=qz 0
         have f1:=qz 1
         have f2:=qz 2
         have f3:=qz 3
         have f4:=qz 4
         have f5:=qz 5
         have HVV:Hid _:=HRR.out.zero6 (.int .i64 (ml:Nat)) (.int .i64 tag) (.slice ai n4 ci) (.slice apo zs.length co) (.slice ak n4 ck) (.int .i64 cx)
         have HGO:Hid _:=HFN.out _ (fr6 w2 B (.int .i64 (ml:Nat)) (.int .i64 tag) (.slice ai n4 ci) (.slice apo zs.length co) (.slice ak n4 ck) (.int .i64 cx))
         clear qz HFN HTT HRR
         go_upto_region 29 with fail
         go_cut [9] (fun u wx=>u=.int .i64 0/\Hid (VB wx B (.int .i64 (ml:Nat)) (.int .i64 tag) (.slice ai n4 ci) (.slice apo zs.length co) (.slice ak n4 ck) (.int .i64 cx))/\Hid (DGo Nd D base (.slice am ms.length cm) (nx:Int) ms tag cs zs cx (.slice ai n4 ci) (.slice apo zs.length co) (.slice ak n4 ck) w wx))
         case first=>
          go_wp2_with fail
          go_meet
          exact⟨rfl,HVV,HGO⟩
         case rest=>
          obtain⟨rfl,hvv,hgo⟩:=hcut
          clear q0 q1 q2 q3 q4 q5 f0 f1 f2 f3 f4 f5 HVV HGO t0 t1 t2 t3 t4 t5
          obtain⟨z0,z1,z2,z3,z4,z5,_⟩:=hvv.out
          repeat (first|go_values|go_skip|go_guarded|go_step|go_upon)
          refine bodyPost_ret (v:=.tuple #[.agg #[.int .i64 (ml:Nat),.int .i64 tag,.slice ai n4 ci,.slice apo zs.length co,.slice ak n4 ck,.int .i64 cx],.int .i64 0]) ?_ rfl ⟨_,_,_,_,_,_,_,rfl,?_⟩
          ·simp[results,Tryz.results114,go_sem,z0,z1,z2,z3,z4,z5]
          ·exact Or.inr ⟨cs,zs,cx,HZ,rfl,by rw[HML.out],rfl,rfl,hgo.out⟩
      ·have HZ:Hid (payD bls s g L ms nx ys r tag=.inl 4):=by show _=_;rw[hpf.out,HPF.out,if_pos hst]
       obtain⟨q0,q1,q2,q3,q4,q5,qz⟩:=HQ15.out.rb
       have f0:=qz 0
       have f1:=qz 1
       have f2:=qz 2
       have f3:=qz 3
       have f4:=qz 4
       have f5:=qz 5
       have HVV:Hid _:=HQ15.out.rb.zero6 (.int .i64 0) (.int .i64 0) (.slice none 0 0) (.slice none 0 0) (.slice none 0 0) (.int .i64 0)
       have HBF:Hid _:=below6 HQ15.out.bl (.int .i64 0) (.int .i64 0) (.slice none 0 0) (.slice none 0 0) (.slice none 0 0) (.int .i64 0)
       clear qz
       go_upto_region 25 with fail
       go_cut [9] (fun u wx=>u=.int .i64 4/\Hid (VB wx B (.int .i64 0) (.int .i64 0) (.slice none 0 0) (.slice none 0 0) (.slice none 0 0) (.int .i64 0))/\Hid (Below B w wx))
       case first=>
        go_wp2_with fail
        go_meet
        exact⟨rfl,HVV,HBF⟩
       case rest=>
        obtain⟨rfl,hvv,hbf⟩:=hcut
        clear q0 q1 q2 q3 q4 q5 f0 f1 f2 f3 f4 f5 HVV HBF
        obtain⟨z0,z1,z2,z3,z4,z5,_⟩:=hvv.out
        repeat (first|go_values|go_skip|go_guarded|go_step|go_upon)
        refine bodyPost_ret (v:=.tuple #[.agg #[.int .i64 0,.int .i64 0,.slice none 0 0,.slice none 0 0,.slice none 0 0,.int .i64 0],.int .i64 4]) ?_ rfl ⟨_,_,_,_,_,_,_,rfl,?_⟩
        ·simp[results,Tryz.results114,go_sem,z0,z1,z2,z3,z4,z5]
        ·exact Or.inl ⟨_,HZ,rfl,rfl,rfl,rfl,rfl,rfl,rfl,by rw[HBe.out];exact hbf.out⟩
end
end Go.Proofs.YtffgpepngcnjeabGreat
