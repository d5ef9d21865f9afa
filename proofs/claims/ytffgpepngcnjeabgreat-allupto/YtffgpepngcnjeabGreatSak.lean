import Derived.Test.YtffgpepngcnjeabGreatSaj
import Derived.Deep.CutBlock
namespace Go.Proofs.YtffgpepngcnjeabGreat
set_option maxRecDepth 100000
set_option maxHeartbeats 8000000
section
open Go.RowKit

variable {Ex:List (Nat×Value)}
def leftI (h:Int) (xs:List Cel):Nat->Nat
 |0=>0
 |k+1=>if (xs.getD k dC).made=h then leftI h xs k else k+1
theorem leftI_succ (h:Int) (xs:List Cel) (k:Nat):leftI h xs (k+1)=if (xs.getD k dC).made=h then leftI h xs k else k+1:=rfl
theorem leftI_le (h:Int) (xs:List Cel):∀ k,leftI h xs k<=k:=by
 intro k
 induction k with
 |zero=>exact leR
 |succ k ih=>rw[leftI_succ];split<;>omega
def unsp (h:Int) (x:Cel):Cel:=if x.spent=h then x.sp (-1) else x
def tbZ (h:Int) (xs:List Cel):List Cel:=(xs.take (leftI h xs xs.length)).map (unsp h)
def partU (h:Int) (ys:List Cel) (k:Nat):List Cel:=(ys.take k).map (unsp h)++ys.drop k
theorem partU_len (h:Int) (ys:List Cel) (k:Nat):(partU h ys k).length=ys.length:=by
 simp only[partU,List.length_append,List.length_map,List.length_take,List.length_drop]
 omega
theorem partU_at (h:Int) (ys:List Cel) (k:Nat) (hk:k<ys.length):(partU h ys k).getD k dC=ys.getD k dC:=by
 simp only[partU,List.getD]
 rw[List.getElem?_append_right (by rw[List.length_map,List.length_take];omega),List.length_map,List.length_take,List.getElem?_drop]
 congr 2
 omega
theorem partU_step (h:Int) (ys:List Cel) (k:Nat) (hk:k<ys.length):partU h ys (k+1)=(partU h ys k).set k (unsp h (ys.getD k dC)):=by
 simp only[partU]
 rw[List.take_succ_eq_append_getElem hk,List.map_append,List.drop_eq_getElem_cons hk]
 have hl:((ys.take k).map (unsp h)).length=k:=by rw[List.length_map,List.length_take];omega
 rw[List.set_append_right _ _ (by omega),hl,Nat.sub_self,List.set_cons_zero,List.append_assoc]
 simp only[List.getD,List.getElem?_eq_getElem hk,Option.getD_some]
 rfl
theorem partU_same (h:Int) (ys:List Cel) (k:Nat) (hk:k<ys.length) (hs:(ys.getD k dC).spent≠h):partU h ys (k+1)=partU h ys k:=by
 rw[partU_step h ys k hk]
 have e:unsp h (ys.getD k dC)=(partU h ys k).getD k dC:=by
  rw[partU_at h ys k hk]
  unfold unsp
  rw[if_neg hs]
 rw[e]
 have hk':k<(partU h ys k).length:=by rw[partU_len];exact hk
 simp only[List.getD,List.getElem?_eq_getElem hk',Option.getD_some]
 exact List.set_getElem_self hk'
theorem OwnRec.take {α:Type} {f:α->List Value} {e k:Nat} (hf:∀ x,(f x).length=k) {w:World} {base n c:Nat} {ao:OAd} {xs:List α} (h:OwnRec f e k w base (.slice ao n c) xs) (hn:xs.length=n) (m:Nat) (hm:m<=n):OwnRec f e k w base (.slice ao m c) (xs.take m):=by
 have hl:(xs.take m).length=m:=by rw[List.length_take];omega
 obtain⟨h1,⟨h2,h3⟩|⟨g,cap,cur,h2,hb,hg,hnc,hcm,hcs,ht⟩⟩:=h
 ·injection h2 with e1 e2 e3
  subst e1 e3
  have hm0:m=0:=by omega
  subst hm0
  exact OwnRec.nil _ _ _ _ _
 ·injection h2 with e1 e2 e3
  subst e1 e3
  unfold OwnRec
  rw[hl]
  refine⟨by rw[rec_len f k hf,hl],Or.inr ⟨g,c,cur,rfl,hb,hg,by omega,hcm,hcs,?_⟩⟩
  have e4:(xs.take m).flatMap f=(xs.flatMap f).take (m*k):=by
   have e5:xs.flatMap f=(xs.take m).flatMap f++(xs.drop m).flatMap f:=by rw[<-List.flatMap_append,List.take_append_drop]
   have e6:((xs.take m).flatMap f).length=m*k:=by rw[rec_len f k hf,hl]
   rw[e5,List.take_append_of_le_length (Nat.le_of_eq e6.symm),List.take_of_length_le (Nat.le_of_eq e6)]
  rw[e4,<-ht,List.take_take,Nat.min_eq_left (Nat.mul_le_mul_right k (by omega))]
theorem OwnRec.cap {α:Type} {f:α->List Value} {e k:Nat} {w:World} {base n c:Nat} {ao:OAd} {xs:List α} (h:OwnRec f e k w base (.slice ao n c) xs) (hn:xs.length=n):n<=c/\c<=maxLen:=by
 obtain⟨h1,⟨h2,h3⟩|⟨g,cap,cur,h2,hb,hg,hnc,hcm,hcs,ht⟩⟩:=h
 ·injection h2 with e1 e2 e3
  subst e2 e3
  exact⟨leR,Nat.zero_le _⟩
 ·injection h2 with e1 e2 e3
  subst e3
  exact⟨by omega,hcm⟩
theorem ChOwn.cut {w:World} {b o n c:Nat} {ao:OAd} {h:Int} {xs:List Cel} (hc:ChOwn Ex w b o (.slice ao n c) h xs) (hn:xs.length=n) (m:Nat) (hm:m<=n):ChOwn Ex (w.setCell ⟨b,o,none⟩ (.slice ao m c)) b o (.slice ao m c) h (xs.take m):=by
 have hown:=OwnRec.take cel6 hc.own hn m hm
 refine⟨World.cell?_setCell_same _ _ _ hc.c0,?_,by rw[World.frozen?_setCell];exact hc.f0,fun j=>by rw[World.frozen?_setCell];exact hc.f1 j,?_,fun q hq=>⟨(hc.ext q hq).1,(hc.ext q hq).2.1,?_⟩⟩
 ·rw[World.cell?_setCell_other _ _ _ _ (by intro e;have:=congrArg Addr.off e;simp only at this;omega)]
  exact hc.c1
 ·exact hown.gb (gb_set w b o _) (fun k hk e=>by injection e with e;have:=(hown.blk k hk).1;omega)
 ·rw[World.cell?_setCell_other _ _ _ _ (by intro e;have:=congrArg Addr.off e;simp only at this;exact(hc.ext q hq).1 this.symm)]
  exact(hc.ext q hq).2.2
theorem takeBack_any (b o:Nat) (v:Value) (h:Int) (xs:List Cel) (w:World) (hc:ChOwn Ex w b o v h xs) (hlen:xs.length<=20000):
 Calls Tryz.prog 152 #[.pointer (some ⟨b,o,none⟩)] w fun e w'=>e=.returned (.tuple #[])/\∃ v',ChOwn Ex w' b o v' h (tbZ h xs)/\ChStep b v v' w w':=by
 obtain⟨ao,c,hv,_⟩:=hc.at
 subst hv
 have HC:=hiD hc
 generalize hn:xs.length=n at *
 have HN:=hiD hn
 clear hn
 have hcap:=OwnRec.cap hc.own HN.out
 have hcm:c<=9223372036854775807:=by have:=hcap.2;unfold maxLen at this;omega
 have c0:=hc.c0
 clear hc
 go_enter Tryz.func152,Tryz.ntmps152
 go_upto_block 0 with fail
 go_cut [2] (fun u wx=>u=.int .i64 (leftI h xs n)/\ChOwn Ex wx b o (.slice ao n c) h xs/\Below w.heap.size w wx)
 case first=>
  go_wp2_with fail
  go_loopw [2] (fun i wr=>∃ k:Nat,k<=n/\i=.int .i64 k/\Hid (leftI h xs k=leftI h xs n)/\ChOwn Ex wr b o (.slice ao n c) h xs/\Below w.heap.size w wr) (fun i _=>(intOf i).toNat)
  case atStart=>exact⟨n,leR,rfl,rfl,HC,Below.refl _ _⟩
  case round=>
   obtain⟨k,hk,rfl,hz,hch,hbl⟩:=hrel
   have HCH:=hiD hch
   have d0:=hch.c0
   have d1:=hch.c1
   cases k with
   |zero=>
    clear hch
    go_wp2_with fail
    go_quiet (fail)
    have HCQ:Hid (ChOwn Ex (wr.drewN nq) b o (.slice ao n c) h xs):=⟨HCH.out.c0,HCH.out.c1,HCH.out.f0,HCH.out.f1,HCH.out.own,HCH.out.ext⟩
    have HBQ:Hid (Below w.heap.size w (wr.drewN nq)):=⟨hbl.os,hbl.tape,hbl.output,hbl.size,hbl.block⟩
    go_wp2_with fail
    go_meet
    exact⟨by rw[<-hz.out];rfl,HCQ,HBQ⟩
   |succ k=>
    obtain⟨g,hg,hg1,hg2,hrow,_⟩:=own_some cel6 hch.own HN.out (by omega)
    subst hg
    have r4:=(celCells hrow k (by rw[HN.out];omega)).c4
    rw[Nat.zero_add] at r4
    have HZ:Hid _:=hz.out
    rw[leftI_succ] at HZ
    generalize xs.getD k dC=y at r4 HZ
    obtain⟨y0,y1,y2,y3,ym,y5⟩:=y
    simp only at r4
    clear hrow hch hz
    generalize hki:k+1=K
    have HKI:=hiD hki
    have e3:(k:Int)<(n:Int):=by omega
    have e4:(0:Int)<=(k:Int):=by omega
    have hw1:IntKind.i64.wrap ((K:Int)-1)=k:=by rw[show(K:Int)-1=k by omega];exact IntWalk.i64_in _ ⟨by omega,by omega⟩
    have hK0:0<K:=by omega
    have hd:decide ((0:Int)<(K:Int))=true:=by rw[decide_eq_true_iff];omega
    clear hki
    cases hy:(ym== h)
    ·go_wp2_with fail
     go_quiet (fail)
     have HCQ:Hid (ChOwn Ex (wr.drewN nq) b o (.slice (some ⟨g,0,none⟩) n c) h xs):=⟨HCH.out.c0,HCH.out.c1,HCH.out.f0,HCH.out.f1,HCH.out.own,HCH.out.ext⟩
     have HBQ:Hid (Below w.heap.size w (wr.drewN nq)):=⟨hbl.os,hbl.tape,hbl.output,hbl.size,hbl.block⟩
     go_wp2_with fail
     go_meet
     refine⟨?_,HCQ,HBQ⟩
     have:=HZ.out
     rw[if_neg (by simpa using hy)] at this
     rw[<-this,HKI.out]
    ·go_wp2_with fail
     go_quiet (fail)
     have HCQ:Hid (ChOwn Ex (wr.drewN nq) b o (.slice (some ⟨g,0,none⟩) n c) h xs):=⟨HCH.out.c0,HCH.out.c1,HCH.out.f0,HCH.out.f1,HCH.out.own,HCH.out.ext⟩
     have HBQ:Hid (Below w.heap.size w (wr.drewN nq)):=⟨hbl.os,hbl.tape,hbl.output,hbl.size,hbl.block⟩
     go_wp2_with fail
     go_roundw
     case rel=>exact⟨k,by omega,by go_num,by show _=_;have:=HZ.out;rw[if_pos (by simpa using hy)] at this;exact this,HCQ,HBQ⟩
     case measure=>have hKe:=HKI.out;simp[intOf];omega
 case rest=>
  obtain⟨rfl,hch,hbl⟩:=hcut
  have hle:=leftI_le h xs n
  have HTB:Hid (tbZ h xs=(xs.take (leftI h xs n)).map (unsp h)):=by show _=_;unfold tbZ;rw[HN.out]
  generalize leftI h xs n=m at *
  have d0:=hch.c0
  have f0:=hch.f0
  have hcc:=hcap.1
  have i1:(0:Int)<=(m:Int):=by omega
  have i2:(m:Int)<=(c:Int):=by omega
  have HCUT:Hid (ChOwn Ex (wc.setCell ⟨b,o,none⟩ (.slice ao m c)) b o (.slice ao m c) h (xs.take m)):=hch.cut HN.out m hle
  have HFR:Hid (Fr (chE b (.slice ao n c)) w (wc.setCell ⟨b,o,none⟩ (.slice ao m c))):=(Fr.of_below hbl _).set b o _ (fun _=>Or.inl rfl)
  go_wp2
  generalize hys:xs.take m=ys at *
  have HYL:Hid (ys.length=m):=by show _=_;rw[<-hys,List.length_take,HN.out];omega
  generalize wc.setCell ⟨b,o,none⟩ (.slice ao m c)=wd at *
  clear d0 f0 hch hbl hys c0
  go_loopw [3] (fun i wr=>∃ k:Nat,k<=m/\i=.int .i64 k/\ChOwn Ex wr b o (.slice ao m c) h (partU h ys k)/\Fr (chE b (.slice ao n c)) w wr) (fun i _=>m-(intOf i).toNat)
  case atStart=>exact⟨0,Nat.zero_le _,rfl,by simpa [partU] using HCUT.out,HFR⟩
  case round=>
   obtain⟨k,hk,rfl,hch,hfr⟩:=hrel
   by_cases hlt:k<m
   ·have hkl:k<ys.length:=by rw[HYL.out];exact hlt
    have hpl:(partU h ys k).length=m:=by rw[partU_len,HYL.out]
    obtain⟨g,hg,hg1,hg2,hrow,hfz⟩:=own_some cel6 hch.own hpl (by omega)
    subst hg
    have r5:=(celCells hrow k (by rw[hpl];exact hlt)).c5
    rw[Nat.zero_add,partU_at h ys k hkl] at r5
    have d0:=hch.c0
    have d1:=hch.c1
    have fz:=hfz (k*6+5)
    have HS:Hid _:=partU_step h ys k hkl
    have HSm:Hid _:=partU_same h ys k hkl
    have HAt:Hid _:=partU_at h ys k hkl
    have HCH:=hiD hch
    have HPL:=hiD hpl
    have hnb:g≠b:=by omega
    generalize hyy:ys.getD k dC=y at r5 HS HSm HAt
    obtain⟨y0,y1,y2,y3,y4,ysp⟩:=y
    simp only at r5
    clear hrow hfz hch hyy hkl hpl
    have e1:(k:Int)<(m:Int):=by omega
    have e2:(0:Int)<=(k:Int):=by omega
    cases hy:(ysp== h)
    ·go_wp2_with fail
     go_quiet (fail)
     have HCQ:Hid (ChOwn Ex (wr.drewN nq) b o (.slice (some ⟨g,0,none⟩) m c) h (partU h ys (k+1))):=by rw[HSm.out (by simpa using hy)];exact⟨HCH.out.c0,HCH.out.c1,HCH.out.f0,HCH.out.f1,HCH.out.own,HCH.out.ext⟩
     have HFQ:Hid (Fr (chE b (.slice (some ⟨g,0,none⟩) n c)) w (wr.drewN nq)):=⟨hfr.os,hfr.tape,hfr.output,hfr.size,hfr.block⟩
     go_wp2
     go_roundw
     case rel=>exact⟨k+1,by omega,by go_num,HCQ,HFQ⟩
     case measure=>simp[intOf];omega
    ·go_wp2_with fail
     go_quiet (fail)
     have HCQ:Hid (ChOwn Ex ((wr.drewN nq).setCell ⟨g,k*6+5,none⟩ (.int .i64 (-1))) b o (.slice (some ⟨g,0,none⟩) m c) h (partU h ys (k+1))):=by
      have h1:ChOwn Ex (wr.drewN nq) b o (.slice (some ⟨g,0,none⟩) (partU h ys k).length c) h (partU h ys k):=by rw[HPL.out];exact⟨HCH.out.c0,HCH.out.c1,HCH.out.f0,HCH.out.f1,HCH.out.own,HCH.out.ext⟩
      have h2:=h1.mark k (by rw[HPL.out];exact hlt) (-1)
      rw[HPL.out,HAt.out] at h2
      rw[HS.out]
      unfold unsp
      rw[if_pos (by simpa using hy)]
      exact h2
     have HFQ:Hid (Fr (chE b (.slice (some ⟨g,0,none⟩) n c)) w ((wr.drewN nq).setCell ⟨g,k*6+5,none⟩ (.int .i64 (-1)))):=by
      have hq0:Fr (chE b (.slice (some ⟨g,0,none⟩) n c)) w (wr.drewN nq):=⟨hfr.os,hfr.tape,hfr.output,hfr.size,hfr.block⟩
      exact hq0.set g (k*6+5) _ (fun _=>Or.inr rfl)
     go_wp2
     go_roundw
     case rel=>exact⟨k+1,by omega,by go_num,HCQ,HFQ⟩
     case measure=>simp[intOf];omega
   ·have hkm:k=m:=by omega
    subst hkm
    have HFIN:Hid (ChOwn Ex wr b o (.slice ao k c) h (tbZ h xs)):=by
     have e:partU h ys k=tbZ h xs:=by
      rw[HTB.out]
      unfold partU
      rw[List.take_of_length_le (by rw[HYL.out];omega),List.drop_of_length_le (by rw[HYL.out];omega),List.append_nil]
     rw[<-e]
     exact hch
    clear hch
    go_wp2
    go_end0
    exact⟨rfl,_,HFIN,hfr,fun q hq=>Or.inl (by cases ao with|none=>cases hq|some a=>exact hq)⟩
end
section
open Go.RowKit

variable {Ex:List (Nat×Value)}
def Vals (xs:List Cel):Prop:=∀ x∈xs,0<=x.val/\x.val<=1099511627776
theorem markZ_val (h:Int) (ss:List SpD):∀ xs,Vals xs->(∀ s∈ss,s.pl.toNat<xs.length)->Vals (markZ h xs ss):=by
 induction ss with
 |nil=>intro xs hx _;exact hx
 |cons s r ih=>
  intro xs hx hs
  rw[markZ]
  refine ih _ (fun y hy=>?_) (fun s' hs'=>by rw[List.length_set];exact hs s' (by simp[hs']))
  rcases List.mem_or_eq_of_mem_set hy with hy|hy
  ·exact hx y hy
  ·have hz:=hx _ (getD_mem xs dC _ (hs s (by simp)))
   rw[hy]
   exact hz
theorem newC_val {id h:Int} {ys:LII} (hy:∀ j,j<ys.length->rOut (ys.getD j (0,0))=true):Vals (newC id h ys ys.length):=by
 intro x hx
 simp only[newC,List.mem_map,List.mem_range] at hx
 obtain⟨j,hj,rfl⟩:=hx
 have:=rOut_bd (hy j hj)
 simp only
 omega
theorem addZ_cases (xs:List Cel) (h t:Int) (ins:List InD) (ys:LII) (first:Bool):
 ((addZ xs h t ins ys first).1≠0/\(addZ xs h t ins ys first).2=xs)\/
 (rTx t ins ys=true/\¬(ins=[]/\first=false)/\hasId xs (idZ t ins ys)=false/\∃ ss,spZ xs ins []=some ss/\ss.all (opens (idZ t ins ys))=true/\¬(ss≠[]/\sumSp ss<sumOu ys)/\addZ xs h t ins ys first=(0,markZ h xs ss++newC (idZ t ins ys) h ys ys.length)):=by
 by_cases h1:rTx t ins ys=false\/(ins=[]/\first=false)
 ·left;rw[addZ_shape h1];simp
 ·by_cases h2:hasId xs (idZ t ins ys)=true
  ·left;rw[addZ_twice h1 h2];simp
  ·rw[Bool.not_eq_true] at h2
   cases h3:spZ xs ins [] with
   |none=>left;rw[addZ_coin h1 h2 h3];simp
   |some ss=>
    cases h4:ss.all (opens (idZ t ins ys))
    ·left;rw[addZ_seal h1 h2 h3 h4];simp
    ·by_cases h5:ss≠[]/\sumSp ss<sumOu ys
     ·left;rw[addZ_sum h1 h2 h3 h4 h5];simp
     ·right
      refine⟨?_,fun hc=>h1 (Or.inr hc),h2,ss,rfl,h4,h5,addZ_ok h1 h2 h3 h4 h5⟩
      cases hq:rTx t ins ys
      ·exact absurd (Or.inl hq) h1
      ·rfl
theorem addZ_good (xs:List Cel) (h t:Int) (ins:List InD) (ys:LII) (first:Bool) (hv:Vals xs):Vals (addZ xs h t ins ys first).2/\(addZ xs h t ins ys first).2.length<=xs.length+8:=by
 rcases addZ_cases xs h t ins ys first with⟨_,h2⟩|⟨hr,_,_,ss,hss,_,_,he⟩
 ·rw[h2];exact⟨hv,by omega⟩
 ·rw[he]
  obtain⟨_,_,_,h8,ho⟩:=rTx_parts hr
  have hq:∀ s∈ss,s.pl.toNat<xs.length:=spZ_good xs (fun s=>s.pl.toNat<xs.length) ins [] ss (fun i _ q hq _=>by simpa using hq) hss (fun s hs=>by simp at hs)
  refine⟨fun x hx=>?_,?_⟩
  ·rcases List.mem_append.1 hx with hx|hx
   ·exact markZ_val h ss xs hv hq x hx
   ·exact newC_val ho x hx
  ·simp only[List.length_append,markZ_len,newC,List.length_map,List.length_range]
   omega
theorem ChOwn.hgt {w:World} {b o:Nat} {v:Value} {h:Int} {xs:List Cel} (hc:ChOwn Ex w b o v h xs) (h':Int):ChOwn Ex (w.setCell ⟨b,o+1,none⟩ (.int .i64 h')) b o v h' xs:=by
 refine⟨?_,World.cell?_setCell_same _ _ _ hc.c1,by rw[World.frozen?_setCell];exact hc.f0,fun j=>by rw[World.frozen?_setCell];exact hc.f1 j,?_,fun q hq=>⟨(hc.ext q hq).1,(hc.ext q hq).2.1,?_⟩⟩
 ·rw[World.cell?_setCell_other _ _ _ _ (by intro e;have:=congrArg Addr.off e;simp only at this;omega)]
  exact hc.c0
 ·exact hc.own.gb (gb_set w b (o+1) _) (fun k hk e=>by injection e with e;have:=(hc.own.blk k hk).1;omega)
 ·rw[World.cell?_setCell_other _ _ _ _ (by intro e;have:=congrArg Addr.off e;simp only at this;exact(hc.ext q hq).2.1 this.symm)]
  exact(hc.ext q hq).2.2
def connGo (h:Int):List Cel->List TxD->Nat->Int×Int×List Cel
 |xs,[],_=>(0,0,xs)
 |xs,t::r,i=>if (addZ xs h t.t t.ins t.ys (i== 0)).1≠0 then((addZ xs h t.t t.ins t.ys (i== 0)).1,i,tbZ h (addZ xs h t.t t.ins t.ys (i== 0)).2) else connGo h (addZ xs h t.t t.ins t.ys (i== 0)).2 r (i+1)
theorem connGo_drop (h:Int) (xs:List Cel) (bl:List TxD) (k:Nat) (hk:k<bl.length):connGo h xs (bl.drop k) k =
 if (addZ xs h (bl.getD k dT).t (bl.getD k dT).ins (bl.getD k dT).ys (k== 0)).1≠0 then((addZ xs h (bl.getD k dT).t (bl.getD k dT).ins (bl.getD k dT).ys (k== 0)).1,(k:Int),tbZ h (addZ xs h (bl.getD k dT).t (bl.getD k dT).ins (bl.getD k dT).ys (k== 0)).2) else connGo h (addZ xs h (bl.getD k dT).t (bl.getD k dT).ins (bl.getD k dT).ys (k== 0)).2 (bl.drop (k+1)) (k+1):=by
 rw[List.drop_eq_getElem_cons hk]
 simp only[List.getD,List.getElem?_eq_getElem hk,Option.getD_some]
 rfl
def connZ (h:Int) (xs:List Cel) (bl:List TxD):Int×Int×Int×List Cel:=
 if 40<=h then(3,0,h,xs)
 else if 6<bl.length then(2,0,h,xs)
 else if (connGo h xs bl 0).1≠0 then((connGo h xs bl 0).1,(connGo h xs bl 0).2.1,h,(connGo h xs bl 0).2.2)
 else(0,0,h+1,(connGo h xs bl 0).2.2)
theorem add_any (b o:Nat) (v:Value) (h:Int) (xs:List Cel) (N:NPr) (x:TxD) (first:Bool) (w:World)
 (hc:ChOwn Ex w b o v h xs) (hl:xs.length<=10000) (hv:Vals xs) (hh:0<=h/\h<=100) (hx:TxOk N w x) (hN:∀ k,N k->¬chE b v k):
 Calls Tryz.prog 151 #[.pointer (some ⟨b,o,none⟩),.agg #[.int .i64 x.t,.slice x.ai x.n x.c,.slice x.ap x.m x.d],.bool first] w fun e w'=>∃ v',e=.returned (.int .i64 (addZ xs h x.t x.ins x.ys first).1)/\ChOwn Ex w' b o v' h (addZ xs h x.t x.ins x.ys first).2/\ChStep b v v' w w':=by
 by_cases hr:rTx x.t x.ins x.ys=false\/(x.ins=[]/\first=false)
 ·refine(add_shape b o x.t x.ai x.n x.c x.ap x.m x.d x.ins x.ys first w hx.ins hx.il hx.outs hx.ol hr).mono ?_
  rintro e w' ⟨rfl,hb⟩
  rw[addZ_shape hr]
  exact⟨v,rfl,hc.grown hb,ChStep.of_below hb b v⟩
 ·have hrt:rTx x.t x.ins x.ys=true:=by
   cases hq:rTx x.t x.ins x.ys
   ·exact absurd (Or.inl hq) hr
   ·rfl
  obtain⟨_,_,_,h8,_⟩:=rTx_parts hrt
  exact add_rest b o v h xs x.t x.ai x.n x.c x.ap x.m x.d x.ins x.ys first w ⟨hc,hl,hv,hh,fun a ha=>hN _ (hx.np (by intro e;rw[e] at h8;simp at h8) a ha)⟩ hx.ins hx.il hx.outs hx.ol hr
theorem connect_any (b o:Nat) (v:Value) (h:Int) (xs:List Cel) (N:NPr) (ao:OAd) (n c:Nat) (bl:List TxD) (w:World)
 (hc:ChOwn Ex w b o v h xs) (hl:xs.length<=5000) (hv:Vals xs) (hh:0<=h/\h<=100) (hb:BlkAt N w ao bl) (hn:bl.length=n) (hN:∀ k,N k->k<w.heap.size/\¬chE b v k) (hn2:n<=9223372036854775807):
 Calls Tryz.prog 96 #[.pointer (some ⟨b,o,none⟩),.slice ao n c] w fun e w'=>e=.returned (.tuple #[.int .i64 (connZ h xs bl).1,.int .i64 (connZ h xs bl).2.1])/\∃ v',ChOwn Ex w' b o v' (connZ h xs bl).2.2.1 (connZ h xs bl).2.2.2/\ChStep b v v' w w':=by
 have c1:=hc.c1
 have HC:=hiD hc
 have HV:=hiD hv
 have HB:=hiD hb
 have HN:=hiD hn
 have HNE:=hiD hN
 have HL:=hiD hl
 clear hc hv hb hn hN hl
 by_cases h40:40<=h
 ·have HE:Hid (connZ h xs bl=(3,0,h,xs)):=by show _=_;unfold connZ;rw[if_pos h40]
  go_enter Tryz.func96,Tryz.ntmps96
  go_wp2
  go_ret2
  rw[HE.out]
  exact⟨rfl,v,HC,ChStep.refl _ _ _⟩
 ·by_cases h6:6<n
  ·have HE:Hid (connZ h xs bl=(2,0,h,xs)):=by show _=_;unfold connZ;rw[if_neg h40,if_pos (by rw[HN.out];exact h6)]
   have g6:decide ((6:Int)<(n:Int))=true:=by rw[decide_eq_true_iff];omega
   go_enter Tryz.func96,Tryz.ntmps96
   go_wp2
   go_ret2
   rw[HE.out]
   exact⟨rfl,v,HC,ChStep.refl _ _ _⟩
  ·have HE:Hid (connZ h xs bl=if (connGo h xs bl 0).1≠0 then((connGo h xs bl 0).1,(connGo h xs bl 0).2.1,h,(connGo h xs bl 0).2.2) else(0,0,h+1,(connGo h xs bl 0).2.2)):=by show _=_;unfold connZ;rw[if_neg h40,if_neg (by rw[HN.out];exact h6)]
   have g6:decide ((6:Int)<(n:Int))=false:=by rw[decide_eq_false_iff_not];omega
   go_enter Tryz.func96,Tryz.ntmps96
   go_wp2
   go_loopw [19] (fun i wr=>∃ (k:Nat) (v':Value) (xk:List Cel),k<=n/\i=.int .i64 k/\Hid (connGo h xk (bl.drop k) k=connGo h xs bl 0)/\Hid (Vals xk)/\Hid (xk.length<=5000+8*k)/\ChOwn Ex wr b o v' h xk/\ChStep b v v' w wr) (fun i _=>n-(intOf i).toNat)
   case atStart=>exact⟨0,v,xs,Nat.zero_le _,rfl,rfl,HV,HL,HC,ChStep.refl _ _ _⟩
   case round=>
    obtain⟨k,v',xk,hk,rfl,hz,hvk,hlk,hch,hst⟩:=hrel
    by_cases hlt:k<n
    ·have hblk:=HB.out.fr hst.fr (fun q hq=>(HNE.out q hq).2)
     rcases hblk.row with hnil|⟨g,off,rfl,hrow⟩
     ·have:=HN.out;rw[hnil] at this;simp at this;omega
     obtain⟨t0,t1,t2⟩:=txCells hrow k (by rw[HN.out];exact hlt)
     have hok:=hblk.ok _ (getD_mem bl dT k (by rw[HN.out];exact hlt))
     have HZ:Hid _:=hz.out
     rw[connGo_drop h xk bl k (by rw[HN.out];exact hlt)] at HZ
     clear hrow hblk hz
     generalize bl.getD k dT=y at t0 t1 t2 hok HZ
     have HAG:Hid _:=addZ_good xk h y.t y.ins y.ys (k== 0) hvk.out
     obtain⟨yt,yai,yn,yc,yap,ym,yd,yins,yys⟩:=y
     simp only at t0 t1 t2 HZ HAG
     have hst4:=hst.trans (ChStep.of_below ((Below.refl wr.heap.size wr).alloc leR (.cells #[.int .i64 yt,.slice yai yn yc,.slice yap ym yd] 35)) b v')
     have hch4:=hch.alloc (.cells #[.int .i64 yt,.slice yai yn yc,.slice yap ym yd] 35)
     have hok4:=hok.fr (E:=fun _=>False) (Fr.of_below ((Below.refl wr.heap.size wr).alloc leR (.cells #[.int .i64 yt,.slice yai yn yc,.slice yap ym yd] 35)) _) (fun _ _ h=>h)
     have hb0:((k:Int)== 0)=(k== 0):=by
      rcases Nat.eq_zero_or_pos k with rfl|hp
      ·rfl
      ·have h1:((k:Int)== 0)=false:=by rw[beq_eq_false_iff_ne];omega
       have h2:(k== 0)=false:=by rw[beq_eq_false_iff_ne];omega
       rw[h1,h2]
     have HNK:Hid (∀ q,N q->¬chE b v' q):=fun q hq e=>by
      obtain⟨hq1,hq2⟩:=HNE.out q hq
      rcases e with e|e
      ·exact hq2 (Or.inl e)
      ·rcases hst.own q e with e'|e'
       ·exact hq2 (Or.inr e')
       ·omega
     go_wp2_with fail
     generalize wr.alloc (.cells #[.int .i64 yt,.slice yai yn yc,.slice yap ym yd] 35)=w4 at *
     have HOK4:=hiD hok4
     have HCH4:=hiD hch4
     have HST4:=hiD hst4
     clear hok4 hch4 hst4 hok hch hst t0 t1 t2
     refine(add_any b o v' h xk N ⟨yt,yai,yn,yc,yap,ym,yd,yins,yys⟩ (k== 0) _ HCH4 (by have:=hlk.out;omega) hvk.out hh HOK4 HNK).mono ?_
     rintro e w5 ⟨v5,rfl,hch5,hst5⟩
     simp only at hch5
     have hst5:=HST4.out.trans hst5
     have HL5:Hid ((addZ xk h yt yins yys (k== 0)).2.length<=5000+8*(k+1)):=by show _<=_;have h1:=HAG.out.2;have h2:=hlk.out;omega
     have HV5:=hiD HAG.out.1
     clear HCH4 HST4 HOK4 HNK HAG hlk hvk
     generalize (addZ xk h yt yins yys (k== 0)).2=x5 at *
     generalize (addZ xk h yt yins yys (k== 0)).1=e5 at *
     have HCH5:=hiD hch5
     have HST5:=hiD hst5
     clear hch5 hst5
     by_cases he5:e5=0
     ·subst he5
      have HZ':Hid (connGo h x5 (bl.drop (k+1)) (k+1)=connGo h xs bl 0):=by
       show _=_
       have:=HZ.out
       rw[if_neg (by simp)] at this
       exact this
      go_wp2
      go_roundw
      case rel=>exact⟨k+1,v5,x5,by omega,by go_num,HZ',HV5,HL5,HCH5,HST5⟩
      case measure=>simp[intOf];omega
     ·have he5':(e5== 0)=false:=by rw[beq_eq_false_iff_ne];exact he5
      have he5'':(e5 !=0)=true:=by simp[bne,he5']
      have HZ':Hid ((e5,(k:Int),tbZ h x5)=connGo h xs bl 0):=by
       show _=_
       have:=HZ.out
       rw[if_pos he5] at this
       exact this
      have HE5:Hid (connZ h xs bl=(e5,(k:Int),h,tbZ h x5)):=by
       show _=_
       rw[HE.out,<-HZ'.out,if_pos he5]
      go_wp2_with fail
      refine(takeBack_any b o v5 h x5 _ HCH5 (by have:=HL5.out;omega)).mono ?_
      rintro e w6 ⟨rfl,v6,hch6,hst6⟩
      have hst6:=HST5.out.trans hst6
      go_wp2
      go_ret2
      rw[HE5.out]
      exact⟨rfl,v6,hch6,hst6⟩
    ·have hkn:k=n:=by omega
     subst hkn
     have HZ':Hid ((0,0,xk)=connGo h xs bl 0):=by
      show _=_
      rw[<-hz.out,List.drop_of_length_le (by rw[HN.out];omega)]
      rfl
     have HE5:Hid (connZ h xs bl=(0,0,h+1,xk)):=by
      show _=_
      rw[HE.out,<-HZ'.out,if_neg (by simp)]
     have d1:=hch.c1
     have f1:=hch.f1 (o+1)
     have HCH:=hiD hch
     have HST:=hiD hst
     clear hch hst hz
     have hw1:IntKind.i64.wrap (h+1)=h+1:=IntWalk.i64_in _ ⟨by omega,by omega⟩
     go_wp2
     go_ret2
     rw[HE5.out]
     exact⟨rfl,v',HCH.out.hgt (h+1),HST.out.trans ⟨(Fr.refl _ wr).set b (o+1) _ (fun _=>Or.inl rfl),fun _ hk=>Or.inl hk⟩⟩
end
section
open Go.RowKit
variable {h:Int} {xs0 xs:List Cel}
def Over (h:Int) (xs0 xs:List Cel):Prop:=∃ pre new,xs=pre++new/\(∀ x∈new,x.made=h/\(x.spent=-1\/x.spent=h))/\(∀ x∈pre,x.made≠h)/\pre.map (unsp h)=xs0
theorem leftI_eq (h:Int) (xs:List Cel) (p:Nat) (hp:p=0\/(xs.getD (p-1) dC).made≠h):∀ k,p<=k->(∀ j,p<=j->j<k->(xs.getD j dC).made=h)->leftI h xs k=p:=by
 intro k
 induction k with
 |zero=>intro hk _;exact(Nat.le_zero.1 hk).symm
 |succ k ih=>
  intro hk hj
  rw[leftI_succ]
  by_cases e:p=k+1
  ·subst e
   rcases hp with hp|hp
   ·omega
   ·rw[if_neg (by simpa using hp)]
  ·rw[if_pos (hj k (by omega) (by omega))]
   exact ih (by omega) (fun j h1 h2=>hj j h1 (by omega))
theorem getD_app_left {α:Type} (a b:List α) (d:α) (j:Nat) (h:j<a.length):(a++b).getD j d=a.getD j d:=by
 simp only[List.getD];rw[List.getElem?_append_left h]
theorem getD_app_right {α:Type} (a b:List α) (d:α) (j:Nat) (h:a.length<=j):(a++b).getD j d=b.getD (j-a.length) d:=by
 simp only[List.getD];rw[List.getElem?_append_right h]
theorem tb_over (ho:Over h xs0 xs):tbZ h xs=xs0:=by
 obtain⟨pre,new,rfl,hn,hp,hu⟩:=ho
 have hl:leftI h (pre++new) (pre++new).length=pre.length:=by
  refine leftI_eq h _ _ ?_ _ (by simp) ?_
  ·by_cases e:pre.length=0
   ·exact Or.inl e
   ·right
    rw[getD_app_left _ _ _ _ (by omega)]
    exact hp _ (getD_mem pre dC _ (by omega))
  ·intro j h1 h2
   rw[getD_app_right _ _ _ _ h1]
   exact(hn _ (getD_mem new dC _ (by rw[List.length_append] at h2;omega))).1
 unfold tbZ
 rw[hl,List.take_left]
 exact hu
theorem over_refl (hx:∀ x∈xs,x.made≠h/\x.spent≠h):Over h xs xs:=by
 refine⟨xs,[],by simp,by simp,fun x hx'=>(hx x hx').1,?_⟩
 have e:∀ x∈xs,unsp h x=id x:=fun x hx'=>by unfold unsp;rw[if_neg (hx x hx').2];rfl
 rw[List.map_congr_left e,List.map_id]
theorem set_map_same {α β:Type} (f:α->β) (l:List α) (q:Nat) (y:α) (d:α) (hq:q<l.length) (hy:f y=f (l.getD q d)):(l.set q y).map f=l.map f:=by
 rw[List.map_set,hy]
 simp only[List.getD,List.getElem?_eq_getElem hq,Option.getD_some]
 have:f l[q]=(l.map f)[q]'(by simpa using hq):=by simp
 rw[this]
 exact List.set_getElem_self (by simpa using hq)
theorem over_mark1 (ho:Over h xs0 xs) (hh:h≠-1) (q:Nat) (hq:q<xs.length) (hs:(xs.getD q dC).spent=-1\/(xs.getD q dC).spent=h):Over h xs0 (xs.set q ((xs.getD q dC).sp h)):=by
 obtain⟨pre,new,rfl,hn,hp,hu⟩:=ho
 by_cases hl:q<pre.length
 ·rw[getD_app_left _ _ _ _ hl] at hs ⊢
  refine⟨pre.set q ((pre.getD q dC).sp h),new,by rw[List.set_append_left _ _ hl],hn,fun x hx=>?_,?_⟩
  ·rcases List.mem_or_eq_of_mem_set hx with hx|hx
   ·exact hp x hx
   ·have h3:=hp _ (getD_mem pre dC q hl)
    rw[hx]
    exact h3
  ·rw[set_map_same (unsp h) pre q _ dC hl ?_]
   ·exact hu
   ·have e1:unsp h ((pre.getD q dC).sp h)=((pre.getD q dC).sp h).sp (-1):=by unfold unsp;exact if_pos rfl
    rw[e1]
    rcases hs with hs|hs
    ·unfold unsp
     rw[if_neg (by rw[hs];exact fun e=>hh e.symm)]
     generalize pre.getD q dC=z at hs
     obtain⟨z0,z1,z2,z3,z4,z5⟩:=z
     simp only at hs
     subst hs
     rfl
    ·unfold unsp
     rw[if_pos hs]
     rfl
 ·rw[getD_app_right _ _ _ _ (by omega)] at hs ⊢
  have hq2:q-pre.length<new.length:=by rw[List.length_append] at hq;omega
  refine⟨pre,new.set (q-pre.length) ((new.getD (q-pre.length) dC).sp h),by rw[List.set_append_right _ _ (by omega)],fun x hx=>?_,hp,hu⟩
  rcases List.mem_or_eq_of_mem_set hx with hx|hx
  ·exact hn x hx
  ·rw[hx]
   exact⟨(hn _ (getD_mem new dC _ hq2)).1,Or.inr rfl⟩
theorem over_mark (hh:h≠-1):∀ (ss:List SpD) (xs:List Cel),Over h xs0 xs->(∀ s∈ss,s.pl.toNat<xs.length/\((xs.getD s.pl.toNat dC).spent=-1\/(xs.getD s.pl.toNat dC).spent=h))->Over h xs0 (markZ h xs ss):=by
 intro ss
 induction ss with
 |nil=>intro xs ho _;exact ho
 |cons s r ih=>
  intro xs ho hs
  obtain⟨h1,h2⟩:=hs s (by simp)
  rw[markZ]
  refine ih _ (over_mark1 ho hh _ h1 h2) (fun s' hs'=>?_)
  obtain⟨g1,g2⟩:=hs s' (by simp[hs'])
  refine⟨by rw[List.length_set];exact g1,?_⟩
  by_cases e:s'.pl.toNat=s.pl.toNat
  ·right
   rw[e]
   simp only[List.getD]
   rw[List.getElem?_set_self h1]
   rfl
  ·simp only[List.getD] at g2 ⊢
   rw[List.getElem?_set_ne (fun e'=>e e'.symm)]
   exact g2
theorem over_add (hh:h≠-1) (ho:Over h xs0 xs) (t:Int) (ins:List InD) (ys:LII) (first:Bool):Over h xs0 (addZ xs h t ins ys first).2:=by
 rcases addZ_cases xs h t ins ys first with⟨_,h2⟩|⟨_,_,_,ss,hss,_,_,he⟩
 ·rw[h2];exact ho
 ·rw[he]
  have hq:∀ s∈ss,s.pl.toNat<xs.length/\((xs.getD s.pl.toNat dC).spent=-1\/(xs.getD s.pl.toNat dC).spent=h):=spZ_good xs (fun s=>s.pl.toNat<xs.length/\((xs.getD s.pl.toNat dC).spent=-1\/(xs.getD s.pl.toNat dC).spent=h)) ins [] ss (fun i _ q hq hc=>by
   have e:((q:Int)).toNat=q:=Int.toNat_natCast q
   simp only[e]
   refine⟨hq,Or.inl ?_⟩
   simp only[isCoin,Bool.and_eq_true,beq_iff_eq] at hc
   exact hc.2.2) hss (fun s hs=>by simp at hs)
  obtain⟨pre,new,e,hn,hp,hu⟩:=over_mark hh ss xs ho hq
  refine⟨pre,new++newC (idZ t ins ys) h ys ys.length,?_,fun x hx=>?_,hp,hu⟩
  ·show markZ h xs ss++_=_
   rw[e,List.append_assoc]
  ·rcases List.mem_append.1 hx with hx|hx
   ·exact hn x hx
   ·simp only[newC,List.mem_map,List.mem_range] at hx
    obtain⟨j,_,rfl⟩:=hx
    exact⟨rfl,Or.inl rfl⟩
theorem over_go (hh:h≠-1):∀ (bl:List TxD) (xs:List Cel) (i:Nat),Over h xs0 xs->((connGo h xs bl i).1≠0->(connGo h xs bl i).2.2=xs0)/\((connGo h xs bl i).1=0->Over h xs0 (connGo h xs bl i).2.2):=by
 intro bl
 induction bl with
 |nil=>intro xs i ho;exact⟨fun h=>absurd rfl h,fun _=>ho⟩
 |cons t r ih=>
  intro xs i ho
  have ha:=over_add hh ho t.t t.ins t.ys (i== 0)
  unfold connGo
  by_cases e:(addZ xs h t.t t.ins t.ys (i== 0)).1≠0
  ·rw[if_pos e]
   exact⟨fun _=>tb_over ha,fun h0=>absurd h0 e⟩
  ·rw[if_neg e]
   exact ih _ _ ha
def Und (h:Int) (xs:List Cel):Prop:=∀ x∈xs,x.made<h/\x.spent<h
theorem Und.over (hu:Und h xs0) (ho:Over h xs0 xs) (hh:0<=h):Und (h+1) xs:=by
 obtain⟨pre,new,rfl,hn,hp,hm⟩:=ho
 intro x hx
 rcases List.mem_append.1 hx with hx|hx
 ·have h1:unsp h x∈xs0:=by rw[<-hm];exact List.mem_map_of_mem hx
  have h2:=hu _ h1
  unfold unsp at h2
  split at h2
  ·rename_i e
   have h3:x.made<h:=h2.1
   omega
  ·omega
 ·obtain⟨h1,h2⟩:=hn x hx
  omega
theorem Und.ne (hu:Und h xs):∀ x∈xs,x.made≠h/\x.spent≠h:=fun x hx=>by have:=hu x hx;omega
theorem conn_cases (h:Int) (xs:List Cel) (bl:List TxD) (hu:Und h xs) (hh:0<=h):
 ((connZ h xs bl).1≠0/\(connZ h xs bl).2.2=(h,xs))\/(h<40/\(connZ h xs bl).1=0/\(connZ h xs bl).2.1=0/\(connZ h xs bl).2.2.1=h+1/\Over h xs (connZ h xs bl).2.2.2):=by
 unfold connZ
 by_cases h40:40<=h
 ·rw[if_pos h40];left;simp
 ·rw[if_neg h40]
  by_cases h6:6<bl.length
  ·rw[if_pos h6];left;simp
  ·rw[if_neg h6]
   obtain⟨g1,g2⟩:=over_go (h:=h) (by omega) bl xs 0 (over_refl hu.ne)
   by_cases e:(connGo h xs bl 0).1≠0
   ·rw[if_pos e]
    left
    refine⟨e,?_⟩
    simp only
    rw[g1 e]
   ·rw[if_neg e]
    right
    exact⟨by omega,rfl,rfl,rfl,g2 (by simpa using e)⟩
theorem go_len (h:Int):∀ (bl:List TxD) (xs:List Cel) (i:Nat),Vals xs->(connGo h xs bl i).1=0->Vals (connGo h xs bl i).2.2/\(connGo h xs bl i).2.2.length<=xs.length+8*bl.length:=by
 intro bl
 induction bl with
 |nil=>intro xs i hv _;exact⟨hv,by simp[connGo]⟩
 |cons t r ih=>
  intro xs i hv
  obtain⟨a1,a2⟩:=addZ_good xs h t.t t.ins t.ys (i== 0) hv
  unfold connGo
  by_cases e:(addZ xs h t.t t.ins t.ys (i== 0)).1≠0
  ·rw[if_pos e]
   intro h0
   exact absurd h0 e
  ·rw[if_neg e]
   intro h0
   obtain⟨b1,b2⟩:=ih _ _ a1 h0
   refine⟨b1,?_⟩
   simp only[List.length_cons]
   omega
theorem conn_len (h:Int) (xs:List Cel) (bl:List TxD) (hv:Vals xs) (h0:(connZ h xs bl).1=0):Vals (connZ h xs bl).2.2.2/\(connZ h xs bl).2.2.2.length<=xs.length+48:=by
 unfold connZ at h0 ⊢
 by_cases h40:40<=h
 ·rw[if_pos h40] at h0;simp at h0
 ·rw[if_neg h40] at h0 ⊢
  by_cases h6:6<bl.length
  ·rw[if_pos h6] at h0;simp at h0
  ·rw[if_neg h6] at h0 ⊢
   by_cases e:(connGo h xs bl 0).1≠0
   ·rw[if_pos e] at h0;exact absurd h0 e
   ·rw[if_neg e]
    have:=go_len h bl xs 0 hv (by simpa using e)
    refine⟨this.1,?_⟩
    have:=this.2
    simp only
    omega
def InD.st (x:InD):InD:=⟨x.id,x.pos,none,x.n,0,x.l⟩
def SpD.st (x:SpD):SpD:=match x with
 |⟨a,b,c,_,n,_,l⟩=>⟨a,b,c,none,n,0,l⟩
theorem rIns_st (xs:List InD):rIns (xs.map InD.st)=rIns xs:=by
 unfold rIns
 rw[List.length_map,List.all_map]
 rfl
theorem rTx_st (t:Int) (xs:List InD) (ys:LII):rTx t (xs.map InD.st) ys=rTx t xs ys:=by
 unfold rTx
 rw[rIns_st]
theorem inL_st (xs:List InD):inL (xs.map InD.st)=inL xs:=by
 unfold inL
 rw[List.flatMap_map]
 rfl
theorem idZ_st (t:Int) (xs:List InD) (ys:LII):idZ t (xs.map InD.st) ys=idZ t xs ys:=by
 unfold idZ idL
 rw[rTx_st,inL_st,List.length_map]
theorem isSp_st (acc:List SpD) (p:Int):isSp (acc.map SpD.st) p=isSp acc p:=by
 unfold isSp
 rw[List.any_map]
 rfl
theorem spZ_st (xs:List Cel):∀ (ins:List InD) (acc:List SpD),spZ xs (ins.map InD.st) (acc.map SpD.st)=(spZ xs ins acc).map (List.map SpD.st):=by
 intro ins
 induction ins with
 |nil=>intro acc;rfl
 |cons i r ih=>
  intro acc
  rw[List.map_cons]
  unfold spZ
  rw[isSp_st]
  by_cases hc:findZ xs i.id i.pos<0\/isSp acc (findZ xs i.id i.pos)=true
  ·have hc':findZ xs i.st.id i.st.pos<0\/isSp acc (findZ xs i.st.id i.st.pos)=true:=hc
   rw[if_pos hc',if_pos hc]
   rfl
  ·have hc':¬(findZ xs i.st.id i.st.pos<0\/isSp acc (findZ xs i.st.id i.st.pos)=true):=hc
   rw[if_neg hc',if_neg hc,<-ih]
   rw[List.map_append]
   rfl
theorem all_st (id:Int) (ss:List SpD):(ss.map SpD.st).all (opens id)=ss.all (opens id):=by
 rw[List.all_map]
 rfl
theorem sumSp_st (ss:List SpD):sumSp (ss.map SpD.st)=sumSp ss:=by
 unfold sumSp
 rw[List.map_map]
 rfl
theorem markZ_st (h:Int) (ss:List SpD):∀ xs,markZ h xs (ss.map SpD.st)=markZ h xs ss:=by
 induction ss with
 |nil=>intro xs;rfl
 |cons s r ih=>intro xs;rw[List.map_cons,markZ,markZ,ih];rfl
theorem addZ_st (xs:List Cel) (h t:Int) (ins:List InD) (ys:LII) (first:Bool):addZ xs h t (ins.map InD.st) ys first=addZ xs h t ins ys first:=by
 unfold addZ
 rw[rTx_st,idZ_st]
 have e0:(ins.map InD.st=[]/\first=false)=(ins=[]/\first=false):=by rw[List.map_eq_nil_iff]
 simp only[e0]
 have e1:=spZ_st xs ins []
 rw[List.map_nil] at e1
 rw[e1]
 cases spZ xs ins [] with
 |none=>rfl
 |some ss=>
  simp only[Option.map_some]
  rw[all_st,sumSp_st,markZ_st]
  have e2:(ss.map SpD.st≠[]/\sumSp ss<sumOu ys)=(ss≠[]/\sumSp ss<sumOu ys):=by rw[ne_eq,List.map_eq_nil_iff]
  simp only[e2]
def TxD.k (x:TxD):Int×List InD×LII:=(x.t,x.ins.map InD.st,x.ys)
theorem connGo_k (h:Int):∀ (bl bl':List TxD) (xs:List Cel) (i:Nat),bl.map TxD.k=bl'.map TxD.k->connGo h xs bl i=connGo h xs bl' i:=by
 intro bl
 induction bl with
 |nil=>
  intro bl' xs i e
  cases bl' with
  |nil=>rfl
  |cons t r=>simp at e
 |cons t r ih=>
  intro bl' xs i e
  cases bl' with
  |nil=>simp at e
  |cons t' r'=>
   rw[List.map_cons,List.map_cons] at e
   injection e with e1 e2
   simp only[TxD.k,Prod.mk.injEq] at e1
   obtain⟨k1,k2,k3⟩:=e1
   have ea:addZ xs h t.t t.ins t.ys (i== 0)=addZ xs h t'.t t'.ins t'.ys (i== 0):=by
    rw[<-addZ_st xs h t.t t.ins,<-addZ_st xs h t'.t t'.ins,k1,k2,k3]
   unfold connGo
   rw[ea,ih r' _ _ e2]
theorem connZ_k (h:Int) (xs:List Cel) (bl bl':List TxD) (e:bl.map TxD.k=bl'.map TxD.k):connZ h xs bl=connZ h xs bl':=by
 have el:bl.length=bl'.length:=by have:=congrArg List.length e;simpa using this
 unfold connZ
 rw[connGo_k h bl bl' xs 0 e,el]
end
end Go.Proofs.YtffgpepngcnjeabGreat
