import Derived.Test.YtffgpepngcnjeabGreatSaw
namespace Go.Proofs.YtffgpepngcnjeabGreat
set_option maxRecDepth 100000
set_option maxHeartbeats 4000000
section
open Go.RowKit
variable {ys:LII} {r tag:Int}
theorem bitN_zero (n i:Nat):bitN 0 n i=false:=by
 unfold bitN
 rw[Nat.zero_div]
 rfl
theorem memD_zero (cs:List CoinD) (n:Nat):memD cs n 0=[]:=by
 unfold memD
 rw[List.filter_eq_nil_iff.2 (fun i _=>by rw[bitN_zero];simp)]
 rfl
theorem seD_drop (r:Int) (ds:List CoinD) (k:Nat) (h:k<ds.length) (T:Int):seD r (ds.drop k) (ds.take k) T=if 0<=T+worthZ r (ds.getD k dN) then some (ds.take (k+1),T+worthZ r (ds.getD k dN)) else seD r (ds.drop (k+1)) (ds.take (k+1)) (T+worthZ r (ds.getD k dN)):=by
 rw[List.drop_eq_getElem_cons h,seD]
 simp only[List.getD,List.getElem?_eq_getElem h,Option.getD_some]
 rw[List.take_succ_eq_append_getElem h]
def ChD (r:Int) (cs:List CoinD) (want:Int) (v:Value) (ch:Int) (w w':World):Prop:=
 OwnRec CoinD.l 107 6 w' w.heap.size v (chosenD r cs want).1/\ch=(chosenD r cs want).2/\Below w.heap.size w w'
theorem chosen_any (ao:OAd) (q c:Nat) (cs:List CoinD) (r want:Int) (w:World) (hx:RecAt CoinD.l w ao cs) (hq:cs.length=q) (hq2:q<=10000) (hr:0<=r/\r<=1000) (hv:CVals cs) (hwt:0<=want/\want<=200000000000000):
 Calls Tryz.prog 166 #[.slice ao q c,.int .i64 r,.int .i64 want] w fun e w'=>∃ v ch,e=.returned (.tuple #[v,.int .i64 ch])/\ChD r cs want v ch w w':=by
 have HX:Hid (RecAt CoinD.l w ao cs):=hx
 have HQ:Hid (cs.length=q):=hq
 have HV:Hid (CVals cs):=hv
 have HCH:Hid (∀ v ch w',ChD r cs want v ch w w'↔(OwnRec CoinD.l 107 6 w' w.heap.size v (chosenD r cs want).1/\ch=(chosenD r cs want).2/\Below w.heap.size w w')):=fun _ _ _=>Iff.rfl
 have HCD:Hid (chosenD r cs want=if 0<bestD r cs (min 8 q) want (want+2*r+10-1) then(memD cs (min 8 q) (bestD r cs (min 8 q) want (want+2*r+10-1)),0)
 else match seD r (cs.take 10) [] (-want) with
  |none=>([],0)
  |some (out,left)=>(out,if 10<=left-2*r then left-2*r else 0)):=by show _=_;subst hq;rfl
 clear hx hq hv
 generalize hB:w.heap.size=B at *
 have HB:Hid (w.heap.size=B):=hB
 clear hB
 generalize hN:min 8 q=n at *
 have hn8:n<=8:=by omega
 have hnq:n<=q:=by omega
 go_enter Tryz.func166,Tryz.ntmps166
 go_upto_if 19 with fail
 go_cut [8] (fun u wx=>u=.int .i64 (n:Int)/\w=wx)
 case first=>
  by_cases h8:8<q
  ·have h:n=8:=by omega
   subst h
   go_wp2
   go_meet
   exact⟨rfl,rfl⟩
  ·have h:n=q:=by omega
   subst h
   go_wp2
   go_meet
   exact⟨rfl,rfl⟩
 case rest=>
  obtain⟨rfl,rfl⟩:=hcut
  have hw1:IntKind.i64.wrap (2*r)=2*r:=IntWalk.i64_in _ ⟨by omega,by omega⟩
  have hw2:IntKind.i64.wrap (want+2*r)=want+2*r:=IntWalk.i64_in _ ⟨by omega,by omega⟩
  have hw3:IntKind.i64.wrap (want+2*r+10)=want+2*r+10:=IntWalk.i64_in _ ⟨by omega,by omega⟩
  have hw4:IntKind.i64.wrap (want+2*r+10-1)=want+2*r+10-1:=IntWalk.i64_in _ ⟨by omega,by omega⟩
  have hw5:IntKind.i64.wrap (-want)=-want:=IntWalk.i64_in _ ⟨by omega,by omega⟩
  go_wp2_with fail
  refine(fitting_any ao q c cs r n want (want+2*r+10-1) _ HX.out HQ.out hn8 hnq hr HV.out).mono ?_
  rintro e w1 ⟨rfl,hb255,hb1⟩
  rw[HB.out] at hb1
  generalize bestD r cs n want (want+2*r+10-1)=m at *
  clear hw2 hw3 hw4
  have hs1:=hb1.size
  rw[HB.out] at hs1
  have HX1:Hid (RecAt CoinD.l w1 ao cs):=HX.out.grown (by rw[HB.out];exact hb1)
  go_wp2
  go_loopw [10,11] (fun v i wr=>∃ k:Nat,k<=n/\i=.int .i64 k/\OwnRec CoinD.l 107 6 wr B v (((List.range k).filter fun i=>bitN m n i).map fun i=>cs.getD i dN)/\Below B w wr) (fun _ i _=>n-(intOf i).toNat)
  case atStart=>exact⟨0,Nat.zero_le _,rfl,OwnRec.nil _ _ _ _ _,hb1⟩
  case round=>
   obtain⟨k,hk,rfl,hown,hbl⟩:=hrel
   have hsz:=hbl.size
   rw[HB.out] at hsz
   by_cases hlt:k<n
   ·have HS:Hid _:=range_filter_snoc (fun i=>bitN m n i) (fun i=>cs.getD i dN) k
    have HL:Hid _:=range_filter_len (fun i=>bitN m n i) (fun i=>cs.getD i dN) k
    have HO:Hid (OwnRec CoinD.l 107 6 wr B u10 (((List.range k).filter fun i=>bitN m n i).map fun i=>cs.getD i dN)):=hown
    clear hown
    generalize ((List.range k).filter fun i=>bitN m n i).map (fun i=>cs.getD i dN)=acc at *
    cases hb:bitN m n k
    ·go_wp2_with (go_at_call 207;refine(dHas_any m n k _ hn8 hlt).mono ?_;rintro e w' ⟨rfl,rfl⟩;rw[hb])
     go_roundw
     case rel=>exact⟨k+1,by omega,by go_num,by rw[HS.out,hb,if_neg (by simp),List.append_nil];exact HO.out,hbl⟩
     case measure=>simp[intOf];omega
    ·have hkl:k<cs.length:=by rw[HQ.out];omega
     rcases(HX.out.grown (by rw[HB.out];exact hbl):RecAt CoinD.l wr ao cs) with hnil|⟨gc,oc,rfl,hrow⟩
     ·rw[hnil] at hkl;simp at hkl
     obtain⟨e0,e1,e2,e3,e4,e5⟩:=coinCells hrow k hkl
     have hkI:(k:Int)<(q:Int):=by omega
     have hk0:(0:Int)<=(k:Int):=by omega
     clear hrow
     generalize cs.getD k dN=y at *
     obtain⟨y0,y1,y2,y3,y4,y5⟩:=y
     simp only at e0 e1 e2 e3 e4 e5
     go_wp2_with (first|(go_at_call 207;refine(dHas_any m n k _ hn8 hlt).mono ?_;rintro e w' ⟨rfl,rfl⟩;rw[hb])|(at_builtin;refine wpList_appR 45 48 _ Tryz.underlying45 info107 rfl (by decide) coin6 coin_one (wr.alloc (.cells #[.int .i64 y0,.int .i64 y1,.int .i64 y2,.int .i64 y3,.int .i64 y4,.int .i64 y5] 107)) rfl _ _ rfl B wr.heap.size 1 u10 acc ⟨y0,y1,y2,y3,y4,y5⟩ (by rfl) (by rfl) (HO.out.alloc _) (vrow_new _ _ _) (by simp;omega) (by have:=HL.out;unfold maxLen;omega) (by have:=HL.out;omega) ?_;intro g' cap w5 hown5 hg5 _ _))
     go_roundw
     case rel=>exact⟨k+1,by omega,by go_num,by rw[HS.out,if_pos hb];exact hown5,hbl.trans (gb_to_below (gb_trans (gb_alloc _ _ _) hg5) (by omega) (fun r hr=>(HO.out.blk r hr).1))⟩
     case measure=>simp[intOf];omega
   ·have hkn:k=n:=by omega
    subst hkn
    have HO:Hid (OwnRec CoinD.l 107 6 wr B u10 (memD cs k m)):=hown
    clear hown hk hlt
    by_cases hm:0<m
    ·have HCD1:Hid (chosenD r cs want=(memD cs k m,0)):=by show _=_;rw[HCD.out,if_pos hm]
     go_wp2
     go_ret2
     exact⟨_,_,rfl,(HCH.out _ _ _).2 ⟨by rw[HCD1.out];exact HO.out,by rw[HCD1.out],hbl⟩⟩
    ·have hm0:m=0:=by omega
     subst hm0
     have hc':=HCD.out
     rw[if_neg hm] at hc'
     have HCD1:Hid (chosenD r cs want=match seD r (cs.take 10) [] (-want) with
      |none=>([],0)
      |some (out,left)=>(out,if 10<=left-2*r then left-2*r else 0)):=hc'
     clear hc' HCD hm hb255
     have ho:=HO.out
     rw[memD_zero] at ho
     have HD:Hid ((cs.take 10).length=min 10 q):=by show _=_;rw[List.length_take,HQ.out]
     have HDG:Hid (∀ i,i<min 10 q->(cs.take 10).getD i dN=cs.getD i dN):=fun i hi=>by
      rw[List.getD,List.getD,List.getElem?_take,if_pos (by omega)]
     generalize hds:cs.take 10=ds at *
     clear hds HO HX1
     have HBW:Hid (Below B w wr):=hbl
     obtain⟨wo,rfl⟩:∃ wo:World,wo=wr:=⟨_,rfl⟩
     generalize hdl:min 10 q=dl at *
     clear hs1 hb1 hnq
     go_wp2
     go_loopw [10,13,14] (fun v lv i wr=>∃ (k:Nat) (T:Int),k<=dl/\i=.int .i64 k/\lv=.int .i64 T/\OwnRec CoinD.l 107 6 wr B v (ds.take k)/\Hid (seD r (ds.drop k) (ds.take k) T=seD r ds [] (-want))/\-200000000000000-(7000*(k:Int))<=T/\T<=1099511627776*(k:Int)/\Below B w wr) (fun _ _ i _=>dl-(intOf i).toNat)
     case atStart=>exact⟨0,-want,Nat.zero_le _,rfl,rfl,ho,rfl,by simp;omega,by simp;omega,hbl⟩
     case round=>
      obtain⟨k,T,hk,rfl,rfl,hown,hz,hT1,hT2,hbl2⟩:=hrel
      have hsz2:=hbl2.size
      rw[HB.out] at hsz2
      by_cases hlt:k<dl
      ·have hkd:k<ds.length:=by rw[HD.out];exact hlt
       have hkl:k<cs.length:=by rw[HQ.out];omega
       have hz':=hz.out
       rw[seD_drop r ds k hkd T,HDG.out k hlt] at hz'
       have HS:Hid (ds.take (k+1)=ds.take k++[cs.getD k dN]):=by
        show _=_
        rw[<-HDG.out k hlt,List.take_succ_eq_append_getElem hkd]
        simp[List.getD,hkd]
       have HL:Hid ((ds.take k).length<=10):=by show _<=_;rw[List.length_take];omega
       have HO:Hid (OwnRec CoinD.l 107 6 wr B u10 (ds.take k)):=hown
       have hvk:=HV.out (cs.getD k dN) (getD_mem cs dN k hkl)
       rcases(HX.out.grown (by rw[HB.out];exact hbl2):RecAt CoinD.l wr ao cs) with hnil|⟨gc,oc,rfl,hrow⟩
       ·rw[hnil] at hkl;simp at hkl
       obtain⟨e0,e1,e2,e3,e4,e5⟩:=coinCells hrow k hkl
       have hkI:(k:Int)<(q:Int):=by omega
       have hk0:(0:Int)<=(k:Int):=by omega
       have hk10:(k:Int)<10:=by omega
       clear hrow hz hown
       generalize cs.getD k dN=y at *
       obtain⟨y0,y1,y2,y3,y4,y5⟩:=y
       simp only at e0 e1 e2 e3 e4 e5 hvk
       have HWD:Hid (worthZ r ⟨y0,y1,y2,y3,y4,y5⟩=y3-7*r):=rfl
       have HZ:Hid ((if 0<=T+(y3-7*r) then some (ds.take (k+1),T+(y3-7*r)) else seD r (ds.drop (k+1)) (ds.take (k+1)) (T+(y3-7*r)))=seD r ds [] (-want)):=hz'
       clear hz'
       generalize ds.take k=acc at *
       go_upto_region 19 with (go_at_call 205;refine(dWorth_any ⟨y0,y1,y2,y3,y4,y5⟩ r _ hr hvk).mono ?_;rintro e w7 ⟨rfl,hb7⟩;rw[HWD.out])
       have hw:IntKind.i64.wrap (T+(y3-7*r))=T+(y3-7*r):=IntWalk.i64_in _ ⟨by omega,by omega⟩
       have HO7:Hid (OwnRec CoinD.l 107 6 w7 B u10 acc):=HO.out.grown hb7
       have e0:=(hb7.cell (p:=⟨gc,oc+k*6,none⟩) (cell_lt e0)).trans e0
       have e1:=(hb7.cell (p:=⟨gc,oc+k*6+1,none⟩) (cell_lt e1)).trans e1
       have e2:=(hb7.cell (p:=⟨gc,oc+k*6+2,none⟩) (cell_lt e2)).trans e2
       have e3:=(hb7.cell (p:=⟨gc,oc+k*6+3,none⟩) (cell_lt e3)).trans e3
       have e4:=(hb7.cell (p:=⟨gc,oc+k*6+4,none⟩) (cell_lt e4)).trans e4
       have e5:=(hb7.cell (p:=⟨gc,oc+k*6+5,none⟩) (cell_lt e5)).trans e5
       have hb07:Below B w w7:=hbl2.trans (hb7.mono hsz2)
       have hsz7:=hb07.size
       rw[HB.out] at hsz7
       go_upto_region 21 with (at_builtin;refine wpList_appR 45 48 _ Tryz.underlying45 info107 rfl (by decide) coin6 coin_one (w7.alloc (.cells #[.int .i64 y0,.int .i64 y1,.int .i64 y2,.int .i64 y3,.int .i64 y4,.int .i64 y5] 107)) rfl _ _ rfl B w7.heap.size 1 u10 acc ⟨y0,y1,y2,y3,y4,y5⟩ (by rfl) (by rfl) (HO7.out.alloc _) (vrow_new _ _ _) (by simp;omega) (by have:=HL.out;unfold maxLen;omega) (by have:=HL.out;omega) ?_;intro g' cap w5 hown5 hg5 _ _)
       have hb05:Below B w w5:=hb07.trans (gb_to_below (gb_trans (gb_alloc _ _ _) hg5) (by omega) (fun r hr=>(HO.out.blk r hr).1))
       rw[<-HS.out] at hown5
       have HO5:Hid _:=hown5
       clear hown5 hg5
       clear hw
       generalize hT':T+(y3-7*r)=T' at *
       have t1:-200000000000000-(7000*((k+1:Nat):Int))<=T':=by push_cast;omega
       have t2:T'<=1099511627776*((k+1:Nat):Int):=by push_cast;omega
       have hw6:IntKind.i64.wrap (T'-2*r)=T'-2*r:=IntWalk.i64_in _ ⟨by omega,by omega⟩
       clear hT'
       by_cases h0:0<=T'
       ·rw[if_pos h0] at HZ
        rw[<-HZ.out] at HCD1
        by_cases h1:10<=T'-2*r
        ·have HF:Hid (chosenD r cs want=(ds.take (k+1),T'-2*r)):=by show _=_;rw[HCD1.out];simp only;rw[if_pos h1]
         go_wp2
         go_ret2
         exact⟨_,_,rfl,(HCH.out _ _ _).2 ⟨by rw[HF.out];exact HO5.out,by rw[HF.out],hb05⟩⟩
        ·have HF:Hid (chosenD r cs want=(ds.take (k+1),0)):=by show _=_;rw[HCD1.out];simp only;rw[if_neg h1]
         go_wp2
         go_ret2
         exact⟨_,_,rfl,(HCH.out _ _ _).2 ⟨by rw[HF.out];exact HO5.out,by rw[HF.out],hb05⟩⟩
       ·rw[if_neg h0] at HZ
        go_wp2
        go_roundw
        case rel=>exact⟨_,_,_,_,_,⟨k+1,by omega,by go_num,T',rfl,HO5.out,HZ.out,t1,t2⟩,rfl,rfl,rfl,rfl,rfl⟩
        case measure=>simp[intOf];omega
      ·have hkd:k=dl:=by omega
       have HZ:Hid (none=seD r ds [] (-want)):=by
        have:=hz.out
        rw[List.drop_of_length_le (by rw[HD.out];omega),seD] at this
        exact this
       rw[<-HZ.out] at HCD1
       have HF:Hid (chosenD r cs want=([],0)):=HCD1.out
       by_cases hkq:k<q
       ·have hk10:¬((k:Int)<10):=by omega
        go_wp2
        go_ret2
        exact⟨_,_,rfl,(HCH.out _ _ _).2 ⟨by rw[HF.out];exact OwnRec.nil _ _ _ _ _,by rw[HF.out],hbl2⟩⟩
       ·go_wp2
        go_ret2
        exact⟨_,_,rfl,(HCH.out _ _ _).2 ⟨by rw[HF.out];exact OwnRec.nil _ _ _ _ _,by rw[HF.out],hbl2⟩⟩
def askedZ (ys:LII) (r tag:Int):Int:=
 if r<0\/1000<r\/¬(0<=tag/\tag<=1099511627776) then 1 else if 7<ys.length\/rOuts ys=false then 2 else 0
theorem asked_arg (h:r<0\/1000<r\/¬(0<=tag/\tag<=1099511627776)):askedZ ys r tag=1:=by unfold askedZ;rw[if_pos h]
theorem asked_shape (h:¬(r<0\/1000<r\/¬(0<=tag/\tag<=1099511627776))) (h2:7<ys.length\/rOuts ys=false):askedZ ys r tag=2:=by unfold askedZ;rw[if_neg h,if_pos h2]
theorem asked_ok (h:¬(r<0\/1000<r\/¬(0<=tag/\tag<=1099511627776))) (h2:¬(7<ys.length\/rOuts ys=false)):askedZ ys r tag=0:=by unfold askedZ;rw[if_neg h,if_neg h2]
theorem asked_any (ao:OAd) (n c:Nat) (ys:LII) (r tag:Int) (w:World) (hx:OutsAt w ao ys) (hn:ys.length=n):
 Calls Tryz.prog 163 #[.slice ao n c,.int .i64 r,.int .i64 tag] w fun e w'=>e=.returned (.int .i64 (askedZ ys r tag))/\Below w.heap.size w w':=by
 have HX:=hiD hx
 have HN:=hiD hn
 clear hx hn
 by_cases h1:r<0
 ·rw[asked_arg (Or.inl h1)]
  go_enter Tryz.func163,Tryz.ntmps163
  go_wp2
  go_ret
  exact⟨rfl,Below.refl _ _⟩
 by_cases h2:1000<r
 ·rw[asked_arg (Or.inr (Or.inl h2))]
  go_enter Tryz.func163,Tryz.ntmps163
  go_wp2
  go_ret
  exact⟨rfl,Below.refl _ _⟩
 by_cases h3:tag<0
 ·rw[asked_arg (Or.inr (Or.inr (by omega)))]
  go_enter Tryz.func163,Tryz.ntmps163
  go_wp2
  go_ret
  exact⟨rfl,Below.refl _ _⟩
 by_cases h4:1099511627776<tag
 ·rw[asked_arg (Or.inr (Or.inr (by omega)))]
  go_enter Tryz.func163,Tryz.ntmps163
  go_wp2
  go_ret
  exact⟨rfl,Below.refl _ _⟩
 have hno:¬(r<0\/1000<r\/¬(0<=tag/\tag<=1099511627776)):=by omega
 by_cases h5:n<1
 ·rw[asked_shape hno (Or.inr (by unfold rOuts;rw[decide_eq_false (by rw[HN.out];omega)];rfl))]
  go_enter Tryz.func163,Tryz.ntmps163
  go_wp2
  go_ret
  exact⟨rfl,Below.refl _ _⟩
 by_cases h6:7<n
 ·rw[asked_shape hno (Or.inl (by rw[HN.out];exact h6))]
  go_enter Tryz.func163,Tryz.ntmps163
  go_wp2
  go_ret
  exact⟨rfl,Below.refl _ _⟩
 have HRO:Hid (rOuts ys=ys.all rOut):=by show _=_;unfold rOuts;rw[decide_eq_true (by rw[HN.out];omega)];rfl
 have HNO:=hiD hno
 clear hno
 go_enter Tryz.func163,Tryz.ntmps163
 go_wp2
 go_loopw [7] (fun i wr=>∃ k:Nat,k<=n/\i=.int .i64 k/\Hid ((ys.take k).all rOut=true)/\Below w.heap.size w wr) (fun i _=>n-(intOf i).toNat)
 case atStart=>exact⟨0,Nat.zero_le _,rfl,by show List.all _ _=true;simp,Below.refl _ _⟩
 case round=>
  obtain⟨k,hk,rfl,hall,hbl⟩:=hrel
  have hsz:=hbl.size
  by_cases hlt:k<n
  ·rcases HX.out with hnil|⟨gg,off,rfl,hrow⟩
   ·have:=HN.out;rw[hnil] at this;simp at this;omega
   obtain⟨c0,c1⟩:=(hrow.grown hbl) k (by rw[HN.out];exact hlt)
   have HS:Hid ((ys.take (k+1)).all rOut=rOut (ys.getD k (0,0))):=by
    show _=_
    rw[List.take_succ_eq_append_getElem (by rw[HN.out];exact hlt),List.all_append,hall.out]
    simp[List.getD,HN.out,hlt]
   have HM:Hid (ys.getD k (0,0)∈ys):=getD_mem ys (0,0) k (by rw[HN.out];exact hlt)
   have hkI:(k:Int)<(n:Int):=by omega
   have hk0:(0:Int)<=(k:Int):=by omega
   clear hrow
   generalize ys.getD k (0,0)=y at *
   obtain⟨y0,y1⟩:=y
   simp only at c0 c1
   cases hro:rOut (y0,y1)
   ·have HF:Hid (askedZ ys r tag=2):=asked_shape HNO.out (Or.inr (by
     rw[HRO.out,List.all_eq_false]
     exact⟨_,HM,by rw[hro];simp⟩))
    go_wp2_with (go_at_call 204;refine(rRightOut_any y0 y1 _).mono ?_;rintro e w5 ⟨rfl,hb5⟩;rw[hro])
    go_ret
    exact⟨ret_int HF.out.symm,hbl.trans (hb5.mono hsz)⟩
   ·go_wp2_with (go_at_call 204;refine(rRightOut_any y0 y1 _).mono ?_;rintro e w5 ⟨rfl,hb5⟩;rw[hro])
    go_roundw
    case rel=>exact⟨k+1,by omega,by go_num,by show _=_;rw[HS.out,hro],hbl.trans (hb5.mono hsz)⟩
    case measure=>simp[intOf];omega
  ·have HF:Hid (askedZ ys r tag=0):=asked_ok HNO.out (by
    rw[HRO.out]
    have h:=hall.out
    rw[List.take_of_length_le (by rw[HN.out];omega)] at h
    rw[h,HN.out]
    rintro (h|h)
    ·omega
    ·cases h)
   go_wp2
   go_ret
   exact⟨ret_int HF.out.symm,hbl⟩
theorem dTarget_any (ao:OAd) (n c:Nat) (ys:LII) (r:Int) (w:World) (hx:OutsAt w ao ys) (hn:ys.length=n) (hm:n<=100) (hr:0<=r/\r<=1000) (hb:∀ y∈ys,0<=y.2/\y.2<=1099511627776):
 Calls Tryz.prog 165 #[.slice ao n c,.int .i64 r] w fun e w'=>e=.returned (.int .i64 (targetZ ys r))/\Below w.heap.size w w':=by
 have HX:=hiD hx
 have HN:=hiD hn
 have HB:=hiD hb
 clear hx hn hb
 have hrn:0<=r*(3+2*(n:Int))/\r*(3+2*(n:Int))<=203000:=⟨Int.mul_nonneg hr.1 (by omega),by
  have h1:r*(3+2*(n:Int))<=1000*(3+2*(n:Int)):=Int.mul_le_mul_of_nonneg_right hr.2 (by omega)
  omega⟩
 have hw1:IntKind.i64.wrap (2*(n:Int))=2*(n:Int):=IntWalk.i64_in _ ⟨by omega,by omega⟩
 have hw2:IntKind.i64.wrap (3+2*(n:Int))=3+2*(n:Int):=IntWalk.i64_in _ ⟨by omega,by omega⟩
 have hw3:IntKind.i64.wrap (r*(3+2*(n:Int)))=r*(3+2*(n:Int)):=IntWalk.i64_in _ ⟨by omega,by omega⟩
 have HT:Hid (targetZ ys r=r*(3+2*(n:Int))+sumOu ys):=by show _=_;unfold targetZ;rw[HN.out]
 go_enter Tryz.func165,Tryz.ntmps165
 go_wp2
 generalize r*(3+2*(n:Int))=F at *
 go_loopw [5,6] (fun v i wr=>∃ (k:Nat) (T:Int),k<=n/\i=.int .i64 k/\v=.int .i64 T/\Hid (F+((ys.take k).map Prod.snd).sum=T)/\w=wr) (fun _ i _=>n-(intOf i).toNat)
 case atStart=>exact⟨0,F,Nat.zero_le _,rfl,rfl,by show F+_=F;simp,rfl⟩
 case round=>
  obtain⟨k,T,hk,rfl,rfl,hT,rfl⟩:=hrel
  by_cases hlt:k<n
  ·rcases HX.out with hnil|⟨gg,off,rfl,hrow⟩
   ·have:=HN.out;rw[hnil] at this;simp at this;omega
   obtain⟨c0,c1⟩:=hrow k (by rw[HN.out];exact hlt)
   have HS:Hid _:=sum_snoc Prod.snd ys (0,0) k (by rw[HN.out];exact hlt)
   have hSb:=sum_bd Prod.snd 1099511627776 (ys.take k) (fun x hx=>HB.out x (List.mem_of_mem_take hx))
   have hyb:=HB.out (ys.getD k (0,0)) (getD_mem ys (0,0) k (by rw[HN.out];exact hlt))
   have hl2:(ys.take k).length<=100:=by rw[List.length_take];omega
   have hT2:0<=T/\T<=120000000000000:=by have:=hT.out;omega
   clear hrow hSb hl2
   generalize ys.getD k (0,0)=y at c0 c1 HS hyb
   obtain⟨y0,y1⟩:=y
   simp only at c0 c1 hyb
   have hw:IntKind.i64.wrap (T+y1)=T+y1:=IntWalk.i64_in _ ⟨by omega,by omega⟩
   go_wp2
   go_roundw
   case rel=>exact⟨k+1,T+y1,by omega,by go_num,rfl,(by show _=_;rw[HS.out,<-Int.add_assoc,hT.out]),trivial⟩
   case measure=>simp[intOf];omega
  ·have HSe:Hid (targetZ ys r=T):=by show _=_;rw[HT.out,<-hT.out,List.take_of_length_le (by rw[HN.out];omega)];rfl
   go_wp2
   go_ret
   exact⟨ret_int HSe.out.symm,Below.refl _ _⟩
theorem kV_outL (ys:LII):(outL ys).map (Value.int .i64)=ys.flatMap kV:=by
 induction ys with
 |nil=>rfl
 |cons y t ih=>rw[List.flatMap_cons,<-ih];rfl
theorem copy_outsN (a:Addr) (n c:Nat) (ys:LII) (w:World) (hr:OutsAt w (some a) ys) (hn:ys.length=n) (hm:n<=1000):
 ∃ w1,Sem.run Tryz.prog (Builtin.copy_ #[28,28] 3 #[.slice (some ⟨w.heap.size,0,none⟩) n n,.slice (some a) n c]) (w.alloc (.cells (Go.madeCells #[.int .i64 0,.int .i64 0] (n*2)) 93))=.ok (.int .i64 n) w1/\
  OwnRec kV 93 2 w1 w.heap.size (.slice (some ⟨w.heap.size,0,none⟩) n n) ys/\Below w.heap.size w w1:=by
 have hheap:=heap_made w (Go.madeCells #[Value.int .i64 0,.int .i64 0] (n*2)) 93
 have hl:(outL ys).length=n*2:=by rw[outL_len,hn];omega
 have hcs:=copy_src (W:=w.alloc (.cells (Go.madeCells #[.int .i64 0,.int .i64 0] (n*2)) 93)) (ints_of_outs hr) (bAl _ _) w.heap.size
 have hsrc:∀ (j:Nat) (v:Value),((outL ys).map (Value.int .i64))[j]?=some v->(w.alloc (.cells (Go.madeCells #[.int .i64 0,.int .i64 0] (n*2)) 93)).cell? (a.add j)=some v:=by
  intro j v hj
  by_cases hp:0<((outL ys).map (Value.int .i64)).length
  ·obtain⟨_,ad,e,h⟩:=hcs hp
   cases e
   exact h j v hj
  ·have:(outL ys).map (Value.int .i64)=[]:=List.length_eq_zero_iff.1 (by omega)
   rw[this] at hj
   simp at hj
 have hlm:((outL ys).map (Value.int .i64)).length=n*2:=by rw[List.length_map,hl]
 have hrun:=run_copy_wide Tryz.prog (w.alloc (.cells (Go.madeCells #[.int .i64 0,.int .i64 0] (n*2)) 93)) 28 28 3 93 w.heap.size 0 n n a n c (Go.madeCells #[Value.int .i64 0,.int .i64 0] (n*2)) 93 ((outL ys).map (Value.int .i64)) 2 Tryz.underlying28 sizeInfo56 hheap (by rw[hlm,show n.min n=n from Nat.min_self n]) hsrc (by rw[hlm,size_madeCells];omega) (ints_one _)
 have hh:=setRow_heap (w.alloc (.cells (Go.madeCells #[.int .i64 0,.int .i64 0] (n*2)) 93)) w.heap.size (Go.madeCells #[Value.int .i64 0,.int .i64 0] (n*2)) (splice (Go.madeCells #[Value.int .i64 0,.int .i64 0] (n*2)).toList 0 ((outL ys).map (Value.int .i64))).toArray 93 (0,0) hheap
 refine⟨(w.alloc (.cells (Go.madeCells #[.int .i64 0,.int .i64 0] (n*2)) 93)).setRow w.heap.size (splice (Go.madeCells #[Value.int .i64 0,.int .i64 0] (n*2)).toList 0 ((outL ys).map (Value.int .i64))).toArray,?_,?_,below_setRow (bAl _ _) leR _⟩
 ·rw[hrun,show n.min n=n from Nat.min_self n]
  simp[splice,goInt]
 ·have hsp:splice (Go.madeCells #[Value.int .i64 0,.int .i64 0] (n*2)).toList 0 ((outL ys).map (Value.int .i64))=ys.flatMap kV:=by
   unfold splice
   rw[List.take_zero,List.nil_append,List.drop_of_length_le (by rw[Array.length_toList,size_madeCells,hlm];omega),List.append_nil,kV_outL]
  rw[hsp] at hh
  have hfl:(ys.flatMap kV).length=n*2:=by rw[<-kV_outL,hlm]
  refine⟨by rw[hfl,hn],Or.inr ⟨w.heap.size,n,(ys.flatMap kV).toArray,by rw[hn],leR,?_,by omega,by unfold maxLen;omega,by rw[List.size_toArray];exact hfl,?_⟩⟩
  ·rw[hsp];exact hh
  ·rw[List.take_of_length_le (by simp[hfl,hn])]
theorem make_outsN (n:Nat) (hn:n<=8796093022208):∀ u:World,(Instr.makeSlice 28 (.int .i64 (n:Int)) (.int .i64 (n:Int))).run Tryz.prog u =
 .ok (.slice (some ⟨u.heap.size,0,none⟩) n n) (u.alloc (.cells (Go.madeCells #[.int .i64 0,.int .i64 0] (n*2)) 93)):=fun u=>by
 obtain⟨i0,hi,hz0,hz1,hz2⟩:=info_parts info93
 have h:=run_make (P:=Tryz.prog) u 28 93 i0 (.agg #[.int .i64 0,.int .i64 0]) Tryz.underlying28 hi hz0 .i64 .i64 (n:Int) (n:Int) (by omega) (Int.le_refl _) (by rw[hz2];omega) (by omega)
 have e:(n:Int).toNat=n:=by omega
 rw[e] at h
 simpa [hz1,Value.cells] using h
theorem copiedOuts_any (a:Addr) (n c:Nat) (ys:LII) (w:World) (hr:OutsAt w (some a) ys) (hn:ys.length=n) (hm:n<=1000):
 Calls Tryz.prog 167 #[.slice (some a) n c] w fun e w'=>e=.returned (.slice (some ⟨w.heap.size,0,none⟩) n n)/\OwnRec kV 93 2 w' w.heap.size (.slice (some ⟨w.heap.size,0,none⟩) n n) ys/\Below w.heap.size w w':=by
 have hmk:=make_outsN n (by omega)
 obtain⟨w1,hrun,hown,hb1⟩:=copy_outsN a n c ys w hr hn hm
 have HO:Hid _:=hown
 clear hown hr hn
 go_enter Tryz.func167,Tryz.ntmps167
 go_wp2
 go_ret
 exact⟨rfl,HO,hb1⟩
end
end Go.Proofs.YtffgpepngcnjeabGreat
