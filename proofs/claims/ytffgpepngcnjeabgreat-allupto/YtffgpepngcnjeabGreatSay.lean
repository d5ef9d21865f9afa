import Derived.Test.YtffgpepngcnjeabGreatSan
import Derived.Test.YtffgpepngcnjeabGreatSal
namespace Go.Proofs.YtffgpepngcnjeabGreat
set_option maxRecDepth 100000
set_option maxHeartbeats 4000000
section
open Go.RowKit
variable {w wr ws wa w2 w' w3:World} {g off B R S n c D cr cc a d:Nat} {bs:List Bool} {a0 v x y z:Value} {ob:Obj} {b:Bool} {s:Int} {ar ac:OAd}
def bV (b:Bool):List Value:=[.bool b]
theorem bv1 (b:Bool):(bV b).length=1:=rfl
theorem bv_one (b:Bool):∀ u∈bV b,u.oneCell'=true:=by
 intro u hu
 simp[bV] at hu
 subst hu
 rfl
theorem info4:(Tryz.prog.info? 4).map (fun i=>(i.zero,i.size,i.bytes))=some (some (.bool false),1,1):=by kernel_rfl
theorem bv_cell (h:VRow w g off (bs.flatMap bV)) (j:Nat) (hj:j<bs.length):w.cell? ⟨g,off+j,none⟩=some (.bool (bs.getD j false)):=by
 have:=rcell bv1 false h j hj 0 (by omega)
 rw[Nat.mul_one,Nat.add_zero] at this
 exact this
def hitR (l:List RCel) (a:Int):Bool:=l.any fun x=>x.ad== a
def hitsR (l:List RCel) (ts:List Int):List Bool:=ts.map (hitR l)
theorem hits_snoc (l:List RCel) (ts:List Int) (k:Nat) (h:k<ts.length):hitsR l (ts.take (k+1))=hitsR l (ts.take k)++[hitR l (ts.getD k 0)]:=by
 unfold hitsR
 rw[List.take_succ_eq_append_getElem h,List.map_append]
 simp[List.getD,h]
theorem hits_len (l:List RCel) (ts:List Int):(hitsR l ts).length=ts.length:=by simp[hitsR]
structure SInv (w:World) (B R S:Nat) (a0:Value) (v:Value) (bs:List Bool) (wr:World):Prop where
 s0:wr.cell? ⟨S,0,none⟩=some a0
 s1:wr.cell? ⟨S,1,none⟩=some v
 f1:wr.frozen? ⟨S,1,none⟩=false
 r:Room wr R 2
 own:OwnRec bV 4 1 wr (S+1) v bs
 bel:Below B w wr
 lt:B<=R/\R<S
theorem SInv.grown (h:SInv w B R S a0 v bs wr) (hb:Below wr.heap.size wr ws):SInv w B R S a0 v bs ws:=by
 have hS:S<wr.heap.size:=cell_lt h.s0
 exact⟨(hb.cell (p:=⟨S,0,none⟩) hS).trans h.s0,(hb.cell (p:=⟨S,1,none⟩) hS).trans h.s1,(hb.frozen (p:=⟨S,1,none⟩) hS).trans h.f1,h.r.below hb (by have:=h.lt;omega),h.own.grown hb,h.bel.trans (hb.mono (by have:=h.lt;omega)),h.lt⟩
theorem SInv.push (h:SInv w B R S a0 v bs wa) (ho:OwnRec bV 4 1 w2 (S+1) (.slice (some ⟨g,0,none⟩) n c) (bs++[b])) (hg:(wa.alloc ob).grownBy w2 v.ownBlock):SInv w B R S a0 (.slice (some ⟨g,0,none⟩) n c) (bs++[b]) (w2.setCell ⟨S,1,none⟩ (.slice (some ⟨g,0,none⟩) n c)):=by
 have hbl:Below wa.heap.size wa (wa.alloc ob):=(Below.refl _ _).alloc leR _
 have h1:=h.grown hbl
 have hS:some S≠v.ownBlock:=fun e=>Nat.not_succ_le_self _ (h.own.blk _ e.symm).1
 have hR:some R≠v.ownBlock:=fun e=>by have:=(h.own.blk _ e.symm).1;have:=h.lt;omega
 have hgS:S+1<=g:=(ho.blk g rfl).1
 have c0:=gb_cell hg h1.s0 hS
 have c1:=gb_cell hg h1.s1 hS
 have hSl:S<(wa.alloc ob).heap.size:=cell_lt h1.s0
 have f1:=(gb_frozen hg (b:=S) (o:=1) hSl hS).trans h1.f1
 refine⟨(World.cell?_setCell_other _ _ _ _ (by simp)).trans c0,World.cell?_setCell_same _ _ _ c1,by rw[World.frozen?_setCell];exact f1,?_,?_,?_,h.lt⟩
 ·refine Room.set ?_ _ _
  have hRl:R<(wa.alloc ob).heap.size:=by have:=h.lt;omega
  refine⟨fun j hj=>?_,fun j hj=>?_⟩
  ·obtain⟨u,hu⟩:=h1.r.here j hj
   exact⟨u,gb_cell hg hu hR⟩
  ·exact(gb_frozen hg (b:=R) (o:=j) hRl hR).trans (h1.r.free j hj)
 ·exact ho.gb (gb_set w2 S 1 _) (fun k hk e=>by simp[Value.ownBlock] at hk;injection e with e;omega)
 ·have h2:Below B (wa.alloc ob) w2:=gb_to_below hg (by have:=h.lt;have:=h1.bel.size;omega) (fun r hr=>by have:=(h.own.blk r hr).1;have:=h.lt;omega)
  exact(h1.bel.trans h2).setCell (by have:=h.lt;simp only;omega) _
theorem seen_any (ar:OAd) (n c:Nat) (ts:List Int) (al:OAd) (m d:Nat) (l:List RCel) (w:World) (ht:IntsAt w ar ts) (hn:ts.length=n) (hl:RecAt RCel.v w al l) (hm:l.length=m) (n1:n<=1000) (m1:m<=10000000000):
 Calls Tryz.prog 179 #[.slice ar n c,.slice al m d] w fun e w'=>∃ ah ch,e=.returned (.agg #[.slice ar n c,.slice ah n ch])/\RecAt bV w' ah (hitsR l ts)/\Below w.heap.size w w':=by
 have HT:=hiD ht
 have HN:=hiD hn
 have HL:=hiD hl
 have HM:=hiD hm
 clear ht hn hl hm
 go_enter Tryz.func179,Tryz.ntmps179
 go_wp2
 have hi0:SInv w w.heap.size w.heap.size (w.heap.size+1) (.slice ar n c) (.slice none 0 0) [] ((w.alloc (.cells #[.slice none 0 0,.slice none 0 0] 236)).alloc (.cells #[.slice ar n c,.slice none 0 0] 236)):=by
  have hz:(w.alloc (.cells #[.slice none 0 0,.slice none 0 0] 236)).heap.size=w.heap.size+1:=by simp
  have hv:=vrow_new (w.alloc (.cells #[.slice none 0 0,.slice none 0 0] 236)) [.slice ar n c,.slice none 0 0] 236
  have hr0:=vrow_new w [.slice none 0 0,.slice none 0 0] 236
  have hbl:Below (w.alloc (.cells #[.slice none 0 0,.slice none 0 0] 236)).heap.size (w.alloc (.cells #[.slice none 0 0,.slice none 0 0] 236)) ((w.alloc (.cells #[.slice none 0 0,.slice none 0 0] 236)).alloc (.cells #[.slice ar n c,.slice none 0 0] 236)):=(Below.refl _ _).alloc leR _
  have hr:=hr0.grown hbl
  rw[hz] at hv
  refine⟨hv 0 (by simp),hv 1 (by simp),World.frozen?_alloc_at _ _ _ _ (by rw[hz]),⟨fun j hj=>?_,fun j hj=>?_⟩,OwnRec.nil _ _ _ _ _,(bAl _ _).alloc (by simp) _,by omega⟩
  ·have:=hr j (by simp;omega)
   rw[Nat.zero_add] at this
   exact⟨_,this⟩
  ·exact(hbl.frozen (p:=⟨w.heap.size,j,none⟩) (by simp)).trans (World.frozen?_alloc_at _ _ _ _ rfl)
 have HI0:Hid _:=hi0
 clear hi0
 generalize (w.alloc (.cells #[.slice none 0 0,.slice none 0 0] 236)).alloc (.cells #[.slice ar n c,.slice none 0 0] 236)=w1 at *
 generalize hBe:w.heap.size=B at *
 have HBe:=hiD hBe
 clear hBe
 go_loopw [6] (fun i wr=>∃ (k:Nat) (v:Value),k<=n/\i=.int .i64 k/\SInv w B B (B+1) (.slice ar n c) v (hitsR l (ts.take k)) wr) (fun i _=>n-(intOf i).toNat)
 case atStart=>exact⟨0,_,Nat.zero_le _,rfl,HI0⟩
 case round=>
  obtain⟨k,v,hk,rfl,hinv⟩:=hrel
  by_cases hlt:k<n
  ·rcases HT.out with hnil|⟨gt,ot,rfl,htrow⟩
   ·have h1:=HN.out;rw[hnil] at h1;simp at h1;omega
   have hBw:Below w.heap.size w wr:=by rw[HBe.out];exact hinv.bel
   have t0:=(htrow.grown hBw) k (by rw[HN.out];exact hlt)
   have HL1:=hiD (HL.out.grown hBw)
   have HSN:Hid _:=hits_snoc l ts k (by rw[HN.out];exact hlt)
   have HLN:Hid ((hitsR l (ts.take k)).length<=1000):=by show _<=_;rw[hits_len,List.length_take];omega
   generalize ts.getD k 0=ta at t0 HSN
   generalize hitsR l (ts.take k)=bs at *
   have HINV:=hiD hinv
   clear hinv htrow hBw
   obtain⟨wo,rfl⟩:∃ wo:World,wo=wr:=⟨_,rfl⟩
   have e1:(0:Int)<=(k:Int):=by omega
   have e2:(k:Int)<(n:Int):=by omega
   go_wp2
   go_loopw [7,8] (fun h i wr=>∃ (j:Nat) (b:Bool),j<=m/\h=.bool b/\i=.int .i64 j/\Hid (b=(l.take j).any (fun x=>x.ad== ta))/\Below wo.heap.size wo wr) (fun _ i _=>m-(intOf i).toNat)
   case atStart=>exact⟨0,false,Nat.zero_le _,rfl,rfl,by show _=_;simp,Below.refl _ _⟩
   case round=>
    obtain⟨j,b,hj,rfl,rfl,hb,hbl⟩:=hrel
    have u0:=(hbl.cell (p:=⟨gt,ot+k,none⟩) (cell_lt t0)).trans t0
    by_cases hjt:j<m
    ·rcases HL1.out.grown hbl with hnil|⟨gl,ol,rfl,hlrow⟩
     ·have h1:=HM.out;rw[hnil] at h1;simp at h1;omega
     obtain⟨_,_,m2,_,_⟩:=rcCells hlrow j (by rw[HM.out];exact hjt)
     have HB2:Hid ((l.take (j+1)).any (fun x=>x.ad== ta)=(b || ((l.getD j dR).ad== ta))):=by
      show _=_
      rw[List.take_succ_eq_append_getElem (by rw[HM.out];exact hjt),List.any_append,<-hb.out]
      simp[List.getD,HM.out,hjt]
     clear hlrow
     generalize l.getD j dR=z at m2 HB2
     obtain⟨z0,z1,zad,z3,z4⟩:=z
     simp only at m2 HB2
     have e3:(0:Int)<=(j:Int):=by omega
     have e4:(j:Int)<(m:Int):=by omega
     cases b
     ·go_wp2
      go_quiet (fail)
      have hbq:Below wo.heap.size wo (wr.drewN nq):=⟨hbl.os,hbl.tape,hbl.output,hbl.size,hbl.block⟩
      go_wp2
      go_roundw
      case rel=>exact⟨j+1,(zad== ta),by omega,rfl,by go_num,by show _=_;rw[HB2.out];rfl,hbq⟩
      case measure=>simp[intOf];omega
     ·go_wp2
      go_quiet (fail)
      have hbq:Below wo.heap.size wo (wr.drewN nq):=⟨hbl.os,hbl.tape,hbl.output,hbl.size,hbl.block⟩
      go_wp2
      go_roundw
      case rel=>exact⟨j+1,true,by omega,rfl,by go_num,by show _=_;rw[HB2.out];rfl,hbq⟩
      case measure=>simp[intOf];omega
    ·have HR:Hid (b=hitR l ta):=by show _=_;rw[hb.out,List.take_of_length_le (by rw[HM.out];omega)];rfl
     have hinv2:=HINV.out.grown hbl
     have s1:=hinv2.s1
     have sf:=hinv2.f1
     have HI2:=hiD hinv2
     have hbs:B+1<wr.heap.size:=cell_lt s1
     have hvS:some (B+1)≠v.ownBlock:=fun e=>Nat.not_succ_le_self _ (hinv2.own.blk _ e.symm).1
     clear hinv2 hb
     go_wp2_with (at_builtin;refine wpList_appR 105 1 _ Tryz.underlying105 info4 rfl (by decide) bv1 bv_one (wr.alloc (.cells #[.bool b] 4)) rfl _ _ rfl (B+1+1) wr.heap.size 1 v bs b (by rfl) (by rfl) (HI2.out.own.alloc _) (vrow_new _ _ _) (by simp;omega) (by have:=HLN.out;unfold maxLen;omega) (by have:=HLN.out;omega) ?_;intro g' cap w5 hown5 hg5 _ _;have k1:=gb_cell hg5 (((Below.refl wr.heap.size wr).alloc leR (.cells #[.bool b] 4)).cell (p:=⟨B+1,1,none⟩) hbs |>.trans s1) hvS;have k2:=(gb_frozen hg5 (b:=B+1) (o:=1) (by simp;omega) hvS).trans ((((Below.refl wr.heap.size wr).alloc leR (.cells #[.bool b] 4)).frozen (p:=⟨B+1,1,none⟩) hbs).trans sf))
     go_roundw
     case rel=>exact⟨k+1,_,by omega,by go_num,by rw[HSN.out,<-HR.out];exact HI2.out.push hown5 hg5⟩
     case measure=>simp[intOf];omega
  ·have hkn:k=n:=by omega
   subst hkn
   rw[List.take_of_length_le (by rw[HN.out];omega)] at hinv
   have HLH:Hid ((hitsR l ts).length=k):=by show _=_;rw[hits_len,HN.out]
   obtain⟨ah,ch,rfl,hat⟩:=OwnRec.at bv1 hinv.own
   rw[HLH.out] at hinv
   have s0:=hinv.s0
   have s1:=hinv.s1
   obtain⟨u0,r0⟩:=hinv.r.here 0 (by omega)
   obtain⟨u1,r1⟩:=hinv.r.here 1 (by omega)
   have rf0:=hinv.r.free 0 (by omega)
   have rf1:=hinv.r.free 1 (by omega)
   have HAT:=hiD hat
   have HBL:=hiD hinv.bel
   have HOB:Hid (∀ a,ah=some a->B+1+1<=a.block):=fun a ha=>by
    subst ha
    exact(hinv.own.blk a.block rfl).1
   have nb:B≠B+1:=by omega
   clear hinv hat
   go_wp2
   refine bodyPost_ret (v:=.agg #[.slice ar k c,.slice ah k ch]) ?_ rfl ⟨ah,ch,rfl,?_,?_⟩
   ·simp[results,Tryz.results179,go_sem,r0,r1]
   ·have hfr:Fr (fun q=>q=B) wr ((wr.setCell ⟨B,0,none⟩ (.slice ar k c)).setCell ⟨B,1,none⟩ (.slice ah k ch)):=((Fr.refl (fun q=>q=B) wr).set B 0 _ (fun _=>rfl)).set B 1 _ (fun _=>rfl)
    rcases HAT.out with h|⟨b,off,rfl,hr⟩
    ·exact Or.inl h
    ·exact Or.inr ⟨b,off,rfl,hfr.vrow hr (by have:=HOB.out _ rfl;simp only at this;omega)⟩
   ·rw[HBe.out]
    exact(HBL.out.setCell leR _).setCell leR _
def wideB (bs:List Bool) (g x:Nat):Bool:=(List.range x).all fun i=>!(bs.getD i false&&decide (x<i+1+g))
theorem range_all_snoc (p:Nat->Bool) (k:Nat):(List.range (k+1)).all p=((List.range k).all p&&p k):=by
 rw[List.range_succ,List.all_append]
 simp
theorem range_all_no (p:Nat->Bool) (k n:Nat) (h:k<n) (hp:p k=false):(List.range n).all p=false:=by
 rw[List.all_eq_false]
 exact⟨k,List.mem_range.2 h,by simp[hp]⟩
theorem wide_any (ar:OAd) (nr cr:Nat) (ah:OAd) (n c:Nat) (bs:List Bool) (g x:Nat) (w:World) (hb:RecAt bV w ah bs) (hn:bs.length=n) (hx:x<=n) (n1:n<=1000) (g1:g<=1000):
 Calls Tryz.prog 213 #[.agg #[.slice ar nr cr,.slice ah n c],.int .i64 (g:Int),.int .i64 (x:Int)] w fun e w'=>e=.returned (.bool (wideB bs g x))/\Below w.heap.size w w':=by
 have hb1:Below w.heap.size w (w.alloc (.cells #[.slice ar nr cr,.slice ah n c] 236)):=(Below.refl _ _).alloc leR _
 have x1:(w.alloc (.cells #[.slice ar nr cr,.slice ah n c] 236)).cell? ⟨w.heap.size,1,none⟩=some (.slice ah n c):=by rw[World.cell?_alloc_new];rfl
 have HB:=hiD (hb.grown hb1)
 have HN:=hiD hn
 clear hb hn
 go_enter Tryz.func213,Tryz.ntmps213
 go_wp2
 generalize w.alloc (.cells #[.slice ar nr cr,.slice ah n c] 236)=w1 at *
 go_loop [7] (fun i=>∃ k:Nat,k<=x/\i=.int .i64 k/\Hid ((List.range k).all (fun i=>!(bs.getD i false&&decide (x<i+1+g)))=true)) (fun i=>x-(intOf i).toNat)
 case atStart=>exact⟨0,Nat.zero_le _,rfl,rfl⟩
 case round=>
  obtain⟨k,hk,rfl,hall⟩:=hrel
  by_cases hlt:k<x
  ·rcases HB.out with hnil|⟨gb,ob,rfl,hrow⟩
   ·have h1:=HN.out;rw[hnil] at h1;simp at h1;omega
   have c0:=bv_cell hrow k (by rw[HN.out];omega)
   have HS:Hid _:=range_all_snoc (fun i=>!(bs.getD i false&&decide (x<i+1+g))) k
   have HZ:Hid _:=range_all_no (fun i=>!(bs.getD i false&&decide (x<i+1+g))) k x hlt
   clear hrow
   generalize bs.getD k false=b at c0 HS HZ
   have e1:(0:Int)<=(k:Int):=by omega
   have e2:(k:Int)<(n:Int):=by omega
   have e3:(k:Int)<(x:Int):=by omega
   have hw1:IntKind.i64.wrap ((k:Int)+1)=(k:Int)+1:=IntWalk.i64_in _ ⟨by omega,by omega⟩
   have hw2:IntKind.i64.wrap ((k:Int)+1+(g:Int))=(k:Int)+1+(g:Int):=IntWalk.i64_in _ ⟨by omega,by omega⟩
   cases b
   ·go_wp2
    go_round
    case rel=>exact⟨k+1,by omega,by go_num,by show _=_;rw[HS.out,hall.out];rfl⟩
    case measure=>simp[intOf];omega
   ·by_cases hc:x<k+1+g
    ·have g1:decide ((x:Int)<(k:Int)+1+(g:Int))=true:=by rw[decide_eq_true_iff];omega
     have HR:Hid (wideB bs g x=false):=HZ.out (by simp[hc])
     go_wp2
     go_ret
     exact⟨ret_bool HR.out.symm,hb1⟩
    ·have g1:decide ((x:Int)<(k:Int)+1+(g:Int))=false:=by rw[decide_eq_false_iff_not];omega
     have HR:Hid ((List.range (k+1)).all (fun i=>!(bs.getD i false&&decide (x<i+1+g)))=true):=by show _=_;rw[HS.out,hall.out];simp[hc]
     go_wp2
     go_round
     case rel=>exact⟨k+1,by omega,by go_num,HR⟩
     case measure=>simp[intOf];omega
  ·have hkx:k=x:=by omega
   subst hkx
   have e3:¬(k:Int)<(k:Int):=by omega
   go_wp2
   go_ret
   exact⟨ret_bool hall.out.symm,hb1⟩
def wfind (bs:List Bool) (g:Nat):Nat->Nat->Nat
 |0,_=>100
 |f+1,x=>if wideB bs g x=true then x else wfind bs g f (x+1)
theorem rwindow_any (ar:OAd) (nr cr:Nat) (ah:OAd) (c:Nat) (bs:List Bool) (g:Nat) (w:World) (hb:RecAt bV w ah bs) (hn:bs.length=100) (g1:g<=100):
 Calls Tryz.prog 180 #[.agg #[.slice ar nr cr,.slice ah 100 c],.int .i64 (g:Int)] w fun e w'=>e=.returned (.int .i64 (wfind bs g (100-g) g:Nat))/\Below w.heap.size w w':=by
 have hb1:Below w.heap.size w (w.alloc (.cells #[.slice ar nr cr,.slice ah 100 c] 236)):=(Below.refl _ _).alloc leR _
 have x0:(w.alloc (.cells #[.slice ar nr cr,.slice ah 100 c] 236)).cell? ⟨w.heap.size,0,none⟩=some (.slice ar nr cr):=by rw[World.cell?_alloc_new];rfl
 have x1:(w.alloc (.cells #[.slice ar nr cr,.slice ah 100 c] 236)).cell? ⟨w.heap.size,1,none⟩=some (.slice ah 100 c):=by rw[World.cell?_alloc_new];rfl
 have HB:=hiD (hb.grown hb1)
 have HN:=hiD hn
 clear hb hn
 go_enter Tryz.func180,Tryz.ntmps180
 go_wp2
 generalize w.alloc (.cells #[.slice ar nr cr,.slice ah 100 c] 236)=w1 at *
 generalize hTe:w.heap.size=T at *
 have HTe:=hiD hTe
 clear hTe
 have X0:=hiD x0
 have X1:=hiD x1
 have hTl:T<w1.heap.size:=cell_lt x0
 clear x0 x1
 go_loopw [5] (fun i wr=>∃ k:Nat,g<=k/\k<=100/\i=.int .i64 k/\Hid (wfind bs g (100-k) k=wfind bs g (100-g) g)/\Below w1.heap.size w1 wr) (fun i _=>100-(intOf i).toNat)
 case atStart=>exact⟨g,leR,g1,rfl,rfl,Below.refl _ _⟩
 case round=>
  obtain⟨k,hgk,hk,rfl,hz,hbl⟩:=hrel
  by_cases hlt:k<100
  ·have x0:=(hbl.cell (p:=⟨T,0,none⟩) hTl).trans X0.out
   have x1:=(hbl.cell (p:=⟨T,1,none⟩) hTl).trans X1.out
   have HB2:=hiD (HB.out.grown hbl)
   have HZ:Hid (wfind bs g (100-g) g=if wideB bs g k=true then k else wfind bs g (100-(k+1)) (k+1)):=by
    show _=_
    rw[<-hz.out,show 100-k=(100-(k+1))+1 by omega]
    rfl
   go_wp2_with fail
   refine(wide_any ar nr cr ah 100 c bs g k _ HB2 HN (by omega) (by omega) (by omega)).mono ?_
   rintro e w5 ⟨rfl,hb5⟩
   have hbl5:=below_blk hbl hb5
   cases hwd:wideB bs g k
   ·have HR:Hid (wfind bs g (100-(k+1)) (k+1)=wfind bs g (100-g) g):=by show _=_;rw[HZ.out,if_neg (by rw[hwd];simp)]
    go_wp2
    go_roundw
    case rel=>exact⟨k+1,by omega,by omega,by go_num,HR,hbl5⟩
    case measure=>simp[intOf];omega
   ·have HR:Hid (wfind bs g (100-g) g=k):=by show _=_;rw[HZ.out,if_pos hwd]
    go_wp2
    go_ret
    exact⟨ret_int (by rw[HR.out]),by rw[HTe.out];exact hb1.trans (hbl5.mono (by omega))⟩
  ·have hk1:k=100:=by omega
   subst hk1
   have HR:Hid (wfind bs g (100-g) g=100):=by show _=_;rw[<-hz.out];rfl
   go_wp2
   go_ret
   exact⟨ret_int (by rw[HR.out];rfl),by rw[HTe.out];exact hb1.trans (hbl.mono (by omega))⟩
theorem adrs_len (s br:Int) (k:Nat):(adrs s br k).length=k:=by simp[adrs]
def winR (l:List RCel) (s:Int) (g:Nat) (br:Int):Nat:=wfind (hitsR l (adrs s br 100)) g (100-g) g
structure DAd (w:World) (D:Nat) (s:Int) (g:Nat) (ar:OAd) (cr:Nat) (ac:OAd) (cc:Nat):Prop where
 c1:w.cell? ⟨D,1,none⟩=some (.int .i64 (g:Int))
 c2:w.cell? ⟨D,2,none⟩=some (.slice ar 100 cr)
 c3:w.cell? ⟨D,3,none⟩=some (.slice ac 100 cc)
 i0:IntsAt w ar (adrs s 0 100)
 i1:IntsAt w ac (adrs s 1 100)
theorem DAd.grown (h:DAd w D s g ar cr ac cc) (hb:Below w.heap.size w w'):DAd w' D s g ar cr ac cc:=
 ⟨(hb.cell (p:=⟨D,1,none⟩) (cell_lt h.c1)).trans h.c1,(hb.cell (p:=⟨D,2,none⟩) (cell_lt h.c2)).trans h.c2,(hb.cell (p:=⟨D,3,none⟩) (cell_lt h.c3)).trans h.c3,h.i0.grown hb,h.i1.grown hb⟩
theorem keep3 {b:Nat} (hb:Below w2.heap.size w2 w3) (h0:w2.cell? ⟨a,0,none⟩=some x) (h1:w2.cell? ⟨a,1,none⟩=some y) (h2:w2.cell? ⟨d,b,none⟩=some z):w3.cell? ⟨a,0,none⟩=some x/\w3.cell? ⟨a,1,none⟩=some y/\w3.cell? ⟨d,b,none⟩=some z:=
 ⟨(hb.cell (p:=⟨a,0,none⟩) (cell_lt h0)).trans h0,(hb.cell (p:=⟨a,1,none⟩) (cell_lt h1)).trans h1,(hb.cell (p:=⟨d,b,none⟩) (cell_lt h2)).trans h2⟩
theorem rWindows_any (N:NPr) (D:Nat) (ao:OAd) (c:Nat) (bls:List (List TxD)) (s:Int) (g:Nat) (ar:OAd) (cr:Nat) (ac:OAd) (cc:Nat) (w:World) (hx:DCh N w D ao c bls) (hg:Good bls) (hm:bls.length<=40) (ha:DAd w D s g ar cr ac cc) (g1:g<=20):
 Calls Tryz.prog 121 #[.pointer (some ⟨D,0,none⟩)] w fun e w'=>e=.returned (.tuple #[.int .i64 (winR (cellsR bls) s g 0:Nat),.int .i64 (winR (cellsR bls) s g 1:Nat)])/\Below w.heap.size w w':=by
 obtain⟨cs,hch⟩:=hx.ch
 have c4:=hx.c4
 have HC:=hiD hch
 have HG:=hiD hg
 have HA:=hiD ha
 have HW0:Hid (winR (cellsR bls) s g 0=wfind (hitsR (cellsR bls) (adrs s 0 100)) g (100-g) g):=rfl
 have HW1:Hid (winR (cellsR bls) s g 1=wfind (hitsR (cellsR bls) (adrs s 1 100)) g (100-g) g):=rfl
 have hll:=cellsR_len hg
 have hDl:D<w.heap.size:=cell_lt c4
 clear hx hch hg ha
 generalize hnl:bls.length=n at *
 have HN:=hiD hnl
 clear hnl
 go_enter Tryz.func121,Tryz.ntmps121
 go_wp2_with fail
 refine(cells_any N ao n c cs bls _ HC HN (by omega) (fun i hi=>HG.out.small i (by rw[HN.out];exact hi))).mono ?_
 rintro e w1 ⟨v1,rfl,hown1,hb1⟩
 obtain⟨al,cl,rfl,hat⟩:=OwnRec.at rc5 hown1
 have HAT:=hiD hat
 have HA1:=hiD (HA.out.grown hb1)
 clear hat hown1 c4 HC HG
 generalize hle:cellsR bls=l at *
 have HLE:=hiD hle
 clear hle
 have d2:=HA1.out.c2
 generalize hml:l.length=m at *
 have HM:=hiD hml
 clear hml
 go_wp2_with fail
 refine(seen_any ar 100 cr (adrs s 0 100) al m cl l _ HA1.out.i0 (adrs_len _ _ _) HAT HM (by omega) (by omega)).mono ?_
 rintro e w2 ⟨ah,ch,rfl,hh2,hb2⟩
 have hbx:Below w2.heap.size w2 (w2.alloc (.cells #[.slice ar 100 cr,.slice ah 100 ch] 236)):=(Below.refl _ _).alloc leR _
 have y0:(w2.alloc (.cells #[.slice ar 100 cr,.slice ah 100 ch] 236)).cell? ⟨w2.heap.size,0,none⟩=some (.slice ar 100 cr):=by rw[World.cell?_alloc_new];rfl
 have y1:(w2.alloc (.cells #[.slice ar 100 cr,.slice ah 100 ch] 236)).cell? ⟨w2.heap.size,1,none⟩=some (.slice ah 100 ch):=by rw[World.cell?_alloc_new];rfl
 have hb12:Below w1.heap.size w1 (w2.alloc (.cells #[.slice ar 100 cr,.slice ah 100 ch] 236)):=below_blk hb2 hbx
 have HA2:=hiD (HA1.out.grown hb12)
 have HAT2:=hiD (HAT.out.grown hb12)
 have HH2:=hiD (hh2.grown hbx)
 have hb02:=below_blk hb1 hb12
 have d3:=HA2.out.c3
 have d3':w2.cell? ⟨D,3,none⟩=some (.slice ac 100 cc):=(HA1.out.grown hb2).c3
 have hD2:D<w2.heap.size:=cell_lt d3'
 clear hh2 hb1 hb2 hb12 hbx HA1 HAT d2
 go_wp2_with fail
 generalize w2.alloc (.cells #[.slice ar 100 cr,.slice ah 100 ch] 236)=w3 at *
 generalize w2.heap.size=T5 at *
 refine(seen_any ac 100 cc (adrs s 1 100) al m cl l _ HA2.out.i1 (adrs_len _ _ _) HAT2 HM (by omega) (by omega)).mono ?_
 rintro e w4 ⟨ai,ci,rfl,hh4,hb4⟩
 have hbx:Below w4.heap.size w4 (w4.alloc (.cells #[.slice ac 100 cc,.slice ai 100 ci] 236)):=(Below.refl _ _).alloc leR _
 have z0:(w4.alloc (.cells #[.slice ac 100 cc,.slice ai 100 ci] 236)).cell? ⟨w4.heap.size,0,none⟩=some (.slice ac 100 cc):=by rw[World.cell?_alloc_new];rfl
 have z1:(w4.alloc (.cells #[.slice ac 100 cc,.slice ai 100 ci] 236)).cell? ⟨w4.heap.size,1,none⟩=some (.slice ai 100 ci):=by rw[World.cell?_alloc_new];rfl
 have hb34:Below w3.heap.size w3 (w4.alloc (.cells #[.slice ac 100 cc,.slice ai 100 ci] 236)):=below_blk hb4 hbx
 have HA4:=hiD (HA2.out.grown hb34)
 have HH24:=hiD (HH2.out.grown hb34)
 have HH4:=hiD (hh4.grown hbx)
 have y0':=(hb34.cell (p:=⟨T5,0,none⟩) (cell_lt y0)).trans y0
 have y1':=(hb34.cell (p:=⟨T5,1,none⟩) (cell_lt y1)).trans y1
 have hb04:=below_blk hb02 hb34
 have d1:=HA4.out.c1
 clear hh4 hb4 hb34 hbx HA2 HAT2 HH2 y0 y1 d3 d3' hb02
 go_upto_region 4 with fail
 generalize w4.alloc (.cells #[.slice ac 100 cc,.slice ai 100 ci] 236)=w5 at *
 generalize w4.heap.size=T6 at *
 have HHd:Hid (RecAt bV w5.drew ah (hitsR l (adrs s 0 100))):=RecAt.heap HH24.out rfl
 have HKB:Hid (∀ w6,Below w5.drew.heap.size w5.drew w6->w6.cell? ⟨T5,0,none⟩=some (.slice ar 100 cr)/\w6.cell? ⟨T5,1,none⟩=some (.slice ah 100 ch)/\w6.cell? ⟨D,1,none⟩=some (.int .i64 (g:Int))):=fun w6 hb=>keep3 (w2:=w5.drew) hb y0' y1' d1
 go_wp2
 go_region_held3 (fun w'=>w'.cell? ⟨T5,0,none⟩=some (.slice ar 100 cr)/\w'.cell? ⟨T5,1,none⟩=some (.slice ah 100 ch)/\w'.cell? ⟨D,1,none⟩=some (.int .i64 (g:Int))) (first|assumption|go_keep) ((go_at_call 180;refine(rwindow_any ar 100 cr ah ch (hitsR l (adrs s 0 100)) g _ HHd (by rw[hits_len,adrs_len]) (by omega)).mono ?_;rintro e w6 ⟨rfl,hb6⟩;have hk6:=HKB.out w6 hb6))
 rw[<-HW0.out]
 have hb5d:Below w5.heap.size w5 w6:=((Below.refl w5.heap.size w5).drew).trans hb6
 have HH6:Hid (RecAt bV w6.drew ai (hitsR l (adrs s 1 100))):=RecAt.heap (HH4.out.grown hb5d) rfl
 have z0':=(hb5d.cell (p:=⟨T6,0,none⟩) (cell_lt z0)).trans z0
 have z1':=(hb5d.cell (p:=⟨T6,1,none⟩) (cell_lt z1)).trans z1
 have d1':=hk6.2.2
 have hb06:=below_blk hb04 hb5d
 have HKB2:Hid (∀ w7,Below w6.drew.heap.size w6.drew w7->w7.cell? ⟨T6,0,none⟩=some (.slice ac 100 cc)/\w7.cell? ⟨T6,1,none⟩=some (.slice ai 100 ci)/\w7.cell? ⟨D,1,none⟩=some (.int .i64 (g:Int))):=fun w7 hb=>keep3 (w2:=w6.drew) hb z0' z1' d1'
 clear hk6 hb6 HKB HHd HH24 HH4 HA4 z0 z1 y0' y1' d1 hb5d hb04
 go_wp2
 go_region_held3 (fun w'=>w'.cell? ⟨T6,0,none⟩=some (.slice ac 100 cc)/\w'.cell? ⟨T6,1,none⟩=some (.slice ai 100 ci)/\w'.cell? ⟨D,1,none⟩=some (.int .i64 (g:Int))) (first|assumption|go_keep) ((go_at_call 180;refine(rwindow_any ac 100 cc ai ci (hitsR l (adrs s 1 100)) g _ HH6 (by rw[hits_len,adrs_len]) (by omega)).mono ?_;rintro e w7 ⟨rfl,hb7⟩;have hk7:=HKB2.out w7 hb7))
 rw[<-HW1.out]
 have hb07:=below_blk hb06 (((Below.refl w6.heap.size w6).drew).trans hb7)
 clear hk7 hb7
 go_wp2
 go_ret2
 rw[HLE.out]
 exact⟨rfl,hb07⟩
end
end Go.Proofs.YtffgpepngcnjeabGreat
