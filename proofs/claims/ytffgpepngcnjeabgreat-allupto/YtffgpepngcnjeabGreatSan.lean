import Derived.Test.YtffgpepngcnjeabGreatSak
namespace Go.Proofs.YtffgpepngcnjeabGreat
set_option maxRecDepth 100000
set_option maxHeartbeats 1000000
section
open Go.RowKit
variable {s g h:Int} {w w' w2:World} {base D base' P:Nat} {vr vc v a b:Value} {l:List Int} {ao:OAd}
def fitZ (s g:Int):Bool:=Mk.isM s&&decide (1<=g/\g<=20)
theorem fitZ_yes (h:fitZ s g=true):Mk.isM s=true/\1<=g/\g<=20:=by
 simp only[fitZ,Bool.and_eq_true,decide_eq_true_iff] at h
 exact⟨h.1,h.2.1,h.2.2⟩
theorem new_yes (s g:Int) (w:World) (hs:Mk.isM s=true) (h1:1<=g) (h2:g<=20):
 Calls Tryz.prog 62 #[.int .i64 s,.int .i64 g] w fun e w'=>e=.returned (.tuple #[.pointer (some ⟨w.heap.size,0,none⟩),.int .i64 0])/\w.alloc (.cells #[.int .i64 s,.int .i64 g,.slice none 0 0,.int .i64 0,.slice none 0 0,.slice none 0 0,.int .i64 0,.int .i64 0] 102)=w':=by
 go_enter Tryz.func62,Tryz.ntmps62
 go_wp2_with (go_at_call 104;refine(is_any _ _).mono ?_;rintro e w' ⟨rfl,rfl⟩;rw[hs])
 go_ret2
 exact⟨rfl,rfl⟩
theorem new_no (s g:Int) (w:World) (h:fitZ s g=false):
 Calls Tryz.prog 62 #[.int .i64 s,.int .i64 g] w fun e w'=>e=.returned (.tuple #[.pointer none,.int .i64 1])/\w=w':=by
 cases hs:Mk.isM s
 ·go_enter Tryz.func62,Tryz.ntmps62
  go_wp2_with (go_at_call 104;refine(is_any _ _).mono ?_;rintro e w' ⟨rfl,rfl⟩;rw[hs])
  go_ret2
  exact⟨rfl,rfl⟩
 ·simp only[fitZ,hs,Bool.true_and,decide_eq_false_iff_not] at h
  by_cases h1:1<=g
  ·have h2:20<g:=by omega
   go_enter Tryz.func62,Tryz.ntmps62
   go_wp2_with (go_at_call 104;refine(is_any _ _).mono ?_;rintro e w' ⟨rfl,rfl⟩;rw[hs])
   go_ret2
   exact⟨rfl,rfl⟩
  ·go_enter Tryz.func62,Tryz.ntmps62
   go_wp2_with (go_at_call 104;refine(is_any _ _).mono ?_;rintro e w' ⟨rfl,rfl⟩;rw[hs])
   go_ret2
   exact⟨rfl,rfl⟩
theorem fit_any (s g:Int) (w:World):
 Calls Tryz.prog 63 #[.int .i64 s,.int .i64 g] w fun e w'=>e=.returned (.bool (fitZ s g))/\w=w':=by
 cases hs:Mk.isM s
 ·go_enter Tryz.func63,Tryz.ntmps63
  go_wp2_with (go_at_call 105;refine(rMark_any _ _).mono ?_;rintro e w' ⟨rfl,rfl⟩;rw[hs])
  go_ret
  exact⟨ret_bool (by simp[fitZ,hs]),rfl⟩
 ·by_cases h1:1<=g
  ·by_cases h2:g<=20
   ·go_enter Tryz.func63,Tryz.ntmps63
    go_wp2_with (go_at_call 105;refine(rMark_any _ _).mono ?_;rintro e w' ⟨rfl,rfl⟩;rw[hs])
    go_ret
    exact⟨ret_bool (by simp[fitZ,hs,h1,h2]),rfl⟩
   ·go_enter Tryz.func63,Tryz.ntmps63
    go_wp2_with (go_at_call 105;refine(rMark_any _ _).mono ?_;rintro e w' ⟨rfl,rfl⟩;rw[hs])
    go_ret
    exact⟨ret_bool (by simp[fitZ,hs];omega),rfl⟩
  ·go_enter Tryz.func63,Tryz.ntmps63
   go_wp2_with (go_at_call 105;refine(rMark_any _ _).mono ?_;rintro e w' ⟨rfl,rfl⟩;rw[hs])
   go_ret
   exact⟨ret_bool (by simp[fitZ,hs];omega),rfl⟩
def adrs (s br:Int) (k:Nat):List Int:=(List.range k).map fun i:Nat=>Mk.adr s br i
theorem addresses_any (s br:Int) (w:World) (hs:Mk.isM s=true) (hb:br=0\/br=1):
 Calls Tryz.prog 106 #[.int .i64 s,.int .i64 br] w fun e w'=>∃ v,e=.returned v/\OwnInts w' w.heap.size v (adrs s br 100)/\Below w.heap.size w w':=by
 have HBR:=hiD hb
 clear hb
 generalize hB:w.heap.size=B
 have HB:=hiD hB
 clear hB
 go_enter Tryz.func106,Tryz.ntmps106
 go_wp2
 go_loopw [5,6] (fun v j wr=>∃ k:Nat,k<=100/\j=.int .i64 k/\OwnInts wr B v (adrs s br k)/\Below B w wr) (fun _ j _=>100-(intOf j).toNat)
 case atStart=>exact⟨0,by omega,rfl,OwnInts.nil _ _,Below.refl _ _⟩
 case round=>
  obtain⟨k,hk5,rfl,hown,hbl⟩:=hrel
  have hsz:=hbl.size
  rw[HB.out] at hsz
  by_cases hlt:k<100
  ·have hK:=key_ok hs HBR.out (show(0:Int)<=(k:Int) by omega) (show(k:Int)<100 by omega)
   go_wp2_with fail
   refine(to_any _ _ _ _ hK).mono ?_
   rintro e w1 ⟨rfl,hb1⟩
   have hown1:=hown.grown hb1
   have hbl1:=hbl.trans (hb1.mono hsz)
   have hsz1:B<=w1.heap.size:=leT hsz hb1.size
   have HE:Hid (adrs s br (k+1)=adrs s br k++[Mk.adr s br k]):=by show _=_;unfold adrs;rw[List.range_succ,List.map_append];rfl
   have HL:Hid ((adrs s br k).length=k):=by show _=_;simp[adrs]
   clear hown hbl hb1 hsz
   generalize adrs s br k=L at *
   go_wp2_with (at_builtin;refine wpList_app1 w1 rfl _ _ rfl B _ _ _ (by rfl) (by rfl) hown1 hsz1 (by rw[HL.out];omega) ?_;intro v' w2 hown2 hb2)
   go_roundw
   case rel=>exact⟨k+1,by omega,by go_num,by rw[HE.out];exact hown2,hbl1.trans hb2⟩
   case measure=>simp[intOf];omega
  ·have hk:k=100:=by omega
   subst hk
   go_wp2
   go_ret
   exact⟨_,rfl,hown,hbl⟩
structure Begun (w:World) (base D:Nat) (s g:Int) (vr vc:Value):Prop where
 row:VRow w D 0 [.int .i64 s,.int .i64 g,vr,vc,.slice none 0 0,.slice none 0 0,.int .i64 (-1)]
 fz:∀ j,w.frozen? ⟨D,j,none⟩=false
 own0:OwnInts w base vr (adrs s 0 100)
 own1:OwnInts w base vc (adrs s 1 100)
 ob:(∀ k,vr.ownBlock=some k->k<D)/\(∀ k,vc.ownBlock=some k->k<D)
theorem Begun.grown (h:Begun w base D s g vr vc) (hb:Below w.heap.size w w'):Begun w' base D s g vr vc:=
 ⟨h.row.grown hb,fun j=>(hb.frozen (p:=⟨D,j,none⟩) (h.row.lt (by simp))).trans (h.fz j),h.own0.grown hb,h.own1.grown hb,h.ob⟩
theorem OwnInts.lower (h:OwnInts w base v l) (hb:base'<=base):OwnInts w base' v l:=by
 obtain⟨h1,h|⟨g,cap,cur,rfl,hbg,hg⟩⟩:=h
 ·exact⟨h1,Or.inl h⟩
 ·exact⟨h1,Or.inr ⟨g,cap,cur,rfl,leT hb hbg,hg⟩⟩
theorem rBegin_any (s g:Int) (w:World) (hs:Mk.isM s=true):
 Calls Tryz.prog 65 #[.int .i64 s,.int .i64 g] w fun e w'=>∃ D vr vc,e=.returned (.pointer (some ⟨D,0,none⟩))/\w.heap.size<=D/\D<w'.heap.size/\Begun w' w.heap.size D s g vr vc/\Below w.heap.size w w':=by
 go_enter Tryz.func65,Tryz.ntmps65
 go_wp2_with fail
 refine(addresses_any s 0 _ hs (Or.inl rfl)).mono ?_
 rintro e w1 ⟨vr,rfl,ho1,hb1⟩
 go_wp2_with fail
 refine(addresses_any s 1 _ hs (Or.inr rfl)).mono ?_
 rintro e w2 ⟨vc,rfl,ho2,hb2⟩
 have hs1:=hb1.size
 have hs2:=hb2.size
 have hbb:=below_blk hb1 hb2
 obtain⟨ar,cr,rfl,_,_⟩:=ho1.slice
 obtain⟨ac,cc,rfl,_,_⟩:=ho2.slice
 have HO1:=hiD ho1
 have HO2:=hiD ho2
 clear ho1 ho2
 go_wp2
 go_ret
 refine⟨w2.heap.size,_,_,rfl,by omega,by simp,⟨vrow_new _ _ _,fun j=>World.frozen?_alloc_at _ _ _ _ rfl,((HO1.out.grown hb2)).alloc _,(HO2.out.lower hs1).alloc _,fun k hk=>(by have:=(HO1.out.blk k hk).2;omega),fun k hk=>(HO2.out.blk k hk).2⟩,hbb.alloc (by omega) _⟩
def PurseRow (w:World) (P:Nat) (s g:Int) (v:Value) (h:Int):Prop:=VRow w P 0 [.int .i64 s,.int .i64 g,v,.int .i64 h]
theorem PurseRow.c0 (hr:PurseRow w P s g v h):w.cell? ⟨P,0,none⟩=some (.int .i64 s):=hr 0 (by simp)
theorem PurseRow.c1 (hr:PurseRow w P s g v h):w.cell? ⟨P,1,none⟩=some (.int .i64 g):=hr 1 (by simp)
theorem PurseRow.c2 (hr:PurseRow w P s g v h):w.cell? ⟨P,2,none⟩=some v:=hr 2 (by simp)
theorem PurseRow.c3 (hr:PurseRow w P s g v h):w.cell? ⟨P,3,none⟩=some (.int .i64 h):=hr 3 (by simp)
theorem begin_no (s g:Int) (w:World) (hf:fitZ s g=false):
 Calls Tryz.prog 27 #[.int .i64 s,.int .i64 g] w fun e w'=>e=.returned (.tuple #[.pointer none,.bool true])/\Below w.heap.size w w':=by
 go_enter Tryz.func27,Tryz.ntmps27
 go_wp2_with (first|(go_at_call 62;refine(new_no _ _ _ hf).mono ?_;rintro e w' ⟨rfl,rfl⟩)|(go_at_call 63;refine(fit_any _ _ _).mono ?_;rintro e w' ⟨rfl,rfl⟩;rw[hf])|(go_at_call 64;refine(num_any _ _).mono ?_;rintro e w' ⟨rfl,rfl⟩))
 go_ret2
 exact⟨rfl,Below.refl _ _⟩
theorem chHeight_any (b o:Nat) (h:Int) (w:World) (hp:w.cell? ⟨b,o+1,none⟩=some (.int .i64 h)):
 Calls Tryz.prog 100 #[.pointer (some ⟨b,o,none⟩)] w fun e w'=>e=.returned (.int .i64 h)/\w=w':=by
 go_enter Tryz.func100,Tryz.ntmps100
 go_wp2
 go_ret
 exact⟨rfl,rfl⟩
theorem pHeight_any (P:Nat) (s g:Int) (v:Value) (h:Int) (w:World) (hp:PurseRow w P s g v h):
 Calls Tryz.prog 58 #[.pointer (some ⟨P,0,none⟩)] w fun e w'=>e=.returned (.int .i64 h)/\w=w':=by
 go_enter Tryz.func58,Tryz.ntmps58
 go_wp2_with (go_at_call 100;refine(chHeight_any P 2 h _ hp.c3).mono ?_;rintro e w' ⟨rfl,rfl⟩)
 go_ret
 exact⟨rfl,rfl⟩
theorem keepP (c0:w.cell? ⟨P,0,none⟩=some a) (c1:w.cell? ⟨P,1,none⟩=some b) (hw:w'.heap=w.heap) (hb:Below w'.heap.size w' w2):w2.cell? ⟨P,0,none⟩=some a/\w2.cell? ⟨P,1,none⟩=some b:=by
 have hl:=cell_lt c0
 have e0:w'.cell? ⟨P,0,none⟩=some a:=by rw[<-c0];simp[World.cell?,hw]
 have e1:w'.cell? ⟨P,1,none⟩=some b:=by rw[<-c1];simp[World.cell?,hw]
 exact⟨(hb.cell (p:=⟨P,0,none⟩) (by rw[hw];exact hl)).trans e0,(hb.cell (p:=⟨P,1,none⟩) (by rw[hw];exact hl)).trans e1⟩
theorem RecAt.heap {α:Type} {f:α->List Value} {xs:List α} (h:RecAt f w ao xs) (hw:w'.heap=w.heap):RecAt f w' ao xs:=by
 rcases h with h|⟨b,off,h,hr⟩
 ·exact Or.inl h
 ·exact Or.inr ⟨b,off,h,fun j hj=>by rw[<-hr j hj];simp[World.cell?,hw]⟩
theorem pWindows_any (P:Nat) (s:Int) (g:Nat) (ao:OAd) (n c:Nat) (h:Int) (xs:List Cel) (w:World) (hs:Mk.isM s=true) (hg:1<=g) (hg2:g<=20) (hp:PurseRow w P s g (.slice ao n c) h) (hx:CelsAt w ao xs) (hn:xs.length=n) (hm:n<=1000000):
 Calls Tryz.prog 37 #[.pointer (some ⟨P,0,none⟩)] w fun e w'=>e=.returned (.tuple #[.int .i64 (winZ xs s g 0),.int .i64 (winZ xs s g 1)])/\Below w.heap.size w w':=by
 have HN:=hiD hn
 have HX:=hiD hx
 have HP:=hiD hp
 have c0:=hp.c0
 have c1:=hp.c1
 have hx':∀ w',w'.heap=w.heap->CelsAt w' ao xs:=fun w' hw=>RecAt.heap hx hw
 have hc2:∀ w':World,w'.heap=w.heap->w'.cell? ⟨P,2,none⟩=some (.slice ao n c):=fun w' hw=>by rw[<-hp.c2];simp[World.cell?,hw]
 have HX':Hid (∀ w':World,w'.heap=w.heap->CelsAt w' ao xs):=hx'
 have HC:=hiD hc2
 clear hn hx hp hx' hc2
 go_enter Tryz.func37,Tryz.ntmps37
 go_wp2
 go_region_held3 (fun w'=>w'.cell? ⟨P,0,none⟩=some (.int .i64 s)/\w'.cell? ⟨P,1,none⟩=some (.int .i64 g)) (first|go_keep|exact keepP (w':=w.drew) c0 c1 rfl (by assumption)) ((go_at_call 94;refine(window_any P 2 ao n c xs s g 0 w.drew hs hg hg2 (Or.inl rfl) (HC w.drew rfl) (HX'.out w.drew rfl) HN hm).mono ?_;rintro e w1 ⟨rfl,hb1⟩))
 rename_i hHd
 obtain⟨d0,d1⟩:=hHd
 have hbw:Below w.heap.size w w1:=by have h0:Below w.heap.size w w.drew:=(Below.refl _ _).drew;exact h0.trans hb1
 have HX1:Hid (CelsAt w1.drew ao xs):=RecAt.heap (HX.out.grown hbw) rfl
 have HC1:Hid (w1.drew.cell? ⟨P,2,none⟩=some (.slice ao n c)):=(hbw.cell (p:=⟨P,2,none⟩) (cell_lt HP.out.c2)).trans HP.out.c2
 clear c0 c1 hb1
 go_wp2
 go_region_held3 (fun w'=>w'.cell? ⟨P,0,none⟩=some (.int .i64 s)/\w'.cell? ⟨P,1,none⟩=some (.int .i64 g)) (first|go_keep|exact keepP (w':=w1.drew) d0 d1 rfl (by assumption)) ((go_at_call 94;refine(window_any P 2 ao n c xs s g 1 w1.drew hs hg hg2 (Or.inr rfl) HC1 HX1 HN hm).mono ?_;rintro e w2 ⟨rfl,hb2⟩))
 go_wp2
 go_ret2
 exact⟨rfl,hbw.trans ((((Below.refl w1.heap.size w1).drew).trans hb2).mono hbw.size)⟩
structure PurseAt (w:World) (P:Nat) (s:Int) (g:Nat) (xs:List Cel) (h:Int) (v:Value):Prop where
 row:PurseRow w P s g v h
 own:∃ ao c,v=.slice ao xs.length c/\CelsAt w ao xs
 len:xs.length<=1000000
theorem chDis_none (b o:Nat) (w:World) (hp:w.cell? ⟨b,o+1,none⟩=some (.int .i64 0)):
 Calls Tryz.prog 103 #[.pointer (some ⟨b,o,none⟩)] w fun e w'=>e=.returned (.int .i64 8)/\w=w':=by
 go_enter Tryz.func103,Tryz.ntmps103
 go_wp2
 go_ret
 exact⟨rfl,rfl⟩
theorem pDis_none (P:Nat) (s g:Int) (v:Value) (w:World) (hp:PurseRow w P s g v 0):
 Calls Tryz.prog 61 #[.pointer (some ⟨P,0,none⟩)] w fun e w'=>e=.returned (.int .i64 8)/\w=w':=by
 go_enter Tryz.func61,Tryz.ntmps61
 go_wp2_with (go_at_call 103;refine(chDis_none P 2 _ hp.c3).mono ?_;rintro e w' ⟨rfl,rfl⟩)
 go_ret
 exact⟨rfl,rfl⟩
end
section
open Go.RowKit

variable {Ex:List (Nat×Value)}
theorem chDis_any (b o:Nat) (v:Value) (h:Int) (xs:List Cel) (w:World) (hc:ChOwn Ex w b o v h xs) (hl:xs.length<=20000) (hh:0<h) (hh2:h<=100):
 Calls Tryz.prog 103 #[.pointer (some ⟨b,o,none⟩)] w fun e w'=>e=.returned (.int .i64 0)/\∃ v',ChOwn Ex w' b o v' (h-1) (tbZ (h-1) xs)/\ChStep b v v' w w':=by
 have c1:=hc.c1
 have f1:=hc.f1 (o+1)
 have HC:Hid (ChOwn Ex (w.setCell ⟨b,o+1,none⟩ (.int .i64 (h-1))) b o v (h-1) xs):=hc.hgt (h-1)
 have HL:=hiD hl
 clear hc hl
 have hw1:IntKind.i64.wrap (h-1)=h-1:=IntWalk.i64_in _ ⟨by omega,by omega⟩
 have hd:decide (h<=0)=false:=by rw[decide_eq_false_iff_not];omega
 go_enter Tryz.func103,Tryz.ntmps103
 go_wp2_with fail
 refine(takeBack_any b o v (h-1) xs _ HC HL).mono ?_
 rintro e w6 ⟨rfl,v6,hch6,hst6⟩
 have hst0:ChStep b v v w (w.setCell ⟨b,o+1,none⟩ (.int .i64 (h-1))):=⟨(Fr.refl _ w).set b (o+1) _ (fun _=>Or.inl rfl),fun _ hk=>Or.inl hk⟩
 have hst:=hst0.trans hst6
 clear hst0 hst6
 go_wp2
 go_ret
 exact⟨rfl,v6,hch6,hst⟩
abbrev PAt (E:List (Nat×Value)) (w:World) (P:Nat) (s:Int) (g:Nat) (v:Value) (h:Int) (xs:List Cel):Prop:=ChOwn ((0,.int .i64 s)::(1,.int .i64 (g:Int))::E) w P 2 v h xs
variable {E:List (Nat×Value)}
theorem pat_c0 {w:World} {P:Nat} {s:Int} {g:Nat} {v:Value} {h:Int} {xs:List Cel} (hp:PAt E w P s g v h xs):w.cell? ⟨P,0,none⟩=some (.int .i64 s):=(hp.ext (0,.int .i64 s) (by simp)).2.2
theorem pat_c1 {w:World} {P:Nat} {s:Int} {g:Nat} {v:Value} {h:Int} {xs:List Cel} (hp:PAt E w P s g v h xs):w.cell? ⟨P,1,none⟩=some (.int .i64 (g:Int)):=(hp.ext (1,.int .i64 (g:Int)) (by simp)).2.2
theorem pat_row {w:World} {P:Nat} {s:Int} {g:Nat} {v:Value} {h:Int} {xs:List Cel} (hp:PAt E w P s g v h xs):PurseRow w P s g v h:=by
 intro j hj
 match j,hj with
 |0,_=>exact pat_c0 hp
 |1,_=>exact pat_c1 hp
 |2,_=>exact hp.c0
 |3,_=>exact hp.c1
theorem pConnect_any (P:Nat) (s:Int) (g:Nat) (v:Value) (h:Int) (xs:List Cel) (N:NPr) (ao:OAd) (n c:Nat) (bl:List TxD) (w:World)
 (hp:PAt E w P s g v h xs) (hl:xs.length<=5000) (hv:Vals xs) (hh:0<=h/\h<=100) (hb:BlkAt N w ao bl) (hn:bl.length=n) (hN:∀ k,N k->k<w.heap.size/\¬chE P v k) (hn2:n<=9223372036854775807):
 Calls Tryz.prog 43 #[.pointer (some ⟨P,0,none⟩),.slice ao n c] w fun e w'=>e=.returned (.tuple #[.int .i64 (connZ h xs bl).1,.int .i64 (connZ h xs bl).2.1])/\∃ v',PAt E w' P s g v' (connZ h xs bl).2.2.1 (connZ h xs bl).2.2.2/\ChStep P v v' w w':=by
 go_enter Tryz.func43,Tryz.ntmps43
 go_wp2_with fail
 refine(connect_any P 2 v h xs N ao n c bl _ hp hl hv hh hb hn hN hn2).mono ?_
 rintro e w1 ⟨rfl,v',h1,h2⟩
 go_wp2
 go_ret2
 exact⟨rfl,v',h1,h2⟩
theorem pDis_any (P:Nat) (s:Int) (g:Nat) (v:Value) (h:Int) (xs:List Cel) (w:World) (hp:PAt E w P s g v h xs) (hl:xs.length<=20000) (hh:0<h) (hh2:h<=100):
 Calls Tryz.prog 61 #[.pointer (some ⟨P,0,none⟩)] w fun e w'=>e=.returned (.int .i64 0)/\∃ v',PAt E w' P s g v' (h-1) (tbZ (h-1) xs)/\ChStep P v v' w w':=by
 go_enter Tryz.func61,Tryz.ntmps61
 go_wp2_with fail
 refine(chDis_any P 2 v h xs _ hp hl hh hh2).mono ?_
 rintro e w1 ⟨rfl,v',h1,h2⟩
 go_wp2
 go_ret
 exact⟨rfl,v',h1,h2⟩
end
end Go.Proofs.YtffgpepngcnjeabGreat
